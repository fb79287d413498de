/- The walk of the document's least. -/
import Derived.Test.YtogmiofmhmbhbaaMz
import Derived.Test.YtogmiofmhmbhbaaPk
import Derived.BigQuiet
import Derived.Deep.QuietTactic
namespace Go.Proofs.Ytogmiofmhmbhbaa
open Go.RowKit

/-- the value v is the table f of n rows and columns, in blocks below B -/
def MatAt (w : World) (B n : Nat) (v : Value) (f : Tab) : Prop :=
  ∃ (go co : Nat) (G C : Nat → Nat), v = .slice (some ⟨go, 0, none⟩) n co ∧ go < B ∧ ∀ i, i < n → G i < B ∧ w.cell? ⟨go, i, none⟩ = some (.slice (some ⟨G i, 0, none⟩) n (C i)) ∧ ∀ j, j < n → w.cell? ⟨G i, j, none⟩ = some (.bool (f i j))
theorem MatAt.below {w w' : World} {B n : Nat} {v : Value} {f : Tab} (h : MatAt w B n v f) (hb : Below B w w') : MatAt w' B n v f := by
  obtain ⟨go, co, G, C, hv, hg, h⟩ := h
  exact ⟨go, co, G, C, hv, hg, fun i hi => ⟨(h i hi).1, (hb.cell (p := ⟨go, i, none⟩) hg).trans (h i hi).2.1, fun j hj => (hb.cell (p := ⟨G i, j, none⟩) (h i hi).1).trans ((h i hi).2.2 j hj)⟩⟩
theorem MatAt.more {w : World} {B B' n : Nat} {v : Value} {f : Tab} (h : MatAt w B n v f) (hB : B ≤ B') : MatAt w B' n v f := by
  obtain ⟨go, co, G, C, hv, hg, h⟩ := h
  exact ⟨go, co, G, C, hv, by omega, fun i hi => ⟨by have := (h i hi).1; omega, (h i hi).2⟩⟩
theorem Drawn.cell {w w' : World} (h : Drawn w w') (p : Addr) : w'.cell? p = w.cell? p := by
  obtain ⟨nq, rfl⟩ := h
  rfl
theorem Drawn.trans {a b c : World} (h : Drawn a b) (k : Drawn b c) : Drawn a c := by
  obtain ⟨n, rfl⟩ := h
  obtain ⟨m, rfl⟩ := k
  exact ⟨n + m, by rw [World.drewN_drewN]⟩
/-- all of the first k of zs go to d -/
def upTo (f : Tab) (zs : List Int) (d k : Nat) : Bool := upB f (zs.take k) d
theorem upTo_succ (f : Tab) (zs : List Int) (d k : Nat) (h : k < zs.length) : upTo f zs d (k + 1) = (upTo f zs d k && f (gi zs k).toNat d) := by
  unfold upTo upB; rw [take_gi zs k h, List.all_append]; simp
/-- of the levels below k those that all of zs go to come behind c -/
def dnTo (f : Tab) (zs : List Int) (c k : Nat) : Bool := upB f zs c && (List.range k).all fun d => !upB f zs d || f c d
theorem dnTo_succ (f : Tab) (zs : List Int) (c k : Nat) : dnTo f zs c (k + 1) = (dnTo f zs c k && (!upB f zs k || f c k)) := by
  unfold dnTo; rw [List.range_succ, List.all_append, ← Bool.and_assoc]; simp
theorem dnTo_false (f : Tab) (zs : List Int) (c : Nat) {k m : Nat} (hkm : k ≤ m) (h : dnTo f zs c k = false) : dnTo f zs c m = false := by
  induction m with
  | zero => obtain rfl : k = 0 := by omega
            exact h
  | succ m ih =>
    by_cases e : k = m + 1
    · subst e; exact h
    · rw [dnTo_succ, ih (by omega)]; rfl

def LeastPost (w : World) (n : Nat) (f : Tab) (zs : List Int) (e : Ending) (w' : World) : Prop := e = .returned (.int .i64 (leastF n f zs)) ∧ Below w.heap.size w w'

set_option maxRecDepth 100000 in
set_option maxHeartbeats 2000000 in
theorem least_any (w : World) (n m c : Nat) (v : Value) (f : Tab) (A : Option Addr) (zs : List Int) (hM : MatAt w w.heap.size n v f) (hZ : Ints w A zs) (hm : zs.length = m) (hm2 : m ≤ 4611686018427387904) (hn : n ≤ 8)
    (hz : ∀ z ∈ zs, 0 ≤ z ∧ z < n) :
    Calls Try.prog 37 #[.agg #[v], .slice A m c] w (LeastPost w n f zs) := by
  have HM := Lib.hid hm
  have HZ := Lib.hid hz
  obtain ⟨go, co, G, C, rfl, hgo, hM⟩ := hM
  have HMA := Lib.hid hM
  clear hm hz hM
  have hb0 : Below w.heap.size w (w.alloc (.cells #[.slice (some ⟨go, 0, none⟩) n co] 31)) := (Below.refl _ _).alloc (Nat.le_refl _) _
  have hcell0 : (w.alloc (.cells #[.slice (some ⟨go, 0, none⟩) n co] 31)).cell? ⟨w.heap.size, 0, none⟩ = some (.slice (some ⟨go, 0, none⟩) n co) := by
    rw [cell_of_row _ _ 0 _ _ (0, 0) (heap_alloc_new w _)]; rfl
  go_enter Try.func37, Try.ntmps37
  go_wp2
  obtain ⟨g0, hg0⟩ : ∃ g0, g0 = w.heap.size := ⟨_, rfl⟩
  have HG := Lib.hid hg0
  obtain ⟨w1, hw1⟩ : ∃ w1, w1 = w.alloc (.cells #[.slice (some ⟨go, 0, none⟩) n co] 31) := ⟨_, rfl⟩
  rw [← hg0, ← hw1]
  rw [← hg0] at hcell0
  rw [← hw1] at hb0 hcell0
  have HG1 : Hid (∀ i, i < n → w1.cell? ⟨go, i, none⟩ = some (.slice (some ⟨G i, 0, none⟩) n (C i)) ∧ ∀ j, j < n → w1.cell? ⟨G i, j, none⟩ = some (.bool (f i j))) := Lib.hid (fun i hi =>
    ⟨(hb0.cell (p := ⟨go, i, none⟩) hgo).trans (HMA.out i hi).2.1, fun j hj => (hb0.cell (p := ⟨G i, j, none⟩) (HMA.out i hi).1).trans ((HMA.out i hi).2.2 j hj)⟩)
  have HZ1 : Hid (∀ k, k < m → ∃ b, A = some ⟨b, 0, none⟩ ∧ w1.cell? ⟨b, k, none⟩ = some (.int .i64 (gi zs k))) := Lib.hid (fun k hk => by
    obtain ⟨b, hb, hc⟩ := hZ k (by rw [HM.out]; exact hk)
    exact ⟨b, hb, (hb0.cell (p := ⟨b, k, none⟩) (block_lt_of_cell hc)).trans hc⟩)
  have HC0 := Lib.hid hcell0
  clear hg0 hw1 hZ HMA hgo hcell0
  go_loopw [5] (fun i wr => ∃ c : Nat, c ≤ n ∧ i = .int .i64 c ∧ Hid (∀ j, j < c → okC n f zs j = false) ∧ Drawn w1 wr) (fun i _ => n - (intOf i).toNat)
  case atStart => exact ⟨0, Nat.zero_le _, rfl, fun j hj => absurd hj (by omega), Drawn.refl _⟩
  case round =>
    obtain ⟨cc, hcn, rfl, hno, hd⟩ := hrel
    have hcell := (hd.cell _).trans HC0.out
    by_cases hlt : cc < n
    · go_wp2
      clear hcell
      go_loopw [7, 6] (fun i s6 wl => ∃ k : Nat, k ≤ m ∧ i = .int .i64 k ∧ s6 = .bool (upTo f zs cc k) ∧ Drawn w1 wl) (fun i _ _ => m - (intOf i).toNat)
      case atStart => exact ⟨0, Nat.zero_le _, rfl, rfl, hd⟩
      case round =>
        obtain ⟨k, hk, rfl, rfl, hd2⟩ := hrel
        obtain ⟨rb, hrb⟩ : ∃ rb, rb = upTo f zs cc k := ⟨_, rfl⟩
        have HRB := Lib.hid hrb
        rw [← hrb]
        clear hrb
        by_cases hltk : k < m
        · have HSS : Hid (upTo f zs cc (k + 1) = (rb && f (gi zs k).toNat cc)) := Lib.hid (by rw [upTo_succ f zs cc k (by rw [HM.out]; exact hltk), HRB.out])
          cases rb
          · have HS : Hid (upTo f zs cc (k + 1) = false) := Lib.hid (by rw [HSS.out]; rfl)
            go_wp2
            go_quiet (fail)
            go_wp2
            go_roundw
            case rel => exact ⟨k + 1, by omega, by go_num, by rw [HS.out], hd2.trans ⟨_, rfl⟩⟩
            case measure => simp [intOf]; omega
          · obtain ⟨b, rfl, hcz⟩ := HZ1.out k hltk
            have hzr := HZ.out _ (gi_mem (zs := zs) (k := k) (by rw [HM.out]; exact hltk))
            obtain ⟨z, hz⟩ := Int.eq_ofNat_of_zero_le hzr.1
            have hzn : z < n := by omega
            rw [hz] at hcz
            obtain ⟨fv, hfv⟩ : ∃ fv, fv = f z cc := ⟨_, rfl⟩
            have HS : Hid (upTo f zs cc (k + 1) = fv) := Lib.hid (by rw [HSS.out, hz, hfv]; simp)
            have q1 := (hd2.cell _).trans hcz
            have q2 := (hd2.cell _).trans HC0.out
            have q3 := (hd2.cell _).trans (HG1.out z hzn).1
            have q4 := (hd2.cell _).trans ((HG1.out z hzn).2 cc (by omega))
            rw [← hfv] at q4
            clear hcz hzr hz hfv
            go_wp2
            go_quiet (fail)
            go_wp2
            go_roundw
            case rel => exact ⟨k + 1, by omega, by go_num, by rw [HS.out], hd2.trans ⟨_, rfl⟩⟩
            case measure => simp [intOf]; omega
        · obtain rfl : m = k := by omega
          have HU0 : Hid (rb = dnTo f zs cc 0) := Lib.hid (by
            rw [HRB.out]; unfold upTo dnTo
            rw [List.take_of_length_le (show zs.length ≤ m by rw [HM.out]; exact Nat.le_refl _)]; simp)
          go_wp2
          go_loopw [8, 6] (fun i s6 wl => ∃ d : Nat, d ≤ n ∧ i = .int .i64 d ∧ s6 = .bool (dnTo f zs cc d) ∧ Drawn w1 wl) (fun i _ _ => n - (intOf i).toNat)
          case atStart => exact ⟨0, Nat.zero_le _, rfl, by rw [HU0.out], hd2⟩
          case round =>
            obtain ⟨d, hdn, rfl, rfl, hd3⟩ := hrel
            obtain ⟨ob, hob⟩ : ∃ ob, ob = dnTo f zs cc d := ⟨_, rfl⟩
            have HOB := Lib.hid hob
            rw [← hob]
            clear hob
            have q5 := (hd3.cell _).trans HC0.out
            by_cases hltd : d < n
            · cases ob
              · have HN : Hid (okC n f zs cc = false) := Lib.hid (dnTo_false f zs cc (show d ≤ n by omega) HOB.out.symm)
                go_wp2
                go_roundw
                case rel => exact ⟨cc + 1, by omega, by go_num, Lib.hid (fun j hj => by
                  by_cases e : j = cc
                  · subst e; exact HN.out
                  · exact hno.out j (by omega)), hd3⟩
                case measure => simp [intOf]; omega
              · go_wp2
                clear q5
                go_loopw [10, 9] (fun i s6 wl => ∃ k : Nat, k ≤ m ∧ i = .int .i64 k ∧ s6 = .bool (upTo f zs d k) ∧ Drawn w1 wl) (fun i _ _ => m - (intOf i).toNat)
                case atStart => exact ⟨0, Nat.zero_le _, rfl, rfl, hd3⟩
                case round =>
                  obtain ⟨k, hk, rfl, rfl, hd2⟩ := hrel
                  obtain ⟨rb, hrb⟩ : ∃ rb, rb = upTo f zs d k := ⟨_, rfl⟩
                  have HRB := Lib.hid hrb
                  rw [← hrb]
                  clear hrb
                  by_cases hltk : k < m
                  · have HSS : Hid (upTo f zs d (k + 1) = (rb && f (gi zs k).toNat d)) := Lib.hid (by rw [upTo_succ f zs d k (by rw [HM.out]; exact hltk), HRB.out])
                    cases rb
                    · have HS : Hid (upTo f zs d (k + 1) = false) := Lib.hid (by rw [HSS.out]; rfl)
                      go_wp2
                      go_quiet (fail)
                      go_wp2
                      go_roundw
                      case rel => exact ⟨k + 1, by omega, by go_num, by rw [HS.out], hd2.trans ⟨_, rfl⟩⟩
                      case measure => simp [intOf]; omega
                    · obtain ⟨b, rfl, hcz⟩ := HZ1.out k hltk
                      have hzr := HZ.out _ (gi_mem (zs := zs) (k := k) (by rw [HM.out]; exact hltk))
                      obtain ⟨z, hz⟩ := Int.eq_ofNat_of_zero_le hzr.1
                      have hzn : z < n := by omega
                      rw [hz] at hcz
                      obtain ⟨fv, hfv⟩ : ∃ fv, fv = f z d := ⟨_, rfl⟩
                      have HS : Hid (upTo f zs d (k + 1) = fv) := Lib.hid (by rw [HSS.out, hz, hfv]; simp)
                      have q1 := (hd2.cell _).trans hcz
                      have q2 := (hd2.cell _).trans HC0.out
                      have q3 := (hd2.cell _).trans (HG1.out z hzn).1
                      have q4 := (hd2.cell _).trans ((HG1.out z hzn).2 d (by omega))
                      rw [← hfv] at q4
                      clear hcz hzr hz hfv
                      go_wp2
                      go_quiet (fail)
                      go_wp2
                      go_roundw
                      case rel => exact ⟨k + 1, by omega, by go_num, by rw [HS.out], hd2.trans ⟨_, rfl⟩⟩
                      case measure => simp [intOf]; omega
                  · obtain rfl : m = k := by omega
                    have HU1 : Hid (rb = upB f zs d) := Lib.hid (by
                      rw [HRB.out]; unfold upTo
                      rw [List.take_of_length_le (show zs.length ≤ m by rw [HM.out]; exact Nat.le_refl _)])
                    obtain ⟨fv, hfv⟩ : ∃ fv, fv = f cc d := ⟨_, rfl⟩
                    have HSD : Hid (dnTo f zs cc (d + 1) = (!rb || fv)) := Lib.hid (by rw [dnTo_succ, ← HOB.out, HU1.out, hfv]; simp)
                    have q2 := (hd2.cell _).trans HC0.out
                    have q3 := (hd2.cell _).trans (HG1.out cc hlt).1
                    have q4 := (hd2.cell _).trans ((HG1.out cc hlt).2 d hltd)
                    rw [← hfv] at q4
                    clear hfv
                    cases rb
                    · go_wp2
                      go_roundw
                      case rel => exact ⟨d + 1, by omega, by go_num, by rw [HSD.out]; rfl, hd2⟩
                      case measure => simp [intOf]; omega
                    · go_wp2
                      go_roundw
                      case rel => exact ⟨d + 1, by omega, by go_num, by rw [HSD.out]; rfl, hd2⟩
                      case measure => simp [intOf]; omega
            · obtain rfl : n = d := by omega
              cases ob
              · have HN : Hid (okC n f zs cc = false) := Lib.hid HOB.out.symm
                go_wp2
                go_roundw
                case rel => exact ⟨cc + 1, by omega, by go_num, Lib.hid (fun j hj => by
                  by_cases e : j = cc
                  · subst e; exact HN.out
                  · exact hno.out j (by omega)), hd3⟩
                case measure => simp [intOf]; omega
              · have HN : Hid (okC n f zs cc = true) := Lib.hid HOB.out.symm
                go_wp2
                go_ret
                exact ⟨ret_i (leastF_hit hlt HN.out hno.out).symm, hb0.trans hd3.below⟩
    · go_wp2
      go_ret
      exact ⟨ret_i (leastF_miss (fun j hj => hno.out j (by omega))).symm, hb0.trans hd.below⟩

end Go.Proofs.Ytogmiofmhmbhbaa
