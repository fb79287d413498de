/- The walk of Chain. -/
import Derived.Test.YtogmiofmhmbhbaaLf
import Derived.Test.YtogmiofmhmbhbaaPv
import Derived.OwnWalk
import Derived.Deep.AppendLies
namespace Go.Proofs.Ytogmiofmhmbhbaa
open Go.RowKit

theorem info_int : (Try.prog.info? 3).map (fun i => (i.zero, i.size, i.bytes)) = some (some (.int .i64 0), 1, 8) := by kernel_rfl
def intsV (zs : List Int) : List Value := zs.map fun z => .int .i64 z
def intsA (zs : List Int) : Array Value := (intsV zs).toArray
theorem intsV_len (zs : List Int) : (intsV zs).length = zs.length := by simp [intsV]
theorem intsV_get (zs : List Int) (k : Nat) (h : k < zs.length) : (intsV zs)[k]? = some (.int .i64 (gi zs k)) := by
  unfold gi; simp [intsV, h]
theorem intsV_one (z : Int) : intsV [z] = [.int .i64 z] := rfl
theorem intsV_app (xs ys : List Int) : intsV (xs ++ ys) = intsV xs ++ intsV ys := by simp [intsV]

theorem zeros_made_i (n : Nat) : madeCells (Value.int .i64 0).cells (n * 1) = intsA (List.replicate n 0) := by
  apply Array.toList_inj.1
  rw [show (Value.int .i64 0).cells = #[.int .i64 0] from rfl, toList_madeCells_one]
  simp [intsA, intsV]
theorem make_ints (l n : Nat) (hl : l ≤ n) (hn : n ≤ 8) (w : World) : (Instr.makeSlice 38 (.int .i64 l) (.int .i64 n)).run Try.prog w =
    .ok (.slice (some ⟨w.heap.size, 0, none⟩) l n) (w.alloc (.cells (intsA (List.replicate n 0)) 3)) := by
  obtain ⟨i0, hi, hz0, hz1, hz2⟩ := info_parts info_int
  have := run_make (P := Try.prog) w 38 3 i0 (.int .i64 0) Try.underlying38 hi hz0 .i64 .i64 l n (by omega) (by omega) (by rw [hz2]; omega) (by omega)
  rw [this, hz1]
  simp only [Int.toNat_natCast, zeros_made_i]

theorem make_ints0 (n : Nat) (hn : n ≤ 8) (w : World) : (Instr.makeSlice 38 (.int .i64 0) (.int .i64 n)).run Try.prog w =
    .ok (.slice (some ⟨w.heap.size, 0, none⟩) 0 n) (w.alloc (.cells (intsA (List.replicate n 0)) 3)) := make_ints 0 n (Nat.zero_le _) hn w

/-- the slice v of the numbers zs lies in the call's own memory from base on -/
def OwnInts (w : World) (base : Nat) (v : Value) (zs : List Int) : Prop := w.ownsRow base 3 1 v zs.length (intsV zs)
theorem OwnInts.ints {w : World} {base : Nat} {A : Option Addr} {m c : Nat} {zs : List Int} (h : OwnInts w base (.slice A m c) zs) : zs.length = m ∧ Ints w A zs := by
  unfold OwnInts at h
  rcases h.2 with ⟨h1, h2⟩ | ⟨g, cap, cur, hv, _⟩
  · simp only [Value.slice.injEq] at h1
    obtain ⟨_, hm, _⟩ := h1
    exact ⟨by omega, fun k hk => absurd hk (by omega)⟩
  · simp only [Value.slice.injEq] at hv
    obtain ⟨rfl, hm, rfl⟩ := hv
    refine ⟨hm.symm, fun k hk => ⟨g, rfl, ?_⟩⟩
    have := h.cells (g := g) rfl k _ (intsV_get zs k hk)
    rw [← this]
    congr 1
    unfold Addr.add; split <;> simp_all

theorem nextB_yes {down : List Nat} {dn k : Nat} (h : nextB down dn k = true) : (((anot (gd down k) dn : Nat) : Int) == ((pw k : Nat) : Int)) = true := by
  have e : anot (gd down k) dn = pw k := by unfold nextB at h; simpa using h
  rw [e]; simp
theorem nextB_no {down : List Nat} {dn k : Nat} (h : nextB down dn k = false) : (((anot (gd down k) dn : Nat) : Int) == ((pw k : Nat) : Int)) = false := by
  have e : ¬ anot (gd down k) dn = pw k := by unfold nextB at h; simpa using h
  rw [beq_eq_false_iff_ne]
  intro h2
  exact e (Int.ofNat.inj h2)
theorem one_hc {w : World} {z : Int} {g : Nat} (hg : g = w.heap.size) : ∀ j u, ([Value.int .i64 z] : List Value)[j]? = some u → (w.alloc (.cells #[.int .i64 z] 3)).cell? ((⟨g, 0, none⟩ : Addr).add j) = some u := by
  subst hg
  intro j u hu
  match j, hu with
  | 0, hu =>
    have hr := heap_alloc_new w (.cells #[.int .i64 z] 3)
    have h2 := cell_of_row _ _ 0 _ _ (0, 0) hr
    simp at hu
    subst hu
    exact h2
theorem one_cell {z : Int} : ∀ u ∈ ([Value.int .i64 z] : List Value), u.oneCell' = true := by
  intro u hu
  simp at hu
  subst hu
  rfl

def ChainPost (w : World) (down : List Nat) (e : Ending) (w' : World) : Prop :=
  ∃ g n, e = .returned (.slice (some ⟨g, 0, none⟩) (chainL down).length n) ∧ w.heap.size ≤ g ∧ OwnInts w' w.heap.size (.slice (some ⟨g, 0, none⟩) (chainL down).length n) (chainL down) ∧ Below w.heap.size w w'

set_option maxHeartbeats 1000000 in
theorem chain_any (w : World) (h gu gv n : Nat) (up down : List Nat) (o : OrdAt w h gu gv n up down) :
    Calls Try.prog 25 #[.pointer (some ⟨h, 0, none⟩)] w (ChainPost w down) := by
  have h8 := o.n8
  have HL := Lib.hid o.ld
  have hmk := fun w => make_ints0 n h8 w
  have HI := info_parts info_int
  go_enter Try.func25, Try.ntmps25
  go_wp2_with (go_at_call 21; refine (size_any _ h gu gv n up down (by first | exact o | exact o.alloc _)).mono ?_; rintro e w' ⟨rfl, rfl⟩)
  clear hmk
  obtain ⟨g, hg⟩ : ∃ g, g = w.heap.size := ⟨_, rfl⟩
  have HG := Lib.hid hg
  rw [← hg]
  clear hg
  go_loopw [12, 3, 4] (fun i s3 s4 wr => ∃ t m dn : Nat, t ≤ n ∧ m ≤ t ∧ dn < 256 ∧ i = .int .i64 t ∧ s3 = .slice (some ⟨g, 0, none⟩) m n ∧ s4 = .int .u64 dn ∧ Hid ((chTo down t).1.length = m ∧ (chTo down t).2 = dn) ∧
      OwnInts wr g (.slice (some ⟨g, 0, none⟩) m n) (chTo down t).1 ∧ Below g w wr) (fun i _ _ _ => n - (intOf i).toNat)
  case atStart => exact ⟨0, 0, 0, Nat.zero_le _, Nat.zero_le _, by omega, rfl, rfl, rfl, ⟨rfl, rfl⟩, by rw [HG.out]; exact World.ownsRow_made w _ n (Nat.le_refl _) (by unfold maxLen; omega) (by simp [intsA, intsV]), by rw [HG.out]; exact (Below.refl _ _).alloc (Nat.le_refl _) _⟩
  case round =>
    obtain ⟨t, m, dn, ht, hmt, hdn, rfl, rfl, rfl, hch, hown, hb⟩ := hrel
    have ol := o.below hb (by rw [HG.out]; exact o.lt.1) (by rw [HG.out]; exact o.lt.2.1) (by rw [HG.out]; exact o.lt.2.2)
    by_cases hlt : t < n
    · have hc1 := ol.c1
      go_wp2
      clear hc1
      go_loopw [19, 3, 4] (fun i s3 s4 wl => ∃ k : Nat, k ≤ n ∧ i = .int .i64 k ∧ s3 = .slice (some ⟨g, 0, none⟩) m n ∧ s4 = .int .u64 dn ∧ Hid (∀ j, j < k → nextB down dn j = false) ∧
        OwnInts wl g (.slice (some ⟨g, 0, none⟩) m n) (chTo down t).1 ∧ Below g w wl) (fun i _ _ _ => n - (intOf i).toNat)
      case atStart => exact ⟨0, Nat.zero_le _, rfl, rfl, rfl, fun j hj => absurd hj (by omega), hown, hb⟩
      case round =>
        obtain ⟨k, hk, rfl, rfl, rfl, hno, hown1, hb1⟩ := hrel
        have ol1 := o.below hb1 (by rw [HG.out]; exact o.lt.1) (by rw [HG.out]; exact o.lt.2.1) (by rw [HG.out]; exact o.lt.2.2)
        by_cases hltk : k < n
        · have hcd := ol1.sd.cell (k := k) (by rw [HL.out]; exact hltk)
          have hbg := Bd.gd (xs := down) o.bd k
          have hpk := pw_256 (k := k) (by omega)
          have p1 := wrap_pw k (by omega)
          have p2 : bits .andNot .u64 ((gd down k : Nat) : Int) ((dn : Nat) : Int) = ((anot (gd down k) dn : Nat) : Int) := u64_andNot_nat _ _ (by omega) (by omega)
          have p3 := u64_or_nat dn (pw k) (by omega) (by omega)
          by_cases hhit : nextB down dn k = true
          · have he : (((anot (gd down k) dn : Nat) : Int) == ((pw k : Nat) : Int)) = true := nextB_yes hhit
            have HP := Lib.hid (pick_hit (by rw [HL.out]; exact hltk) hhit hno.out)
            have HT : Hid (chTo down (t + 1) = ((chTo down t).1 ++ [(k : Int)], (chTo down t).2 ||| pw k)) := Lib.hid (chTo_hit (by rw [hch.out.2]; exact HP.out))
            obtain ⟨i0, hi, hz0, hz1, hz2⟩ := HI
            have HW := Lib.hid hown1
            have HH := Lib.hid hhit
            have hgl : g ≤ wr.heap.size := by have := ol1.lt; have := hown1.lt g rfl; omega
            clear hhit hown hown1
            have HMN : m + 1 ≤ n := by omega
            go_wp2_with (at_builtin; refine wpList_append_fits _ rfl _ _ 38 rfl g 3 i0 1 Try.underlying38 hi hz1 g m n (intsV (chTo down t).1) rfl (by have := HW.out.alloc (.cells #[.int .i64 (k : Int)] 3); rw [hch.out.1] at this; exact this) ⟨wr.heap.size, 0, none⟩ 1 1 [.int .i64 (k : Int)] rfl rfl (one_hc rfl) one_cell HMN ?_; intro w1 hown2 hgr)
            go_roundw
            case rel => exact ⟨t + 1, m + 1, dn ||| pw k, by omega, by omega, or_256 hdn hpk, by go_num, rfl, rfl, Lib.hid (by rw [HT.out]; exact ⟨by simp [hch.out.1], by show (chTo down t).2 ||| pw k = _; rw [hch.out.2]⟩),
              by rw [HT.out]; show OwnInts _ _ _ (_ ++ _); unfold OwnInts; rw [intsV_app, List.length_append, hch.out.1]; exact hown2, (hb1.alloc hgl _).grown hgr (by simp; omega) (fun _ e => by injection e with e; omega)⟩
            case measure => simp [intOf]; omega
          · have he : (((anot (gd down k) dn : Nat) : Int) == ((pw k : Nat) : Int)) = false := nextB_no (by simpa using hhit)
            have HH := Lib.hid (show nextB down dn k = false by simpa using hhit)
            clear hhit
            go_wp2
            go_roundw
            case rel => exact ⟨k + 1, by omega, by go_num, rfl, rfl, Lib.hid (fun j hj => by
              by_cases e : j = k
              · subst e; exact HH.out
              · exact hno.out j (by omega)), hown1, hb1⟩
            case measure => simp [intOf]; omega
        · obtain rfl : k = n := by omega
          have HT : Hid (chTo down (t + 1) = chTo down t) := Lib.hid (chTo_miss (by rw [hch.out.2]; exact pick_miss (by rw [HL.out]; exact hno.out)))
          go_wp2
          go_roundw
          case rel => exact ⟨t + 1, m, dn, by omega, by omega, hdn, by go_num, rfl, rfl, Lib.hid (by rw [HT.out]; exact hch.out), by rw [HT.out]; exact hown1, hb1⟩
          case measure => simp [intOf]; omega
    · obtain rfl : t = n := by omega
      have HC : Hid (chainL down = (chTo down t).1) := Lib.hid (by unfold chainL; rw [HL.out])
      go_wp2
      go_ret
      exact ⟨g, t, by rw [HC.out, hch.out.1]; rfl, by rw [HG.out]; exact Nat.le_refl _, by rw [HC.out, hch.out.1, ← HG.out]; exact hown, by rw [← HG.out]; exact hb⟩

end Go.Proofs.Ytogmiofmhmbhbaa
