/- The walks of reach and turned. -/
import Derived.Test.YtogmiofmhmbhbaaLa
import Derived.RegionTactic
import Derived.BigRegion
import Derived.BigQuiet
import Derived.Deep.QuietTactic
namespace Go.Proofs.Ytogmiofmhmbhbaa
open Go.RowKit

theorem info_set : (Try.prog.info? 61).map (fun i => (i.zero, i.size, i.bytes)) = some (some (.int .u64 0), 1, 8) := by kernel_rfl

theorem make_sets (n : Nat) (hn : n ≤ 8) (w : World) : (Instr.makeSlice 52 (.int .i64 n) (.int .i64 n)).run Try.prog w =
    .ok (.slice (some ⟨w.heap.size, 0, none⟩) n n) (w.alloc (.cells (setsA (List.replicate n 0)) 61)) := by
  obtain ⟨i0, hi, hz0, hz1, hz2⟩ := info_parts info_set
  have := run_make (P := Try.prog) w 52 61 i0 (.int .u64 0) Try.underlying52 hi hz0 .i64 .i64 n n (by omega) (by omega) (by rw [hz2]; omega) (by omega)
  rw [this, hz1]
  simp only [Int.toNat_natCast, zeros_made]

theorem wrap_pw (n : Nat) (h : n ≤ 8) : IntKind.u64.wrap ((2 : Int) ^ n) = ((pw n : Nat) : Int) := by
  have hp : n = 0 ∨ n = 1 ∨ n = 2 ∨ n = 3 ∨ n = 4 ∨ n = 5 ∨ n = 6 ∨ n = 7 ∨ n = 8 := by omega
  rcases hp with rfl | rfl | rfl | rfl | rfl | rfl | rfl | rfl | rfl <;> decide

/-- the edges es lie at A, in blocks below B -/
def Edges (w : World) (B : Nat) (A : Option Addr) (es : List (Int × Int)) : Prop :=
  ∀ k, k < es.length → ∃ b, A = some ⟨b, 0, none⟩ ∧ b < B ∧ w.cell? ⟨b, k * 2, none⟩ = some (.int .i64 (ge es k).1) ∧ w.cell? ⟨b, k * 2 + 1, none⟩ = some (.int .i64 (ge es k).2)

def ReachPost (w : World) (n : Nat) (es : List (Int × Int)) (e : Ending) (w' : World) : Prop :=
  ∃ g, e = .returned (.slice (some ⟨g, 0, none⟩) n n) ∧ w.heap.size ≤ g ∧ Sets w' g (reachL n es) ∧ Below w.heap.size w w'

set_option maxHeartbeats 1000000 in
theorem reach_any (w : World) (n m c : Nat) (A : Option Addr) (es : List (Int × Int)) (h0 : 1 ≤ n) (h8 : n ≤ 8) (hA : Edges w w.heap.size A es) (hm : es.length = m) (hm2 : m ≤ 4611686018427387904)
    (hes : ∀ e ∈ es, 0 ≤ e.1 ∧ e.1 < n ∧ 0 ≤ e.2 ∧ e.2 < n) :
    Calls Try.prog 32 #[.int .i64 n, .slice A m c] w (ReachPost w n es) := by
  have hmk := make_sets n h8
  have HM := Lib.hid hm
  have HE := Lib.hid hes
  clear hm hes
  obtain ⟨B, hB⟩ : ∃ B, B = w.heap.size := ⟨_, rfl⟩
  go_enter Try.func32, Try.ntmps32
  go_wp2
  clear hmk
  obtain ⟨g, hg⟩ : ∃ g, g = w.heap.size := ⟨_, rfl⟩
  have HG := Lib.hid hg
  rw [← hg]
  clear hg
  go_loopw [15] (fun i wr => ∃ k : Nat, k ≤ n ∧ i = .int .i64 k ∧ Sets wr g (initL n k) ∧ Below g w wr) (fun i _ => n - (intOf i).toNat)
  case atStart => exact ⟨0, Nat.zero_le _, rfl, by rw [initL_zero, HG.out]; exact Sets.new w _, by rw [HG.out]; exact (Below.refl _ _).alloc (Nat.le_refl _) _⟩
  case round =>
    obtain ⟨k, hk, rfl, hS, hb⟩ := hrel
    by_cases hlt : k < n
    · have hc := hS.cell (k := k) (by rw [initL_len]; exact hlt)
      have hf := hS.frozen k
      have p1 := wrap_pw k (by omega)
      go_wp2
      go_roundw
      case rel => exact ⟨k + 1, by omega, by go_num, by rw [← initL_succ n k hlt]; exact hS.set_ k (pw k), hb.setCell (Nat.le_refl _) _⟩
      case measure => simp [intOf]; omega
    · obtain rfl : k = n := by omega
      have hb0 := hb
      rw [HG.out] at hb0
      have hsz := hS.lt
      go_wp2
      go_loopw [26] (fun i wq => ∃ j : Nat, j ≤ m ∧ i = .int .i64 j ∧ Sets wq g (addEs (initL k k) (es.take j)) ∧ Below g w wq) (fun i _ => m - (intOf i).toNat)
      case atStart => exact ⟨0, Nat.zero_le _, rfl, hS, hb⟩
      case round =>
        obtain ⟨j, hj, rfl, hT, hbq⟩ := hrel
        by_cases hlj : j < m
        · obtain ⟨b, rfl, hbb, ha0, ha1⟩ := hA j (by rw [HM.out]; exact hlj)
          have ha0' := (hbq.cell (p := ⟨b, j * 2, none⟩) (by rw [HG.out]; exact hbb)).trans ha0
          have ha1' := (hbq.cell (p := ⟨b, j * 2 + 1, none⟩) (by rw [HG.out]; exact hbb)).trans ha1
          have hmem := HE.out _ (ge_mem (es := es) (k := j) (by rw [HM.out]; exact hlj))
          obtain ⟨x, hx⟩ := Int.eq_ofNat_of_zero_le hmem.1
          obtain ⟨y, hy⟩ := Int.eq_ofNat_of_zero_le hmem.2.2.1
          have hxy : ge es j = ((x : Int), (y : Int)) := by rw [← hx, ← hy]
          have hxk : x < k := by omega
          have hyk : y < k := by omega
          rw [hx] at ha0'
          rw [hy] at ha1'
          have hbd := (addEs_bd k h8 (es.take j) _ (fun e he => HE.out e (List.mem_of_mem_take he)) (initL_bd k k h8)).gd x
          have hlen : (addEs (initL k k) (es.take j)).length = k := by rw [addEs_len, initL_len]
          have hgw := hT.lt
          have hc := hT.cell (k := x) (by rw [hlen]; exact hxk)
          have hf := hT.frozen x
          have p1 := wrap_pw y (by omega)
          have p2 := u64_or_nat (gd (addEs (initL k k) (es.take j)) x) (pw y) (by omega) (by have := pw_256 (k := y) (by omega); omega)
          have HT := addEs_take (initL k k) es j x y (by rw [HM.out]; exact hlj) hxy
          obtain ⟨xs, hxs⟩ : ∃ xs, xs = addEs (initL k k) (es.take j) := ⟨_, rfl⟩
          rw [← hxs] at hc p2 hbd HT hT
          have HX := Lib.hid hxs
          have HT' := Lib.hid HT
          clear ha0 ha1 hmem hx hy hxy hlen hxs HT
          go_wp2
          go_region
          all_goals
            go_wp2
            go_roundw
            case rel => exact ⟨j + 1, by omega, by go_num, by rw [HT'.out]; exact ((hT.set_ x _).alloc _).drew, ((hbq.setCell (Nat.le_refl _) _).alloc (by simp; omega) _).drew⟩
            case measure => simp [intOf]; omega
        · obtain rfl : j = m := by omega
          have HJ : es.take j = es := List.take_of_length_le (by have := HM.out; omega)
          rw [HJ] at hT
          clear HJ
          have hbd0 := addEs_bd k h8 es _ HE.out (initL_bd k k h8)
          have hl0 : (addEs (initL k k) es).length = k := by rw [addEs_len, initL_len]
          obtain ⟨X, hX⟩ : ∃ X, X = addEs (initL k k) es := ⟨_, rfl⟩
          rw [← hX] at hT hbd0 hl0
          have HX : Hid (reachL k es = closeL k k X) := by rw [hX]; rfl
          have HL := Lib.hid hl0
          clear hX hl0
          go_wp2
          go_loopw [43] (fun i wm => ∃ t : Nat, t ≤ k ∧ i = .int .i64 t ∧ Sets wm g (closeL k t X) ∧ Below g w wm) (fun i _ => k - (intOf i).toNat)
          case atStart => exact ⟨0, Nat.zero_le _, rfl, hT, hbq⟩
          case round =>
            obtain ⟨t, ht, rfl, hC, hbm⟩ := hrel
            by_cases hlt3 : t < k
            · go_wp2
              go_loopw [48] (fun i wl => ∃ l : Nat, l ≤ k ∧ i = .int .i64 l ∧ Sets wl g (rowL t l (closeL k t X)) ∧ Below g w wl) (fun i _ => k - (intOf i).toNat)
              case atStart => exact ⟨0, Nat.zero_le _, rfl, hC, hbm⟩
              case round =>
                obtain ⟨l, hl, rfl, hR, hbl⟩ := hrel
                by_cases hlt4 : l < k
                · have hlen : (rowL t l (closeL k t X)).length = k := by rw [rowL_len, closeL_len]; exact HL.out
                  have hbd := rowL_bd t l (closeL_bd k t hbd0)
                  have HS := Lib.hid (rowL_succ t l (closeL k t X))
                  obtain ⟨ys, hys⟩ : ∃ ys, ys = rowL t l (closeL k t X) := ⟨_, rfl⟩
                  rw [← hys] at hR hlen hbd HS
                  have hcl := hR.cell (k := l) (by rw [hlen]; exact hlt4)
                  have hcm := hR.cell (k := t) (by rw [hlen]; exact hlt3)
                  have hf := hR.frozen l
                  have hgl := hbd.gd l
                  have hgt := hbd.gd t
                  have HY := Lib.hid hys
                  clear hys hlen
                  by_cases hbit : (gd ys l).testBit t = true
                  · have HB : Hid (rowL t (l + 1) (closeL k t X) = ys.set l (gd ys l ||| gd ys t)) := Lib.hid (HS.out.trans (if_pos hbit))
                    have p2 := u64_or_nat (gd ys l) (gd ys t) (by omega) (by omega)
                    go_wp2_with (go_at_call 38; refine (has_any (gd ys l) t _ hgl (by omega)).mono ?_; rintro e w' ⟨rfl, rfl⟩)
                    go_region
                    all_goals
                      go_wp2
                      go_roundw
                      case rel => exact ⟨l + 1, by omega, by go_num, by rw [HB.out]; exact (hR.set_ l _).drew, (hbl.setCell (Nat.le_refl _) _).drew⟩
                      case measure => simp [intOf]; omega
                  · have hbit' : (gd ys l).testBit t = false := by simpa using hbit
                    have HB : Hid (rowL t (l + 1) (closeL k t X) = ys) := Lib.hid (HS.out.trans (if_neg hbit))
                    clear hbit
                    go_wp2_with (go_at_call 38; refine (has_any (gd ys l) t _ hgl (by omega)).mono ?_; rintro e w' ⟨rfl, rfl⟩)
                    go_roundw
                    case rel => exact ⟨l + 1, by omega, by go_num, by rw [HB.out]; exact hR, hbl⟩
                    case measure => simp [intOf]; omega
                · obtain rfl : l = k := by omega
                  go_wp2
                  go_roundw
                  case rel => exact ⟨t + 1, by omega, by go_num, by rw [closeL_succ]; exact hR, hbl⟩
                  case measure => simp [intOf]; omega
            · obtain rfl : t = k := by omega
              go_wp2
              go_ret
              exact ⟨g, rfl, by rw [HG.out]; exact Nat.le_refl _, by rw [HX.out]; exact hC, by rw [← HG.out]; exact hbm⟩

def TurnPost (w : World) (n : Nat) (ss : List Nat) (e : Ending) (w' : World) : Prop :=
  ∃ g, e = .returned (.slice (some ⟨g, 0, none⟩) n n) ∧ w.heap.size ≤ g ∧ Sets w' g (turnedL ss) ∧ Below w.heap.size w w'

set_option maxHeartbeats 1000000 in
theorem turned_any (w : World) (n c gs : Nat) (ss : List Nat) (h8 : n ≤ 8) (hS : Sets w gs ss) (hl : ss.length = n) (hbs : Bd ss) :
    Calls Try.prog 33 #[.slice (some ⟨gs, 0, none⟩) n c] w (TurnPost w n ss) := by
  have hmk := make_sets n h8
  have HL := Lib.hid hl
  have hgs := hS.lt
  clear hl
  go_enter Try.func33, Try.ntmps33
  go_wp2
  clear hmk
  obtain ⟨g, hg⟩ : ∃ g, g = w.heap.size := ⟨_, rfl⟩
  have HG := Lib.hid hg
  rw [← hg]
  clear hg
  go_loopw [12] (fun i wr => ∃ t : Nat, t ≤ n ∧ i = .int .i64 t ∧ Sets wr g (turnL n t ss) ∧ Below g w wr) (fun i _ => n - (intOf i).toNat)
  case atStart => exact ⟨0, Nat.zero_le _, rfl, by rw [turnL_zero, HG.out]; exact Sets.new w _, by rw [HG.out]; exact (Below.refl _ _).alloc (Nat.le_refl _) _⟩
  case round =>
    obtain ⟨t, ht, rfl, hT, hb⟩ := hrel
    by_cases hlt : t < n
    · have hSr := hS.below hb (by rw [HG.out]; exact hgs)
      have hc := hSr.cell (k := t) (by rw [HL.out]; exact hlt)
      have hg8 := hbs.gd t
      go_wp2
      clear hc
      go_loopw [19] (fun i wl => ∃ l : Nat, l ≤ n ∧ i = .int .i64 l ∧ Sets wl g (turnR t (gd ss t) l (turnL n t ss)) ∧ Below g w wl) (fun i _ => n - (intOf i).toNat)
      case atStart => exact ⟨0, Nat.zero_le _, rfl, hT, hb⟩
      case round =>
        obtain ⟨l, hl, rfl, hR, hbl⟩ := hrel
        by_cases hlt4 : l < n
        · have hlen : (turnR t (gd ss t) l (turnL n t ss)).length = n := by rw [turnR_len, turnL_len]
          have hbd := turnR_bd t (gd ss t) l (by omega) (turnL_bd n t ss (by omega))
          have HS := Lib.hid (turnR_succ t (gd ss t) l (turnL n t ss))
          obtain ⟨ys, hys⟩ : ∃ ys, ys = turnR t (gd ss t) l (turnL n t ss) := ⟨_, rfl⟩
          rw [← hys] at hR hlen hbd HS
          have hcl := hR.cell (k := l) (by rw [hlen]; exact hlt4)
          have hf := hR.frozen l
          have hgl := hbd.gd l
          have p1 := wrap_pw t (by omega)
          have p2 := u64_or_nat (gd ys l) (pw t) (by omega) (by have := pw_256 (k := t) (by omega); omega)
          have HY := Lib.hid hys
          clear hys hlen
          by_cases hbit : (gd ss t).testBit l = true
          · have HB : Hid (turnR t (gd ss t) (l + 1) (turnL n t ss) = ys.set l (gd ys l ||| pw t)) := Lib.hid (HS.out.trans (if_pos hbit))
            go_wp2_with (go_at_call 38; refine (has_any (gd ss t) l _ hg8 (by omega)).mono ?_; rintro e w' ⟨rfl, rfl⟩)
            go_region
            all_goals
              go_wp2
              go_roundw
              case rel => exact ⟨l + 1, by omega, by go_num, by rw [HB.out]; exact (hR.set_ l _).drew, (hbl.setCell (Nat.le_refl _) _).drew⟩
              case measure => simp [intOf]; omega
          · have hbit' : (gd ss t).testBit l = false := by simpa using hbit
            have HB : Hid (turnR t (gd ss t) (l + 1) (turnL n t ss) = ys) := Lib.hid (HS.out.trans (if_neg hbit))
            clear hbit
            go_wp2_with (go_at_call 38; refine (has_any (gd ss t) l _ hg8 (by omega)).mono ?_; rintro e w' ⟨rfl, rfl⟩)
            go_roundw
            case rel => exact ⟨l + 1, by omega, by go_num, by rw [HB.out]; exact hR, hbl⟩
            case measure => simp [intOf]; omega
        · obtain rfl : l = n := by omega
          go_wp2
          go_roundw
          case rel => exact ⟨t + 1, by omega, by go_num, by rw [turnL_succ]; exact hR, hbl⟩
          case measure => simp [intOf]; omega
    · obtain rfl : t = n := by omega
      go_wp2
      go_ret
      exact ⟨g, rfl, by rw [HG.out]; exact Nat.le_refl _, by rw [turnedL, HL.out]; exact hT, by rw [← HG.out]; exact hb⟩

end Go.Proofs.Ytogmiofmhmbhbaa
