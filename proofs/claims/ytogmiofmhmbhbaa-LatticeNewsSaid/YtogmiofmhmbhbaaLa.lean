/- The walks of the small functions of the lattice. -/
import Derived.Test.YtogmiofmhmbhbaaRows
import Derived.Test.YtogmiofmhmbhbaaPu
import Derived.WalkKit
import Derived.WalkSpells
import Derived.WalkLawsBesides
import Derived.Lib.Hide
import Derived.Laws.BitsAllLaws
import Derived.Laws.ShiftsVarLaws
namespace Go.Proofs.Ytogmiofmhmbhbaa
open Go.RowKit

/-- block g is the sets xs -/
def setsA (xs : List Nat) : Array Value := (xs.map fun s : Nat => Value.int .u64 s).toArray
def Sets (w : World) (g : Nat) (xs : List Nat) : Prop := w.heap[g]? = some (.cells (setsA xs) 61 (0, 0))
theorem Sets.cell {w : World} {g : Nat} {xs : List Nat} (h : Sets w g xs) {k : Nat} (hk : k < xs.length) : w.cell? ⟨g, k, none⟩ = some (.int .u64 (gd xs k : Nat)) := by
  rw [cell_of_row w g k _ _ (0, 0) h, gd_lt hk]
  simp [setsA, hk]
theorem Sets.set_ {w : World} {g : Nat} {xs : List Nat} (h : Sets w g xs) (k v : Nat) : Sets (w.setCell ⟨g, k, none⟩ (.int .u64 v)) g (xs.set k v) := by
  unfold Sets at h ⊢
  simp [World.setCell, Array.getElem?_modify, h, setsA, List.map_set]
theorem Sets.far {w : World} {g : Nat} {xs : List Nat} (h : Sets w g xs) {p : Addr} (hp : g ≠ p.block) (u : Value) : Sets (w.setCell p u) g xs := (Below.heap_setCell w p u g hp).trans h
theorem Sets.lt {w : World} {g : Nat} {xs : List Nat} (h : Sets w g xs) : g < w.heap.size := by
  rcases Nat.lt_or_ge g w.heap.size with hlt | hge
  · exact hlt
  · unfold Sets at h; rw [Array.getElem?_eq_none hge] at h; cases h
theorem Sets.drew {w : World} {g : Nat} {xs : List Nat} (h : Sets w g xs) : Sets w.drew g xs := h
theorem Sets.alloc {w : World} {g : Nat} {xs : List Nat} (h : Sets w g xs) (o : Obj) : Sets (w.alloc o) g xs := (Below.heap_alloc w o g h.lt).trans h
theorem Sets.below {w w' : World} {g B : Nat} {xs : List Nat} (h : Sets w g xs) (hb : Below B w w') (hg : g < B) : Sets w' g xs := (hb.block g hg).trans h
theorem Sets.new (w : World) (xs : List Nat) : Sets (w.alloc (.cells (setsA xs) 61)) w.heap.size xs := heap_alloc_new w _
theorem zeros_made (n : Nat) : madeCells (Value.int .u64 0).cells (n * 1) = setsA (List.replicate n 0) := by
  apply Array.toList_inj.1
  rw [show (Value.int .u64 0).cells = #[.int .u64 0] from rfl, toList_madeCells_one]
  simp [setsA]
theorem Sets.frozen {w : World} {g : Nat} {xs : List Nat} (h : Sets w g xs) (k : Nat) : w.frozen? ⟨g, k, none⟩ = false := frozen_of_row w g k _ _ h

theorem ret_i {k : IntKind} {a b : Int} (h : a = b) : Ending.returned (.int k a) = .returned (.int k b) := by rw [h]
theorem ret_b {a b : Bool} (h : a = b) : Ending.returned (.bool a) = .returned (.bool b) := by rw [h]

set_option maxHeartbeats 400000 in
theorem has_any (s l : Nat) (w : World) (hs : s < 256) (hl : l < 8) :
    Calls Try.prog 38 #[.int .u64 s, .int .i64 l] w fun e w' => e = .returned (.bool (s.testBit l)) ∧ w = w' := by
  have hb : bits .and .u64 ((s / 2 ^ l : Nat) : Int) (1 : Nat) = ((s / 2 ^ l &&& 1 : Nat) : Int) :=
    u64_and_nat _ _ (by have := Nat.div_le_self s (2 ^ l); omega) (by omega)
  have hz : (bits .and .u64 ((s : Int) / 2 ^ l) 1 == 1) = s.testBit l := by
    have : ((s : Int) / 2 ^ l) = ((s / 2 ^ l : Nat) : Int) := by simp
    rw [this, show (1 : Int) = ((1 : Nat) : Int) from rfl, hb, Nat.testBit_eq_decide_div_mod_eq]
    rw [Bool.eq_iff_iff]; simp; omega
  have HZ := Lib.hid hz
  clear hb hz
  go_enter Try.func38, Try.ntmps38
  go_wp2
  go_ret
  exact ⟨by simp [HZ.out], rfl⟩

set_option maxHeartbeats 400000 in
theorem index_any (xs : List Nat) (c n cap g : Nat) (w : World) (hS : Sets w g xs) (hn : xs.length = n) (h8 : n ≤ 8) :
    Calls Try.prog 42 #[.slice (some ⟨g, 0, none⟩) n cap, .int .u64 c] w fun e w' => e = .returned (.int .i64 (idx xs c)) ∧ w = w' := by
  have HN := Lib.hid hn
  clear hn
  go_enter Try.func42, Try.ntmps42
  go_wp2
  go_loop [8] (fun i => ∃ k : Nat, k ≤ n ∧ i = .int .i64 k ∧ Hid (∀ j, j < k → gd xs j ≠ c)) (fun i => n - (intOf i).toNat)
  case atStart => exact ⟨0, Nat.zero_le _, rfl, fun j hj => absurd hj (by omega)⟩
  case round =>
    obtain ⟨k, hk, rfl, ho⟩ := hrel
    by_cases hlt : k < n
    · have hc := hS.cell (k := k) (by rw [HN.out]; exact hlt)
      by_cases he : c = gd xs k
      · have he1 : ((c : Int) == (gd xs k : Int)) = true := by simp [he]
        have HE := Lib.hid he
        clear he
        go_wp2
        go_ret
        exact ⟨ret_i (idx_hit (by rw [HN.out]; exact hlt) HE.out.symm ho.out).symm, rfl⟩
      · have he1 : ((c : Int) == (gd xs k : Int)) = false := by simp; omega
        have HE := Lib.hid he
        clear he
        go_wp2
        go_round
        case rel => exact ⟨k + 1, by omega, by go_num, fun j hj => by
          by_cases e : j = k
          · subst e; exact fun h => HE.out h.symm
          · exact ho.out j (by omega)⟩
        case measure => simp [intOf]; omega
    · go_wp2
      go_ret
      exact ⟨ret_i (idx_miss (fun j hj => ho.out j (by have := HN.out; omega))).symm, rfl⟩

/-- the list zs lies at A -/
def Ints (w : World) (A : Option Addr) (zs : List Int) : Prop := ∀ k, k < zs.length → ∃ b, A = some ⟨b, 0, none⟩ ∧ w.cell? ⟨b, k, none⟩ = some (.int .i64 (gi zs k))

set_option maxHeartbeats 400000 in
theorem shared_any (xs : List Nat) (zs : List Int) (n cap g m c : Nat) (A : Option Addr) (w : World) (hS : Sets w g xs) (hn : xs.length = n) (h8 : n ≤ 8) (hx : ∀ x ∈ xs, x < 256) (hA : Ints w A zs) (hm : zs.length = m) (hm2 : m ≤ 4611686018427387904) :
    Calls Try.prog 40 #[.slice (some ⟨g, 0, none⟩) n cap, .slice A m c] w fun e w' =>
      e = .returned (.tuple #[.int .i64 (max (idx xs (common xs zs)) 0), .bool (decide (0 ≤ idx xs (common xs zs)))]) ∧ w = w' := by
  have HN := Lib.hid hn
  have HM := Lib.hid hm
  have p1 : IntKind.u64.wrap ((2 : Int) ^ n) = ((pw n : Nat) : Int) := by
    have hp : n = 0 ∨ n = 1 ∨ n = 2 ∨ n = 3 ∨ n = 4 ∨ n = 5 ∨ n = 6 ∨ n = 7 ∨ n = 8 := by omega
    rcases hp with rfl | rfl | rfl | rfl | rfl | rfl | rfl | rfl | rfl <;> decide
  have p2 : IntKind.u64.wrap (((pw n : Nat) : Int) - 1) = ((full n : Nat) : Int) := by
    have hp : n = 0 ∨ n = 1 ∨ n = 2 ∨ n = 3 ∨ n = 4 ∨ n = 5 ∨ n = 6 ∨ n = 7 ∨ n = 8 := by omega
    rcases hp with rfl | rfl | rfl | rfl | rfl | rfl | rfl | rfl | rfl <;> decide
  have hf := full_le n h8
  clear hn hm
  go_enter Try.func40, Try.ntmps40
  go_wp2
  clear p1 p2
  go_loop [6, 16] (fun cm i => ∃ k acc : Nat, k ≤ m ∧ acc ≤ 255 ∧ i = .int .i64 k ∧ cm = .int .u64 acc ∧ Hid (acc = (zs.take k).foldl (commonStep xs) (full n))) (fun _ i => m - (intOf i).toNat)
  case atStart => exact ⟨0, full n, Nat.zero_le _, by omega, rfl, rfl, rfl⟩
  case round =>
    obtain ⟨k, acc, hk, hacc, rfl, rfl, ho⟩ := hrel
    by_cases hlt : k < m
    · obtain ⟨b, rfl, hc⟩ := hA k (by rw [HM.out]; exact hlt)
      by_cases hin : 0 ≤ gi zs k ∧ gi zs k < n
      · obtain ⟨z, hz⟩ := Int.eq_ofNat_of_zero_le hin.1
        have hzn : z < n := by omega
        rw [hz] at hc
        have hcz := hS.cell (k := z) (by rw [HN.out]; exact hzn)
        have hgz := gd_bound (k := z) (by omega) hx
        have hb := u64_and_nat acc (gd xs z) (by omega) (by omega)
        have hle : acc &&& gd xs z ≤ 255 := Nat.le_trans Nat.and_le_left hacc
        have HZ := Lib.hid hz
        clear hz hin hgz
        go_wp2
        go_round
        case rel => exact ⟨k + 1, acc &&& gd xs z, by omega, hle, by go_num, rfl, common_in xs zs n k acc z (by rw [HM.out]; exact hlt) HN.out hzn HZ.out ho.out⟩
        case measure => simp [intOf]; omega
      · have HI := Lib.hid hin
        by_cases hneg : 0 ≤ gi zs k
        · have hge : ¬ (gi zs k < n) := fun h => hin ⟨hneg, h⟩
          clear hin
          go_wp2
          go_round
          case rel => exact ⟨k + 1, acc, by omega, hacc, by go_num, rfl, common_out xs zs n k acc (by rw [HM.out]; exact hlt) HN.out HI.out ho.out⟩
          case measure => simp [intOf]; omega
        · clear hin
          go_wp2
          go_round
          case rel => exact ⟨k + 1, acc, by omega, hacc, by go_num, rfl, common_out xs zs n k acc (by rw [HM.out]; exact hlt) HN.out HI.out ho.out⟩
          case measure => simp [intOf]; omega
    · have hcm : common xs zs = acc := common_all xs zs n k acc (by have := HM.out; omega) HN.out ho.out
      have hr := idx_range xs acc
      have HC := Lib.hid hcm
      clear hcm
      by_cases h0 : 0 ≤ idx xs acc
      · have hm1 : max (idx xs acc) 0 = idx xs acc := by omega
        go_wp2_with (go_at_call 42; refine (index_any xs acc n cap g _ hS HN.out h8).mono ?_; rintro e w' ⟨rfl, rfl⟩)
        go_ret2
        exact ⟨by rw [HC.out]; simp [h0, hm1], rfl⟩
      · have hm1 : max (idx xs acc) 0 = 0 := by omega
        go_wp2_with (go_at_call 42; refine (index_any xs acc n cap g _ hS HN.out h8).mono ?_; rintro e w' ⟨rfl, rfl⟩)
        go_ret2
        exact ⟨by rw [HC.out]; simp [hm1], rfl⟩

end Go.Proofs.Ytogmiofmhmbhbaa
