/- The walk of New, and of what it calls of package slices. -/
import Derived.Test.YtogmiofmhmbhbaaLd
namespace Go.Proofs.Ytogmiofmhmbhbaa
open Go.RowKit

set_option maxHeartbeats 400000 in
theorem wrong_any (a b n : Int) (q : Nat) (w : World) (hq : w.cell? ⟨q, 0, none⟩ = some (.int .i64 n)) (hlt : q < w.heap.size) :
    Calls Try.prog 30 #[.agg #[.int .i64 a, .int .i64 b], .pointer (some ⟨q, 0, none⟩)] w fun e w' => e = .returned (.bool (wrongE n (a, b))) ∧ Below w.heap.size w w' := by
  have hb0 : ∀ o : Obj, Below w.heap.size w (w.alloc o) := fun o => (Below.refl _ _).alloc (Nat.le_refl _) o
  have HB := Lib.hid hb0
  clear hb0
  by_cases hba : b < a
  all_goals by_cases h0 : a < 0
  all_goals by_cases h1 : b < 0
  all_goals by_cases h2 : n ≤ a
  all_goals by_cases h3 : n ≤ b
  all_goals first | (exfalso; omega) | skip
  all_goals
    go_enter Try.func30, Try.ntmps30
    go_wp2
  all_goals
    go_ret
    refine ⟨ret_b ?_, HB.out _⟩
    first | (unfold wrongE; simp; omega) | (unfold wrongE; rw [Bool.eq_iff_iff]; simp; omega)

theorem Edges.below {w w' : World} {B : Nat} {A : Option Addr} {es : List (Int × Int)} (h : Edges w B A es) (hb : Below B w w') : Edges w' B A es := by
  intro k hk
  obtain ⟨b, hA, hlt, h0, h1⟩ := h k hk
  exact ⟨b, hA, hlt, (hb.cell (p := ⟨b, k * 2, none⟩) hlt).trans h0, (hb.cell (p := ⟨b, k * 2 + 1, none⟩) hlt).trans h1⟩
theorem Edges.more {w : World} {B B' : Nat} {A : Option Addr} {es : List (Int × Int)} (h : Edges w B A es) (hB : B ≤ B') : Edges w B' A es := by
  intro k hk
  obtain ⟨b, hA, hlt, h0, h1⟩ := h k hk
  exact ⟨b, hA, by omega, h0, h1⟩

def IdxPost (w : World) (n : Int) (es : List (Int × Int)) (e : Ending) (w' : World) : Prop :=
  ∃ z : Int, e = .returned (.int .i64 z) ∧ Hid (decide (0 ≤ z) = badEs n es) ∧ Below w.heap.size w w'

set_option maxHeartbeats 400000 in
theorem indexf_any (w : World) (n : Int) (q m c : Nat) (A : Option Addr) (es : List (Int × Int)) (hq : w.cell? ⟨q, 0, none⟩ = some (.int .i64 n)) (hqlt : q < w.heap.size)
    (hA : Edges w w.heap.size A es) (hm : es.length = m) (hm2 : m ≤ 4611686018427387904) :
    Calls Try.prog 41 #[.slice A m c, .func (.func 30) #[] #[.pointer (some ⟨q, 0, none⟩)]] w (IdxPost w n es) := by
  have HM := Lib.hid hm
  clear hm
  go_enter Try.func41, Try.ntmps41
  go_wp2
  go_loopw [8] (fun i wr => ∃ j : Nat, j ≤ m ∧ i = .int .i64 j ∧ Hid (∀ l, l < j → wrongE n (ge es l) = false) ∧ Below w.heap.size w wr) (fun i _ => m - (intOf i).toNat)
  case atStart => exact ⟨0, Nat.zero_le _, rfl, fun l hl => absurd hl (by omega), Below.refl _ _⟩
  case round =>
    obtain ⟨j, hj, rfl, ho, hb⟩ := hrel
    by_cases hlt : j < m
    · obtain ⟨b, rfl, hbb, ha0, ha1⟩ := (hA.below hb) j (by rw [HM.out]; exact hlt)
      have hq' := (hb.cell (p := ⟨q, 0, none⟩) hqlt).trans hq
      have hqr : q < wr.heap.size := Nat.lt_of_lt_of_le hqlt hb.size
      obtain ⟨x, hx⟩ : ∃ x, x = (ge es j).1 := ⟨_, rfl⟩
      obtain ⟨y, hy⟩ : ∃ y, y = (ge es j).2 := ⟨_, rfl⟩
      rw [← hx] at ha0
      rw [← hy] at ha1
      have HXY : Hid (ge es j = (x, y)) := by rw [hx, hy]; exact rfl
      clear hx hy hq
      cases hw : wrongE n (x, y)
      · go_wp2_with fail
        refine (wrong_any x y n q _ hq' hqr).mono ?_
        rintro e w1 ⟨rfl, hb1⟩
        go_wp2
        go_roundw
        case rel => exact ⟨j + 1, by omega, by go_num, Lib.hid (fun l hl => by
          by_cases e : l = j
          · subst e; rw [HXY.out]; exact hw
          · exact ho.out l (by omega)), hb.trans (hb1.mono hb.size)⟩
        case measure => simp [intOf]; omega
      · go_wp2_with fail
        refine (wrong_any x y n q _ hq' hqr).mono ?_
        rintro e w1 ⟨rfl, hb1⟩
        go_wp2
        go_ret
        exact ⟨_, rfl, Lib.hid (by rw [badEs_hit (k := j) (by rw [HM.out]; exact hlt) (by rw [HXY.out]; exact hw)]; simp), hb.trans (hb1.mono hb.size)⟩
    · go_wp2
      go_ret
      exact ⟨_, rfl, Lib.hid (by rw [badEs_miss (k := j) (by have := HM.out; omega) ho.out]; simp), hb⟩

def ContPost (w : World) (n : Int) (es : List (Int × Int)) (e : Ending) (w' : World) : Prop :=
  e = .returned (.bool (badEs n es)) ∧ Below w.heap.size w w'

set_option maxHeartbeats 400000 in
theorem contains_any (w : World) (n : Int) (q m c : Nat) (A : Option Addr) (es : List (Int × Int)) (hq : w.cell? ⟨q, 0, none⟩ = some (.int .i64 n)) (hqlt : q < w.heap.size)
    (hA : Edges w w.heap.size A es) (hm : es.length = m) (hm2 : m ≤ 4611686018427387904) :
    Calls Try.prog 31 #[.slice A m c, .func (.func 30) #[] #[.pointer (some ⟨q, 0, none⟩)]] w (ContPost w n es) := by
  have HM := Lib.hid hm
  clear hm
  go_enter Try.func31, Try.ntmps31
  go_wp2_with fail
  refine (indexf_any _ n q m c A es hq hqlt hA HM.out hm2).mono ?_
  rintro e w1 ⟨z, rfl, hz, hb⟩
  go_wp2
  go_ret
  exact ⟨ret_b hz.out, hb⟩

def NewPost (w : World) (n : Int) (es : List (Int × Int)) (e : Ending) (w' : World) : Prop :=
  Below w.heap.size w w' ∧
  ((¬ (1 ≤ n ∧ n ≤ 8) ∧ e = .returned (.tuple #[.pointer none, .int .i64 22])) ∨
   (1 ≤ n ∧ n ≤ 8 ∧ badEs n es = true ∧ e = .returned (.tuple #[.pointer none, .int .i64 30])) ∨
   (1 ≤ n ∧ n ≤ 8 ∧ badEs n es = false ∧ latB (reachL n.toNat es) (turnedL (reachL n.toNat es)) = false ∧ e = .returned (.tuple #[.pointer none, .int .i64 31])) ∨
   (1 ≤ n ∧ n ≤ 8 ∧ badEs n es = false ∧ latB (reachL n.toNat es) (turnedL (reachL n.toNat es)) = true ∧
      ∃ h gu gv, w.heap.size ≤ h ∧ w.heap.size ≤ gu ∧ w.heap.size ≤ gv ∧ OrdAt w' h gu gv n.toNat (reachL n.toNat es) (turnedL (reachL n.toNat es)) ∧ e = .returned (.tuple #[.pointer (some ⟨h, 0, none⟩), .int .i64 0])))

set_option maxHeartbeats 1000000 in
theorem new_many (w : World) (n : Int) (m c : Nat) (A : Option Addr) (es : List (Int × Int)) (hn : ¬ (1 ≤ n ∧ n ≤ 8)) :
    Calls Try.prog 12 #[.int .i64 n, .slice A m c] w (NewPost w n es) := by
  have HN := Lib.hid hn
  have HB := Lib.hid (fun o : Obj => (Below.refl w.heap.size w).alloc (Nat.le_refl _) o)
  by_cases h1 : n < 1
  all_goals by_cases h2 : 8 < n
  all_goals first | (exfalso; omega) | clear hn
  all_goals
    go_enter Try.func12, Try.ntmps12
    go_wp2
    go_ret2
    exact ⟨HB.out _, .inl ⟨HN.out, rfl⟩⟩

set_option maxHeartbeats 1000000 in
theorem new_bad (w : World) (n : Int) (m c : Nat) (A : Option Addr) (es : List (Int × Int)) (h1 : 1 ≤ n) (h2 : n ≤ 8) (hA : Edges w w.heap.size A es) (hm : es.length = m) (hm2 : m ≤ 4611686018427387904)
    (hbad : badEs n es = true) :
    Calls Try.prog 12 #[.int .i64 n, .slice A m c] w (NewPost w n es) := by
  have HM := Lib.hid hm
  have HBA := Lib.hid hbad
  clear hm hbad
  go_enter Try.func12, Try.ntmps12
  go_wp2_with fail
  refine (contains_any _ n w.heap.size m c A es (by simp) (by simp) ((hA.below ((Below.refl _ _).alloc (Nat.le_refl _) _)).more (by simp)) HM.out hm2).mono ?_
  rintro e w1 ⟨rfl, hb⟩
  rw [HBA.out]
  go_wp2
  go_ret2
  exact ⟨((Below.refl _ _).alloc (Nat.le_refl _) _).trans (hb.mono (by simp)), .inr (.inl ⟨h1, h2, HBA.out, rfl⟩)⟩

end Go.Proofs.Ytogmiofmhmbhbaa
