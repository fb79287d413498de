/- Xk -/
import Derived.Test.YtjpphbjnakalhaaDoorZe4
import Derived.StillTailTactics
import Derived.IntWalk
set_option linter.unusedVariables false
namespace Go.Proofs.YtjpphbjnakalhaaDoor
open Go.RowKit
set_option maxRecDepth 100000 in
theorem prog_writes {w : World} {g : Nat} (htab : TabW w) {ds : List Dc} {A : Option Addr} {n c : Nat} (hin : DcsIn w (· < w.heap.size) ds (.slice A n c)) (hsm : ∀ (k : Nat) (hk : k < ds.length), smallDN ds[k]) (hg : w.heap[g]? = some (.cells #[.slice A n c] 24 (0, 0))) : Writes 13 #[.pointer (some ⟨g, 0, none⟩)] w (penP ds) := by
  intro wx Bc Ba hb hB hp
  have hk := (hb.block g (lt_of_heap hg)).trans hg
  have c0 : wx.cell? ⟨g, 0, none⟩ = some (.slice A n c) := by rw [cell_of_row wx g 0 _ _ (0, 0) hk]; rfl
  have HT := Lib.hid (program_any htab.tab hin hsm hb hB hp)
  clear hk hg hin hsm
  unfold penV at HT
  unfold penV
  clear hb hp
  go_enter Tryd.func13, Tryd.ntmps13
  go_wp2_with fail
  refine HT.out.mono ?_
  rintro e1 w1 hpost
  cases hR : adv [] (penP ds) with
  | none =>
    rw [hR] at hpost
    obtain ⟨rfl, hch⟩ := hpost
    have HCH := Lib.hid hch
    clear hR hch
    unfold boom
    go_wp2
    exact ⟨rfl, rfl, HCH.out⟩
  | some T1 =>
    rw [hR] at hpost
    obtain ⟨rfl, u1, hwent⟩ := hpost
    have HWE := Lib.hid hwent
    have HR := Lib.hid hR
    clear hR hwent
    go_wp2
    go_end0
    first
      | exact ⟨rfl, u1, HWE.out⟩
      | (rw [HR.out]; exact ⟨rfl, u1, HWE.out⟩)
set_option maxRecDepth 100000 in
theorem show_any (w : World) (htab : TabW w) {ds : List Dc} {v : Value} (hin : DcsIn w (· < w.heap.size) ds v) (hsm : ∀ (k : Nat) (hk : k < ds.length), smallDN ds[k]) :
    Calls Tryd.prog 7 #[.agg #[v]] w fun r w' => r = .returned (.tuple #[.string (strOf (fin (penP ds)).1), .int .i64 (fin (penP ds)).2]) ∧ Below w.heap.size w w' := by
  obtain ⟨A, c, _, _, rfl, _⟩ := id hin
  have hin2 : ∀ X, Below w.heap.size w X → DcsIn X (· < X.heap.size) ds (.slice A ds.length c) := fun X hb => hin.keep (fun b hlt => hb.block b hlt) (fun b hlt => Nat.lt_of_lt_of_le hlt hb.size)
  obtain ⟨n, hn'⟩ : ∃ n, n = ds.length := ⟨_, rfl⟩
  rw [← hn'] at hin2 ⊢
  clear hin hn'
  have hmf : ∀ (fn : Fn) (first cap : Array Value) (w : World), (Instr.makeFunc fn first cap).run Tryd.prog w = .ok (.func fn first cap) w := fun _ _ _ _ => rfl
  obtain ⟨X, hX⟩ : ∃ X : World, X = w.alloc (.cells #[.slice A n c] 24) := ⟨_, rfl⟩
  have hg : X.heap[w.heap.size]? = some (.cells #[.slice A n c] 24 (0, 0)) := by rw [hX]; exact heap_alloc_new _ _
  have hbx : Below w.heap.size w X := by rw [hX]; exact (Below.refl _ _).alloc (Nat.le_refl _) _
  have hsx : w.heap.size ≤ X.heap.size := hbx.size
  have HWR := Lib.hid (written_any 13 #[.pointer (some ⟨w.heap.size, 0, none⟩)] X (penP ds) (fun _ _ => rfl) (prog_writes (htab.below hbx) (hin2 X hbx) hsm hg))
  have HX := Lib.hid hX
  have HBX := Lib.hid hbx
  clear hX hg hbx hsx
  go_enter Tryd.func7, Tryd.ntmps7
  go_wp2_with fail
  rw [← HX.out]
  refine HWR.out.mono ?_
  rintro e1 w1 ⟨rfl, hb1⟩
  have HB1 := Lib.hid (HBX.out.trans (hb1.mono HBX.out.size))
  clear hb1
  clear hin2
  go_wp2
  go_ret2
  exact ⟨rfl, HB1.out⟩
theorem right_any (w : World) (htab : TabW w) {ds : List Dc} {v : Value} (hin : DcsIn w (· < w.heap.size) ds v) (hsm : ∀ (k : Nat) (hk : k < ds.length), smallDN ds[k]) :
    Calls Tryd.prog 8 #[.agg #[v]] w fun r w' => r = .returned (.bool (decide ((fin (penP ds)).2 = 0))) ∧ Below w.heap.size w w' := by
  obtain ⟨A, c, _, _, rfl, _⟩ := id hin
  obtain ⟨X, hX⟩ : ∃ X : World, X = w.alloc (.cells #[.slice A ds.length c] 24) := ⟨_, rfl⟩
  have hbx : Below w.heap.size w X := by rw [hX]; exact (Below.refl _ _).alloc (Nat.le_refl _) _
  have HS := Lib.hid (show_any X (htab.below hbx) (hin.keep (fun b hlt => hbx.block b hlt) (fun b hlt => Nat.lt_of_lt_of_le hlt hbx.size)) hsm)
  have HX := Lib.hid hX
  have HBX := Lib.hid hbx
  clear hin hsm hX hbx
  go_enter Tryd.func8, Tryd.ntmps8
  go_wp2_with fail
  rw [← HX.out]
  refine HS.out.mono ?_
  rintro e1 w1 ⟨rfl, hb1⟩
  have HB1 := Lib.hid (HBX.out.trans (hb1.mono HBX.out.size))
  clear hb1
  go_wp2
  go_ret
  refine ⟨?_, HB1.out⟩
  by_cases h : (fin (penP ds)).2 = 0 <;> simp [h]
end Go.Proofs.YtjpphbjnakalhaaDoor
