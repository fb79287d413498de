/- The walks of the document's Join and Meet. -/
import Derived.Test.YtogmiofmhmbhbaaNe
import Derived.Deep.RegionHeld3
namespace Go.Proofs.Ytogmiofmhmbhbaa
open Go.RowKit

theorem IntsIn.drew {w : World} {B off : Nat} {A : Option Addr} {zs : List Int} (h : IntsIn w B A off zs) : IntsIn w.drew B A off zs := by
  intro k hk
  obtain ⟨b, hb, hlt, hc⟩ := h k hk
  exact ⟨b, hb, hlt, hc⟩
theorem Ints.drew {w : World} {A : Option Addr} {zs : List Int} (h : Ints w A zs) : Ints w.drew A zs := by
  intro k hk
  obtain ⟨b, hb, hc⟩ := h k hk
  exact ⟨b, hb, hc⟩
theorem MatAt.drew {w : World} {B n : Nat} {v : Value} {f : Tab} (h : MatAt w B n v f) : MatAt w.drew B n v f := h.below (Drawn.below ⟨1, rfl⟩)

theorem Ints.below {w w' : World} {A : Option Addr} {zs : List Int} (h : Ints w A zs) (hb : Below w.heap.size w w') : Ints w' A zs := by
  intro k hk
  obtain ⟨b, hb2, hc⟩ := h k hk
  exact ⟨b, hb2, (hb.cell (p := ⟨b, k, none⟩) (block_lt_of_cell hc)).trans hc⟩

def LevelsAt (w : World) (n : Nat) (zs : List Int) (e : Ending) (w' : World) : Prop :=
  ∃ A c, e = .returned (.slice A (levL n zs).length c) ∧ Ints w' A (levL n zs) ∧ Below w.heap.size w w'
theorem levels_at (w : World) (n go co m c off : Nat) (A : Option Addr) (zs : List Int) (hA : IntsIn w w.heap.size A off zs) (hm : zs.length = m) (hm2 : m ≤ 200) :
    Calls Try.prog 39 #[.agg #[.slice (some ⟨go, 0, none⟩) n co], .slice A m c] w (LevelsAt w n zs) :=
  (levels_any w n go co m c off A zs hA hm hm2).mono fun e w' ⟨v, he, hown, hb⟩ => by
    have hv : ∃ A c, v = .slice A (levL n zs).length c := by
      rcases hown.2 with ⟨rfl, h0⟩ | ⟨g, cap, _, rfl, _⟩
      · exact ⟨none, 0, by rw [h0]⟩
      · exact ⟨_, cap, rfl⟩
    obtain ⟨A', c', rfl⟩ := hv
    exact ⟨A', c', he, hown.ints.2, hb⟩

def RJoinPost (w : World) (n : Nat) (f : Tab) (zs : List Int) (e : Ending) (w' : World) : Prop := e = .returned (.int .i64 (leastF n f (levL n zs))) ∧ Below w.heap.size w w'

set_option maxRecDepth 100000 in
set_option maxHeartbeats 2000000 in
theorem rjoin_any (w : World) (n m c off : Nat) (v : Value) (f : Tab) (A : Option Addr) (zs : List Int) (hM : MatAt w w.heap.size n v f) (hA : IntsIn w w.heap.size A off zs) (hm : zs.length = m) (hm2 : m ≤ 200) (h8 : n ≤ 8) :
    Calls Try.prog 18 #[.agg #[v], .slice A m c] w (RJoinPost w n f zs) := by
  have HM := Lib.hid hm
  clear hm
  have hM0 := hM
  obtain ⟨go, co, G, C, rfl, hgo, _⟩ := hM
  obtain ⟨w1, hw1⟩ : ∃ w1, w1 = w.alloc (.cells #[.slice (some ⟨go, 0, none⟩) n co] 31) := ⟨_, rfl⟩
  obtain ⟨g, hg⟩ : ∃ g, g = w.heap.size := ⟨_, rfl⟩
  have hb1 : Below g w w1 := by rw [hw1, hg]; exact (Below.refl _ _).alloc (Nat.le_refl _) _
  have hs1 : g + 1 = w1.heap.size := by rw [hw1, hg]; simp
  have q1 : w1.cell? ⟨g, 0, none⟩ = some (.slice (some ⟨go, 0, none⟩) n co) := by
    rw [hw1, hg, cell_of_row _ _ 0 _ _ (0, 0) (heap_alloc_new w _)]; rfl
  have hM1 : MatAt w1 w1.heap.size n (.slice (some ⟨go, 0, none⟩) n co) f := (hM0.below (by rw [← hg]; exact hb1)).more (by omega)
  have hA1 : IntsIn w1 w1.heap.size A off zs := by
    intro k hk
    obtain ⟨b, hb, hlt, hc⟩ := (hA.below (by rw [← hg]; exact hb1)) k hk
    exact ⟨b, hb, by omega, hc⟩
  have HW1 := Lib.hid hw1
  have HG := Lib.hid hg
  have HA1 := Lib.hid hA1
  have HM1 := Lib.hid hM1
  have hlv := Lib.hid (levL_range n zs)
  have hll : (levL n zs).length ≤ 200 := by have := levL_len n zs; have := HM.out; omega
  have hgs : g < w1.heap.size := by omega
  have HS1 := Lib.hid hs1
  clear hw1 hg hM0 hA hgo hA1 hM1 hs1
  have L1 : Calls Try.prog 39 #[.agg #[.slice (some ⟨go, 0, none⟩) n co], .slice A m c] w1.drew (LevelsAt w1 n zs) :=
    (levels_at _ n go co m c off A zs (IntsIn.drew HA1.out) HM.out hm2).mono fun e w' ⟨A', c', he, hi, hb⟩ => ⟨A', c', he, hi, (Drawn.below (B := w1.heap.size) (w' := w1.drew) ⟨1, rfl⟩).trans hb⟩
  have HL1 := Lib.hid L1
  clear L1
  go_enter Try.func18, Try.ntmps18
  go_wp2_with fail
  rw [← HW1.out, ← HG.out]
  go_region_held3 (fun w' => w'.cell? ⟨g, 0, none⟩ = some (.slice (some ⟨go, 0, none⟩) n co)) (first | go_keep | exact hk2 | exact hk3)
    (first
      | (go_at_call 39; refine (HL1.out).mono ?_; rintro e w2 ⟨A2, c2, rfl, hI2, hb2⟩; have hk2 := (hb2.cell (p := ⟨g, 0, none⟩) hgs).trans q1; have hM2 := (HM1.out.below hb2).more hb2.size; have HI2 := Lib.hid hI2; have HB2 := Lib.hid hb2; clear hI2)
      | (go_at_call 37; refine (least_any _ n _ _ _ f _ (levL n zs) ?_ ?_ rfl (by omega) h8 hlv.out).mono ?_; (first | exact hM2 | exact MatAt.drew hM2 | exact MatAt.drew (MatAt.drew hM2)); (first | exact HI2.out | exact Ints.drew HI2.out | exact Ints.drew (Ints.drew HI2.out)); rintro e w3 ⟨rfl, hb3⟩; have hk3 := (hb3.cell (p := ⟨g, 0, none⟩) (by have h := HB2.out.size; simp; omega)).trans hk2))
  all_goals
    have hb23 : Below w2.heap.size w2 w3 := by
      first
        | exact hb3
        | exact (Drawn.below (B := w2.heap.size) (w' := w2.drew) ⟨1, rfl⟩).trans hb3
        | exact (Drawn.below (B := w2.heap.size) (w' := w2.drew.drew) ⟨2, rfl⟩).trans hb3
    have hb13 : Below g w w3 := hb1.trans ((HB2.out.mono (by omega)).trans (hb23.mono (by have := HB2.out.size; omega)))
    clear hb3
    go_wp2
    go_ret
    exact ⟨rfl, by rw [← HG.out]; exact hb13⟩

set_option maxRecDepth 100000 in
set_option maxHeartbeats 2000000 in
theorem rmeet_any (w : World) (n m c off : Nat) (v : Value) (f : Tab) (A : Option Addr) (zs : List Int) (hM : MatAt w w.heap.size n v f) (hA : IntsIn w w.heap.size A off zs) (hm : zs.length = m) (hm2 : m ≤ 200) (h1 : 1 ≤ n) (h8 : n ≤ 8) :
    Calls Try.prog 20 #[.agg #[v], .slice A m c] w (RJoinPost w n (fun a b => f b a) zs) := by
  have HM := Lib.hid hm
  clear hm
  have hM0 := hM
  obtain ⟨go, co, G, C, rfl, hgo, _⟩ := hM
  obtain ⟨w1, hw1⟩ : ∃ w1, w1 = w.alloc (.cells #[.slice (some ⟨go, 0, none⟩) n co] 31) := ⟨_, rfl⟩
  obtain ⟨g, hg⟩ : ∃ g, g = w.heap.size := ⟨_, rfl⟩
  have hb1 : Below g w w1 := by rw [hw1, hg]; exact (Below.refl _ _).alloc (Nat.le_refl _) _
  have hs1 : g + 1 = w1.heap.size := by rw [hw1, hg]; simp
  have q1 : w1.cell? ⟨g, 0, none⟩ = some (.slice (some ⟨go, 0, none⟩) n co) := by
    rw [hw1, hg, cell_of_row _ _ 0 _ _ (0, 0) (heap_alloc_new w _)]; rfl
  have hM1 : MatAt w1 w1.heap.size n (.slice (some ⟨go, 0, none⟩) n co) f := (hM0.below (by rw [← hg]; exact hb1)).more (by omega)
  have hA1 : IntsIn w1 w1.heap.size A off zs := by
    intro k hk
    obtain ⟨b, hb, hlt, hc⟩ := (hA.below (by rw [← hg]; exact hb1)) k hk
    exact ⟨b, hb, by omega, hc⟩
  have HW1 := Lib.hid hw1
  have HG := Lib.hid hg
  have HA1 := Lib.hid hA1
  have HM1 := Lib.hid hM1
  have hlv := Lib.hid (levL_range n zs)
  have hll : (levL n zs).length ≤ 200 := by have := levL_len n zs; have := HM.out; omega
  have hgs : g < w1.heap.size := by omega
  have HS1 := Lib.hid hs1
  clear hw1 hg hM0 hA hgo hA1 hM1 hs1
  have HT : Hid (∀ wx, Below w1.heap.size w1 wx → Calls Try.prog 36 #[.agg #[.slice (some ⟨go, 0, none⟩) n co]] wx (fun e w' =>
      ∃ v, e = .returned (.agg #[v]) ∧ MatAt w' w'.heap.size n v (fun a b => f b a) ∧ Below w1.heap.size w1 w' ∧ Below wx.heap.size wx w')) := Lib.hid (fun wx hx =>
    (turnedR_any wx n _ f ((HM1.out.below hx).more hx.size) h1 h8).mono fun e w' ⟨v, he, hm, hb⟩ => ⟨v, he, hm, hx.trans (hb.mono hx.size), hb⟩)
  have HL : Hid (∀ wx, Below w1.heap.size w1 wx → Calls Try.prog 39 #[.agg #[.slice (some ⟨go, 0, none⟩) n co], .slice A m c] wx (fun e w' =>
      ∃ A' c', e = .returned (.slice A' (levL n zs).length c') ∧ Ints w' A' (levL n zs) ∧ Below w1.heap.size w1 w' ∧ Below wx.heap.size wx w')) := Lib.hid (fun wx hx =>
    (levels_at wx n go co m c off A zs (fun k hk => by
        obtain ⟨b, hb, hlt, hc⟩ := (HA1.out.below hx) k hk
        exact ⟨b, hb, Nat.lt_of_lt_of_le hlt hx.size, hc⟩) HM.out hm2).mono fun e w' ⟨A', c', he, hi, hb⟩ => ⟨A', c', he, hi, hx.trans (hb.mono hx.size), hb⟩)
  go_enter Try.func20, Try.ntmps20
  go_wp2_with fail
  rw [← HW1.out, ← HG.out]
  go_region_held3 (fun w' => w'.cell? ⟨g, 0, none⟩ = some (.slice (some ⟨go, 0, none⟩) n co)) (first | go_keep | exact hkt | exact hkl | exact hk3)
    (first
      | (go_at_call 36; refine (HT.out _ ?_).mono ?_; (repeat (first | exact hbl | exact Below.refl _ _ | refine Below.drew ?_)); rintro e wt ⟨vt, rfl, hMt0, hbt, hxt⟩; have hkt := (hbt.cell (p := ⟨g, 0, none⟩) hgs).trans q1; have HMT := Lib.hid hMt0; (first | (have HI := Lib.hid (Ints.below HIL.out hxt)) | (have HI := Lib.hid (Ints.below (Ints.drew HIL.out) hxt)) | (have HI := Lib.hid (Ints.below (Ints.drew (Ints.drew HIL.out)) hxt)) | skip); clear hMt0)
      | (go_at_call 39; refine (HL.out _ ?_).mono ?_; (repeat (first | exact hbt | exact Below.refl _ _ | refine Below.drew ?_)); rintro e wl ⟨A2, c2, rfl, hIl0, hbl, hxl⟩; have hkl := (hbl.cell (p := ⟨g, 0, none⟩) hgs).trans q1; have HIL := Lib.hid hIl0; (first | (have HMM := Lib.hid ((HMT.out.below hxl).more hxl.size)) | (have HMM := Lib.hid (((MatAt.drew HMT.out).below hxl).more hxl.size)) | skip); clear hIl0)
      | (go_at_call 37; refine (least_any _ n _ _ _ (fun a b => f b a) _ (levL n zs) ?_ ?_ rfl (by omega) h8 hlv.out).mono ?_; (first | exact HMM.out | exact MatAt.drew HMM.out | exact HMT.out | exact MatAt.drew HMT.out | exact MatAt.drew (MatAt.drew HMT.out)); (first | exact HI.out | exact Ints.drew HI.out | exact HIL.out | exact Ints.drew HIL.out | exact Ints.drew (Ints.drew HIL.out)); rintro e w3 ⟨rfl, hb3⟩; have hb13 : Below w1.heap.size w1 w3 := (by first | exact hbl.trans (hb3.mono hbl.size) | exact hbt.trans (hb3.mono hbt.size) | exact hbl.drew.trans (hb3.mono hbl.size) | exact hbt.drew.trans (hb3.mono hbt.size) | exact hbl.drew.drew.trans (hb3.mono hbl.size) | exact hbt.drew.drew.trans (hb3.mono hbt.size)); have hk3 := (hb13.cell (p := ⟨g, 0, none⟩) hgs).trans q1))
  all_goals
    have hbf : Below g w w3 := hb1.trans (hb13.mono (by omega))
    clear hb3 hb13
    go_wp2
    go_ret
    exact ⟨rfl, by rw [← HG.out]; exact hbf⟩

end Go.Proofs.Ytogmiofmhmbhbaa
