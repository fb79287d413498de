/- The walk of CodeShows. -/
import Derived.Test.YtgohnlcgidmlfaaDoorMgj
import Derived.Test.YtgohnlcgidmlfaaDoorMfc
set_option linter.unusedVariables false
set_option linter.unusedSimpArgs false
namespace Go.Proofs.YtgohnlcgidmlfaaDoor
open Go.RowKit

set_option maxHeartbeats 4000000 in
set_option maxRecDepth 100000 in
theorem codeShows_walk (w : World) {m : Mo} {v : Vm} (h : IsMo w (· < w.heap.size) m v) (hnm : NmW w) (htb : TbW w) :
    Calls Tryd.prog 4 #[.agg v.arr] w fun e w' => e = .returned (.bool true) ∧ Below w.heap.size w w' := by
  obtain ⟨X, hX⟩ : ∃ X : World, X = w.alloc (.cells #[v.g, v.s, v.c, v.l, v.i, v.o, v.h, v.f, v.t] 27) := ⟨_, rfl⟩
  have L0 : Hid (LawW w m v X) := Lib.hid (by rw [hX]; exact LawW.start h hnm htb)
  have HX := Lib.hid hX
  clear hX h hnm htb
  simp only [Vm.arr]
  go_enter Tryd.func4, Tryd.ntmps4
  go_wp2_with fail
  rw [← HX.out]
  refine (alive10_any L0.out.nm L0.out.tb).mono ?_
  rintro e w1 ⟨rfl, hb⟩
  have L1 := Lib.hid (L0.out.step hb)
  clear hb
  obtain ⟨p0, p1, p2, p3, p4, p5, p6, p7, p8⟩ := L1.out.blk.all
  have C := Lib.hid (weighm_any L1.out.mo 20000 (by omega) (by omega))
  obtain ⟨W, hW⟩ : ∃ W, W = weighM m 20000 := ⟨_, rfl⟩
  rw [← hW] at C
  simp only [Vm.arr] at C
  have HW := Lib.hid hW
  clear hW
  go_wp2_with fail
  refine C.out.mono ?_
  rintro e w2 ⟨rfl, hb⟩
  have L2 := Lib.hid (L1.out.step hb)
  clear hb C p0 p1 p2 p3 p4 p5 p6 p7 p8
  by_cases hle : W ≤ 20000
  · have HL := Lib.hid (lightM (by rw [← HW.out]; exact hle))
    obtain ⟨p0, p1, p2, p3, p4, p5, p6, p7, p8⟩ := L2.out.blk.all
    have C := Lib.hid (copyModule_any L2.out.mo (lightM.copy HL.out (by omega)).1 (lightM.copy HL.out (by omega)).2)
    simp only [Vm.arr] at C
    go_wp2_with fail
    refine C.out.mono ?_
    intro e w3 hnm3
    obtain ⟨v', rfl, hin, hb⟩ := hnm3.is_
    have L3 := Lib.hid (L2.out.step hb)
    clear C hnm3 p0 p1 p2 p3 p4 p5 p6 p7 p8
    have hyi : IsMo w3 (· < w3.heap.size) m v' := hin.keep (S' := (· < w3.heap.size)) (fun _ _ => rfl) (fun b hb => hb.2)
    have C1 := Lib.hid (show_any hyi L3.out.nm L3.out.tb)
    clear hb hin hyi
    go_wp2_with fail
    refine C1.out.mono ?_
    rintro e w4 ⟨rfl, hb⟩
    have L4 := Lib.hid (L3.out.step hb)
    clear hb C1
    obtain ⟨p0, p1, p2, p3, p4, p5, p6, p7, p8⟩ := L4.out.blk.all
    have C2 := Lib.hid (refshow_any L4.out.mo)
    simp only [Vm.arr] at C2
    obtain ⟨S, hS⟩ : ∃ S, S = bs (showR m) := ⟨_, rfl⟩
    obtain ⟨E, hE⟩ : ∃ E : Int, E = if rightM m = true then 0 else 70 := ⟨_, rfl⟩
    rw [← hS, ← hE] at C2 ⊢
    have hss : (S.toList == S.toList) = true := by simp
    have hee : (E == E) = true := by simp
    clear hS hE
    go_wp2_with fail
    refine C2.out.mono ?_
    rintro e w5 ⟨rfl, hb⟩
    have L5 := Lib.hid (L4.out.step hb)
    clear hb C2 p0 p1 p2 p3 p4 p5 p6 p7 p8
    go_wp2
    go_ret
    exact ⟨rfl, L5.out.below⟩
  · clear HW L0 L1
    go_wp2
    go_ret
    exact ⟨rfl, L2.out.below⟩

end Go.Proofs.YtgohnlcgidmlfaaDoor
