/- What is proved: a sum gives the sum, a product the product, a difference the difference of what its parts give, and a sign turned the number turned, for every two expressions and inputs (where one of them weighs more than 5000, or there are more than 50 inputs, the statement answers at once). -/
import Derived.Test.YtadkimnpeachpaaGreatDoorGs2
import Derived.Test.YtadkimnpeachpaaGreatDoorRo
import Derived.Test.YtadkimnpeachpaaGreatDoorPvn
import Derived.Test.YtadkimnpeachpaaGreatDoorPmd
import Derived.Test.YtadkimnpeachpaaGreatDoorPzj
set_option linter.unusedVariables false
namespace Go.Proofs.YtadkimnpeachpaaGreatDoor
open Go Go.ChangeShapes Go.WideShapes Go.ChangeAt Go.ChangeMaps Go.RowKit

set_option maxRecDepth 100000 in
theorem hatchSums_lifted (os : Os) (started : os.Started) (H : Type) (enc : TypeId × Value → H) :
    ReturnsInHanded {} Tryz.checked os 5 .any (fun w args => (Rows.hatchSumsSpec.pre enc Tryz.prog Tryz.f5 Rows.hatchSumsRow.domain false w args ∧ laidMetH Tryz.prog laidL w) ∧ sizedMet enc Tryz.prog Tryz.f5 (OpenSpec.ofChange Rows.hatchSumsSpec) false w args)
      (Rows.hatchSumsSpec.post enc Tryz.prog Tryz.f5 false true false false) := by
  refine returnsInHanded_of_change_and (C := Tryz.checked) (X := fun w _ => laidMetH Tryz.prog laidL w) (fun _ _ _ hh h => h.of_heap hh) ownKnob_none started (by kernel_rfl) Tryz.func5
    (ChangeSpec.witness_shaped (enc := enc) (C := Tryz.checked) (os := os) (X := fun w _ => laidMetH Tryz.prog laidL w) false (World.laidAll Tryz.prog os laidL) #[.agg #[.int .i64 0, .int .i64 0, .int .i64 0, .string ⟨#[]⟩, .slice none 0 0], .agg #[.int .i64 0, .int .i64 0, .int .i64 0, .string ⟨#[]⟩, .slice none 0 0], .slice none 0 0] 8 (World.laidAll_os _ _ _) (laid_shaped os) (by kernel_rfl) (by kernel_rfl) (by kernel_rfl) (laid_met os _)) ?_
  intro W base args ds gs before hval0 hW _ hwt hL _
  have hval : ∀ (j : Nat) t v, Tryz.f5.params[j]? = some t → args[j]? = some v → Value.okWide Tryz.prog W .any base t v := hval0
  have hW' := hW
  obtain ⟨p, q, hA0, hV, rfl, _, _⟩ := hW
  have hA : DataW.TrodAll enc Tryz.prog W 0 (fun _ => true) true Tryz.f5.params.toList args.toList ds p := hA0
  rw [Tryz.params5] at hA hval
  obtain ⟨v0, vs0, d0, ds0, p0, q0, hargs, rfl, rfl, h0, r0⟩ := trodAll_cons hA
  obtain ⟨v1, vs1, d1, ds1, p1, q1, rfl, rfl, rfl, h1, r1⟩ := trodAll_cons r0
  obtain ⟨v2, vs2, d2, ds2, p2, q2, rfl, rfl, rfl, h2, r2⟩ := trodAll_cons r1
  obtain ⟨rfl, rfl, rfl⟩ := trodAll_nil r2
  obtain rfl : args = #[v0, v1, v2] := by cases args; simp_all
  obtain ⟨rfl, rfl⟩ := trodVars_none hV
  have k0 := h0
  have hw0 : ∀ y ∈ DataW.weights Tryz.prog 24 d0, y ≤ 140737488355328 := fun y hy => weight_le (of_decide_eq_true (List.all_eq_true.1 hwt y (weights_at0 (by rw [Tryz.params5]; rfl) rfl hy)))
  obtain ⟨es0, u0, rfl, nm0, in0⟩ := opens_expr h0 (expr_agg (hval 0 24 v0 rfl rfl)) hw0
  have k1 := h1
  have hw1 : ∀ y ∈ DataW.weights Tryz.prog 24 d1, y ≤ 140737488355328 := fun y hy => weight_le (of_decide_eq_true (List.all_eq_true.1 hwt y (weights_at1 (by rw [Tryz.params5]; rfl) rfl hy)))
  obtain ⟨es1, u1, rfl, nm1, in1⟩ := opens_expr h1 (expr_agg (hval 1 24 v1 rfl rfl)) hw1
  have k2 := h2
  have hw2 : ∀ y ∈ DataW.weights Tryz.prog 26 d2, y ≤ 140737488355328 := fun y hy => weight_le (of_decide_eq_true (List.all_eq_true.1 hwt y (weights_at2 (by rw [Tryz.params5]; rfl) rfl hy)))
  obtain ⟨xs2, in2⟩ := open_ints h2 (okWide_slice Tryz.underlying26 (hval 2 26 v2 rfl rfl)) hw2
  clear hA0 hval0
  simp only [List.append_nil] at hW'
  have hlt := fun x hx => hW'.lt x hx
  refine (hatchSums_walk W es0 in0 nm0 es1 in1 nm1 in2).mono fun e W' ⟨he, hb⟩ => ?_
  subst he
  exact ⟨_, rfl, _, _, _, [], _, [], hW', trodAll_mk1 (shut_true _), (trodAll_cons_mk (Below.trod Tryz.laidOut (by kernel_rfl) (of_decide_eq_true (by kernel_rfl)) k0 hb (fun x hx => hlt x (by simp [hx]))) (trodAll_cons_mk (Below.trod Tryz.laidOut (by kernel_rfl) (of_decide_eq_true (by kernel_rfl)) k1 hb (fun x hx => hlt x (by simp [hx]))) (trodAll_cons_mk (Below.trod Tryz.laidOut (by kernel_rfl) (of_decide_eq_true (by kernel_rfl)) k2 hb (fun x hx => hlt x (by simp [hx]))) trodAll_mk0))), rfl, hb.frame _, fun h => by cases h⟩

theorem hatchSums_holds : Rows.HatchSumsSaid :=
  OpenClaim.holds_of_wide 5 Tryz.f5 rfl rfl rfl rfl rfl rfl rfl ⟨rfl, rfl, rfl, rfl, rfl⟩ rfl rfl rfl rfl rfl (by kernel_rfl) Tryz.func5 hatchSums_closed
    (of_decide_eq_true (by kernel_rfl)) (by unfold Func.isWrapper; first | (rw [if_pos (by decide +kernel)]; kernel_rfl) | (rw [if_neg (by decide +kernel)]; exact ⟨rfl, rfl⟩))
    (fun os started H enc _ => hatchSums_lifted os started H enc)

theorem hatchSums_card_holds : Rows.HatchSumsCardSaid :=
  Claim7.holds_tied_plain_at .later [] [.data, .data, .data, .data, .sentinel, .sentinel, .pinned] true (true, "ffe437fc508f25f5e6303818be0cf616efe1c61bf3da8a6bd230aa02d1695c2e") true
    hatchSums_holds (fun _ h => by cases h) (by kernel_rfl) (fun _ h => by cases h) hatchSums_row_tie rfl ⟨rfl, rfl⟩ (by kernel_rfl) rfl
    (fun f fn hf hfn => by
      obtain rfl : f = 5 := Option.some.inj ((show Tryz.prog.funcNamed "portcullis/portcullislaw08.HatchSums" = some 5 by kernel_rfl).symm.trans hf) |>.symm
      obtain rfl : fn = Tryz.f5 := (Option.some.inj (Tryz.func5.symm.trans hfn)).symm
      exact ⟨by kernel_rfl, fun j t ht => by
        rw [Tryz.params5] at ht
        have hm : t ∈ [24, 24, 26] := by simpa using Array.mem_of_getElem? ht
        have hall : ([24, 24, 26].all fun u => !Tryz.prog.wantsStandIn u) = true := by kernel_rfl
        exact (show Tryz.prog.wantsStandIn t = false by simpa using List.all_eq_true.1 hall t hm)⟩)
    (by kernel_rfl)

end Go.Proofs.YtadkimnpeachpaaGreatDoor
