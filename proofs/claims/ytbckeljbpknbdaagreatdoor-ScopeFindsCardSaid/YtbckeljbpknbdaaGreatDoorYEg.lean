/- What is proved: ScopeFinds' walk: Find answers what the document's own answers, for every text and name. -/
import Derived.Test.YtbckeljbpknbdaaGreatDoorYe6
import Derived.Test.YtbckeljbpknbdaaGreatDoorYe7
import Derived.Test.YtbckeljbpknbdaaGreatDoorYe8
import Derived.Test.YtbckeljbpknbdaaGreatDoorRows
import Derived.Test.YtbckeljbpknbdaaGreatDoorTie
import Derived.Test.YtbckeljbpknbdaaGreatDoorCards
set_option linter.unusedVariables false
set_option linter.unusedSimpArgs false
namespace Go.Proofs.YtbckeljbpknbdaaGreatDoor
open Go.RowKit

theorem strOf_back (s : ByteArray) : strOf s.data.toList = s := by cases s; rfl
set_option maxRecDepth 100000 in
set_option maxHeartbeats 2000000 in
theorem scopeFinds_walk (w : World) (s name : ByteArray) : Calls Tryz.prog 3 #[.string s, .string name] w fun e w' => e = .returned (.bool true) ∧ Below w.heap.size w w' := by
 by_cases hl : 20000 < s.size
 · go_enter Tryz.func3, Tryz.ntmps3
   go_wp2_with fail
   refine (alive6_any w).mono ?_
   rintro e w1 ⟨rfl, hb1⟩
   have h1 : (decide ((20000 : Int) < (s.size : Nat))) = true := by simp; omega
   go_wp2
   go_ret
   exact ⟨rfl, hb1⟩
 · have h1 : (decide ((20000 : Int) < (s.size : Nat))) = false := by simp; omega
   by_cases hn : 1000 < name.size
   · have h2 : (decide ((1000 : Int) < (name.size : Nat))) = true := by simp; omega
     go_enter Tryz.func3, Tryz.ntmps3
     go_wp2_with fail
     refine (alive6_any w).mono ?_
     rintro e w1 ⟨rfl, hb1⟩
     go_wp2
     go_ret
     exact ⟨rfl, hb1⟩
   · have h2 : (decide ((1000 : Int) < (name.size : Nat))) = false := by simp; omega
     obtain ⟨ds, p, c, hP⟩ : ∃ ds p c, progM s.data.toList = (ds, p, c) := ⟨_, _, _, rfl⟩
     have HC1 := Lib.hid (prog6_any s (by omega) hP)
     clear hP
     go_enter Tryz.func3, Tryz.ntmps3
     go_wp2_with fail
     refine (alive6_any w).mono ?_
     rintro e w1 ⟨rfl, hb1⟩
     have HB1 := Lib.hid hb1
     clear hb1
     go_wp2_with fail
     refine (HC1.out _).mono ?_
     rintro e w2 ⟨A, n, m, rfl, hd, hb2⟩
     have HB2 := Lib.hid (HB1.out.trans (hb2.mono HB1.out.size))
     have HD := Lib.hid hd
     clear hb2 hd HC1 HB1
     by_cases hc : c = 0
     · subst hc
       go_wp2_with fail
       obtain ⟨X, hX⟩ : ∃ X, X = w2.alloc (.cells #[.slice A n m] 25) := ⟨_, rfl⟩
       have hbX : Below w2.heap.size w2 X := by rw [hX]; exact below_new _ _
       have hp1 : X.cell? ⟨w2.heap.size, 0, none⟩ = some (.slice A n m) := by rw [hX, cell_of_row _ _ 0 _ _ (0, 0) (heap_alloc_new w2 _)]; rfl
       have hinX : DcsIn X (· < X.heap.size) ds (.slice A n m) := HD.out.keep (fun b hb => hbX.block b hb.2) (fun b hb => Nat.lt_of_lt_of_le hb.2 hbX.size)
       rw [← hX]
       have HF1 : Hid (∀ V : World, Below X.heap.size X V → Calls Tryz.prog 10 #[.agg #[.slice A n m], .string name] V fun e w' => e = .returned (.int .i64 (findI ds name.data.toList)) ∧ Below V.heap.size V w') := Lib.hid fun V hV => by
        have := find_any V (hinX.keep (fun b hb => hV.block b hb) (fun b hb => Nat.lt_of_lt_of_le hb hV.size)) name.data.toList
        rwa [strOf_back] at this
       have HF2 : Hid (∀ V : World, Below X.heap.size X V → Calls Tryz.prog 11 #[.agg #[.slice A n m], .string name] V fun e w' => e = .returned (.int .i64 (findI ds name.data.toList)) ∧ Below V.heap.size V w') := Lib.hid fun V hV => by
        have := rfind_any V (hinX.keep (fun b hb => hV.block b hb) (fun b hb => Nat.lt_of_lt_of_le hb hV.size)) name.data.toList
        rwa [strOf_back] at this
       have HB0 : Hid (Below X.heap.size X X.drew) := Lib.hid (Below.refl _ _).drew
       have HBX := Lib.hid (HB2.out.trans (hbX.mono HB2.out.size))
       have hlt : w2.heap.size < X.heap.size := by rw [hX]; simp
       have HLT := Lib.hid hlt
       clear hX hbX hinX HD HB2 hlt
       generalize findI ds name.data.toList = r at HF1 HF2
       have hp0 : X.drew.cell? ⟨w2.heap.size, 0, none⟩ = some (.slice A n m) := hp1
       go_region_held3 (fun w' => w'.cell? ⟨w2.heap.size, 0, none⟩ = some (.slice A n m)) (first | exact hp0 | with_reducible exact hpa | with_reducible exact hpb | go_keep)
        (first
          | (go_at_call 10; refine (HF1.out _ (by first | with_reducible exact HBb.out | with_reducible exact HB0.out)).mono ?_; rintro e wa ⟨rfl, hba⟩; have HBa : Hid (Below X.heap.size X wa) := Lib.hid (by first | exact HBb.out.trans (hba.mono HBb.out.size) | exact HB0.out.trans (hba.mono HB0.out.size)); have hpa : wa.cell? ⟨w2.heap.size, 0, none⟩ = some (.slice A n m) := (HBa.out.cell (p := ⟨w2.heap.size, 0, none⟩) HLT.out).trans hp1; clear hba)
          | (go_at_call 11; refine (HF2.out _ (by first | with_reducible exact HBa.out | with_reducible exact HB0.out)).mono ?_; rintro e wb ⟨rfl, hbb⟩; have HBb : Hid (Below X.heap.size X wb) := Lib.hid (by first | exact HBa.out.trans (hbb.mono HBa.out.size) | exact HB0.out.trans (hbb.mono HB0.out.size)); have hpb : wb.cell? ⟨w2.heap.size, 0, none⟩ = some (.slice A n m) := (HBb.out.cell (p := ⟨w2.heap.size, 0, none⟩) HLT.out).trans hp1; clear hbb))
       all_goals
        go_wp2
        go_ret
        first
         | exact ⟨by simp, HBX.out.trans (HBa.out.mono HBX.out.size)⟩
         | exact ⟨by simp, HBX.out.trans (HBb.out.mono HBX.out.size)⟩
     · have hc0 : (((c : Nat) : Int) == 0) = false := by simp; omega
       go_wp2
       go_quiet (fail)
       go_wp2
       go_ret
       have h := HB2.out.alloc HB2.out.size (.cells #[.slice A n m] 25)
       exact ⟨rfl, ⟨h.os, h.tape, h.output, h.size, h.block⟩⟩

section
open Go Go.ChangeShapes Go.WideShapes Go.ChangeAt Go.ChangeMaps Go.RowKit

set_option maxRecDepth 100000 in
theorem scopeFinds_lifted (os : Os) (started : os.Started) (H : Type) (enc : TypeId × Value → H) :
  ReturnsInHanded {} Tryz.checked os 3 .any (fun w args => (Rows.scopeFindsSpec.pre enc Tryz.prog Tryz.f3 Rows.scopeFindsRow.domain false w args ∧ laidMetH Tryz.prog laidL w) ∧ sizedMet enc Tryz.prog Tryz.f3 (OpenSpec.ofChange Rows.scopeFindsSpec) false w args)
   (Rows.scopeFindsSpec.post enc Tryz.prog Tryz.f3 false true false false) := by
 refine returnsInHanded_of_change_and (C := Tryz.checked) (X := fun w _ => laidMetH Tryz.prog laidL w) (fun _ _ _ hh h => h.of_heap hh) ownKnob_none started (by kernel_rfl) Tryz.func3
  (ChangeSpec.witness_shaped (enc := enc) (C := Tryz.checked) (os := os) (X := fun w _ => laidMetH Tryz.prog laidL w) false (World.doorLaid Tryz.prog 200 os) #[.string ⟨#[]⟩, .string ⟨#[]⟩] 8 rfl (World.shaped_of_RefB (by kernel_rfl) (by kernel_rfl)) (by kernel_rfl) (by kernel_rfl) (by kernel_rfl) (door_met os _)) ?_
 intro W base args ds gs before hval0 hW _ hwt hL _
 have hval : ∀ (j : Nat) t v, Tryz.f3.params[j]? = some t → args[j]? = some v → Value.okWide Tryz.prog W .any base t v := hval0
 have hW' := hW
 obtain ⟨p, q, hA0, hV, rfl, _, _⟩ := hW
 have hA : DataW.TrodAll enc Tryz.prog W 0 (fun _ => true) true Tryz.f3.params.toList args.toList ds p := hA0
 rw [Tryz.params3] at hA hval
 obtain ⟨v0, vs0, d0, ds0, p0, q0, hargs, rfl, rfl, h0, r0⟩ := trodAll_cons hA
 obtain ⟨v1, vs1, d1, ds1, p1, q1, rfl, rfl, rfl, h1, r1⟩ := trodAll_cons r0
 obtain ⟨rfl, rfl, rfl⟩ := trodAll_nil r1
 obtain rfl : args = #[v0, v1] := by cases args; simp_all
 obtain ⟨rfl, rfl⟩ := trodVars_none hV
 obtain ⟨x0, rfl, rfl, rfl, w0⟩ := open_string Tryz.underlying9 (hval 0 9 v0 rfl rfl) h0
 obtain ⟨x1, rfl, rfl, rfl, w1⟩ := open_string Tryz.underlying9 (hval 1 9 v1 rfl rfl) h1
 clear hA0 hval0
 simp only [List.append_nil] at hW'
 have hlt := fun x hx => hW'.lt x hx
 refine (scopeFinds_walk W x0 x1).mono fun e W' ⟨he, hb⟩ => ?_
 subst he
 exact ⟨_, rfl, _, _, _, [], _, [], hW', trodAll_mk1 (shut_true _), (trodAll_cons_mk (shut_string Tryz.underlying9 w0) (trodAll_cons_mk (shut_string Tryz.underlying9 w1) trodAll_mk0)), rfl, hb.frame _, fun h => by cases h⟩

theorem scopeFinds_holds : Rows.ScopeFindsSaid :=
 OpenClaim.holds_of_wide 3 Tryz.f3 rfl rfl rfl rfl rfl rfl rfl ⟨rfl, rfl, rfl, rfl, rfl⟩ rfl rfl rfl rfl rfl (by kernel_rfl) Tryz.func3 (by kernel_rfl)
  (of_decide_eq_true (by kernel_rfl)) (by unfold Func.isWrapper; first | (rw [if_pos (by decide +kernel)]; kernel_rfl) | (rw [if_neg (by decide +kernel)]; exact ⟨rfl, rfl⟩))
  (fun os started H enc _ => scopeFinds_lifted os started H enc)

theorem scopeFinds_card_holds : Rows.ScopeFindsCardSaid :=
 Claim7.holds_tied_plain_at .later [] [.data, .data, .data, .sentinel, .sentinel] true (true, "4fa5311912544140f9e0d2c0f06d37679f36473bef35ee7646ff926e7b112b0c") true
  scopeFinds_holds (fun _ h => by cases h) (by kernel_rfl) (fun _ h => by cases h) scopeFinds_row_tie rfl ⟨rfl, rfl⟩ (by kernel_rfl) rfl
  (fun f fn hf hfn => by
    obtain rfl : f = 3 := Option.some.inj ((show Tryz.prog.funcNamed "portcullis/portcullislaw06.ScopeFinds" = some 3 by kernel_rfl).symm.trans hf) |>.symm
    obtain rfl : fn = Tryz.f3 := (Option.some.inj (Tryz.func3.symm.trans hfn)).symm
    exact ⟨by kernel_rfl, fun j t ht => by
     rw [Tryz.params3] at ht
     have hm : t ∈ [9, 9] := by simpa using Array.mem_of_getElem? ht
     have hall : ([9, 9].all fun u => !Tryz.prog.wantsStandIn u) = true := by kernel_rfl
     exact (show Tryz.prog.wantsStandIn t = false by simpa using List.all_eq_true.1 hall t hm)⟩)
  (by kernel_rfl)
end

end Go.Proofs.YtbckeljbpknbdaaGreatDoor
