/- Two lists that are the same: told so. -/
import Derived.Test.YtadkimnpeachpaaGreatDoorPma
import Derived.Test.YtadkimnpeachpaaGreatDoorDn
set_option linter.unusedVariables false
set_option linter.unusedSimpArgs false
namespace Go.Proofs.YtadkimnpeachpaaGreatDoor
open Go.RowKit

set_option maxRecDepth 100000 in
theorem sameInts_at {w : World} {S S' : Nat → Prop} {xs : List Int} {v v' : Value} (h : Lies KI w S xs v) (h' : Lies KI w S' xs v') :
    Calls Tryz.prog 19 #[v, v'] w fun e w' => e = .returned (.bool true) ∧ Drawn w w' := by
  obtain ⟨A, c, rfl, hc, hM⟩ := h.form
  obtain ⟨A', c', rfl, hc', -⟩ := h'.form
  obtain ⟨ns, hns⟩ : ∃ ns, ns = xs.length := ⟨_, rfl⟩
  rw [← hns] at hc hc' hM h h' ⊢
  have HX := Lib.hid h
  have HX' := Lib.hid h'
  have HNS := Lib.hid hns
  clear hns h h'
  go_enter Tryz.func19, Tryz.ntmps19
  go_wp2
  go_loopw [5] (fun i wr => ∃ k : Nat, k ≤ ns ∧ i = .int .i64 k ∧ Hid (Drawn w wr)) (fun i _ => ns - (intOf i).toNat)
  case atStart => exact ⟨0, Nat.zero_le _, rfl, Lib.hid (Drawn.refl w)⟩
  case round =>
    obtain ⟨wo, rfl⟩ : ∃ wo : World, wo = wr := ⟨_, rfl⟩
    obtain ⟨k, hk, rfl, HQ⟩ := hrel
    by_cases hlt : k < ns
    · have hke : k < xs.length := by rw [← HNS.out]; exact hlt
      obtain ⟨b, off, rfl, -, r0, -⟩ := HX.out.int k hke
      obtain ⟨b', off', rfl, -, r0', -⟩ := HX'.out.int k hke
      obtain ⟨x, hx⟩ : ∃ x, x = xs[k] := ⟨_, rfl⟩
      rw [← hx] at r0 r0'
      have k0 := (HQ.out.cell _).trans r0
      have k0' := (HQ.out.cell _).trans r0'
      clear hx r0 r0'
      clear HX HX'
      go_wp2
      go_quiet (fail)
      generalize hwq : wo.drewN _ = wq
      have HQ2 := Lib.hid (show Drawn w wq from hwq ▸ HQ.out.more _)
      clear hwq
      go_wp2
      go_roundw
      case rel => exact ⟨k + 1, by omega, by go_num, HQ2⟩
      case measure => simp [intOf]; omega
    · clear HX HX'
      go_wp2
      go_ret
      exact ⟨rfl, HQ.out⟩

set_option maxRecDepth 100000 in
theorem sameTexts_at {w : World} {S S' : Nat → Prop} {xs : List (List UInt8)} {v v' : Value} (h : Lies KT w S xs v) (h' : Lies KT w S' xs v') :
    Calls Tryz.prog 14 #[v, v'] w fun e w' => e = .returned (.bool true) ∧ Drawn w w' := by
  obtain ⟨A, c, rfl, hc, hM⟩ := h.form
  obtain ⟨A', c', rfl, hc', -⟩ := h'.form
  obtain ⟨ns, hns⟩ : ∃ ns, ns = xs.length := ⟨_, rfl⟩
  rw [← hns] at hc hc' hM h h' ⊢
  have HX := Lib.hid h
  have HX' := Lib.hid h'
  have HNS := Lib.hid hns
  clear hns h h'
  go_enter Tryz.func14, Tryz.ntmps14
  go_wp2
  go_loopw [5] (fun i wr => ∃ k : Nat, k ≤ ns ∧ i = .int .i64 k ∧ Hid (Drawn w wr)) (fun i _ => ns - (intOf i).toNat)
  case atStart => exact ⟨0, Nat.zero_le _, rfl, Lib.hid (Drawn.refl w)⟩
  case round =>
    obtain ⟨wo, rfl⟩ : ∃ wo : World, wo = wr := ⟨_, rfl⟩
    obtain ⟨k, hk, rfl, HQ⟩ := hrel
    by_cases hlt : k < ns
    · have hke : k < xs.length := by rw [← HNS.out]; exact hlt
      obtain ⟨b, off, rfl, -, r0, -⟩ := HX.out.text k hke
      obtain ⟨b', off', rfl, -, r0', -⟩ := HX'.out.text k hke
      obtain ⟨x, hx⟩ : ∃ x, x = bs xs[k] := ⟨_, rfl⟩
      rw [← hx] at r0 r0'
      have k0 := (HQ.out.cell _).trans r0
      have k0' := (HQ.out.cell _).trans r0'
      clear hx r0 r0'
      clear HX HX'
      go_wp2
      go_quiet (fail)
      generalize hwq : wo.drewN _ = wq
      have HQ2 := Lib.hid (show Drawn w wq from hwq ▸ HQ.out.more _)
      clear hwq
      go_wp2
      go_roundw
      case rel => exact ⟨k + 1, by omega, by go_num, HQ2⟩
      case measure => simp [intOf]; omega
    · clear HX HX'
      go_wp2
      go_ret
      exact ⟨rfl, HQ.out⟩

end Go.Proofs.YtadkimnpeachpaaGreatDoor
