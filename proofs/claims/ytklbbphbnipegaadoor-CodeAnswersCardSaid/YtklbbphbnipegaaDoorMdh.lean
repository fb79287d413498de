/- Two lists that are the same: told so. -/
import Derived.Test.YtklbbphbnipegaaDoorMde
import Derived.Test.YtklbbphbnipegaaDoorDn
set_option linter.unusedVariables false
set_option linter.unusedSimpArgs false
namespace Go.Proofs.YtklbbphbnipegaaDoor
open Go.RowKit

set_option maxRecDepth 100000 in
theorem sameInts_at {w : World} {S S' : Nat → Prop} {xs : List Int} {v v' : Value} (h : Lies KI w S xs v) (h' : Lies KI w S' xs v') :
    Calls Tryd.prog 37 #[v, v'] w fun e w' => e = .returned (.bool true) ∧ Drawn w w' := by
  obtain ⟨A, c, rfl, hc, hM⟩ := h.form
  obtain ⟨A', c', rfl, hc', -⟩ := h'.form
  obtain ⟨ns, hns⟩ : ∃ ns, ns = xs.length := ⟨_, rfl⟩
  rw [← hns] at hc hc' hM h h' ⊢
  have HX := Lib.hid h
  have HX' := Lib.hid h'
  have HNS := Lib.hid hns
  clear hns h h'
  go_enter Tryd.func37, Tryd.ntmps37
  go_wp2
  go_loopw [5] (fun i wr => ∃ k : Nat, k ≤ ns ∧ i = .int .i64 k ∧ Hid (Drawn w wr)) (fun i _ => ns - (intOf i).toNat)
  case atStart => exact ⟨0, Nat.zero_le _, rfl, Lib.hid (Drawn.refl w)⟩
  case round =>
    obtain ⟨wo, rfl⟩ : ∃ wo : World, wo = wr := ⟨_, rfl⟩
    obtain ⟨k, hk, rfl, HQ⟩ := hrel
    by_cases hlt : k < ns
    · have hke : k < xs.length := by rw [← HNS.out]; exact hlt
      obtain ⟨b, off, rfl, -, r0, -⟩ := HX.out.int k hke
      obtain ⟨b', off', rfl, -, r0', -⟩ := HX'.out.int k hke
      obtain ⟨x, hx⟩ : ∃ x, x = xs[k] := ⟨_, rfl⟩
      rw [← hx] at r0 r0'
      have k0 := (HQ.out.cell _).trans r0
      have k0' := (HQ.out.cell _).trans r0'
      clear hx r0 r0'
      clear HX HX'
      go_wp2
      go_quiet (fail)
      generalize hwq : wo.drewN _ = wq
      have HQ2 := Lib.hid (show Drawn w wq from hwq ▸ HQ.out.more _)
      clear hwq
      go_wp2
      go_roundw
      case rel => exact ⟨k + 1, by omega, by go_num, HQ2⟩
      case measure => simp [intOf]; omega
    · clear HX HX'
      go_wp2
      go_ret
      exact ⟨rfl, HQ.out⟩

set_option maxRecDepth 100000 in
theorem sameTexts_at {w : World} {S S' : Nat → Prop} {xs : List (List UInt8)} {v v' : Value} (h : Lies KT w S xs v) (h' : Lies KT w S' xs v') :
    Calls Tryd.prog 36 #[v, v'] w fun e w' => e = .returned (.bool true) ∧ Drawn w w' := by
  obtain ⟨A, c, rfl, hc, hM⟩ := h.form
  obtain ⟨A', c', rfl, hc', -⟩ := h'.form
  obtain ⟨ns, hns⟩ : ∃ ns, ns = xs.length := ⟨_, rfl⟩
  rw [← hns] at hc hc' hM h h' ⊢
  have HX := Lib.hid h
  have HX' := Lib.hid h'
  have HNS := Lib.hid hns
  clear hns h h'
  go_enter Tryd.func36, Tryd.ntmps36
  go_wp2
  go_loopw [5] (fun i wr => ∃ k : Nat, k ≤ ns ∧ i = .int .i64 k ∧ Hid (Drawn w wr)) (fun i _ => ns - (intOf i).toNat)
  case atStart => exact ⟨0, Nat.zero_le _, rfl, Lib.hid (Drawn.refl w)⟩
  case round =>
    obtain ⟨wo, rfl⟩ : ∃ wo : World, wo = wr := ⟨_, rfl⟩
    obtain ⟨k, hk, rfl, HQ⟩ := hrel
    by_cases hlt : k < ns
    · have hke : k < xs.length := by rw [← HNS.out]; exact hlt
      obtain ⟨b, off, rfl, -, r0, -⟩ := HX.out.text k hke
      obtain ⟨b', off', rfl, -, r0', -⟩ := HX'.out.text k hke
      obtain ⟨x, hx⟩ : ∃ x, x = bs xs[k] := ⟨_, rfl⟩
      rw [← hx] at r0 r0'
      have k0 := (HQ.out.cell _).trans r0
      have k0' := (HQ.out.cell _).trans r0'
      clear hx r0 r0'
      clear HX HX'
      go_wp2
      go_quiet (fail)
      generalize hwq : wo.drewN _ = wq
      have HQ2 := Lib.hid (show Drawn w wq from hwq ▸ HQ.out.more _)
      clear hwq
      go_wp2
      go_roundw
      case rel => exact ⟨k + 1, by omega, by go_num, HQ2⟩
      case measure => simp [intOf]; omega
    · clear HX HX'
      go_wp2
      go_ret
      exact ⟨rfl, HQ.out⟩

set_option maxRecDepth 100000 in
theorem sameSized_at {w : World} {S S' : Nat → Prop} {xs : List Sz} {v v' : Value} (h : Lies KS w S xs v) (h' : Lies KS w S' xs v') :
    Calls Tryd.prog 35 #[v, v'] w fun e w' => e = .returned (.bool true) ∧ Drawn w w' := by
  obtain ⟨A, c, rfl, hc, hM⟩ := h.form
  obtain ⟨A', c', rfl, hc', -⟩ := h'.form
  obtain ⟨ns, hns⟩ : ∃ ns, ns = xs.length := ⟨_, rfl⟩
  rw [← hns] at hc hc' hM h h' ⊢
  have HX := Lib.hid h
  have HX' := Lib.hid h'
  have HNS := Lib.hid hns
  clear hns h h'
  go_enter Tryd.func35, Tryd.ntmps35
  go_wp2
  go_loopw [5] (fun i wr => ∃ k : Nat, k ≤ ns ∧ i = .int .i64 k ∧ Hid (Drawn w wr)) (fun i _ => ns - (intOf i).toNat)
  case atStart => exact ⟨0, Nat.zero_le _, rfl, Lib.hid (Drawn.refl w)⟩
  case round =>
    obtain ⟨wo, rfl⟩ : ∃ wo : World, wo = wr := ⟨_, rfl⟩
    obtain ⟨k, hk, rfl, HQ⟩ := hrel
    by_cases hlt : k < ns
    · have hke : k < xs.length := by rw [← HNS.out]; exact hlt
      obtain ⟨b, off, rfl, -, r0, r1, -, -⟩ := HX.out.sized k hke
      obtain ⟨b', off', rfl, -, r0', r1', -, -⟩ := HX'.out.sized k hke
      obtain ⟨x, hx⟩ : ∃ x, x = bs xs[k].name := ⟨_, rfl⟩
      obtain ⟨y, hy⟩ : ∃ x, x = xs[k].size := ⟨_, rfl⟩
      rw [← hx] at r0 r0'
      rw [← hy] at r1 r1'
      have k0 := (HQ.out.cell _).trans r0
      have k0' := (HQ.out.cell _).trans r0'
      have k1 := (HQ.out.cell _).trans r1
      have k1' := (HQ.out.cell _).trans r1'
      clear hx hy r0 r0' r1 r1'
      clear HX HX'
      go_wp2
      go_quiet (fail)
      generalize hwq : wo.drewN _ = wq
      have HQ2 := Lib.hid (show Drawn w wq from hwq ▸ HQ.out.more _)
      clear hwq
      go_wp2
      go_roundw
      case rel => exact ⟨k + 1, by omega, by go_num, HQ2⟩
      case measure => simp [intOf]; omega
    · clear HX HX'
      go_wp2
      go_ret
      exact ⟨rfl, HQ.out⟩

end Go.Proofs.YtklbbphbnipegaaDoor
