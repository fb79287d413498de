/- Package code: how many words, how many operations. -/
import Derived.Test.YtgohnlcgidmlfaaDoorMec
set_option linter.unusedVariables false
set_option linter.unusedSimpArgs false
namespace Go.Proofs.YtgohnlcgidmlfaaDoor
open Go.RowKit

def sumS : List Sz → Int
  | [] => 0
  | s :: ss => s.size + sumS ss
def sumC : List Fn → Int
  | [] => 0
  | f :: fs => (f.code.length : Int) + sumC fs
theorem sumS_bound : ∀ (xs : List Sz), (∀ s ∈ xs, 0 ≤ s.size ∧ s.size ≤ 2) → 0 ≤ sumS xs ∧ sumS xs ≤ 2 * (xs.length : Int)
  | [], _ => by simp [sumS]
  | s :: ss, h => by
    have h1 := h s (by simp)
    have h2 := sumS_bound ss (fun x hx => h x (by simp [hx]))
    rw [sumS, List.length_cons]; omega
theorem sumC_bound : ∀ (xs : List Fn), (∀ s ∈ xs, s.code.length ≤ 140737488355328) → 0 ≤ sumC xs ∧ sumC xs ≤ 140737488355328 * (xs.length : Int)
  | [], _ => by simp [sumC]
  | s :: ss, h => by
    have h1 := h s (by simp)
    have h2 := sumC_bound ss (fun x hx => h x (by simp [hx]))
    rw [sumC, List.length_cons]; omega
theorem Lies.codes {w : World} {S : Nat → Prop} {xs : List Fn} {v : Value} (h : Lies KF w S xs v) : ∀ f ∈ xs, f.code.length ≤ 140737488355328 := by
  intro f hf
  obtain ⟨A, c, rfl, _⟩ := h.form
  obtain ⟨k, hk, rfl⟩ := List.getElem_of_mem hf
  obtain ⟨_, _, _, _, _, _, h1, _⟩ := h.fn k hk
  obtain ⟨_, _, _, _, h2⟩ := h1.form
  exact h2

set_option maxHeartbeats 1000000 in
set_option maxRecDepth 100000 in
theorem words_any {w : World} {m : Mo} {v : Vm} (h : IsMo w (· < w.heap.size) m v) (hs : ∀ s ∈ m.globals, 0 ≤ s.size ∧ s.size ≤ 2) (hn : m.globals.length ≤ 16) :
    Calls Tryd.prog 32 #[.agg v.arr] w fun e w' => e = .returned (.int .i64 (sumS m.globals)) ∧ Below w.heap.size w w' := by
  obtain ⟨X, hX⟩ : ∃ X : World, X = w.alloc (.cells #[v.g, v.s, v.c, v.l, v.i, v.o, v.h, v.f, v.t] 27) := ⟨_, rfl⟩
  have hxb : Below w.heap.size w X := by rw [hX]; exact (Below.refl _ w).alloc (Nat.le_refl _) _
  obtain ⟨A, c, ev, hc, hM⟩ := h.g.form
  obtain ⟨ns, hns⟩ : ∃ ns, ns = m.globals.length := ⟨_, rfl⟩
  have hl := h.g
  rw [ev] at hl
  rw [← hns] at ev hc hM hl
  have hx0 : X.cell? ⟨w.heap.size, 0, none⟩ = some (.slice A ns c) := by
    have h1 : MoBlk X w.heap.size v := by rw [hX]; exact MoBlk.grow
    rw [← ev]
    exact h1.cell 0
  have HX := Lib.hid hX
  have HXB := Lib.hid hxb
  have HL := Lib.hid hl
  have HNS := Lib.hid hns
  have HS := Lib.hid (show (∀ j, 0 ≤ sumS (m.globals.drop j)) ∧ sumS m.globals ≤ 32 from ⟨fun j => (sumS_bound _ (fun s hq => hs s (List.drop_subset _ _ hq))).1, by have := (sumS_bound _ hs).2; omega⟩)
  rw [hX] at hx0
  simp only [Vm.arr]
  have HHS := Lib.hid hs
  clear hX hxb hl hns ev h hs
  go_enter Tryd.func32, Tryd.ntmps32
  go_wp2
  rw [← HX.out]
  clear hx0
  go_loopw [3, 9] (fun u i wr => ∃ (j : Nat) (nn : Int), j ≤ ns ∧ i = .int .i64 j ∧ u = .int .i64 nn ∧ Hid (nn + sumS (m.globals.drop j) = sumS m.globals) ∧ 0 ≤ nn ∧ Hid (Below w.heap.size w wr)) (fun _ i _ => ns - (intOf i).toNat)
  case atStart => exact ⟨0, 0, Nat.zero_le _, rfl, rfl, Lib.hid (by simp), by omega, HXB⟩
  case round =>
    obtain ⟨wo, rfl⟩ : ∃ wo : World, wo = wr := ⟨_, rfl⟩
    obtain ⟨j, nn, hj, rfl, rfl, HSU, hn0, HBL⟩ := hrel
    by_cases hlt : j < ns
    · have hje : j < m.globals.length := by rw [← HNS.out]; exact hlt
      obtain ⟨b, off, rfl, hbS, r0, r1, -, hin⟩ := HL.out.sized j hje
      have k0 := (HBL.out.cell (p := ⟨b, off + j * 2, none⟩) hbS).trans r0
      have k1 := (HBL.out.cell (p := ⟨b, off + j * 2 + 1, none⟩) hbS).trans r1
      clear r0 r1
      have hsu := HSU.out
      rw [drop_at hje, sumS] at hsu
      have hr := HS.out.1 (j + 1)
      have hr2 := HS.out.2
      have hsz := HHS.out _ (List.getElem_mem hje)
      obtain ⟨Y, hY⟩ : ∃ Y, Y = m.globals[j] := ⟨_, rfl⟩
      rw [← hY] at k0 k1 hsu hsz hin
      clear hY
      have x1 := IntWalk.i64_in (nn + Y.size) (by omega)
      have HSU2 : Hid (nn + Y.size + sumS (m.globals.drop (j + 1)) = sumS m.globals) := Lib.hid (by omega)
      have HN2 : Hid (0 ≤ nn + Y.size) := Lib.hid (by omega)
      clear hsu hr hr2
      go_wp2
      go_roundw
      case rel => exact ⟨j + 1, _, by omega, by go_num, rfl, HSU2, HN2.out, Lib.hid (HBL.out.alloc HBL.out.size _)⟩
      case measure => simp [intOf]; omega
    · have HE : Hid (nn = sumS m.globals) := Lib.hid (by
        have := HSU.out
        rw [List.drop_of_length_le (by rw [← HNS.out]; omega), sumS] at this
        omega)
      go_wp2
      go_ret
      exact ⟨rint HE.out, HBL.out⟩

set_option maxHeartbeats 1000000 in
set_option maxRecDepth 100000 in
theorem size_any {w : World} {m : Mo} {v : Vm} (h : IsMo w (· < w.heap.size) m v) (hn : m.funcs.length ≤ 12) :
    Calls Tryd.prog 34 #[.agg v.arr] w fun e w' => e = .returned (.int .i64 (sumC m.funcs)) ∧ Below w.heap.size w w' := by
  obtain ⟨X, hX⟩ : ∃ X : World, X = w.alloc (.cells #[v.g, v.s, v.c, v.l, v.i, v.o, v.h, v.f, v.t] 27) := ⟨_, rfl⟩
  have hxb : Below w.heap.size w X := by rw [hX]; exact (Below.refl _ w).alloc (Nat.le_refl _) _
  obtain ⟨A, c, ev, hc, hM⟩ := h.f.form
  obtain ⟨ns, hns⟩ : ∃ ns, ns = m.funcs.length := ⟨_, rfl⟩
  have hl := h.f
  rw [ev] at hl
  rw [← hns] at ev hc hM hl
  have hx0 : X.cell? ⟨w.heap.size, 7, none⟩ = some (.slice A ns c) := by
    have h1 : MoBlk X w.heap.size v := by rw [hX]; exact MoBlk.grow
    rw [← ev]
    exact h1.cell 7
  have HX := Lib.hid hX
  have HXB := Lib.hid hxb
  have HL := Lib.hid hl
  have HNS := Lib.hid hns
  have HS := Lib.hid (show (∀ j, 0 ≤ sumC (m.funcs.drop j)) ∧ sumC m.funcs ≤ 1688849860263936 from ⟨fun j => (sumC_bound _ (fun s hq => h.f.codes s (List.drop_subset _ _ hq))).1, by have := (sumC_bound _ h.f.codes).2; omega⟩)
  rw [hX] at hx0
  simp only [Vm.arr]
  clear hX hxb hl hns ev h
  go_enter Tryd.func34, Tryd.ntmps34
  go_wp2
  rw [← HX.out]
  clear hx0
  go_loopw [3, 9] (fun u i wr => ∃ (j : Nat) (nn : Int), j ≤ ns ∧ i = .int .i64 j ∧ u = .int .i64 nn ∧ Hid (nn + sumC (m.funcs.drop j) = sumC m.funcs) ∧ 0 ≤ nn ∧ Hid (Below w.heap.size w wr)) (fun _ i _ => ns - (intOf i).toNat)
  case atStart => exact ⟨0, 0, Nat.zero_le _, rfl, rfl, Lib.hid (by simp), by omega, HXB⟩
  case round =>
    obtain ⟨wo, rfl⟩ : ∃ wo : World, wo = wr := ⟨_, rfl⟩
    obtain ⟨j, nn, hj, rfl, rfl, HSU, hn0, HBL⟩ := hrel
    by_cases hlt : j < ns
    · have hje : j < m.funcs.length := by rw [← HNS.out]; exact hlt
      obtain ⟨b, off, u, rfl, hbS, hat, hco, -⟩ := HL.out.fn j hje
      obtain ⟨k0, k1, k2, k3, k4⟩ := hat.keep (HBL.out.block b hbS)
      obtain ⟨Au, cu, rfl, -, hlu⟩ := hco.form
      obtain ⟨nu, hnu⟩ : ∃ n, n = m.funcs[j].code.length := ⟨_, rfl⟩
      rw [← hnu] at k4 hlu
      have hsu := HSU.out
      rw [drop_at hje, sumC] at hsu
      have hr := HS.out.1 (j + 1)
      have hr2 := HS.out.2
      rw [← hnu] at hsu
      clear hat hco hnu
      have x1 := IntWalk.i64_in (nn + (nu : Int)) (by omega)
      have HSU2 : Hid (nn + (nu : Int) + sumC (m.funcs.drop (j + 1)) = sumC m.funcs) := Lib.hid (by omega)
      have HN2 : Hid (0 ≤ nn + (nu : Int)) := Lib.hid (by omega)
      clear hsu hr hr2
      go_wp2
      go_roundw
      case rel => exact ⟨j + 1, _, by omega, by go_num, rfl, HSU2, HN2.out, Lib.hid (HBL.out.alloc HBL.out.size _)⟩
      case measure => simp [intOf]; omega
    · have HE : Hid (nn = sumC m.funcs) := Lib.hid (by
        have := HSU.out
        rw [List.drop_of_length_le (by rw [← HNS.out]; omega), sumC] at this
        omega)
      go_wp2
      go_ret
      exact ⟨rint HE.out, HBL.out⟩

end Go.Proofs.YtgohnlcgidmlfaaDoor
