/- Fz -/
import Derived.Test.YtbckeljbpknbdaaGreatDoorVb9
set_option linter.unusedVariables false
set_option linter.unusedSimpArgs false
namespace Go.Proofs.YtbckeljbpknbdaaGreatDoor
open Go.RowKit
def DcPost (T : TypeId) (w Y Z : World) (B R L lo G C : Nat) (xs : List Dc) (x : Rd Dc) (e : Ending) (w' : World) : Prop := (match x with
 | .bad p c => e = Xag p c ∧ Chg (fun b => b = R) w w'
 | .ok a r => e = .returned (.tuple #[]) ∧ ∃ A n c, LRow T w Y B R lo G C w' (.slice A n c) ∧ RdAt w' B R L r ∧ Xbu w' lo (.slice A n c) (xs ++ [a])) ∧ Z.heap.size ≤ w'.heap.size
set_option maxRecDepth 100000 in
set_option maxHeartbeats 4000000 in
theorem epdecl {w Y Z0 : World} {B R L lo G C : Nat} {v : Value} {xs : List Dc} {us0 : List Tok} (h : LRow 25 w Y B R lo G C Z0 v) (hr : RdAt Z0 B R L us0) (hown : Xbu Z0 lo v xs) (hxs : xs.length ≤ 5000)
  (hDC : ∀ (w : World) (us : List Tok) (x : Nat), RdAt w B R L us → B ≤ w.heap.size → Calls Tryz.prog 31 #[.pointer (some ⟨R, 0, none⟩), .int .i64 (x : Nat)] w (Xaj (DcB w.heap.size) w B R L (Xbx L x us))) :
  Calls Tryz.prog 30 #[.int .i64 (xs.length : Nat), .pointer (some ⟨C, 0, none⟩), .pointer (some ⟨G, 0, none⟩)] Z0 (DcPost 25 w Y Z0 B R L lo G C xs (Xbx L xs.length us0)) := by
 have hsl : ∃ A c, v = .slice A xs.length c := Xbu.slice hown
 obtain ⟨A0, c0, hv⟩ := hsl
 subst hv
 obtain ⟨k, hk⟩ : ∃ k, k = xs.length := ⟨_, rfl⟩
 rw [← hk] at h hown hxs ⊢
 have HK := lh hk
 obtain ⟨Tm, hTm⟩ : ∃ T, T = Xbx L k us0 := ⟨_, rfl⟩
 rw [← hTm]
 have HM := lh hTm
 clear hTm
 have HDC := lh hDC
 clear hk hDC
 have hlk : (k : Int) ≤ 5000 := by omega
 have hlk0 : (0 : Int) ≤ k := by omega
 have HF0 := lh h
 have HR0 := lh hr
 have HOW0 := lh hown
 have HSZ0 : Hid (B ≤ Z0.heap.size) := lh (by have := h.sz; have := h.hC; have := h.hB; omega)
 obtain ⟨q0, q1, -⟩ := h.cells
 clear h hr hown
 go_enter Tryz.func30, Tryz.ntmps30
 go_wp2_with fail
 refine wp_region_held_drew (S := fun W => W.cell? ⟨G, 0, none⟩ = some (.pointer (some ⟨R, 0, none⟩))) (by kernel_rfl) q0 (fun hHeld => ?_)
 have p0 : Z0.drew.cell? ⟨G, 0, none⟩ = some (.pointer (some ⟨R, 0, none⟩)) := q0
 have q4 : Z0.drew.cell? ⟨C, 0, none⟩ = some (.slice A0 k c0) := q1
 refine wpAnyH_take (i := 0) (oi := _) (v := .pointer (some ⟨C, 0, none⟩)) rfl (by kernel_rfl) (by kernel_rfl) (by kernel_rfl) (fun _ _ _ h => h) (Or.inl ⟨by rfl, fun W hS => ?_⟩) hHeld ?_
 · go_simp
 simp only [Act.put]
 refine wpAnyH_take (i := 2) (oi := _) (v := .pointer (some ⟨R, 0, none⟩)) rfl (by kernel_rfl) (by kernel_rfl) (by kernel_rfl) (fun _ _ _ h => h) (Or.inl ⟨by rfl, fun W hS => ?_⟩) hHeld ?_
 · go_simp
 simp only [Act.put]
 refine wpAnyH_take (i := 3) (oi := _) (v := .int .i64 (k : Nat)) rfl (by kernel_rfl) (by kernel_rfl) (by kernel_rfl) (fun _ _ _ h => h) (Or.inl ⟨by rfl, fun W hS => ?_⟩) hHeld ?_
 · go_simp
 simp only [Act.put]
 refine wpAnyH_ready (rs := [1, 4]) (by kernel_rfl) (by simp) ?_
 refine AllReadyH.cons rfl (fun K hK => ?_) (AllReadyH.cons rfl (fun K hK => ?_) AllReadyH.nil)
 ·
  go_simp
  refine hK.out _ _ p0 (fun hHeld => ?_)
  clear hK K
  refine wpAnyH_ready (rs := [4]) (by kernel_rfl) (by simp) ?_
  refine AllReadyH.cons rfl (fun K hK => ?_) AllReadyH.nil
  ·
   go_simp
   refine ((HDC.out Z0.drew us0 k HR0.out.drew (by have := HSZ0.out; exact this))).mono ?_
   rintro e w2 hp
   cases hx : Xbx L k us0 with
   | bad p c =>
     have HM := lh (HM.out.trans hx)
     rw [hx] at hp
     obtain ⟨rfl, hc2⟩ := hp
     have HC2 := lh (HF0.out.chg.up (⟨hc2.os, hc2.tape, hc2.output, hc2.size, hc2.block⟩ : Chg (fun b => b = R) Z0 w2))
     have HSB := lh (show Z0.heap.size ≤ w2.heap.size from hc2.size)
     clear hx hc2
     unfold Xag
     go_wp2
     rw [HM.out]
     exact ⟨rfl, ⟨rfl, HC2.out⟩, (HSB.out)⟩
   | ok a u2 =>
     have HM := lh (HM.out.trans hx)
     rw [hx] at hp
     obtain ⟨⟨v2, rfl, ⟨fp, fb⟩, rfl, hi2⟩, hr2, hc2⟩ := hp
     obtain ⟨A3, d3, he3, -⟩ := id hi2.2.2.1
     obtain ⟨A4, d4, he4, -⟩ := Xay.slice hi2.2.2.2
     obtain ⟨n3, hn3⟩ : ∃ n, n = a.pairs.length := ⟨_, rfl⟩
     obtain ⟨n4, hn4⟩ : ∃ n, n = a.body.length := ⟨_, rfl⟩
     rw [← hn3] at he3
     rw [← hn4] at he4
     dsimp only at he3 he4
     subst he3 he4
     clear hn3 hn4
     obtain ⟨xk, hxk⟩ : ∃ x, x = a.kind := ⟨_, rfl⟩
     obtain ⟨xp, hxp⟩ : ∃ x, x = a.pl := ⟨_, rfl⟩
     obtain ⟨xm, hxm⟩ : ∃ x, x = a.num := ⟨_, rfl⟩
     obtain ⟨nx, hnx⟩ : ∃ x, x = Xab a.name := ⟨_, rfl⟩
     obtain ⟨tx2, htx⟩ : ∃ x, x = Xab a.type := ⟨_, rfl⟩
     rw [← hxk, ← hxp, ← hxm, ← hnx, ← htx]
     have HCE : Hid (Xdq a ⟨.slice A3 n3 d3, .slice A4 n4 d4⟩ = [.int .i64 xk, .int .i64 xp, .int .i64 xm, .string nx, .string tx2, .slice A3 n3 d3, .slice A4 n4 d4]) := lh (by rw [hxk, hxp, hxm, hnx, htx]; rfl)
     have HI2 := lh hi2
     clear hxk hxp hxm hnx htx hi2
     have hcz : Chg (fun b => b = R) Z0 w2 := ⟨hc2.os, hc2.tape, hc2.output, hc2.size, hc2.block⟩
     have HF2 := lh (HF0.out.step hcz)
     have HOW2 := lh (Xbu.keep HOW0.out hcz.size (fun b hb hl => hcz.block b hb (by have := HF0.out.hC; have := HF0.out.hB; have := HF0.out.hR; omega)))
     have HR2 := lh hr2
     have HS2 := lh hcz.size
     clear hx hr2 hc2 hcz p0 q4 hHeld
     obtain ⟨p0, q4, -⟩ := HF2.out.cells
     go_wp2_with fail
     refine hK.out _ _ p0 (fun hHeld => ?_)
     clear hK K
     refine wpAnyH_ready (rs := [5]) (by kernel_rfl) (by simp) ?_
     refine AllReadyH.cons rfl (fun K hK => ?_) AllReadyH.nil
     ·
      go_simp
      have p0 := Xaa (o := (.cells #[.int .i64 xk, .int .i64 xp, .int .i64 xm, .string nx, .string tx2, .slice A3 n3 d3, .slice A4 n4 d4] 46)) p0
      have q4 := Xaa (o := (.cells #[.int .i64 xk, .int .i64 xp, .int .i64 xm, .string nx, .string tx2, .slice A3 n3 d3, .slice A4 n4 d4] 46)) q4
      refine hK.out _ _ p0 (fun hHeld => ?_)
      clear hK K
      refine wpAnyH_ready (rs := [6]) (by kernel_rfl) (by simp) ?_
      refine AllReadyH.cons rfl (fun K hK => ?_) AllReadyH.nil
      refine Xgg rfl _ _ (by rfl) lo (.slice A0 k c0) xs (by rfl) ?ho ⟨w2.heap.size, 0, none⟩ 1 a ⟨.slice A3 n3 d3, .slice A4 n4 d4⟩ (by rfl) ?hn ?hu (by have := HK.out; omega) ?hb ?_
      case hn => rw [HCE.out]; exact Xfv (heap_alloc_new w2 _)
      case hu => exact DcIn.keep HI2.out (fun b hb => Below.heap_alloc _ _ _ hb.2) fun b hb => ⟨by have := hb.1; have := HF0.out.sz; simp at *; omega, by simp; omega, fun e => by have := (HOW0.out.lt e).2; have := hb.1; simp at *; omega⟩
      case ho => exact Xbu.keep HOW2.out (by simp) fun b hb _ => Below.heap_alloc _ _ _ hb
      case hb => have := HF2.out.sz; simp; omega
      intro g3 c3 w3 hown3 hgr hat
      rw [← HK.out] at hown3 ⊢
      have hkl : ∀ b, b < lo → w3.heap[b]? = w2.heap[b]? := fun b hb => (hgr.block b (by have := HF2.out.sz; simp; omega) (fun e => by have := (HOW2.out.lt e.symm).1; omega)).trans (Below.heap_alloc _ _ _ (by have := HF2.out.sz; omega))
      have hs3 : w2.heap.size ≤ w3.heap.size := by have := hgr.size; simp at this; omega
      have hc3 : Chg (fun b => b = R) w w3 := by
       have h9 := HF2.out.chg
       have h8 := HF2.out.hC
       have ho1 : w3.os = w2.os := hgr.os
       have ho2 : w3.tape = w2.tape := hgr.tape
       have ho3 : w3.output = w2.output := hgr.output
       exact ⟨ho1.trans h9.os, ho2.trans h9.tape, ho3.trans h9.output, Nat.le_trans h9.size hs3, fun b hb hn => (hkl b (by omega)).trans (h9.block b hb hn)⟩
      have HF3 := lh (HF2.out.keep (fun b _ hl => hkl b hl) hs3 hc3)
      have HR3 := lh (HR2.out.keep (w' := w3) fun b hb => hkl b (by have := HF2.out.hC; have := HF2.out.hB; omega))
      have HOW3 := lh hown3
      have HS3 := lh (Nat.le_trans HS2.out hs3)
      clear hown3 hgr hat hkl hs3 hc3 p0 q4 hHeld
      obtain ⟨p0, q4, z4⟩ := HF3.out.cells
      refine hK.out _ _ p0 (fun hHeld => ?_)
      clear hK K
      refine wpAnyH_take (i := 7) (oi := _) (v := .pointer (some ⟨C, 0, none⟩)) rfl (by kernel_rfl) (by kernel_rfl) (by kernel_rfl) (fun _ _ _ h => h) (Or.inl ⟨by rfl, fun W hS => ?_⟩) hHeld ?_
      · go_simp
      simp only [Act.put]
      refine wpAnyH_ready (rs := [8]) (by kernel_rfl) (by simp) ?_
      refine AllReadyH.cons rfl (fun K hK => ?_) AllReadyH.nil
      go_simp
      obtain ⟨w4, hw4⟩ : ∃ W, W = w3.setCell ⟨C, 0, none⟩ (.slice (some ⟨g3, 0, none⟩) (k + 1) c3) := ⟨_, rfl⟩
      rw [← hw4]
      have HF4 : Hid (LRow 25 w Y B R lo G C w4 (.slice (some ⟨g3, 0, none⟩) (k + 1) c3)) := lh (by rw [hw4]; exact HF3.out.put _)
      have HR4 : Hid (RdAt w4 B R L u2) := lh (by rw [hw4]; exact HR3.out.setCell _ _ (by show B ≤ C; have := HF3.out.hC; have := HF3.out.hB; omega))
      have HOW4 : Hid (Xbu w4 lo (.slice (some ⟨g3, 0, none⟩) (k + 1) c3) (xs ++ [a])) := lh (by rw [hw4]; exact Xbu.keep HOW3.out (by simp [World.setCell]) fun b hb hl => Below.heap_setCell _ _ _ _ (by show b ≠ C; have := HF3.out.hC; omega))
      have HS4 : Hid (Z0.heap.size ≤ w4.heap.size) := lh (by rw [hw4]; simpa [World.setCell] using HS3.out)
      clear hw4 p0 q4 z4
      obtain ⟨p0, q4, z4⟩ := HF4.out.cells
      refine hK.out _ _ p0 (fun hHeld => ?_)
      clear hK K
      refine wpAnyH_done (by kernel_rfl) ?_ _
      clear hHeld
      go_wp2
      go_end0
      rw [HM.out]
      exact ⟨⟨rfl, _, _, _, HF4.out, HR4.out, HOW4.out⟩, HS4.out⟩
 ·
  go_simp
  refine ((HDC.out Z0.drew us0 k HR0.out.drew (by have := HSZ0.out; exact this))).mono ?_
  rintro e w2 hp
  cases hx : Xbx L k us0 with
  | bad p c =>
    have HM := lh (HM.out.trans hx)
    rw [hx] at hp
    obtain ⟨rfl, hc2⟩ := hp
    have HC2 := lh (HF0.out.chg.up (⟨hc2.os, hc2.tape, hc2.output, hc2.size, hc2.block⟩ : Chg (fun b => b = R) Z0 w2))
    have HSB := lh (show Z0.heap.size ≤ w2.heap.size from hc2.size)
    clear hx hc2
    unfold Xag
    go_wp2
    rw [HM.out]
    exact ⟨rfl, ⟨rfl, HC2.out⟩, (HSB.out)⟩
  | ok a u2 =>
    have HM := lh (HM.out.trans hx)
    rw [hx] at hp
    obtain ⟨⟨v2, rfl, ⟨fp, fb⟩, rfl, hi2⟩, hr2, hc2⟩ := hp
    obtain ⟨A3, d3, he3, -⟩ := id hi2.2.2.1
    obtain ⟨A4, d4, he4, -⟩ := Xay.slice hi2.2.2.2
    obtain ⟨n3, hn3⟩ : ∃ n, n = a.pairs.length := ⟨_, rfl⟩
    obtain ⟨n4, hn4⟩ : ∃ n, n = a.body.length := ⟨_, rfl⟩
    rw [← hn3] at he3
    rw [← hn4] at he4
    dsimp only at he3 he4
    subst he3 he4
    clear hn3 hn4
    obtain ⟨xk, hxk⟩ : ∃ x, x = a.kind := ⟨_, rfl⟩
    obtain ⟨xp, hxp⟩ : ∃ x, x = a.pl := ⟨_, rfl⟩
    obtain ⟨xm, hxm⟩ : ∃ x, x = a.num := ⟨_, rfl⟩
    obtain ⟨nx, hnx⟩ : ∃ x, x = Xab a.name := ⟨_, rfl⟩
    obtain ⟨tx2, htx⟩ : ∃ x, x = Xab a.type := ⟨_, rfl⟩
    rw [← hxk, ← hxp, ← hxm, ← hnx, ← htx]
    have HCE : Hid (Xdq a ⟨.slice A3 n3 d3, .slice A4 n4 d4⟩ = [.int .i64 xk, .int .i64 xp, .int .i64 xm, .string nx, .string tx2, .slice A3 n3 d3, .slice A4 n4 d4]) := lh (by rw [hxk, hxp, hxm, hnx, htx]; rfl)
    have HI2 := lh hi2
    clear hxk hxp hxm hnx htx hi2
    have hcz : Chg (fun b => b = R) Z0 w2 := ⟨hc2.os, hc2.tape, hc2.output, hc2.size, hc2.block⟩
    have HF2 := lh (HF0.out.step hcz)
    have HOW2 := lh (Xbu.keep HOW0.out hcz.size (fun b hb hl => hcz.block b hb (by have := HF0.out.hC; have := HF0.out.hB; have := HF0.out.hR; omega)))
    have HR2 := lh hr2
    have HS2 := lh hcz.size
    clear hx hr2 hc2 hcz p0 q4 hHeld
    obtain ⟨p0, q4, -⟩ := HF2.out.cells
    go_wp2_with fail
    refine hK.out _ _ p0 (fun hHeld => ?_)
    clear hK K
    refine wpAnyH_ready (rs := [1, 5]) (by kernel_rfl) (by simp) ?_
    refine AllReadyH.cons rfl (fun K hK => ?_) (AllReadyH.cons rfl (fun K hK => ?_) AllReadyH.nil)
    ·
     go_simp
     refine hK.out _ _ p0 (fun hHeld => ?_)
     clear hK K
     refine wpAnyH_ready (rs := [5]) (by kernel_rfl) (by simp) ?_
     refine AllReadyH.cons rfl (fun K hK => ?_) AllReadyH.nil
     ·
      go_simp
      have p0 := Xaa (o := (.cells #[.int .i64 xk, .int .i64 xp, .int .i64 xm, .string nx, .string tx2, .slice A3 n3 d3, .slice A4 n4 d4] 46)) p0
      have q4 := Xaa (o := (.cells #[.int .i64 xk, .int .i64 xp, .int .i64 xm, .string nx, .string tx2, .slice A3 n3 d3, .slice A4 n4 d4] 46)) q4
      refine hK.out _ _ p0 (fun hHeld => ?_)
      clear hK K
      refine wpAnyH_ready (rs := [6]) (by kernel_rfl) (by simp) ?_
      refine AllReadyH.cons rfl (fun K hK => ?_) AllReadyH.nil
      refine Xgg rfl _ _ (by rfl) lo (.slice A0 k c0) xs (by rfl) ?ho ⟨w2.heap.size, 0, none⟩ 1 a ⟨.slice A3 n3 d3, .slice A4 n4 d4⟩ (by rfl) ?hn ?hu (by have := HK.out; omega) ?hb ?_
      case hn => rw [HCE.out]; exact Xfv (heap_alloc_new w2 _)
      case hu => exact DcIn.keep HI2.out (fun b hb => Below.heap_alloc _ _ _ hb.2) fun b hb => ⟨by have := hb.1; have := HF0.out.sz; simp at *; omega, by simp; omega, fun e => by have := (HOW0.out.lt e).2; have := hb.1; simp at *; omega⟩
      case ho => exact Xbu.keep HOW2.out (by simp) fun b hb _ => Below.heap_alloc _ _ _ hb
      case hb => have := HF2.out.sz; simp; omega
      intro g3 c3 w3 hown3 hgr hat
      rw [← HK.out] at hown3 ⊢
      have hkl : ∀ b, b < lo → w3.heap[b]? = w2.heap[b]? := fun b hb => (hgr.block b (by have := HF2.out.sz; simp; omega) (fun e => by have := (HOW2.out.lt e.symm).1; omega)).trans (Below.heap_alloc _ _ _ (by have := HF2.out.sz; omega))
      have hs3 : w2.heap.size ≤ w3.heap.size := by have := hgr.size; simp at this; omega
      have hc3 : Chg (fun b => b = R) w w3 := by
       have h9 := HF2.out.chg
       have h8 := HF2.out.hC
       have ho1 : w3.os = w2.os := hgr.os
       have ho2 : w3.tape = w2.tape := hgr.tape
       have ho3 : w3.output = w2.output := hgr.output
       exact ⟨ho1.trans h9.os, ho2.trans h9.tape, ho3.trans h9.output, Nat.le_trans h9.size hs3, fun b hb hn => (hkl b (by omega)).trans (h9.block b hb hn)⟩
      have HF3 := lh (HF2.out.keep (fun b _ hl => hkl b hl) hs3 hc3)
      have HR3 := lh (HR2.out.keep (w' := w3) fun b hb => hkl b (by have := HF2.out.hC; have := HF2.out.hB; omega))
      have HOW3 := lh hown3
      have HS3 := lh (Nat.le_trans HS2.out hs3)
      clear hown3 hgr hat hkl hs3 hc3 p0 q4 hHeld
      obtain ⟨p0, q4, z4⟩ := HF3.out.cells
      refine hK.out _ _ p0 (fun hHeld => ?_)
      clear hK K
      refine wpAnyH_take (i := 7) (oi := _) (v := .pointer (some ⟨C, 0, none⟩)) rfl (by kernel_rfl) (by kernel_rfl) (by kernel_rfl) (fun _ _ _ h => h) (Or.inl ⟨by rfl, fun W hS => ?_⟩) hHeld ?_
      · go_simp
      simp only [Act.put]
      refine wpAnyH_ready (rs := [8]) (by kernel_rfl) (by simp) ?_
      refine AllReadyH.cons rfl (fun K hK => ?_) AllReadyH.nil
      go_simp
      obtain ⟨w4, hw4⟩ : ∃ W, W = w3.setCell ⟨C, 0, none⟩ (.slice (some ⟨g3, 0, none⟩) (k + 1) c3) := ⟨_, rfl⟩
      rw [← hw4]
      have HF4 : Hid (LRow 25 w Y B R lo G C w4 (.slice (some ⟨g3, 0, none⟩) (k + 1) c3)) := lh (by rw [hw4]; exact HF3.out.put _)
      have HR4 : Hid (RdAt w4 B R L u2) := lh (by rw [hw4]; exact HR3.out.setCell _ _ (by show B ≤ C; have := HF3.out.hC; have := HF3.out.hB; omega))
      have HOW4 : Hid (Xbu w4 lo (.slice (some ⟨g3, 0, none⟩) (k + 1) c3) (xs ++ [a])) := lh (by rw [hw4]; exact Xbu.keep HOW3.out (by simp [World.setCell]) fun b hb hl => Below.heap_setCell _ _ _ _ (by show b ≠ C; have := HF3.out.hC; omega))
      have HS4 : Hid (Z0.heap.size ≤ w4.heap.size) := lh (by rw [hw4]; simpa [World.setCell] using HS3.out)
      clear hw4 p0 q4 z4
      obtain ⟨p0, q4, z4⟩ := HF4.out.cells
      refine hK.out _ _ p0 (fun hHeld => ?_)
      clear hK K
      refine wpAnyH_done (by kernel_rfl) ?_ _
      clear hHeld
      go_wp2
      go_end0
      rw [HM.out]
      exact ⟨⟨rfl, _, _, _, HF4.out, HR4.out, HOW4.out⟩, HS4.out⟩
    ·
     go_simp
     have p0 := Xaa (o := (.cells #[.int .i64 xk, .int .i64 xp, .int .i64 xm, .string nx, .string tx2, .slice A3 n3 d3, .slice A4 n4 d4] 46)) p0
     have q4 := Xaa (o := (.cells #[.int .i64 xk, .int .i64 xp, .int .i64 xm, .string nx, .string tx2, .slice A3 n3 d3, .slice A4 n4 d4] 46)) q4
     refine hK.out _ _ p0 (fun hHeld => ?_)
     clear hK K
     refine wpAnyH_ready (rs := [1]) (by kernel_rfl) (by simp) ?_
     refine AllReadyH.cons rfl (fun K hK => ?_) AllReadyH.nil
     ·
      go_simp
      refine hK.out _ _ p0 (fun hHeld => ?_)
      clear hK K
      refine wpAnyH_ready (rs := [6]) (by kernel_rfl) (by simp) ?_
      refine AllReadyH.cons rfl (fun K hK => ?_) AllReadyH.nil
      refine Xgg rfl _ _ (by rfl) lo (.slice A0 k c0) xs (by rfl) ?ho ⟨w2.heap.size, 0, none⟩ 1 a ⟨.slice A3 n3 d3, .slice A4 n4 d4⟩ (by rfl) ?hn ?hu (by have := HK.out; omega) ?hb ?_
      case hn => rw [HCE.out]; exact Xfv (heap_alloc_new w2 _)
      case hu => exact DcIn.keep HI2.out (fun b hb => Below.heap_alloc _ _ _ hb.2) fun b hb => ⟨by have := hb.1; have := HF0.out.sz; simp at *; omega, by simp; omega, fun e => by have := (HOW0.out.lt e).2; have := hb.1; simp at *; omega⟩
      case ho => exact Xbu.keep HOW2.out (by simp) fun b hb _ => Below.heap_alloc _ _ _ hb
      case hb => have := HF2.out.sz; simp; omega
      intro g3 c3 w3 hown3 hgr hat
      rw [← HK.out] at hown3 ⊢
      have hkl : ∀ b, b < lo → w3.heap[b]? = w2.heap[b]? := fun b hb => (hgr.block b (by have := HF2.out.sz; simp; omega) (fun e => by have := (HOW2.out.lt e.symm).1; omega)).trans (Below.heap_alloc _ _ _ (by have := HF2.out.sz; omega))
      have hs3 : w2.heap.size ≤ w3.heap.size := by have := hgr.size; simp at this; omega
      have hc3 : Chg (fun b => b = R) w w3 := by
       have h9 := HF2.out.chg
       have h8 := HF2.out.hC
       have ho1 : w3.os = w2.os := hgr.os
       have ho2 : w3.tape = w2.tape := hgr.tape
       have ho3 : w3.output = w2.output := hgr.output
       exact ⟨ho1.trans h9.os, ho2.trans h9.tape, ho3.trans h9.output, Nat.le_trans h9.size hs3, fun b hb hn => (hkl b (by omega)).trans (h9.block b hb hn)⟩
      have HF3 := lh (HF2.out.keep (fun b _ hl => hkl b hl) hs3 hc3)
      have HR3 := lh (HR2.out.keep (w' := w3) fun b hb => hkl b (by have := HF2.out.hC; have := HF2.out.hB; omega))
      have HOW3 := lh hown3
      have HS3 := lh (Nat.le_trans HS2.out hs3)
      clear hown3 hgr hat hkl hs3 hc3 p0 q4 hHeld
      obtain ⟨p0, q4, z4⟩ := HF3.out.cells
      refine hK.out _ _ p0 (fun hHeld => ?_)
      clear hK K
      refine wpAnyH_take (i := 7) (oi := _) (v := .pointer (some ⟨C, 0, none⟩)) rfl (by kernel_rfl) (by kernel_rfl) (by kernel_rfl) (fun _ _ _ h => h) (Or.inl ⟨by rfl, fun W hS => ?_⟩) hHeld ?_
      · go_simp
      simp only [Act.put]
      refine wpAnyH_ready (rs := [8]) (by kernel_rfl) (by simp) ?_
      refine AllReadyH.cons rfl (fun K hK => ?_) AllReadyH.nil
      go_simp
      obtain ⟨w4, hw4⟩ : ∃ W, W = w3.setCell ⟨C, 0, none⟩ (.slice (some ⟨g3, 0, none⟩) (k + 1) c3) := ⟨_, rfl⟩
      rw [← hw4]
      have HF4 : Hid (LRow 25 w Y B R lo G C w4 (.slice (some ⟨g3, 0, none⟩) (k + 1) c3)) := lh (by rw [hw4]; exact HF3.out.put _)
      have HR4 : Hid (RdAt w4 B R L u2) := lh (by rw [hw4]; exact HR3.out.setCell _ _ (by show B ≤ C; have := HF3.out.hC; have := HF3.out.hB; omega))
      have HOW4 : Hid (Xbu w4 lo (.slice (some ⟨g3, 0, none⟩) (k + 1) c3) (xs ++ [a])) := lh (by rw [hw4]; exact Xbu.keep HOW3.out (by simp [World.setCell]) fun b hb hl => Below.heap_setCell _ _ _ _ (by show b ≠ C; have := HF3.out.hC; omega))
      have HS4 : Hid (Z0.heap.size ≤ w4.heap.size) := lh (by rw [hw4]; simpa [World.setCell] using HS3.out)
      clear hw4 p0 q4 z4
      obtain ⟨p0, q4, z4⟩ := HF4.out.cells
      refine hK.out _ _ p0 (fun hHeld => ?_)
      clear hK K
      refine wpAnyH_done (by kernel_rfl) ?_ _
      clear hHeld
      go_wp2
      go_end0
      rw [HM.out]
      exact ⟨⟨rfl, _, _, _, HF4.out, HR4.out, HOW4.out⟩, HS4.out⟩
end Go.Proofs.YtbckeljbpknbdaaGreatDoor
