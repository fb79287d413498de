/- Fy -/
import Derived.Test.YtbckeljbpknbdaaGreatDoorVb9
set_option linter.unusedVariables false
set_option linter.unusedSimpArgs false
namespace Go.Proofs.YtbckeljbpknbdaaGreatDoor
open Go.RowKit
def PrPost (T : TypeId) (w Y Z : World) (B R L lo G C : Nat) (xs : List Pr) (x : Rd Pr) (e : Ending) (w' : World) : Prop := (match x with
 | .bad p c => e = Xag p c ∧ Chg (fun b => b = R) w w'
 | .ok a r => e = .returned (.tuple #[]) ∧ ∃ A n c, LRow T w Y B R lo G C w' (.slice A n c) ∧ RdAt w' B R L r ∧ Xci w' lo (.slice A n c) (xs ++ [a])) ∧ Z.heap.size ≤ w'.heap.size
set_option maxRecDepth 100000 in
set_option maxHeartbeats 4000000 in
theorem efield {w Y Z0 : World} {B R L lo G C : Nat} {v : Value} {xs : List Pr} {us0 : List Tok} (h : LRow 43 w Y B R lo G C Z0 v) (hr : RdAt Z0 B R L us0) (hown : Xci Z0 lo v xs) (hxs : xs.length ≤ 5000) :
  Calls Tryz.prog 78 #[.int .i64 (xs.length : Nat), .pointer (some ⟨C, 0, none⟩), .pointer (some ⟨G, 0, none⟩)] Z0 (PrPost 43 w Y Z0 B R L lo G C xs (Xfo L xs.length us0)) := by
 have hsl : ∃ A c, v = .slice A xs.length c := Xci.slice hown
 obtain ⟨A0, c0, hv⟩ := hsl
 subst hv
 obtain ⟨k, hk⟩ : ∃ k, k = xs.length := ⟨_, rfl⟩
 rw [← hk] at h hown hxs ⊢
 have HK := lh hk
 have HM : Hid (Xfo L k us0 = (Xhg L 8 k us0).bind fun p r => (Xal L [[59]] r).map fun _ => p) := lh rfl
 clear hk
 have hlk : (k : Int) ≤ 5000 := by omega
 have hlk0 : (0 : Int) ≤ k := by omega
 have HF0 := lh h
 have HR0 := lh hr
 have HOW0 := lh hown
 have HSZ0 : Hid (B ≤ Z0.heap.size) := lh (by have := h.sz; have := h.hC; have := h.hB; omega)
 obtain ⟨q0, q1, -⟩ := h.cells
 clear h hr hown
 go_enter Tryz.func78, Tryz.ntmps78
 go_wp2_with fail
 refine wp_region_held_drew (S := fun W => W.cell? ⟨G, 0, none⟩ = some (.pointer (some ⟨R, 0, none⟩))) (by kernel_rfl) q0 (fun hHeld => ?_)
 have p0 : Z0.drew.cell? ⟨G, 0, none⟩ = some (.pointer (some ⟨R, 0, none⟩)) := q0
 have q4 : Z0.drew.cell? ⟨C, 0, none⟩ = some (.slice A0 k c0) := q1
 refine wpAnyH_take (i := 1) (oi := _) (v := .pointer (some ⟨R, 0, none⟩)) rfl (by kernel_rfl) (by kernel_rfl) (by kernel_rfl) (fun _ _ _ h => h) (Or.inl ⟨by rfl, fun W hS => ?_⟩) hHeld ?_
 · go_simp
 simp only [Act.put]
 refine wpAnyH_take (i := 2) (oi := _) (v := .int .i64 (k : Nat)) rfl (by kernel_rfl) (by kernel_rfl) (by kernel_rfl) (fun _ _ _ h => h) (Or.inl ⟨by rfl, fun W hS => ?_⟩) hHeld ?_
 · go_simp
 simp only [Act.put]
 refine wpAnyH_ready (rs := [0, 3]) (by kernel_rfl) (by simp) ?_
 refine AllReadyH.cons rfl (fun K hK => ?_) (AllReadyH.cons rfl (fun K hK => ?_) AllReadyH.nil)
 ·
  go_simp
  refine hK.out _ _ p0 (fun hHeld => ?_)
  clear hK K
  refine wpAnyH_ready (rs := [3]) (by kernel_rfl) (by simp) ?_
  refine AllReadyH.cons rfl (fun K hK => ?_) AllReadyH.nil
  ·
   go_simp
   refine ((Xke (HR0.out.drew) (by have := HSZ0.out; exact this) k 8)).mono ?_
   rintro e w2 hp
   cases hx : Xhg L 8 k us0 with
   | bad p c =>
     have HM := lh (HM.out.trans (Xam hx))
     rw [hx] at hp
     obtain ⟨rfl, hc2⟩ := hp
     have HC2 := lh (HF0.out.chg.up (⟨hc2.os, hc2.tape, hc2.output, hc2.size, hc2.block⟩ : Chg (fun b => b = R) Z0 w2))
     have HSB := lh (show Z0.heap.size ≤ w2.heap.size from hc2.size)
     clear hx hc2
     unfold Xag
     go_wp2
     rw [HM.out]
     exact ⟨rfl, ⟨rfl, HC2.out⟩, (HSB.out)⟩
   | ok a u2 =>
     have HM := lh (HM.out.trans (Xap hx))
     rw [hx] at hp
     obtain ⟨⟨v2, rfl, hv2⟩, hr2, hc2⟩ := hp
     obtain ⟨rfl, hl2⟩ := hv2
     obtain ⟨nx, hnx⟩ : ∃ x, x = Xab a.name := ⟨_, rfl⟩
     obtain ⟨tx2, htx⟩ : ∃ x, x = Xab a.type := ⟨_, rfl⟩
     rw [← hnx, ← htx]
     have HNX := lh hnx
     have HTX := lh htx
     have HL2 := lh hl2
     clear hnx htx hl2
     have hcz : Chg (fun b => b = R) Z0 w2 := ⟨hc2.os, hc2.tape, hc2.output, hc2.size, hc2.block⟩
     have HF2 := lh (HF0.out.step hcz)
     have HOW2 := lh (Xci.keep HOW0.out hcz.size (fun b hb hl => hcz.block b hb (by have := HF0.out.hC; have := HF0.out.hB; have := HF0.out.hR; omega)))
     have HR2 := lh hr2
     have HS2 := lh hcz.size
     clear hx hr2 hc2 hcz p0 q4 hHeld
     obtain ⟨p0, q4, -⟩ := HF2.out.cells
     go_wp2_with fail
     refine hK.out _ _ p0 (fun hHeld => ?_)
     clear hK K
     refine wpAnyH_ready (rs := [4]) (by kernel_rfl) (by simp) ?_
     refine AllReadyH.cons rfl (fun K hK => ?_) AllReadyH.nil
     ·
      go_simp
      have p0 := Xaa (o := (.cells #[.string nx, .string tx2] 49)) p0
      have q4 := Xaa (o := (.cells #[.string nx, .string tx2] 49)) q4
      refine hK.out _ _ p0 (fun hHeld => ?_)
      clear hK K
      refine wpAnyH_ready (rs := [5]) (by kernel_rfl) (by simp) ?_
      refine AllReadyH.cons rfl (fun K hK => ?_) AllReadyH.nil
      refine Xdu rfl _ _ (by rfl) lo (.slice A0 k c0) xs (by rfl) ?ho ⟨w2.heap.size, 0, none⟩ 1 a (by rfl) ?hn ⟨by have := HL2.out; omega, by have := HL2.out; omega⟩ (by have := HK.out; omega) ?hb ?_
      case hn => rw [← HNX.out, ← HTX.out]; exact Xfv (heap_alloc_new w2 _)
      case ho => exact Xci.keep HOW2.out (by simp) fun b hb _ => Below.heap_alloc _ _ _ hb
      case hb => have := HF2.out.sz; simp; omega
      intro g3 c3 w3 hown3 hgr hat
      rw [← HK.out] at hown3 ⊢
      have hkl : ∀ b, b < lo → w3.heap[b]? = w2.heap[b]? := fun b hb => (hgr.block b (by have := HF2.out.sz; simp; omega) (fun e => by have := (HOW2.out.lt e.symm).1; omega)).trans (Below.heap_alloc _ _ _ (by have := HF2.out.sz; omega))
      have hs3 : w2.heap.size ≤ w3.heap.size := by have := hgr.size; simp at this; omega
      have hc3 : Chg (fun b => b = R) w w3 := by
       have h9 := HF2.out.chg
       have h8 := HF2.out.hC
       have ho1 : w3.os = w2.os := hgr.os
       have ho2 : w3.tape = w2.tape := hgr.tape
       have ho3 : w3.output = w2.output := hgr.output
       exact ⟨ho1.trans h9.os, ho2.trans h9.tape, ho3.trans h9.output, Nat.le_trans h9.size hs3, fun b hb hn => (hkl b (by omega)).trans (h9.block b hb hn)⟩
      have HF3 := lh (HF2.out.keep (fun b _ hl => hkl b hl) hs3 hc3)
      have HR3 := lh (HR2.out.keep (w' := w3) fun b hb => hkl b (by have := HF2.out.hC; have := HF2.out.hB; omega))
      have HOW3 := lh hown3
      have HS3 := lh (Nat.le_trans HS2.out hs3)
      clear hown3 hgr hat hkl hs3 hc3 p0 q4 hHeld
      obtain ⟨p0, q4, z4⟩ := HF3.out.cells
      refine hK.out _ _ p0 (fun hHeld => ?_)
      clear hK K
      refine wpAnyH_ready (rs := [6]) (by kernel_rfl) (by simp) ?_
      refine AllReadyH.cons rfl (fun K hK => ?_) AllReadyH.nil
      go_simp
      obtain ⟨w4, hw4⟩ : ∃ W, W = w3.setCell ⟨C, 0, none⟩ (.slice (some ⟨g3, 0, none⟩) (k + 1) c3) := ⟨_, rfl⟩
      rw [← hw4]
      have HF4 : Hid (LRow 43 w Y B R lo G C w4 (.slice (some ⟨g3, 0, none⟩) (k + 1) c3)) := lh (by rw [hw4]; exact HF3.out.put _)
      have HR4 : Hid (RdAt w4 B R L u2) := lh (by rw [hw4]; exact HR3.out.setCell _ _ (by show B ≤ C; have := HF3.out.hC; have := HF3.out.hB; omega))
      have HOW4 : Hid (Xci w4 lo (.slice (some ⟨g3, 0, none⟩) (k + 1) c3) (xs ++ [a])) := lh (by rw [hw4]; exact Xci.keep HOW3.out (by simp [World.setCell]) fun b hb hl => Below.heap_setCell _ _ _ _ (by show b ≠ C; have := HF3.out.hC; omega))
      have HS4 : Hid (Z0.heap.size ≤ w4.heap.size) := lh (by rw [hw4]; simpa [World.setCell] using HS3.out)
      clear hw4 p0 q4 z4
      obtain ⟨p0, q4, z4⟩ := HF4.out.cells
      refine hK.out _ _ p0 (fun hHeld => ?_)
      clear hK K
      refine wpAnyH_done (by kernel_rfl) ?_ _
      clear hHeld
      go_wp2_with fail
      refine (Xan HR4.out (by have := HF4.out.sz; have := HF4.out.hC; have := HF4.out.hB; omega) [[59]] (by simp) (by decide)).mono ?_
      rintro e w5 hp
      cases hx : Xal L [[59]] u2 with
      | bad p c =>
        have HM := lh (HM.out.trans (Xbc hx))
        rw [hx] at hp
        obtain ⟨rfl, hc⟩ := hp
        have HC := lh (HF4.out.chg.up hc)
        have HS5 := lh (Nat.le_trans HS4.out hc.size)
        clear hx hc
        unfold Xag
        go_wp2
        rw [HM.out]
        exact ⟨rfl, ⟨rfl, HC.out⟩, HS5.out⟩
      | ok a5 u5 =>
        have HM := lh (HM.out.trans (Xbi hx))
        rw [hx] at hp
        obtain ⟨⟨v5, rfl, -⟩, hr, hc⟩ := hp
        have HF5 := lh (HF4.out.step hc)
        have HR5 := lh hr
        have HOW5 := lh (Xci.keep HOW4.out hc.size (fun b hb hl => hc.block b hb (by have := HF4.out.hC; have := HF4.out.hB; have := HF4.out.hR; omega)))
        have HS5 := lh (Nat.le_trans HS4.out hc.size)
        clear hx hr hc
        go_wp2
        go_end0
        rw [HM.out]
        exact ⟨⟨rfl, _, _, _, HF5.out, HR5.out, HOW5.out⟩, HS5.out⟩
 ·
  go_simp
  refine ((Xke (HR0.out.drew) (by have := HSZ0.out; exact this) k 8)).mono ?_
  rintro e w2 hp
  cases hx : Xhg L 8 k us0 with
  | bad p c =>
    have HM := lh (HM.out.trans (Xam hx))
    rw [hx] at hp
    obtain ⟨rfl, hc2⟩ := hp
    have HC2 := lh (HF0.out.chg.up (⟨hc2.os, hc2.tape, hc2.output, hc2.size, hc2.block⟩ : Chg (fun b => b = R) Z0 w2))
    have HSB := lh (show Z0.heap.size ≤ w2.heap.size from hc2.size)
    clear hx hc2
    unfold Xag
    go_wp2
    rw [HM.out]
    exact ⟨rfl, ⟨rfl, HC2.out⟩, (HSB.out)⟩
  | ok a u2 =>
    have HM := lh (HM.out.trans (Xap hx))
    rw [hx] at hp
    obtain ⟨⟨v2, rfl, hv2⟩, hr2, hc2⟩ := hp
    obtain ⟨rfl, hl2⟩ := hv2
    obtain ⟨nx, hnx⟩ : ∃ x, x = Xab a.name := ⟨_, rfl⟩
    obtain ⟨tx2, htx⟩ : ∃ x, x = Xab a.type := ⟨_, rfl⟩
    rw [← hnx, ← htx]
    have HNX := lh hnx
    have HTX := lh htx
    have HL2 := lh hl2
    clear hnx htx hl2
    have hcz : Chg (fun b => b = R) Z0 w2 := ⟨hc2.os, hc2.tape, hc2.output, hc2.size, hc2.block⟩
    have HF2 := lh (HF0.out.step hcz)
    have HOW2 := lh (Xci.keep HOW0.out hcz.size (fun b hb hl => hcz.block b hb (by have := HF0.out.hC; have := HF0.out.hB; have := HF0.out.hR; omega)))
    have HR2 := lh hr2
    have HS2 := lh hcz.size
    clear hx hr2 hc2 hcz p0 q4 hHeld
    obtain ⟨p0, q4, -⟩ := HF2.out.cells
    go_wp2_with fail
    refine hK.out _ _ p0 (fun hHeld => ?_)
    clear hK K
    refine wpAnyH_ready (rs := [0, 4]) (by kernel_rfl) (by simp) ?_
    refine AllReadyH.cons rfl (fun K hK => ?_) (AllReadyH.cons rfl (fun K hK => ?_) AllReadyH.nil)
    ·
     go_simp
     refine hK.out _ _ p0 (fun hHeld => ?_)
     clear hK K
     refine wpAnyH_ready (rs := [4]) (by kernel_rfl) (by simp) ?_
     refine AllReadyH.cons rfl (fun K hK => ?_) AllReadyH.nil
     ·
      go_simp
      have p0 := Xaa (o := (.cells #[.string nx, .string tx2] 49)) p0
      have q4 := Xaa (o := (.cells #[.string nx, .string tx2] 49)) q4
      refine hK.out _ _ p0 (fun hHeld => ?_)
      clear hK K
      refine wpAnyH_ready (rs := [5]) (by kernel_rfl) (by simp) ?_
      refine AllReadyH.cons rfl (fun K hK => ?_) AllReadyH.nil
      refine Xdu rfl _ _ (by rfl) lo (.slice A0 k c0) xs (by rfl) ?ho ⟨w2.heap.size, 0, none⟩ 1 a (by rfl) ?hn ⟨by have := HL2.out; omega, by have := HL2.out; omega⟩ (by have := HK.out; omega) ?hb ?_
      case hn => rw [← HNX.out, ← HTX.out]; exact Xfv (heap_alloc_new w2 _)
      case ho => exact Xci.keep HOW2.out (by simp) fun b hb _ => Below.heap_alloc _ _ _ hb
      case hb => have := HF2.out.sz; simp; omega
      intro g3 c3 w3 hown3 hgr hat
      rw [← HK.out] at hown3 ⊢
      have hkl : ∀ b, b < lo → w3.heap[b]? = w2.heap[b]? := fun b hb => (hgr.block b (by have := HF2.out.sz; simp; omega) (fun e => by have := (HOW2.out.lt e.symm).1; omega)).trans (Below.heap_alloc _ _ _ (by have := HF2.out.sz; omega))
      have hs3 : w2.heap.size ≤ w3.heap.size := by have := hgr.size; simp at this; omega
      have hc3 : Chg (fun b => b = R) w w3 := by
       have h9 := HF2.out.chg
       have h8 := HF2.out.hC
       have ho1 : w3.os = w2.os := hgr.os
       have ho2 : w3.tape = w2.tape := hgr.tape
       have ho3 : w3.output = w2.output := hgr.output
       exact ⟨ho1.trans h9.os, ho2.trans h9.tape, ho3.trans h9.output, Nat.le_trans h9.size hs3, fun b hb hn => (hkl b (by omega)).trans (h9.block b hb hn)⟩
      have HF3 := lh (HF2.out.keep (fun b _ hl => hkl b hl) hs3 hc3)
      have HR3 := lh (HR2.out.keep (w' := w3) fun b hb => hkl b (by have := HF2.out.hC; have := HF2.out.hB; omega))
      have HOW3 := lh hown3
      have HS3 := lh (Nat.le_trans HS2.out hs3)
      clear hown3 hgr hat hkl hs3 hc3 p0 q4 hHeld
      obtain ⟨p0, q4, z4⟩ := HF3.out.cells
      refine hK.out _ _ p0 (fun hHeld => ?_)
      clear hK K
      refine wpAnyH_ready (rs := [6]) (by kernel_rfl) (by simp) ?_
      refine AllReadyH.cons rfl (fun K hK => ?_) AllReadyH.nil
      go_simp
      obtain ⟨w4, hw4⟩ : ∃ W, W = w3.setCell ⟨C, 0, none⟩ (.slice (some ⟨g3, 0, none⟩) (k + 1) c3) := ⟨_, rfl⟩
      rw [← hw4]
      have HF4 : Hid (LRow 43 w Y B R lo G C w4 (.slice (some ⟨g3, 0, none⟩) (k + 1) c3)) := lh (by rw [hw4]; exact HF3.out.put _)
      have HR4 : Hid (RdAt w4 B R L u2) := lh (by rw [hw4]; exact HR3.out.setCell _ _ (by show B ≤ C; have := HF3.out.hC; have := HF3.out.hB; omega))
      have HOW4 : Hid (Xci w4 lo (.slice (some ⟨g3, 0, none⟩) (k + 1) c3) (xs ++ [a])) := lh (by rw [hw4]; exact Xci.keep HOW3.out (by simp [World.setCell]) fun b hb hl => Below.heap_setCell _ _ _ _ (by show b ≠ C; have := HF3.out.hC; omega))
      have HS4 : Hid (Z0.heap.size ≤ w4.heap.size) := lh (by rw [hw4]; simpa [World.setCell] using HS3.out)
      clear hw4 p0 q4 z4
      obtain ⟨p0, q4, z4⟩ := HF4.out.cells
      refine hK.out _ _ p0 (fun hHeld => ?_)
      clear hK K
      refine wpAnyH_done (by kernel_rfl) ?_ _
      clear hHeld
      go_wp2_with fail
      refine (Xan HR4.out (by have := HF4.out.sz; have := HF4.out.hC; have := HF4.out.hB; omega) [[59]] (by simp) (by decide)).mono ?_
      rintro e w5 hp
      cases hx : Xal L [[59]] u2 with
      | bad p c =>
        have HM := lh (HM.out.trans (Xbc hx))
        rw [hx] at hp
        obtain ⟨rfl, hc⟩ := hp
        have HC := lh (HF4.out.chg.up hc)
        have HS5 := lh (Nat.le_trans HS4.out hc.size)
        clear hx hc
        unfold Xag
        go_wp2
        rw [HM.out]
        exact ⟨rfl, ⟨rfl, HC.out⟩, HS5.out⟩
      | ok a5 u5 =>
        have HM := lh (HM.out.trans (Xbi hx))
        rw [hx] at hp
        obtain ⟨⟨v5, rfl, -⟩, hr, hc⟩ := hp
        have HF5 := lh (HF4.out.step hc)
        have HR5 := lh hr
        have HOW5 := lh (Xci.keep HOW4.out hc.size (fun b hb hl => hc.block b hb (by have := HF4.out.hC; have := HF4.out.hB; have := HF4.out.hR; omega)))
        have HS5 := lh (Nat.le_trans HS4.out hc.size)
        clear hx hr hc
        go_wp2
        go_end0
        rw [HM.out]
        exact ⟨⟨rfl, _, _, _, HF5.out, HR5.out, HOW5.out⟩, HS5.out⟩
    ·
     go_simp
     have p0 := Xaa (o := (.cells #[.string nx, .string tx2] 49)) p0
     have q4 := Xaa (o := (.cells #[.string nx, .string tx2] 49)) q4
     refine hK.out _ _ p0 (fun hHeld => ?_)
     clear hK K
     refine wpAnyH_ready (rs := [0]) (by kernel_rfl) (by simp) ?_
     refine AllReadyH.cons rfl (fun K hK => ?_) AllReadyH.nil
     ·
      go_simp
      refine hK.out _ _ p0 (fun hHeld => ?_)
      clear hK K
      refine wpAnyH_ready (rs := [5]) (by kernel_rfl) (by simp) ?_
      refine AllReadyH.cons rfl (fun K hK => ?_) AllReadyH.nil
      refine Xdu rfl _ _ (by rfl) lo (.slice A0 k c0) xs (by rfl) ?ho ⟨w2.heap.size, 0, none⟩ 1 a (by rfl) ?hn ⟨by have := HL2.out; omega, by have := HL2.out; omega⟩ (by have := HK.out; omega) ?hb ?_
      case hn => rw [← HNX.out, ← HTX.out]; exact Xfv (heap_alloc_new w2 _)
      case ho => exact Xci.keep HOW2.out (by simp) fun b hb _ => Below.heap_alloc _ _ _ hb
      case hb => have := HF2.out.sz; simp; omega
      intro g3 c3 w3 hown3 hgr hat
      rw [← HK.out] at hown3 ⊢
      have hkl : ∀ b, b < lo → w3.heap[b]? = w2.heap[b]? := fun b hb => (hgr.block b (by have := HF2.out.sz; simp; omega) (fun e => by have := (HOW2.out.lt e.symm).1; omega)).trans (Below.heap_alloc _ _ _ (by have := HF2.out.sz; omega))
      have hs3 : w2.heap.size ≤ w3.heap.size := by have := hgr.size; simp at this; omega
      have hc3 : Chg (fun b => b = R) w w3 := by
       have h9 := HF2.out.chg
       have h8 := HF2.out.hC
       have ho1 : w3.os = w2.os := hgr.os
       have ho2 : w3.tape = w2.tape := hgr.tape
       have ho3 : w3.output = w2.output := hgr.output
       exact ⟨ho1.trans h9.os, ho2.trans h9.tape, ho3.trans h9.output, Nat.le_trans h9.size hs3, fun b hb hn => (hkl b (by omega)).trans (h9.block b hb hn)⟩
      have HF3 := lh (HF2.out.keep (fun b _ hl => hkl b hl) hs3 hc3)
      have HR3 := lh (HR2.out.keep (w' := w3) fun b hb => hkl b (by have := HF2.out.hC; have := HF2.out.hB; omega))
      have HOW3 := lh hown3
      have HS3 := lh (Nat.le_trans HS2.out hs3)
      clear hown3 hgr hat hkl hs3 hc3 p0 q4 hHeld
      obtain ⟨p0, q4, z4⟩ := HF3.out.cells
      refine hK.out _ _ p0 (fun hHeld => ?_)
      clear hK K
      refine wpAnyH_ready (rs := [6]) (by kernel_rfl) (by simp) ?_
      refine AllReadyH.cons rfl (fun K hK => ?_) AllReadyH.nil
      go_simp
      obtain ⟨w4, hw4⟩ : ∃ W, W = w3.setCell ⟨C, 0, none⟩ (.slice (some ⟨g3, 0, none⟩) (k + 1) c3) := ⟨_, rfl⟩
      rw [← hw4]
      have HF4 : Hid (LRow 43 w Y B R lo G C w4 (.slice (some ⟨g3, 0, none⟩) (k + 1) c3)) := lh (by rw [hw4]; exact HF3.out.put _)
      have HR4 : Hid (RdAt w4 B R L u2) := lh (by rw [hw4]; exact HR3.out.setCell _ _ (by show B ≤ C; have := HF3.out.hC; have := HF3.out.hB; omega))
      have HOW4 : Hid (Xci w4 lo (.slice (some ⟨g3, 0, none⟩) (k + 1) c3) (xs ++ [a])) := lh (by rw [hw4]; exact Xci.keep HOW3.out (by simp [World.setCell]) fun b hb hl => Below.heap_setCell _ _ _ _ (by show b ≠ C; have := HF3.out.hC; omega))
      have HS4 : Hid (Z0.heap.size ≤ w4.heap.size) := lh (by rw [hw4]; simpa [World.setCell] using HS3.out)
      clear hw4 p0 q4 z4
      obtain ⟨p0, q4, z4⟩ := HF4.out.cells
      refine hK.out _ _ p0 (fun hHeld => ?_)
      clear hK K
      refine wpAnyH_done (by kernel_rfl) ?_ _
      clear hHeld
      go_wp2_with fail
      refine (Xan HR4.out (by have := HF4.out.sz; have := HF4.out.hC; have := HF4.out.hB; omega) [[59]] (by simp) (by decide)).mono ?_
      rintro e w5 hp
      cases hx : Xal L [[59]] u2 with
      | bad p c =>
        have HM := lh (HM.out.trans (Xbc hx))
        rw [hx] at hp
        obtain ⟨rfl, hc⟩ := hp
        have HC := lh (HF4.out.chg.up hc)
        have HS5 := lh (Nat.le_trans HS4.out hc.size)
        clear hx hc
        unfold Xag
        go_wp2
        rw [HM.out]
        exact ⟨rfl, ⟨rfl, HC.out⟩, HS5.out⟩
      | ok a5 u5 =>
        have HM := lh (HM.out.trans (Xbi hx))
        rw [hx] at hp
        obtain ⟨⟨v5, rfl, -⟩, hr, hc⟩ := hp
        have HF5 := lh (HF4.out.step hc)
        have HR5 := lh hr
        have HOW5 := lh (Xci.keep HOW4.out hc.size (fun b hb hl => hc.block b hb (by have := HF4.out.hC; have := HF4.out.hB; have := HF4.out.hR; omega)))
        have HS5 := lh (Nat.le_trans HS4.out hc.size)
        clear hx hr hc
        go_wp2
        go_end0
        rw [HM.out]
        exact ⟨⟨rfl, _, _, _, HF5.out, HR5.out, HOW5.out⟩, HS5.out⟩
set_option maxRecDepth 100000 in
set_option maxHeartbeats 4000000 in
theorem eparam {w Y Z0 : World} {B R L lo G C : Nat} {v : Value} {xs : List Pr} {us0 : List Tok} (h : LRow 43 w Y B R lo G C Z0 v) (hr : RdAt Z0 B R L us0) (hown : Xci Z0 lo v xs) (hxs : xs.length ≤ 5000) :
  Calls Tryz.prog 80 #[.int .i64 (xs.length : Nat), .pointer (some ⟨G, 0, none⟩), .pointer (some ⟨C, 0, none⟩)] Z0 (PrPost 43 w Y Z0 B R L lo G C xs (Xfp L xs.length us0)) := by
 have hsl : ∃ A c, v = .slice A xs.length c := Xci.slice hown
 obtain ⟨A0, c0, hv⟩ := hsl
 subst hv
 obtain ⟨k, hk⟩ : ∃ k, k = xs.length := ⟨_, rfl⟩
 rw [← hk] at h hown hxs ⊢
 have HK := lh hk
 have HM : Hid (Xfp L k us0 = (Xeq L k us0).bind fun _ r => Xhg L 4 k r) := lh rfl
 clear hk
 have hlk : (k : Int) ≤ 5000 := by omega
 have hlk0 : (0 : Int) ≤ k := by omega
 have HF0 := lh h
 have HR0 := lh hr
 have HOW0 := lh hown
 have HSZ0 : Hid (B ≤ Z0.heap.size) := lh (by have := h.sz; have := h.hC; have := h.hB; omega)
 obtain ⟨q0, q1, -⟩ := h.cells
 clear h hr hown
 go_enter Tryz.func80, Tryz.ntmps80
 go_wp2_with fail
 refine (Xpk HR0.out HSZ0.out k).mono ?_
 rintro e Z hp
 cases hx : Xeq L k us0 with
 | bad p c =>
   have HM := lh (HM.out.trans (Xam hx))
   rw [hx] at hp
   obtain ⟨rfl, hc⟩ := hp
   have HC := lh (HF0.out.chg.up hc)
   have HS5 := lh hc.size
   clear hx hc
   unfold Xag
   go_wp2
   rw [HM.out]
   exact ⟨rfl, ⟨rfl, HC.out⟩, HS5.out⟩
 | ok a1 us =>
   have HM := lh (HM.out.trans (Xap hx))
   rw [hx] at hp
   obtain ⟨⟨v1, rfl, -⟩, hr, hc⟩ := hp
   have HOW0 := lh (Xci.keep HOW0.out hc.size (fun b hb hl => hc.block b hb (by have := HF0.out.hC; have := HF0.out.hB; have := HF0.out.hR; omega)))
   have HF0 := lh (HF0.out.step hc)
   have HR0 := lh hr
   have HS1 := lh hc.size
   have HSZ0 : Hid (B ≤ Z.heap.size) := lh (by have := HF0.out.sz; have := HF0.out.hC; have := HF0.out.hB; omega)
   clear hx hr hc q0 q1
   obtain ⟨q0, q1, -⟩ := HF0.out.cells
   go_wp2_with fail
   refine wp_region_held_drew (S := fun W => W.cell? ⟨G, 0, none⟩ = some (.pointer (some ⟨R, 0, none⟩))) (by kernel_rfl) q0 (fun hHeld => ?_)
   have p0 : Z.drew.cell? ⟨G, 0, none⟩ = some (.pointer (some ⟨R, 0, none⟩)) := q0
   have q4 : Z.drew.cell? ⟨C, 0, none⟩ = some (.slice A0 k c0) := q1
   refine wpAnyH_take (i := 1) (oi := _) (v := .pointer (some ⟨R, 0, none⟩)) rfl (by kernel_rfl) (by kernel_rfl) (by kernel_rfl) (fun _ _ _ h => h) (Or.inl ⟨by rfl, fun W hS => ?_⟩) hHeld ?_
   · go_simp
   simp only [Act.put]
   refine wpAnyH_take (i := 2) (oi := _) (v := .int .i64 (k : Nat)) rfl (by kernel_rfl) (by kernel_rfl) (by kernel_rfl) (fun _ _ _ h => h) (Or.inl ⟨by rfl, fun W hS => ?_⟩) hHeld ?_
   · go_simp
   simp only [Act.put]
   refine wpAnyH_ready (rs := [0, 3]) (by kernel_rfl) (by simp) ?_
   refine AllReadyH.cons rfl (fun K hK => ?_) (AllReadyH.cons rfl (fun K hK => ?_) AllReadyH.nil)
   ·
    go_simp
    refine hK.out _ _ p0 (fun hHeld => ?_)
    clear hK K
    refine wpAnyH_ready (rs := [3]) (by kernel_rfl) (by simp) ?_
    refine AllReadyH.cons rfl (fun K hK => ?_) AllReadyH.nil
    ·
     go_simp
     refine ((Xke (HR0.out.drew) (by have := HSZ0.out; exact this) k 4)).mono ?_
     rintro e w2 hp
     cases hx : Xhg L 4 k us with
     | bad p c =>
       have HM := lh (HM.out.trans hx)
       rw [hx] at hp
       obtain ⟨rfl, hc2⟩ := hp
       have HC2 := lh (HF0.out.chg.up (⟨hc2.os, hc2.tape, hc2.output, hc2.size, hc2.block⟩ : Chg (fun b => b = R) Z w2))
       have HSB := lh (show Z.heap.size ≤ w2.heap.size from hc2.size)
       clear hx hc2
       unfold Xag
       go_wp2
       rw [HM.out]
       exact ⟨rfl, ⟨rfl, HC2.out⟩, Nat.le_trans HS1.out HSB.out⟩
     | ok a u2 =>
       have HM := lh (HM.out.trans hx)
       rw [hx] at hp
       obtain ⟨⟨v2, rfl, hv2⟩, hr2, hc2⟩ := hp
       obtain ⟨rfl, hl2⟩ := hv2
       obtain ⟨nx, hnx⟩ : ∃ x, x = Xab a.name := ⟨_, rfl⟩
       obtain ⟨tx2, htx⟩ : ∃ x, x = Xab a.type := ⟨_, rfl⟩
       rw [← hnx, ← htx]
       have HNX := lh hnx
       have HTX := lh htx
       have HL2 := lh hl2
       clear hnx htx hl2
       have hcz : Chg (fun b => b = R) Z w2 := ⟨hc2.os, hc2.tape, hc2.output, hc2.size, hc2.block⟩
       have HF2 := lh (HF0.out.step hcz)
       have HOW2 := lh (Xci.keep HOW0.out hcz.size (fun b hb hl => hcz.block b hb (by have := HF0.out.hC; have := HF0.out.hB; have := HF0.out.hR; omega)))
       have HR2 := lh hr2
       have HS2 := lh hcz.size
       clear hx hr2 hc2 hcz p0 q4 hHeld
       obtain ⟨p0, q4, -⟩ := HF2.out.cells
       go_wp2_with fail
       refine hK.out _ _ p0 (fun hHeld => ?_)
       clear hK K
       refine wpAnyH_ready (rs := [4]) (by kernel_rfl) (by simp) ?_
       refine AllReadyH.cons rfl (fun K hK => ?_) AllReadyH.nil
       ·
        go_simp
        have p0 := Xaa (o := (.cells #[.string nx, .string tx2] 49)) p0
        have q4 := Xaa (o := (.cells #[.string nx, .string tx2] 49)) q4
        refine hK.out _ _ p0 (fun hHeld => ?_)
        clear hK K
        refine wpAnyH_ready (rs := [5]) (by kernel_rfl) (by simp) ?_
        refine AllReadyH.cons rfl (fun K hK => ?_) AllReadyH.nil
        refine Xdu rfl _ _ (by rfl) lo (.slice A0 k c0) xs (by rfl) ?ho ⟨w2.heap.size, 0, none⟩ 1 a (by rfl) ?hn ⟨by have := HL2.out; omega, by have := HL2.out; omega⟩ (by have := HK.out; omega) ?hb ?_
        case hn => rw [← HNX.out, ← HTX.out]; exact Xfv (heap_alloc_new w2 _)
        case ho => exact Xci.keep HOW2.out (by simp) fun b hb _ => Below.heap_alloc _ _ _ hb
        case hb => have := HF2.out.sz; simp; omega
        intro g3 c3 w3 hown3 hgr hat
        rw [← HK.out] at hown3 ⊢
        have hkl : ∀ b, b < lo → w3.heap[b]? = w2.heap[b]? := fun b hb => (hgr.block b (by have := HF2.out.sz; simp; omega) (fun e => by have := (HOW2.out.lt e.symm).1; omega)).trans (Below.heap_alloc _ _ _ (by have := HF2.out.sz; omega))
        have hs3 : w2.heap.size ≤ w3.heap.size := by have := hgr.size; simp at this; omega
        have hc3 : Chg (fun b => b = R) w w3 := by
         have h9 := HF2.out.chg
         have h8 := HF2.out.hC
         have ho1 : w3.os = w2.os := hgr.os
         have ho2 : w3.tape = w2.tape := hgr.tape
         have ho3 : w3.output = w2.output := hgr.output
         exact ⟨ho1.trans h9.os, ho2.trans h9.tape, ho3.trans h9.output, Nat.le_trans h9.size hs3, fun b hb hn => (hkl b (by omega)).trans (h9.block b hb hn)⟩
        have HF3 := lh (HF2.out.keep (fun b _ hl => hkl b hl) hs3 hc3)
        have HR3 := lh (HR2.out.keep (w' := w3) fun b hb => hkl b (by have := HF2.out.hC; have := HF2.out.hB; omega))
        have HOW3 := lh hown3
        have HS3 := lh (Nat.le_trans HS2.out hs3)
        clear hown3 hgr hat hkl hs3 hc3 p0 q4 hHeld
        obtain ⟨p0, q4, z4⟩ := HF3.out.cells
        refine hK.out _ _ p0 (fun hHeld => ?_)
        clear hK K
        refine wpAnyH_ready (rs := [6]) (by kernel_rfl) (by simp) ?_
        refine AllReadyH.cons rfl (fun K hK => ?_) AllReadyH.nil
        go_simp
        obtain ⟨w4, hw4⟩ : ∃ W, W = w3.setCell ⟨C, 0, none⟩ (.slice (some ⟨g3, 0, none⟩) (k + 1) c3) := ⟨_, rfl⟩
        rw [← hw4]
        have HF4 : Hid (LRow 43 w Y B R lo G C w4 (.slice (some ⟨g3, 0, none⟩) (k + 1) c3)) := lh (by rw [hw4]; exact HF3.out.put _)
        have HR4 : Hid (RdAt w4 B R L u2) := lh (by rw [hw4]; exact HR3.out.setCell _ _ (by show B ≤ C; have := HF3.out.hC; have := HF3.out.hB; omega))
        have HOW4 : Hid (Xci w4 lo (.slice (some ⟨g3, 0, none⟩) (k + 1) c3) (xs ++ [a])) := lh (by rw [hw4]; exact Xci.keep HOW3.out (by simp [World.setCell]) fun b hb hl => Below.heap_setCell _ _ _ _ (by show b ≠ C; have := HF3.out.hC; omega))
        have HS4 : Hid (Z.heap.size ≤ w4.heap.size) := lh (by rw [hw4]; simpa [World.setCell] using HS3.out)
        clear hw4 p0 q4 z4
        obtain ⟨p0, q4, z4⟩ := HF4.out.cells
        refine hK.out _ _ p0 (fun hHeld => ?_)
        clear hK K
        refine wpAnyH_done (by kernel_rfl) ?_ _
        clear hHeld
        go_wp2
        go_end0
        rw [HM.out]
        exact ⟨⟨rfl, _, _, _, HF4.out, HR4.out, HOW4.out⟩, Nat.le_trans HS1.out HS4.out⟩
   ·
    go_simp
    refine ((Xke (HR0.out.drew) (by have := HSZ0.out; exact this) k 4)).mono ?_
    rintro e w2 hp
    cases hx : Xhg L 4 k us with
    | bad p c =>
      have HM := lh (HM.out.trans hx)
      rw [hx] at hp
      obtain ⟨rfl, hc2⟩ := hp
      have HC2 := lh (HF0.out.chg.up (⟨hc2.os, hc2.tape, hc2.output, hc2.size, hc2.block⟩ : Chg (fun b => b = R) Z w2))
      have HSB := lh (show Z.heap.size ≤ w2.heap.size from hc2.size)
      clear hx hc2
      unfold Xag
      go_wp2
      rw [HM.out]
      exact ⟨rfl, ⟨rfl, HC2.out⟩, Nat.le_trans HS1.out HSB.out⟩
    | ok a u2 =>
      have HM := lh (HM.out.trans hx)
      rw [hx] at hp
      obtain ⟨⟨v2, rfl, hv2⟩, hr2, hc2⟩ := hp
      obtain ⟨rfl, hl2⟩ := hv2
      obtain ⟨nx, hnx⟩ : ∃ x, x = Xab a.name := ⟨_, rfl⟩
      obtain ⟨tx2, htx⟩ : ∃ x, x = Xab a.type := ⟨_, rfl⟩
      rw [← hnx, ← htx]
      have HNX := lh hnx
      have HTX := lh htx
      have HL2 := lh hl2
      clear hnx htx hl2
      have hcz : Chg (fun b => b = R) Z w2 := ⟨hc2.os, hc2.tape, hc2.output, hc2.size, hc2.block⟩
      have HF2 := lh (HF0.out.step hcz)
      have HOW2 := lh (Xci.keep HOW0.out hcz.size (fun b hb hl => hcz.block b hb (by have := HF0.out.hC; have := HF0.out.hB; have := HF0.out.hR; omega)))
      have HR2 := lh hr2
      have HS2 := lh hcz.size
      clear hx hr2 hc2 hcz p0 q4 hHeld
      obtain ⟨p0, q4, -⟩ := HF2.out.cells
      go_wp2_with fail
      refine hK.out _ _ p0 (fun hHeld => ?_)
      clear hK K
      refine wpAnyH_ready (rs := [0, 4]) (by kernel_rfl) (by simp) ?_
      refine AllReadyH.cons rfl (fun K hK => ?_) (AllReadyH.cons rfl (fun K hK => ?_) AllReadyH.nil)
      ·
       go_simp
       refine hK.out _ _ p0 (fun hHeld => ?_)
       clear hK K
       refine wpAnyH_ready (rs := [4]) (by kernel_rfl) (by simp) ?_
       refine AllReadyH.cons rfl (fun K hK => ?_) AllReadyH.nil
       ·
        go_simp
        have p0 := Xaa (o := (.cells #[.string nx, .string tx2] 49)) p0
        have q4 := Xaa (o := (.cells #[.string nx, .string tx2] 49)) q4
        refine hK.out _ _ p0 (fun hHeld => ?_)
        clear hK K
        refine wpAnyH_ready (rs := [5]) (by kernel_rfl) (by simp) ?_
        refine AllReadyH.cons rfl (fun K hK => ?_) AllReadyH.nil
        refine Xdu rfl _ _ (by rfl) lo (.slice A0 k c0) xs (by rfl) ?ho ⟨w2.heap.size, 0, none⟩ 1 a (by rfl) ?hn ⟨by have := HL2.out; omega, by have := HL2.out; omega⟩ (by have := HK.out; omega) ?hb ?_
        case hn => rw [← HNX.out, ← HTX.out]; exact Xfv (heap_alloc_new w2 _)
        case ho => exact Xci.keep HOW2.out (by simp) fun b hb _ => Below.heap_alloc _ _ _ hb
        case hb => have := HF2.out.sz; simp; omega
        intro g3 c3 w3 hown3 hgr hat
        rw [← HK.out] at hown3 ⊢
        have hkl : ∀ b, b < lo → w3.heap[b]? = w2.heap[b]? := fun b hb => (hgr.block b (by have := HF2.out.sz; simp; omega) (fun e => by have := (HOW2.out.lt e.symm).1; omega)).trans (Below.heap_alloc _ _ _ (by have := HF2.out.sz; omega))
        have hs3 : w2.heap.size ≤ w3.heap.size := by have := hgr.size; simp at this; omega
        have hc3 : Chg (fun b => b = R) w w3 := by
         have h9 := HF2.out.chg
         have h8 := HF2.out.hC
         have ho1 : w3.os = w2.os := hgr.os
         have ho2 : w3.tape = w2.tape := hgr.tape
         have ho3 : w3.output = w2.output := hgr.output
         exact ⟨ho1.trans h9.os, ho2.trans h9.tape, ho3.trans h9.output, Nat.le_trans h9.size hs3, fun b hb hn => (hkl b (by omega)).trans (h9.block b hb hn)⟩
        have HF3 := lh (HF2.out.keep (fun b _ hl => hkl b hl) hs3 hc3)
        have HR3 := lh (HR2.out.keep (w' := w3) fun b hb => hkl b (by have := HF2.out.hC; have := HF2.out.hB; omega))
        have HOW3 := lh hown3
        have HS3 := lh (Nat.le_trans HS2.out hs3)
        clear hown3 hgr hat hkl hs3 hc3 p0 q4 hHeld
        obtain ⟨p0, q4, z4⟩ := HF3.out.cells
        refine hK.out _ _ p0 (fun hHeld => ?_)
        clear hK K
        refine wpAnyH_ready (rs := [6]) (by kernel_rfl) (by simp) ?_
        refine AllReadyH.cons rfl (fun K hK => ?_) AllReadyH.nil
        go_simp
        obtain ⟨w4, hw4⟩ : ∃ W, W = w3.setCell ⟨C, 0, none⟩ (.slice (some ⟨g3, 0, none⟩) (k + 1) c3) := ⟨_, rfl⟩
        rw [← hw4]
        have HF4 : Hid (LRow 43 w Y B R lo G C w4 (.slice (some ⟨g3, 0, none⟩) (k + 1) c3)) := lh (by rw [hw4]; exact HF3.out.put _)
        have HR4 : Hid (RdAt w4 B R L u2) := lh (by rw [hw4]; exact HR3.out.setCell _ _ (by show B ≤ C; have := HF3.out.hC; have := HF3.out.hB; omega))
        have HOW4 : Hid (Xci w4 lo (.slice (some ⟨g3, 0, none⟩) (k + 1) c3) (xs ++ [a])) := lh (by rw [hw4]; exact Xci.keep HOW3.out (by simp [World.setCell]) fun b hb hl => Below.heap_setCell _ _ _ _ (by show b ≠ C; have := HF3.out.hC; omega))
        have HS4 : Hid (Z.heap.size ≤ w4.heap.size) := lh (by rw [hw4]; simpa [World.setCell] using HS3.out)
        clear hw4 p0 q4 z4
        obtain ⟨p0, q4, z4⟩ := HF4.out.cells
        refine hK.out _ _ p0 (fun hHeld => ?_)
        clear hK K
        refine wpAnyH_done (by kernel_rfl) ?_ _
        clear hHeld
        go_wp2
        go_end0
        rw [HM.out]
        exact ⟨⟨rfl, _, _, _, HF4.out, HR4.out, HOW4.out⟩, Nat.le_trans HS1.out HS4.out⟩
      ·
       go_simp
       have p0 := Xaa (o := (.cells #[.string nx, .string tx2] 49)) p0
       have q4 := Xaa (o := (.cells #[.string nx, .string tx2] 49)) q4
       refine hK.out _ _ p0 (fun hHeld => ?_)
       clear hK K
       refine wpAnyH_ready (rs := [0]) (by kernel_rfl) (by simp) ?_
       refine AllReadyH.cons rfl (fun K hK => ?_) AllReadyH.nil
       ·
        go_simp
        refine hK.out _ _ p0 (fun hHeld => ?_)
        clear hK K
        refine wpAnyH_ready (rs := [5]) (by kernel_rfl) (by simp) ?_
        refine AllReadyH.cons rfl (fun K hK => ?_) AllReadyH.nil
        refine Xdu rfl _ _ (by rfl) lo (.slice A0 k c0) xs (by rfl) ?ho ⟨w2.heap.size, 0, none⟩ 1 a (by rfl) ?hn ⟨by have := HL2.out; omega, by have := HL2.out; omega⟩ (by have := HK.out; omega) ?hb ?_
        case hn => rw [← HNX.out, ← HTX.out]; exact Xfv (heap_alloc_new w2 _)
        case ho => exact Xci.keep HOW2.out (by simp) fun b hb _ => Below.heap_alloc _ _ _ hb
        case hb => have := HF2.out.sz; simp; omega
        intro g3 c3 w3 hown3 hgr hat
        rw [← HK.out] at hown3 ⊢
        have hkl : ∀ b, b < lo → w3.heap[b]? = w2.heap[b]? := fun b hb => (hgr.block b (by have := HF2.out.sz; simp; omega) (fun e => by have := (HOW2.out.lt e.symm).1; omega)).trans (Below.heap_alloc _ _ _ (by have := HF2.out.sz; omega))
        have hs3 : w2.heap.size ≤ w3.heap.size := by have := hgr.size; simp at this; omega
        have hc3 : Chg (fun b => b = R) w w3 := by
         have h9 := HF2.out.chg
         have h8 := HF2.out.hC
         have ho1 : w3.os = w2.os := hgr.os
         have ho2 : w3.tape = w2.tape := hgr.tape
         have ho3 : w3.output = w2.output := hgr.output
         exact ⟨ho1.trans h9.os, ho2.trans h9.tape, ho3.trans h9.output, Nat.le_trans h9.size hs3, fun b hb hn => (hkl b (by omega)).trans (h9.block b hb hn)⟩
        have HF3 := lh (HF2.out.keep (fun b _ hl => hkl b hl) hs3 hc3)
        have HR3 := lh (HR2.out.keep (w' := w3) fun b hb => hkl b (by have := HF2.out.hC; have := HF2.out.hB; omega))
        have HOW3 := lh hown3
        have HS3 := lh (Nat.le_trans HS2.out hs3)
        clear hown3 hgr hat hkl hs3 hc3 p0 q4 hHeld
        obtain ⟨p0, q4, z4⟩ := HF3.out.cells
        refine hK.out _ _ p0 (fun hHeld => ?_)
        clear hK K
        refine wpAnyH_ready (rs := [6]) (by kernel_rfl) (by simp) ?_
        refine AllReadyH.cons rfl (fun K hK => ?_) AllReadyH.nil
        go_simp
        obtain ⟨w4, hw4⟩ : ∃ W, W = w3.setCell ⟨C, 0, none⟩ (.slice (some ⟨g3, 0, none⟩) (k + 1) c3) := ⟨_, rfl⟩
        rw [← hw4]
        have HF4 : Hid (LRow 43 w Y B R lo G C w4 (.slice (some ⟨g3, 0, none⟩) (k + 1) c3)) := lh (by rw [hw4]; exact HF3.out.put _)
        have HR4 : Hid (RdAt w4 B R L u2) := lh (by rw [hw4]; exact HR3.out.setCell _ _ (by show B ≤ C; have := HF3.out.hC; have := HF3.out.hB; omega))
        have HOW4 : Hid (Xci w4 lo (.slice (some ⟨g3, 0, none⟩) (k + 1) c3) (xs ++ [a])) := lh (by rw [hw4]; exact Xci.keep HOW3.out (by simp [World.setCell]) fun b hb hl => Below.heap_setCell _ _ _ _ (by show b ≠ C; have := HF3.out.hC; omega))
        have HS4 : Hid (Z.heap.size ≤ w4.heap.size) := lh (by rw [hw4]; simpa [World.setCell] using HS3.out)
        clear hw4 p0 q4 z4
        obtain ⟨p0, q4, z4⟩ := HF4.out.cells
        refine hK.out _ _ p0 (fun hHeld => ?_)
        clear hK K
        refine wpAnyH_done (by kernel_rfl) ?_ _
        clear hHeld
        go_wp2
        go_end0
        rw [HM.out]
        exact ⟨⟨rfl, _, _, _, HF4.out, HR4.out, HOW4.out⟩, Nat.le_trans HS1.out HS4.out⟩
end Go.Proofs.YtbckeljbpknbdaaGreatDoor
