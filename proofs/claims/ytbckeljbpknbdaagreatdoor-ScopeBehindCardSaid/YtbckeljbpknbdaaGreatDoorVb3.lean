/- Fj -/
import Derived.Test.YtbckeljbpknbdaaGreatDoorVb4
set_option linter.unusedVariables false
set_option linter.unusedSimpArgs false
namespace Go.Proofs.YtbckeljbpknbdaaGreatDoor
open Go.RowKit
def AppS2 (w Z : World) (R lo : Nat) (Fr : World → Value → List Tok → Prop) (xs : List Sm) (x : Rd Sm) (e : Ending) (w' : World) : Prop := Xqk w R lo Fr xs x e w' ∧ Z.heap.size ≤ w'.heap.size
set_option maxRecDepth 100000 in
set_option maxHeartbeats 8000000 in
theorem bstmt {w Z : World} {B R L lo G0 G1 C n : Nat} {D : Int} {Fr : World → Value → List Tok → Prop} {v : Value} {xs : List Sm} {us : List Tok} (hO : FrOk w B R L lo G0 G1 ⟨C, 0, none⟩ D Fr) (h : Fr Z v us) (hown : Xcn Z lo v xs) (hxs : xs.length ≤ 5000) (hD0 : 0 ≤ D) (hD1 : D ≤ 30)
  (hE : ∀ (w : World) (us : List Tok), RdAt w B R L us → B ≤ w.heap.size → Calls Tryz.prog 84 #[.pointer (some ⟨R, 0, none⟩), .int .i64 D] w (Xaj (SmB w.heap.size) w B R L (Xcp L n us)))
  {a : Sm} {r : List Tok} (hx : Xcp L n us = .ok a r) :
  Calls Tryz.prog 83 #[.int .i64 (xs.length : Nat), .pointer (some ⟨C, 0, none⟩), .pointer (some ⟨G0, 0, none⟩), .pointer (some ⟨G1, 0, none⟩)] Z (AppS2 w Z R lo Fr xs (.ok a r)) := by
 obtain ⟨A0, c0, hv⟩ := hown.slice
 subst hv
 obtain ⟨k, hk⟩ : ∃ k, k = xs.length := ⟨_, rfl⟩
 rw [← hk] at h hxs hown
 have y0 := hO.c0 h
 have y1 := hO.c1 h
 have y4 := hO.cv h
 have HWR : Hid (IntKind.i64.wrap (D + 1) = D + 1) := lh (IntWalk.i64_in _ ⟨by omega, by omega⟩)
 have HH := lh h
 have HO := lh hO
 have HOWN := lh hown
 have HSL := lh (hO.size h)
 have HSZ : Hid (B ≤ Z.heap.size) := lh (by have := hO.size h; have := hO.lB; omega)
 have HRL : Hid (R < lo) := lh (by have := (hO.rd h).lt; have := hO.lB; omega)
 have HE := lh hE
 have HXE := lh hx
 have HK := lh hk
 clear h hO hown hE hx hk
 go_enter Tryz.func83, Tryz.ntmps83
 go_wp2_with fail
 refine wp_region_held_drew (S := fun W => W.cell? ⟨G0, 0, none⟩ = some (.pointer (some ⟨R, 0, none⟩)) ∧ W.cell? ⟨G1, 0, none⟩ = some (.int .i64 D)) (by kernel_rfl) ⟨y0, y1⟩ (fun hHeld => ?_)
 have p0 : Z.drew.cell? ⟨G0, 0, none⟩ = some (.pointer (some ⟨R, 0, none⟩)) := y0
 have p1 : Z.drew.cell? ⟨G1, 0, none⟩ = some (.int .i64 D) := y1
 have q4 : Z.drew.cell? ⟨C, 0, none⟩ = some (.slice A0 k c0) := y4
 refine wpAnyH_take (i := 1) (oi := _) (v := .pointer (some ⟨R, 0, none⟩)) rfl (by kernel_rfl) (by kernel_rfl) (by kernel_rfl) (fun _ _ _ h => h) (Or.inl ⟨by rfl, fun W hS => ?_⟩) hHeld ?_
 · obtain ⟨s0, s1⟩ := hS
   go_simp
   try rw [HWR.out]
 simp only [Act.put]
 refine wpAnyH_take (i := 2) (oi := _) (v := .int .i64 D) rfl (by kernel_rfl) (by kernel_rfl) (by kernel_rfl) (fun _ _ _ h => h) (Or.inl ⟨by rfl, fun W hS => ?_⟩) hHeld ?_
 · obtain ⟨s0, s1⟩ := hS
   go_simp
   try rw [HWR.out]
 simp only [Act.put]
 have tld_ : Nat := 0
 have tcall_ : Nat := 0
 have tmk_ : Nat := 0
 repeat' (first
  | (have q_ := tld_
     clear q_
     have q_ := tcall_
     clear q_
     have q_ := tmk_
     clear q_
     refine wpAnyH_ready (rs := [0, 3, 5]) (by kernel_rfl) (by simp) (AllReadyH.cons rfl (fun K hKld => ?_) (AllReadyH.cons rfl (fun K hKcall => ?_) (AllReadyH.cons rfl (fun K hKmk => ?_) AllReadyH.nil))))
  | (have q_ := tcall_
     clear q_
     have q_ := tmk_
     clear q_
     refine wpAnyH_ready (rs := [3, 5]) (by kernel_rfl) (by simp) (AllReadyH.cons rfl (fun K hKcall => ?_) (AllReadyH.cons rfl (fun K hKmk => ?_) AllReadyH.nil)))
  | (have q_ := tld_
     clear q_
     have q_ := tmk_
     clear q_
     refine wpAnyH_ready (rs := [0, 5]) (by kernel_rfl) (by simp) (AllReadyH.cons rfl (fun K hKld => ?_) (AllReadyH.cons rfl (fun K hKmk => ?_) AllReadyH.nil)))
  | (have q_ := tld_
     clear q_
     have q_ := tcall_
     clear q_
     refine wpAnyH_ready (rs := [0, 3]) (by kernel_rfl) (by simp) (AllReadyH.cons rfl (fun K hKld => ?_) (AllReadyH.cons rfl (fun K hKcall => ?_) AllReadyH.nil)))
  | (have q_ := tmk_
     clear q_
     refine wpAnyH_ready (rs := [5]) (by kernel_rfl) (by simp) (AllReadyH.cons rfl (fun K hKmk => ?_) AllReadyH.nil))
  | (have q_ := tcall_
     clear q_
     refine wpAnyH_ready (rs := [3]) (by kernel_rfl) (by simp) (AllReadyH.cons rfl (fun K hKcall => ?_) AllReadyH.nil))
  | (have q_ := tld_
     clear q_
     refine wpAnyH_ready (rs := [0]) (by kernel_rfl) (by simp) (AllReadyH.cons rfl (fun K hKld => ?_) AllReadyH.nil))
  | (have hK := hKcall
     clear hKcall
     clear tcall_
     have q_ := tmk_
     clear q_
     go_simp
     refine (HE.out Z.drew us (HO.out.rd HH.out).drew HSZ.out).mono ?_
     rintro e w2 hp
     rw [HXE.out] at hp
     obtain ⟨⟨v2, rfl, ⟨fe, fb, fl⟩, rfl, hi2⟩, hr2, hc2⟩ := hp
     obtain ⟨A2, d2, he2, -⟩ := Xbb.slice hi2.2.2.1
     obtain ⟨A3, d3, he3, -⟩ := Xay.slice hi2.2.2.2.1
     obtain ⟨A4, d4, he4, -⟩ := Xay.slice hi2.2.2.2.2
     obtain ⟨n2, hn2⟩ : ∃ n, n = a.exprs.length := ⟨_, rfl⟩
     obtain ⟨n3, hn3⟩ : ∃ n, n = a.body.length := ⟨_, rfl⟩
     obtain ⟨n4, hn4⟩ : ∃ n, n = a.els.length := ⟨_, rfl⟩
     rw [← hn2] at he2
     rw [← hn3] at he3
     rw [← hn4] at he4
     dsimp only at he2 he3 he4
     subst he2 he3 he4
     clear hn2 hn3 hn4
     have hcz : Chg (fun b => b = R) Z w2 := ⟨hc2.os, hc2.tape, hc2.output, hc2.size, hc2.block⟩
     have HF2 := lh (HO.out.step HH.out hr2 hcz)
     have HC2 := lh hcz
     have HI2 := lh hi2
     clear hi2 hr2 hc2 hcz p0 p1 q4 hHeld
     have p0 := HO.out.c0 HF2.out
     have p1 := HO.out.c1 HF2.out
     have q4 := HO.out.cv HF2.out
     go_wp2_with fail
     refine hK.out _ _ ⟨p0, p1⟩ (fun hHeld => ?_)
     clear hK K)
  | (have hK := hKmk
     clear hKmk
     clear tmk_
     have q_ := tcall_
     clear q_
     go_simp
     have p0 := Xaa (o := (.cells #[.int .i64 0, .int .i64 0, .string ⟨#[]⟩, .string ⟨#[]⟩, .slice none 0 0, .slice none 0 0, .slice none 0 0] 68)) p0
     have p1 := Xaa (o := (.cells #[.int .i64 0, .int .i64 0, .string ⟨#[]⟩, .string ⟨#[]⟩, .slice none 0 0, .slice none 0 0, .slice none 0 0] 68)) p1
     have q4 := Xaa (o := (.cells #[.int .i64 0, .int .i64 0, .string ⟨#[]⟩, .string ⟨#[]⟩, .slice none 0 0, .slice none 0 0, .slice none 0 0] 68)) q4
     have x4 := Xaa (o := (.cells #[.int .i64 0, .int .i64 0, .string ⟨#[]⟩, .string ⟨#[]⟩, .slice none 0 0, .slice none 0 0, .slice none 0 0] 68)) y4
     refine hK.out _ _ ⟨p0, p1⟩ (fun hHeld => ?_)
     clear hK K)
  | (have hK := hKld
     clear hKld
     clear tld_
     go_simp
     refine hK.out _ _ ⟨p0, p1⟩ (fun hHeld => ?_)
     clear hK K
     refine wpAnyH_take (i := 4) (oi := _) (v := .int .i64 k) rfl (by kernel_rfl) (by kernel_rfl) (by kernel_rfl) (fun _ _ _ h => h) (Or.inl ⟨by rfl, fun W hS => ?_⟩) hHeld ?_
     · obtain ⟨s0, s1⟩ := hS
       go_simp
       try rw [HWR.out]
     simp only [Act.put])
  | (have hK := hKmk
     clear hKmk
     clear tmk_
     have tlast_ : Nat := 0
     go_simp
     have p0 := Xaa (o := (.cells #[.int .i64 0, .int .i64 0, .string ⟨#[]⟩, .string ⟨#[]⟩, .slice none 0 0, .slice none 0 0, .slice none 0 0] 68)) p0
     have p1 := Xaa (o := (.cells #[.int .i64 0, .int .i64 0, .string ⟨#[]⟩, .string ⟨#[]⟩, .slice none 0 0, .slice none 0 0, .slice none 0 0] 68)) p1
     have q4 := Xaa (o := (.cells #[.int .i64 0, .int .i64 0, .string ⟨#[]⟩, .string ⟨#[]⟩, .slice none 0 0, .slice none 0 0, .slice none 0 0] 68)) q4
     refine hK.out _ _ ⟨p0, p1⟩ (fun hHeld => ?_)
     clear hK K)
  | (have hK := hKcall
     clear hKcall
     clear tcall_
     go_simp
     refine (HE.out (Z.drew.alloc (.cells #[.int .i64 0, .int .i64 0, .string ⟨#[]⟩, .string ⟨#[]⟩, .slice none 0 0, .slice none 0 0, .slice none 0 0] 68)) us ((HO.out.rd HH.out).drew.alloc HSZ.out _) (by have := HSZ.out; simp; omega)).mono ?_
     rintro e w2 hp
     rw [HXE.out] at hp
     obtain ⟨⟨v2, rfl, ⟨fe, fb, fl⟩, rfl, hi2⟩, hr2, hc2⟩ := hp
     obtain ⟨A2, d2, he2, -⟩ := Xbb.slice hi2.2.2.1
     obtain ⟨A3, d3, he3, -⟩ := Xay.slice hi2.2.2.2.1
     obtain ⟨A4, d4, he4, -⟩ := Xay.slice hi2.2.2.2.2
     obtain ⟨n2, hn2⟩ : ∃ n, n = a.exprs.length := ⟨_, rfl⟩
     obtain ⟨n3, hn3⟩ : ∃ n, n = a.body.length := ⟨_, rfl⟩
     obtain ⟨n4, hn4⟩ : ∃ n, n = a.els.length := ⟨_, rfl⟩
     rw [← hn2] at he2
     rw [← hn3] at he3
     rw [← hn4] at he4
     dsimp only at he2 he3 he4
     subst he2 he3 he4
     clear hn2 hn3 hn4
     have hcz : Chg (fun b => b = R) Z w2 := (Chg.up (b := Z.alloc (.cells #[.int .i64 0, .int .i64 0, .string ⟨#[]⟩, .string ⟨#[]⟩, .slice none 0 0, .slice none 0 0, .slice none 0 0] 68)) (Chg.of_below (Xae _ _)) ⟨hc2.os, hc2.tape, hc2.output, hc2.size, hc2.block⟩)
     have HF2 := lh (HO.out.step HH.out hr2 hcz)
     have HC2 := lh hcz
     have HI2 := lh hi2
     have HZB : Hid (w2.heap[Z.heap.size]? = some (.cells #[.int .i64 0, .int .i64 0, .string ⟨#[]⟩, .string ⟨#[]⟩, .slice none 0 0, .slice none 0 0, .slice none 0 0] 68 (0, 0))) := lh (hc2.row (heap_alloc_new Z.drew _) (by have := HRL.out; have := HO.out.size HH.out; show Z.heap.size ≠ R; omega))
     clear hi2 hr2 hc2 hcz p0 p1 q4 hHeld
     have p0 := HO.out.c0 HF2.out
     have p1 := HO.out.c1 HF2.out
     have q4 := HO.out.cv HF2.out
     go_wp2_with fail
     refine hK.out _ _ ⟨p0, p1⟩ (fun hHeld => ?_)
     clear hK K)
  | (have q_ := tlast_
     clear q_
     refine wpAnyH_ready (rs := [6]) (by kernel_rfl) (by simp) ?_
     refine AllReadyH.cons rfl (fun K hK => ?_) AllReadyH.nil
     refine Xim rfl _ _ (by rfl) lo (.slice A0 k c0) xs (by rfl) ?ho ⟨w2.heap.size, 0, none⟩ 1 noSm noVs (by rfl) ?hn ?hu (by have := HK.out; omega) ?hb ?_
     case ho => exact Xcn.keep (Xoa HRL.out HOWN.out HC2.out) (by simp) fun b hb _ => Below.heap_alloc _ _ _ hb
     case hn => exact Xxu (heap_alloc_new w2 _)
     case hb => have := HO.out.size HF2.out; simp; omega
     case hu => exact Ydw _ _
     intro g3 c3 w3 hown3 hgr hat
     rw [← HK.out] at hown3 ⊢
     have hk3 : ∀ b, b < w2.heap.size → (Value.slice A0 k c0).ownBlock ≠ some b → w3.heap[b]? = w2.heap[b]? := fun b hb hn => (hgr.block b (by simp; omega) (fun e => hn e.symm)).trans (Below.heap_alloc _ _ _ hb)
     have hs3 : w2.heap.size ≤ w3.heap.size := by have := hgr.size; simp at this; omega
     have hat : (Value.slice A0 k c0).ownBlock = some g3 ∨ w2.heap.size ≤ g3 := hat.imp id fun e => by rw [e]; simp
     have hs3x := lh hs3
     have ho3 : w3.os = w2.os ∧ w3.tape = w2.tape ∧ w3.output = w2.output := ⟨hgr.os, hgr.tape, hgr.output⟩
     obtain ⟨HW, HIU⟩ := Xwv HO.out HRL.out HOWN.out HC2.out HF2.out HI2.out (by first | exact Nat.le_refl _ | simp) HSL.out hk3 hs3 hat ho3
     have HS3 : Hid (Z.heap.size ≤ w3.heap.size) := lh (Nat.le_trans HC2.out.size hs3x.out)
     have HFIN := lh (Xwu HO.out HK.out HW hown3 HIU)
     have p0 := HO.out.c0 HW
     have p1 := HO.out.c1 HW
     have p4 := HO.out.cv HW
     have z4 := HO.out.fz HW
     obtain ⟨⟨t0, e0⟩, f0⟩ := Xbv HK.out hown3 0 (by omega)
     obtain ⟨⟨t1, e1⟩, f1⟩ := Xbv HK.out hown3 1 (by omega)
     obtain ⟨⟨y2, e2⟩, f2⟩ := Xbv HK.out hown3 2 (by omega)
     obtain ⟨⟨y3, e3⟩, f3⟩ := Xbv HK.out hown3 3 (by omega)
     obtain ⟨⟨t4, e4⟩, f4⟩ := Xbv HK.out hown3 4 (by omega)
     obtain ⟨⟨t5, e5⟩, f5⟩ := Xbv HK.out hown3 5 (by omega)
     obtain ⟨⟨t6, e6⟩, f6⟩ := Xbv HK.out hown3 6 (by omega)
     rw [Nat.add_zero] at e0 f0
     have hgl : lo ≤ g3 := (hown3.lt (b := g3) rfl).1
     have hne : ¬ g3 = C := by have := HO.out.lv; simp at this; omega
     have hne' : ¬ C = g3 := by omega
     have hg0 : ¬ G0 = g3 := by have := HO.out.l0; omega
     have hg1 : ¬ G1 = g3 := by have := HO.out.l1; omega
     have ha0 : ¬ G0 = C := fun e => HO.out.n0 e.symm
     have ha1 : ¬ G1 = C := fun e => HO.out.n1 e.symm
     clear hown3 hgr hat hk3 hs3 ho3 HW HIU HXE hHeld q4
     have HLT : Hid ((k : Int) < (k : Int) + 1) := lh (by omega)
     refine hK.out _ _ ⟨p0, p1⟩ (fun hHeld => ?_)
     clear hK K
     refine wpAnyH_take (i := 7) (oi := _) (v := .pointer (some ⟨g3, k * 7, none⟩)) rfl (by kernel_rfl) (by kernel_rfl) (by kernel_rfl) (fun _ _ _ h => h) (Or.inl ⟨by rfl, fun W hS => ?_⟩) hHeld ?_
     · go_simp
       intro hle
       exact absurd hle (by omega)
     simp only [Act.put]
     refine wpAnyH_ready (rs := [8, 9]) (by kernel_rfl) (by simp) ?_
     refine AllReadyH.cons rfl (fun K hK => ?_) (AllReadyH.cons rfl (fun K hK => ?_) AllReadyH.nil)
     ·
      go_simp
      have pA0 : (sevn w3 g3 (k * 7) a (⟨.slice A2 n2 d2, .slice A3 n3 d3, .slice A4 n4 d4⟩ : Vs)).cell? ⟨G0, 0, none⟩ = some (.pointer (some ⟨R, 0, none⟩)) := (World.cell?_of_block ((Xcw w3 g3 (k * 7) a (⟨.slice A2 n2 d2, .slice A3 n3 d3, .slice A4 n4 d4⟩ : Vs)).block _ (World.block_lt_of_cell? _ _ p0) hg0)).trans p0
      have pA1 : (sevn w3 g3 (k * 7) a (⟨.slice A2 n2 d2, .slice A3 n3 d3, .slice A4 n4 d4⟩ : Vs)).cell? ⟨G1, 0, none⟩ = some (.int .i64 D) := (World.cell?_of_block ((Xcw w3 g3 (k * 7) a (⟨.slice A2 n2 d2, .slice A3 n3 d3, .slice A4 n4 d4⟩ : Vs)).block _ (World.block_lt_of_cell? _ _ p1) hg1)).trans p1
      have pA4 : (sevn w3 g3 (k * 7) a (⟨.slice A2 n2 d2, .slice A3 n3 d3, .slice A4 n4 d4⟩ : Vs)).cell? ⟨C, 0, none⟩ = some (.slice A0 k c0) := (World.cell?_of_block ((Xcw w3 g3 (k * 7) a (⟨.slice A2 n2 d2, .slice A3 n3 d3, .slice A4 n4 d4⟩ : Vs)).block _ (World.block_lt_of_cell? _ _ p4) hne')).trans p4
      have zA4 : (sevn w3 g3 (k * 7) a (⟨.slice A2 n2 d2, .slice A3 n3 d3, .slice A4 n4 d4⟩ : Vs)).frozen? ⟨C, 0, none⟩ = false := (World.frozen?_of_block ((Xcw w3 g3 (k * 7) a (⟨.slice A2 n2 d2, .slice A3 n3 d3, .slice A4 n4 d4⟩ : Vs)).block _ (World.block_lt_of_cell? _ _ p4) hne')).trans z4
      change K _ (sevn w3 g3 (k * 7) a (⟨.slice A2 n2 d2, .slice A3 n3 d3, .slice A4 n4 d4⟩ : Vs))
      refine hK.out _ _ ⟨pA0, pA1⟩ (fun hHeld => ?_)
      clear hK K
      obtain ⟨WA, hWA⟩ : ∃ WA, WA = sevn w3 g3 (k * 7) a (⟨.slice A2 n2 d2, .slice A3 n3 d3, .slice A4 n4 d4⟩ : Vs) := ⟨_, rfl⟩
      have HWS : Hid (Z.heap.size ≤ WA.heap.size) := lh (by rw [hWA]; exact Nat.le_trans HS3.out (Xcw w3 g3 (k * 7) a (⟨.slice A2 n2 d2, .slice A3 n3 d3, .slice A4 n4 d4⟩ : Vs)).size)
      rw [← hWA] at HFIN pA0 pA1 pA4 zA4 hHeld ⊢
      clear hWA e0 e1 e2 e3 e4 e5 e6 f0 f1 f2 f3 f4 f5 f6 p0 p1 p4 z4
      refine wpAnyH_ready (rs := [9]) (by kernel_rfl) (by simp) ?_
      refine AllReadyH.cons rfl (fun K hK => ?_) AllReadyH.nil
      go_simp
      refine hK.out _ _ ⟨(World.cell?_of_block (Below.heap_setCell _ _ _ _ ha0)).trans pA0, (World.cell?_of_block (Below.heap_setCell _ _ _ _ ha1)).trans pA1⟩ (fun hHeld => ?_)
      clear hK K
      refine wpAnyH_done (by kernel_rfl) ?_ _
      go_wp2
      go_end0
      exact ⟨⟨rfl, _, _, _, HFIN.out.1.1, HFIN.out.1.2⟩, by have := HWS.out; simpa [World.setCell] using (HWS.out)⟩
     ·
      go_simp
      change K _ (w3.setCell ⟨C, 0, none⟩ (.slice (some ⟨g3, 0, none⟩) (k + 1) c3))
      obtain ⟨WB, hWB⟩ : ∃ WB, WB = w3.setCell ⟨C, 0, none⟩ (.slice (some ⟨g3, 0, none⟩) (k + 1) c3) := ⟨_, rfl⟩
      have hcB : ∀ b i, b ≠ C → WB.cell? ⟨b, i, none⟩ = w3.cell? ⟨b, i, none⟩ := fun b i hb => by rw [hWB]; exact World.cell?_of_block (Below.heap_setCell _ _ _ _ hb)
      have hfB : ∀ b i, b ≠ C → WB.frozen? ⟨b, i, none⟩ = w3.frozen? ⟨b, i, none⟩ := fun b i hb => by rw [hWB]; exact World.frozen?_of_block (Below.heap_setCell _ _ _ _ hb)
      have p0 := (hcB _ _ ha0).trans p0
      have p1 := (hcB _ _ ha1).trans p1
      have e0 := (hcB _ _ hne).trans e0
      have e1 := (hcB _ _ hne).trans e1
      have e2 := (hcB _ _ hne).trans e2
      have e3 := (hcB _ _ hne).trans e3
      have e4 := (hcB _ _ hne).trans e4
      have e5 := (hcB _ _ hne).trans e5
      have e6 := (hcB _ _ hne).trans e6
      have f0 := (hfB _ _ hne).trans f0
      have f1 := (hfB _ _ hne).trans f1
      have f2 := (hfB _ _ hne).trans f2
      have f3 := (hfB _ _ hne).trans f3
      have f4 := (hfB _ _ hne).trans f4
      have f5 := (hfB _ _ hne).trans f5
      have f6 := (hfB _ _ hne).trans f6
      have HWB : Hid (Z.heap.size ≤ WB.heap.size) := lh (by rw [hWB]; simpa [World.setCell] using HS3.out)
      rw [← hWB] at HFIN ⊢
      clear hWB hcB hfB z4 p4
      refine hK.out _ _ ⟨p0, p1⟩ (fun hHeld => ?_)
      clear hK K
      refine wpAnyH_ready (rs := [8]) (by kernel_rfl) (by simp) ?_
      refine AllReadyH.cons rfl (fun K hK => ?_) AllReadyH.nil
      go_simp
      have pA0 : (sevn WB g3 (k * 7) a (⟨.slice A2 n2 d2, .slice A3 n3 d3, .slice A4 n4 d4⟩ : Vs)).cell? ⟨G0, 0, none⟩ = some (.pointer (some ⟨R, 0, none⟩)) := (World.cell?_of_block ((Xcw WB g3 (k * 7) a (⟨.slice A2 n2 d2, .slice A3 n3 d3, .slice A4 n4 d4⟩ : Vs)).block _ (World.block_lt_of_cell? _ _ p0) hg0)).trans p0
      have pA1 : (sevn WB g3 (k * 7) a (⟨.slice A2 n2 d2, .slice A3 n3 d3, .slice A4 n4 d4⟩ : Vs)).cell? ⟨G1, 0, none⟩ = some (.int .i64 D) := (World.cell?_of_block ((Xcw WB g3 (k * 7) a (⟨.slice A2 n2 d2, .slice A3 n3 d3, .slice A4 n4 d4⟩ : Vs)).block _ (World.block_lt_of_cell? _ _ p1) hg1)).trans p1
      change K _ (sevn WB g3 (k * 7) a (⟨.slice A2 n2 d2, .slice A3 n3 d3, .slice A4 n4 d4⟩ : Vs))
      refine hK.out _ _ ⟨pA0, pA1⟩ (fun hHeld => ?_)
      clear hK K
      obtain ⟨WA, hWA⟩ : ∃ WA, WA = sevn WB g3 (k * 7) a (⟨.slice A2 n2 d2, .slice A3 n3 d3, .slice A4 n4 d4⟩ : Vs) := ⟨_, rfl⟩
      have HWS : Hid (Z.heap.size ≤ WA.heap.size) := lh (by rw [hWA]; exact Nat.le_trans HWB.out (Xcw WB g3 (k * 7) a (⟨.slice A2 n2 d2, .slice A3 n3 d3, .slice A4 n4 d4⟩ : Vs)).size)
      rw [← hWA] at HFIN ⊢
      refine wpAnyH_done (by kernel_rfl) ?_ _
      clear hHeld pA0 pA1 hWA
      go_wp2
      go_end0
      exact ⟨⟨rfl, _, _, _, HFIN.out.2.1, HFIN.out.2.2⟩, HWS.out⟩)
  | (refine wpAnyH_ready (rs := [6]) (by kernel_rfl) (by simp) ?_
     refine AllReadyH.cons rfl (fun K hK => ?_) AllReadyH.nil
     refine Xim rfl _ _ (by rfl) lo (.slice A0 k c0) xs (by rfl) ?ho ⟨Z.heap.size, 0, none⟩ 1 noSm noVs (by rfl) ?hn ?hu (by have := HK.out; omega) ?hb ?_
     case ho => exact Xoa HRL.out HOWN.out HC2.out
     case hn => exact Xxu HZB.out
     case hb => exact HO.out.size HF2.out
     case hu => exact Ydw _ _
     intro g3 c3 w3 hown3 hgr hat
     rw [← HK.out] at hown3 ⊢
     have hk3 : ∀ b, b < w2.heap.size → (Value.slice A0 k c0).ownBlock ≠ some b → w3.heap[b]? = w2.heap[b]? := fun b hb hn => hgr.block b hb (fun e => hn e.symm)
     have hs3 : w2.heap.size ≤ w3.heap.size := hgr.size
     have hat : (Value.slice A0 k c0).ownBlock = some g3 ∨ w2.heap.size ≤ g3 := hat.imp id fun e => by rw [e]; exact Nat.le_refl _
     have hs3x := lh hs3
     have ho3 : w3.os = w2.os ∧ w3.tape = w2.tape ∧ w3.output = w2.output := ⟨hgr.os, hgr.tape, hgr.output⟩
     obtain ⟨HW, HIU⟩ := Xwv HO.out HRL.out HOWN.out HC2.out HF2.out HI2.out (by first | exact Nat.le_refl _ | simp) HSL.out hk3 hs3 hat ho3
     have HS3 : Hid (Z.heap.size ≤ w3.heap.size) := lh (Nat.le_trans HC2.out.size hs3x.out)
     have HFIN := lh (Xwu HO.out HK.out HW hown3 HIU)
     have p0 := HO.out.c0 HW
     have p1 := HO.out.c1 HW
     have p4 := HO.out.cv HW
     have z4 := HO.out.fz HW
     obtain ⟨⟨t0, e0⟩, f0⟩ := Xbv HK.out hown3 0 (by omega)
     obtain ⟨⟨t1, e1⟩, f1⟩ := Xbv HK.out hown3 1 (by omega)
     obtain ⟨⟨y2, e2⟩, f2⟩ := Xbv HK.out hown3 2 (by omega)
     obtain ⟨⟨y3, e3⟩, f3⟩ := Xbv HK.out hown3 3 (by omega)
     obtain ⟨⟨t4, e4⟩, f4⟩ := Xbv HK.out hown3 4 (by omega)
     obtain ⟨⟨t5, e5⟩, f5⟩ := Xbv HK.out hown3 5 (by omega)
     obtain ⟨⟨t6, e6⟩, f6⟩ := Xbv HK.out hown3 6 (by omega)
     rw [Nat.add_zero] at e0 f0
     have hgl : lo ≤ g3 := (hown3.lt (b := g3) rfl).1
     have hne : ¬ g3 = C := by have := HO.out.lv; simp at this; omega
     have hne' : ¬ C = g3 := by omega
     have hg0 : ¬ G0 = g3 := by have := HO.out.l0; omega
     have hg1 : ¬ G1 = g3 := by have := HO.out.l1; omega
     have ha0 : ¬ G0 = C := fun e => HO.out.n0 e.symm
     have ha1 : ¬ G1 = C := fun e => HO.out.n1 e.symm
     clear hown3 hgr hat hk3 hs3 ho3 HW HIU HXE hHeld q4
     have HLT : Hid ((k : Int) < (k : Int) + 1) := lh (by omega)
     refine hK.out _ _ ⟨p0, p1⟩ (fun hHeld => ?_)
     clear hK K
     refine wpAnyH_take (i := 7) (oi := _) (v := .pointer (some ⟨g3, k * 7, none⟩)) rfl (by kernel_rfl) (by kernel_rfl) (by kernel_rfl) (fun _ _ _ h => h) (Or.inl ⟨by rfl, fun W hS => ?_⟩) hHeld ?_
     · go_simp
       intro hle
       exact absurd hle (by omega)
     simp only [Act.put]
     refine wpAnyH_ready (rs := [8, 9]) (by kernel_rfl) (by simp) ?_
     refine AllReadyH.cons rfl (fun K hK => ?_) (AllReadyH.cons rfl (fun K hK => ?_) AllReadyH.nil)
     ·
      go_simp
      have pA0 : (sevn w3 g3 (k * 7) a (⟨.slice A2 n2 d2, .slice A3 n3 d3, .slice A4 n4 d4⟩ : Vs)).cell? ⟨G0, 0, none⟩ = some (.pointer (some ⟨R, 0, none⟩)) := (World.cell?_of_block ((Xcw w3 g3 (k * 7) a (⟨.slice A2 n2 d2, .slice A3 n3 d3, .slice A4 n4 d4⟩ : Vs)).block _ (World.block_lt_of_cell? _ _ p0) hg0)).trans p0
      have pA1 : (sevn w3 g3 (k * 7) a (⟨.slice A2 n2 d2, .slice A3 n3 d3, .slice A4 n4 d4⟩ : Vs)).cell? ⟨G1, 0, none⟩ = some (.int .i64 D) := (World.cell?_of_block ((Xcw w3 g3 (k * 7) a (⟨.slice A2 n2 d2, .slice A3 n3 d3, .slice A4 n4 d4⟩ : Vs)).block _ (World.block_lt_of_cell? _ _ p1) hg1)).trans p1
      have pA4 : (sevn w3 g3 (k * 7) a (⟨.slice A2 n2 d2, .slice A3 n3 d3, .slice A4 n4 d4⟩ : Vs)).cell? ⟨C, 0, none⟩ = some (.slice A0 k c0) := (World.cell?_of_block ((Xcw w3 g3 (k * 7) a (⟨.slice A2 n2 d2, .slice A3 n3 d3, .slice A4 n4 d4⟩ : Vs)).block _ (World.block_lt_of_cell? _ _ p4) hne')).trans p4
      have zA4 : (sevn w3 g3 (k * 7) a (⟨.slice A2 n2 d2, .slice A3 n3 d3, .slice A4 n4 d4⟩ : Vs)).frozen? ⟨C, 0, none⟩ = false := (World.frozen?_of_block ((Xcw w3 g3 (k * 7) a (⟨.slice A2 n2 d2, .slice A3 n3 d3, .slice A4 n4 d4⟩ : Vs)).block _ (World.block_lt_of_cell? _ _ p4) hne')).trans z4
      change K _ (sevn w3 g3 (k * 7) a (⟨.slice A2 n2 d2, .slice A3 n3 d3, .slice A4 n4 d4⟩ : Vs))
      refine hK.out _ _ ⟨pA0, pA1⟩ (fun hHeld => ?_)
      clear hK K
      obtain ⟨WA, hWA⟩ : ∃ WA, WA = sevn w3 g3 (k * 7) a (⟨.slice A2 n2 d2, .slice A3 n3 d3, .slice A4 n4 d4⟩ : Vs) := ⟨_, rfl⟩
      have HWS : Hid (Z.heap.size ≤ WA.heap.size) := lh (by rw [hWA]; exact Nat.le_trans HS3.out (Xcw w3 g3 (k * 7) a (⟨.slice A2 n2 d2, .slice A3 n3 d3, .slice A4 n4 d4⟩ : Vs)).size)
      rw [← hWA] at HFIN pA0 pA1 pA4 zA4 hHeld ⊢
      clear hWA e0 e1 e2 e3 e4 e5 e6 f0 f1 f2 f3 f4 f5 f6 p0 p1 p4 z4
      refine wpAnyH_ready (rs := [9]) (by kernel_rfl) (by simp) ?_
      refine AllReadyH.cons rfl (fun K hK => ?_) AllReadyH.nil
      go_simp
      refine hK.out _ _ ⟨(World.cell?_of_block (Below.heap_setCell _ _ _ _ ha0)).trans pA0, (World.cell?_of_block (Below.heap_setCell _ _ _ _ ha1)).trans pA1⟩ (fun hHeld => ?_)
      clear hK K
      refine wpAnyH_done (by kernel_rfl) ?_ _
      go_wp2
      go_end0
      exact ⟨⟨rfl, _, _, _, HFIN.out.1.1, HFIN.out.1.2⟩, by have := HWS.out; simpa [World.setCell] using (HWS.out)⟩
     ·
      go_simp
      change K _ (w3.setCell ⟨C, 0, none⟩ (.slice (some ⟨g3, 0, none⟩) (k + 1) c3))
      obtain ⟨WB, hWB⟩ : ∃ WB, WB = w3.setCell ⟨C, 0, none⟩ (.slice (some ⟨g3, 0, none⟩) (k + 1) c3) := ⟨_, rfl⟩
      have hcB : ∀ b i, b ≠ C → WB.cell? ⟨b, i, none⟩ = w3.cell? ⟨b, i, none⟩ := fun b i hb => by rw [hWB]; exact World.cell?_of_block (Below.heap_setCell _ _ _ _ hb)
      have hfB : ∀ b i, b ≠ C → WB.frozen? ⟨b, i, none⟩ = w3.frozen? ⟨b, i, none⟩ := fun b i hb => by rw [hWB]; exact World.frozen?_of_block (Below.heap_setCell _ _ _ _ hb)
      have p0 := (hcB _ _ ha0).trans p0
      have p1 := (hcB _ _ ha1).trans p1
      have e0 := (hcB _ _ hne).trans e0
      have e1 := (hcB _ _ hne).trans e1
      have e2 := (hcB _ _ hne).trans e2
      have e3 := (hcB _ _ hne).trans e3
      have e4 := (hcB _ _ hne).trans e4
      have e5 := (hcB _ _ hne).trans e5
      have e6 := (hcB _ _ hne).trans e6
      have f0 := (hfB _ _ hne).trans f0
      have f1 := (hfB _ _ hne).trans f1
      have f2 := (hfB _ _ hne).trans f2
      have f3 := (hfB _ _ hne).trans f3
      have f4 := (hfB _ _ hne).trans f4
      have f5 := (hfB _ _ hne).trans f5
      have f6 := (hfB _ _ hne).trans f6
      have HWB : Hid (Z.heap.size ≤ WB.heap.size) := lh (by rw [hWB]; simpa [World.setCell] using HS3.out)
      rw [← hWB] at HFIN ⊢
      clear hWB hcB hfB z4 p4
      refine hK.out _ _ ⟨p0, p1⟩ (fun hHeld => ?_)
      clear hK K
      refine wpAnyH_ready (rs := [8]) (by kernel_rfl) (by simp) ?_
      refine AllReadyH.cons rfl (fun K hK => ?_) AllReadyH.nil
      go_simp
      have pA0 : (sevn WB g3 (k * 7) a (⟨.slice A2 n2 d2, .slice A3 n3 d3, .slice A4 n4 d4⟩ : Vs)).cell? ⟨G0, 0, none⟩ = some (.pointer (some ⟨R, 0, none⟩)) := (World.cell?_of_block ((Xcw WB g3 (k * 7) a (⟨.slice A2 n2 d2, .slice A3 n3 d3, .slice A4 n4 d4⟩ : Vs)).block _ (World.block_lt_of_cell? _ _ p0) hg0)).trans p0
      have pA1 : (sevn WB g3 (k * 7) a (⟨.slice A2 n2 d2, .slice A3 n3 d3, .slice A4 n4 d4⟩ : Vs)).cell? ⟨G1, 0, none⟩ = some (.int .i64 D) := (World.cell?_of_block ((Xcw WB g3 (k * 7) a (⟨.slice A2 n2 d2, .slice A3 n3 d3, .slice A4 n4 d4⟩ : Vs)).block _ (World.block_lt_of_cell? _ _ p1) hg1)).trans p1
      change K _ (sevn WB g3 (k * 7) a (⟨.slice A2 n2 d2, .slice A3 n3 d3, .slice A4 n4 d4⟩ : Vs))
      refine hK.out _ _ ⟨pA0, pA1⟩ (fun hHeld => ?_)
      clear hK K
      obtain ⟨WA, hWA⟩ : ∃ WA, WA = sevn WB g3 (k * 7) a (⟨.slice A2 n2 d2, .slice A3 n3 d3, .slice A4 n4 d4⟩ : Vs) := ⟨_, rfl⟩
      have HWS : Hid (Z.heap.size ≤ WA.heap.size) := lh (by rw [hWA]; exact Nat.le_trans HWB.out (Xcw WB g3 (k * 7) a (⟨.slice A2 n2 d2, .slice A3 n3 d3, .slice A4 n4 d4⟩ : Vs)).size)
      rw [← hWA] at HFIN ⊢
      refine wpAnyH_done (by kernel_rfl) ?_ _
      clear hHeld pA0 pA1 hWA
      go_wp2
      go_end0
      exact ⟨⟨rfl, _, _, _, HFIN.out.2.1, HFIN.out.2.2⟩, HWS.out⟩))
set_option maxRecDepth 100000 in
set_option maxHeartbeats 8000000 in
theorem Ybl {w Z : World} {B R L lo G0 G1 C n : Nat} {D : Int} {Fr : World → Value → List Tok → Prop} {v : Value} {xs : List Sm} {us : List Tok} (hO : FrOk w B R L lo G0 G1 ⟨C, 0, none⟩ D Fr) (h : Fr Z v us) (hown : Xcn Z lo v xs) (hxs : xs.length ≤ 5000) (hD0 : 0 ≤ D) (hD1 : D ≤ 30)
  (hE : ∀ (w : World) (us : List Tok), RdAt w B R L us → B ≤ w.heap.size → Calls Tryz.prog 84 #[.pointer (some ⟨R, 0, none⟩), .int .i64 D] w (Xaj (SmB w.heap.size) w B R L (Xcp L n us)))
  {p9 c9 : Nat} (hx : Xcp L n us = .bad p9 c9) :
  Calls Tryz.prog 83 #[.int .i64 (xs.length : Nat), .pointer (some ⟨C, 0, none⟩), .pointer (some ⟨G0, 0, none⟩), .pointer (some ⟨G1, 0, none⟩)] Z (AppS2 w Z R lo Fr xs (.bad p9 c9)) := by
 obtain ⟨A0, c0, hv⟩ := hown.slice
 subst hv
 obtain ⟨k, hk⟩ : ∃ k, k = xs.length := ⟨_, rfl⟩
 rw [← hk] at h hxs hown
 have y0 := hO.c0 h
 have y1 := hO.c1 h
 have y4 := hO.cv h
 have HWR : Hid (IntKind.i64.wrap (D + 1) = D + 1) := lh (IntWalk.i64_in _ ⟨by omega, by omega⟩)
 have HH := lh h
 have HO := lh hO
 have HOWN := lh hown
 have HSL := lh (hO.size h)
 have HSZ : Hid (B ≤ Z.heap.size) := lh (by have := hO.size h; have := hO.lB; omega)
 have HRL : Hid (R < lo) := lh (by have := (hO.rd h).lt; have := hO.lB; omega)
 have HE := lh hE
 have HXE := lh hx
 have HK := lh hk
 clear h hO hown hE hx hk
 go_enter Tryz.func83, Tryz.ntmps83
 go_wp2_with fail
 refine wp_region_held_drew (S := fun W => W.cell? ⟨G0, 0, none⟩ = some (.pointer (some ⟨R, 0, none⟩)) ∧ W.cell? ⟨G1, 0, none⟩ = some (.int .i64 D)) (by kernel_rfl) ⟨y0, y1⟩ (fun hHeld => ?_)
 have p0 : Z.drew.cell? ⟨G0, 0, none⟩ = some (.pointer (some ⟨R, 0, none⟩)) := y0
 have p1 : Z.drew.cell? ⟨G1, 0, none⟩ = some (.int .i64 D) := y1
 have q4 : Z.drew.cell? ⟨C, 0, none⟩ = some (.slice A0 k c0) := y4
 refine wpAnyH_take (i := 1) (oi := _) (v := .pointer (some ⟨R, 0, none⟩)) rfl (by kernel_rfl) (by kernel_rfl) (by kernel_rfl) (fun _ _ _ h => h) (Or.inl ⟨by rfl, fun W hS => ?_⟩) hHeld ?_
 · obtain ⟨s0, s1⟩ := hS
   go_simp
   try rw [HWR.out]
 simp only [Act.put]
 refine wpAnyH_take (i := 2) (oi := _) (v := .int .i64 D) rfl (by kernel_rfl) (by kernel_rfl) (by kernel_rfl) (fun _ _ _ h => h) (Or.inl ⟨by rfl, fun W hS => ?_⟩) hHeld ?_
 · obtain ⟨s0, s1⟩ := hS
   go_simp
   try rw [HWR.out]
 simp only [Act.put]
 have tld_ : Nat := 0
 have tcall_ : Nat := 0
 have tmk_ : Nat := 0
 repeat' (first
  | (have q_ := tld_
     clear q_
     have q_ := tcall_
     clear q_
     have q_ := tmk_
     clear q_
     refine wpAnyH_ready (rs := [0, 3, 5]) (by kernel_rfl) (by simp) (AllReadyH.cons rfl (fun K hKld => ?_) (AllReadyH.cons rfl (fun K hKcall => ?_) (AllReadyH.cons rfl (fun K hKmk => ?_) AllReadyH.nil))))
  | (have q_ := tcall_
     clear q_
     have q_ := tmk_
     clear q_
     refine wpAnyH_ready (rs := [3, 5]) (by kernel_rfl) (by simp) (AllReadyH.cons rfl (fun K hKcall => ?_) (AllReadyH.cons rfl (fun K hKmk => ?_) AllReadyH.nil)))
  | (have q_ := tld_
     clear q_
     have q_ := tcall_
     clear q_
     refine wpAnyH_ready (rs := [0, 3]) (by kernel_rfl) (by simp) (AllReadyH.cons rfl (fun K hKld => ?_) (AllReadyH.cons rfl (fun K hKcall => ?_) AllReadyH.nil)))
  | (have q_ := tcall_
     clear q_
     refine wpAnyH_ready (rs := [3]) (by kernel_rfl) (by simp) (AllReadyH.cons rfl (fun K hKcall => ?_) AllReadyH.nil))
  | (have hK := hKcall
     clear hKcall
     clear tcall_
     have q_ := tmk_
     clear q_
     go_simp
     refine (HE.out Z.drew us (HO.out.rd HH.out).drew HSZ.out).mono ?_
     rintro e w2 hp
     rw [HXE.out] at hp
     obtain ⟨rfl, hc2⟩ := hp
     have HC2 := lh ((HO.out.chg HH.out).up (show Chg (fun b => b = R) Z w2 from ⟨hc2.os, hc2.tape, hc2.output, hc2.size, hc2.block⟩))
     have HSB : Hid (Z.heap.size ≤ w2.heap.size) := lh (show Chg (fun b => b = R) Z w2 from ⟨hc2.os, hc2.tape, hc2.output, hc2.size, hc2.block⟩).size
     clear hc2
     unfold Xag
     go_wp2
     exact ⟨rfl, ⟨rfl, HC2.out⟩, HSB.out⟩)
  | (have hK := hKmk
     clear hKmk
     clear tmk_
     have q_ := tcall_
     clear q_
     go_simp
     have p0 := Xaa (o := (.cells #[.int .i64 0, .int .i64 0, .string ⟨#[]⟩, .string ⟨#[]⟩, .slice none 0 0, .slice none 0 0, .slice none 0 0] 68)) p0
     have p1 := Xaa (o := (.cells #[.int .i64 0, .int .i64 0, .string ⟨#[]⟩, .string ⟨#[]⟩, .slice none 0 0, .slice none 0 0, .slice none 0 0] 68)) p1
     have q4 := Xaa (o := (.cells #[.int .i64 0, .int .i64 0, .string ⟨#[]⟩, .string ⟨#[]⟩, .slice none 0 0, .slice none 0 0, .slice none 0 0] 68)) q4
     have x4 := Xaa (o := (.cells #[.int .i64 0, .int .i64 0, .string ⟨#[]⟩, .string ⟨#[]⟩, .slice none 0 0, .slice none 0 0, .slice none 0 0] 68)) y4
     refine hK.out _ _ ⟨p0, p1⟩ (fun hHeld => ?_)
     clear hK K)
  | (have hK := hKld
     clear hKld
     clear tld_
     go_simp
     refine hK.out _ _ ⟨p0, p1⟩ (fun hHeld => ?_)
     clear hK K
     refine wpAnyH_take (i := 4) (oi := _) (v := .int .i64 k) rfl (by kernel_rfl) (by kernel_rfl) (by kernel_rfl) (fun _ _ _ h => h) (Or.inl ⟨by rfl, fun W hS => ?_⟩) hHeld ?_
     · obtain ⟨s0, s1⟩ := hS
       go_simp
       try rw [HWR.out]
     simp only [Act.put])
  | (have hK := hKcall
     clear hKcall
     clear tcall_
     go_simp
     refine (HE.out (Z.drew.alloc (.cells #[.int .i64 0, .int .i64 0, .string ⟨#[]⟩, .string ⟨#[]⟩, .slice none 0 0, .slice none 0 0, .slice none 0 0] 68)) us ((HO.out.rd HH.out).drew.alloc HSZ.out _) (by have := HSZ.out; simp; omega)).mono ?_
     rintro e w2 hp
     rw [HXE.out] at hp
     obtain ⟨rfl, hc2⟩ := hp
     have HC2 := lh ((HO.out.chg HH.out).up (show Chg (fun b => b = R) Z w2 from (Chg.up (b := Z.alloc (.cells #[.int .i64 0, .int .i64 0, .string ⟨#[]⟩, .string ⟨#[]⟩, .slice none 0 0, .slice none 0 0, .slice none 0 0] 68)) (Chg.of_below (Xae _ _)) ⟨hc2.os, hc2.tape, hc2.output, hc2.size, hc2.block⟩)))
     have HSB : Hid (Z.heap.size ≤ w2.heap.size) := lh (show Chg (fun b => b = R) Z w2 from (Chg.up (b := Z.alloc (.cells #[.int .i64 0, .int .i64 0, .string ⟨#[]⟩, .string ⟨#[]⟩, .slice none 0 0, .slice none 0 0, .slice none 0 0] 68)) (Chg.of_below (Xae _ _)) ⟨hc2.os, hc2.tape, hc2.output, hc2.size, hc2.block⟩)).size
     clear hc2
     unfold Xag
     go_wp2
     exact ⟨rfl, ⟨rfl, HC2.out⟩, HSB.out⟩))
theorem Ybk {w Z : World} {B R L lo G0 G1 C n : Nat} {D : Int} {Fr : World → Value → List Tok → Prop} {v : Value} {xs : List Sm} {us : List Tok} (hO : FrOk w B R L lo G0 G1 ⟨C, 0, none⟩ D Fr) (h : Fr Z v us) (hown : Xcn Z lo v xs) (hxs : xs.length ≤ 5000) (hD0 : 0 ≤ D) (hD1 : D ≤ 30)
  (hE : ∀ (w : World) (us : List Tok), RdAt w B R L us → B ≤ w.heap.size → Calls Tryz.prog 84 #[.pointer (some ⟨R, 0, none⟩), .int .i64 D] w (Xaj (SmB w.heap.size) w B R L (Xcp L n us))) :
  Calls Tryz.prog 83 #[.int .i64 (xs.length : Nat), .pointer (some ⟨C, 0, none⟩), .pointer (some ⟨G0, 0, none⟩), .pointer (some ⟨G1, 0, none⟩)] Z (AppS2 w Z R lo Fr xs (Xcp L n us)) := by
 cases hx : Xcp L n us with
 | bad p c => exact Ybl hO h hown hxs hD0 hD1 hE hx
 | ok a r => exact bstmt hO h hown hxs hD0 hD1 hE hx
end Go.Proofs.YtbckeljbpknbdaaGreatDoor
