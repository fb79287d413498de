/- Gi -/
import Derived.Test.YtbckeljbpknbdaaGreatDoorVd4
import Derived.Test.YtbckeljbpknbdaaGreatDoorVd5
import Derived.Test.YtbckeljbpknbdaaGreatDoorVd7
set_option linter.unusedVariables false
set_option linter.unusedSimpArgs false
namespace Go.Proofs.YtbckeljbpknbdaaGreatDoor
open Go.RowKit
theorem Yan {W : World} {base : Nat} {v : Value} {us : List Tok} {L : Nat} (h : Xcg W base v (us ++ [endT L])) (hl : us.length ≤ 4096) (hok : ∀ t ∈ us, Xqm t) {W' : World} (hb : Below W.heap.size W W') {R B : Nat} (hRW : W.heap.size ≤ R) (hRB : R < B)
  (hR : W'.heap[R]? = some (.cells #[v] 78 (0, 0))) : RdAt W' B R L us := by
 obtain ⟨A, c, rfl, hc, hcM, ht⟩ := h.toks
 obtain ⟨b, hA, hlt, -⟩ := ht 0 (by simp)
 subst hA
 have hlen : (us ++ [endT L]).length = us.length + 1 := by simp
 rw [hlen] at hR hc
 refine ⟨b, 0, c, hR, hRB, by omega, by omega, hc, by unfold maxLen at hcM; omega, fun k hk => ?_, by omega, hok⟩
 obtain ⟨b', hA', hlt', c0, c1, c2⟩ := ht k hk
 cases hA'
 have hce : ∀ i, W'.cell? ⟨b, i, none⟩ = W.cell? ⟨b, i, none⟩ := fun i => World.cell?_of_block (hb.block b hlt)
 rw [hce, hce, hce, Nat.zero_add]
 exact ⟨c0, c1, c2⟩
theorem part_any {w : World} {B R L : Nat} {us : List Tok} (h : RdAt w B R L us) (hB : B ≤ w.heap.size) : Calls Tryz.prog 17 #[.pointer (some ⟨R, 0, none⟩)] w (Xql w R (Xbs L us)) := by
 obtain ⟨X, hX⟩ : ∃ X : World, X = w.alloc (.cells #[.slice none 0 0] 25) := ⟨_, rfl⟩
 have hbX : Below w.heap.size w X := by rw [hX]; exact Xae _ _
 have hrow : X.heap[w.heap.size]? = some (.cells #[.slice none 0 0] 25 (0, 0)) := by rw [hX]; exact heap_alloc_new _ _
 have HP := lh (Yep (h.below' hB hbX) (Nat.le_trans hB hbX.size))
 have HX := lh hX
 have HBX := lh hbX
 have HROW := lh hrow
 have HRW := lh (show R < w.heap.size by have := h.lt; omega)
 clear h hB hX hbX hrow
 go_enter Tryz.func17, Tryz.ntmps17
 go_wp2_with fail
 rw [← HX.out]
 refine HP.out.mono ?_
 rintro e w1 hp
 cases hx : Xbs L us with
 | bad p c =>
   rw [hx] at hp
   obtain ⟨rfl, hc⟩ := hp
   have HC := lh (Xbf HBX.out hc)
   have HXX := lh hx
   clear hx hc
   unfold Xag
   go_wp2
   exact ⟨rfl, rfl, HC.out⟩
 | ok l r =>
   rw [hx] at hp
   obtain ⟨v, rfl, ⟨A, m, c, rfl, hd⟩, hc⟩ := hp
   have hrow := hc.row HROW.out (by have := HRW.out; omega)
   have c0 : w1.cell? ⟨w.heap.size, 0, none⟩ = some (.slice none 0 0) := by rw [cell_of_row w1 _ 0 _ _ (0, 0) hrow]; rfl
   have f0 := frozen_of_row w1 w.heap.size 0 _ _ hrow
   have HC := lh (Xbf HBX.out hc)
   have HD := lh hd
   have HXX := lh hx
   clear hx hd hc hrow
   go_wp2
   refine bodyPost_ret (v := .agg #[.slice A m c]) ?_ rfl ?_
   · clear HD
     simp [results, Tryz.results17, go_sem, c0]
   · have hch : Chg (fun b => b = w.heap.size) w1 (w1.setCell ⟨w.heap.size, 0, none⟩ (.slice A m c)) := (Chg.refl _ _).setCell _ _ fun _ => rfl
     have hsz : X.heap.size = w.heap.size + 1 := by rw [HX.out]; simp
     rw [HXX.out]
     exact ⟨_, rfl, ⟨A, m, c, rfl, Xbu.low (Xbu.keep HD.out hch.size fun b hb hb2 => hch.block b hb (by omega)) (by omega)⟩, HC.out.trans hch fun b hb e => by omega⟩
theorem Xcg.setE {w : World} {base : Nat} {v : Value} {l : List Tok} (h : Xcg w base v l) {p : Addr} (hp : ∀ k, v.ownBlock = some k → k ≠ p.block) (u : Value) : Xcg (w.setCell p u) base v l := by
 rcases h with ⟨h1, h2 | ⟨g, cap, cur, hv, hbg, hg, h3⟩⟩
 · exact ⟨h1, .inl h2⟩
 · refine ⟨h1, .inr ⟨g, cap, cur, hv, hbg, ?_, h3⟩⟩
   exact (Below.heap_setCell w p u g (hp g (by rw [hv]; rfl))).trans hg
def Xjt (w : World) (s : List UInt8) (e : Ending) (w' : World) : Prop := ∃ v, e = .returned (.tuple #[v, .int .i64 ((Xco s).2.1 : Nat), .int .i64 ((Xco s).2.2 : Nat)]) ∧ ProgB w.heap.size w' (Xco s).1 v ∧ Below w.heap.size w w'
set_option maxRecDepth 100000 in
set_option maxHeartbeats 2000000 in
theorem read_any (s : ByteArray) (hs : s.size ≤ 40000) (w : World) : Calls Tryz.prog 16 #[.string s, .func (.func 17) #[] #[]] w (Xjt w s.data.toList) := by
 have hmf : ∀ (fn : Fn) (first cap : Array Value) (w : World), (Instr.makeFunc fn first cap).run Tryz.prog w = .ok (.func fn first cap) w := fun _ _ _ _ => rfl
 obtain ⟨X, hX⟩ : ∃ X : World, X = ((w.alloc (.cells #[.slice none 0 0] 25)).alloc (.cells #[.int .i64 0] 3)).alloc (.cells #[.int .i64 0] 26) := ⟨_, rfl⟩
 have hbX : Below w.heap.size w X := by rw [hX]; exact ((Xae _ _).alloc (by simp) _).alloc (by simp; omega) _
 have HTK := lh (Yaw s X hs)
 have HX := lh hX
 have HBX := lh hbX
 clear hX hbX
 go_enter_defers Tryz.func16, Tryz.ntmps16
 go_wp2_with fail
 rw [← HX.out]
 refine HTK.out.mono ?_
 rintro e w1 ⟨hb1, hp⟩
 obtain ⟨g, hg⟩ : ∃ g, g = w.heap.size := ⟨_, rfl⟩
 have h0 : X.heap[g]? = some (.cells #[.slice none 0 0] 25 (0, 0)) := by
  rw [HX.out, hg, Below.heap_alloc _ _ _ (by simp; omega), Below.heap_alloc _ _ _ (by simp)]; exact heap_alloc_new _ _
 have h1 : X.heap[g + 1]? = some (.cells #[.int .i64 0] 3 (0, 0)) := by
  rw [HX.out, hg, Below.heap_alloc _ _ _ (by simp)]
  have := heap_alloc_new (w.alloc (.cells #[.slice none 0 0] 25)) (.cells #[.int .i64 0] 3)
  simpa using this
 have h2 : X.heap[g + 1 + 1]? = some (.cells #[.int .i64 0] 26 (0, 0)) := by
  rw [HX.out, hg]
  have := heap_alloc_new ((w.alloc (.cells #[.slice none 0 0] 25)).alloc (.cells #[.int .i64 0] 3)) (.cells #[.int .i64 0] 26)
  simpa using this
 have hs : X.heap.size = g + 3 := by rw [HX.out, hg]; simp
 have q0 := (hb1.block g (by omega)).trans h0
 have q1 := (hb1.block (g + 1) (by omega)).trans h1
 have q2 := (hb1.block (g + 1 + 1) (by omega)).trans h2
 have c0 := cell_of_row w1 g 0 _ _ (0, 0) q0
 have c1 := cell_of_row w1 (g + 1) 0 _ _ (0, 0) q1
 have c2 := cell_of_row w1 (g + 1 + 1) 0 _ _ (0, 0) q2
 have z0 := frozen_of_row w1 g 0 _ _ q0
 have z1 := frozen_of_row w1 (g + 1) 0 _ _ q1
 have z2 := frozen_of_row w1 (g + 1 + 1) 0 _ _ q2
 simp at c0 c1 c2
 have HB1 := lh (HBX.out.trans (hb1.mono HBX.out.size))
 have HS := lh hs
 have HG := lh hg
 have HQ0 := lh q0
 have HQ1 := lh q1
 have HQ2 := lh q2
 rw [← hg]
 clear hs hg h0 h1 h2 q0 q1 q2
 have HBI := lh hb1
 clear hb1
 cases ht : toks s.data.toList with
 | err p c =>
   rw [ht] at hp
   subst hp
   have hne : ((c : Int) != 0) = true := by have := Xjr ht; simp; omega
   have HT := lh ht
   clear ht
   have c3 : (w1.setCell ⟨g + 1, 0, none⟩ (.int .i64 p)).cell? ⟨g + 1 + 1, 0, none⟩ = some (.int .i64 0) := (World.cell?_of_block (Below.heap_setCell _ _ _ _ (by simp))).trans c2
   have z3 : (w1.setCell ⟨g + 1, 0, none⟩ (.int .i64 p)).frozen? ⟨g + 1 + 1, 0, none⟩ = false := (World.frozen?_of_block (Below.heap_setCell _ _ _ _ (by simp))).trans z2
   go_wp2_with fail
   obtain ⟨Y, hY⟩ : ∃ Y, Y = (w1.setCell ⟨g + 1, 0, none⟩ (.int .i64 p)).setCell ⟨g + 1 + 1, 0, none⟩ (.int .i64 c) := ⟨_, rfl⟩
   rw [← hY]
   have r0 : Y.heap[g]? = some (.cells #[.slice none 0 0] 25 (0, 0)) := by rw [hY, Below.heap_setCell _ _ _ _ (by simp; omega), Below.heap_setCell _ _ _ _ (by simp)]; exact HQ0.out
   have r1 : Y.heap[g + 1]? = some (.cells #[.int .i64 p] 3 (0, 0)) := by rw [hY, Below.heap_setCell _ _ _ _ (by simp)]; exact Xec HQ1.out _
   have r2 : Y.heap[g + 1 + 1]? = some (.cells #[.int .i64 c] 26 (0, 0)) := by rw [hY]; exact Xec ((Below.heap_setCell _ _ _ _ (by simp)).trans HQ2.out) _
   have HBY : Hid (Below w.heap.size w Y) := lh (by rw [hY]; have := HG.out; exact (HB1.out.setCell (by simp; omega) _).setCell (by simp; omega) _)
   clear hY c1 c2 c3 z0 z1 z2 z3 c0
   refine Code.wp_mono (Q := fun e a W => e = .normal ∧ a = { tmps := #[.string s, .func (.func 17) #[] #[], undef, undef, .pointer (some ⟨g, 0, none⟩), .pointer (some ⟨g + 1, 0, none⟩), .pointer (some ⟨g + 1 + 1, 0, none⟩), .slice none 0 0, undef, .tuple #[.slice none 0 0, .int .i64 p, .int .i64 c], .string s, .tuple #[.slice none 0 0, .int .i64 p, .int .i64 c], .slice none 0 0, .int .i64 p, .int .i64 c, .int .i64 c, .bool true, .agg #[.slice none 0 0], .int .i64 p, .int .i64 c, undef, undef, undef, undef, undef, undef, undef, undef, undef, undef, undef, undef], defers := [] } ∧ (fun W => W.heap[g]? = some (.cells #[.slice none 0 0] 25 (0, 0)) ∧ W.heap[g + 1]? = some (.cells #[.int .i64 p] 3 (0, 0)) ∧ W.heap[g + 1 + 1]? = some (.cells #[.int .i64 c] 26 (0, 0)) ∧ Below w.heap.size w W) W) ?_ ?_
   rotate_left
   · refine wp_region_held_drew (S := (fun W => W.heap[g]? = some (.cells #[.slice none 0 0] 25 (0, 0)) ∧ W.heap[g + 1]? = some (.cells #[.int .i64 p] 3 (0, 0)) ∧ W.heap[g + 1 + 1]? = some (.cells #[.int .i64 c] 26 (0, 0)) ∧ Below w.heap.size w W)) (by kernel_rfl) ⟨r0, r1, r2, HBY.out.drew⟩ (fun hHeld => ?_)
     refine wpAnyH_take (i := 0) (oi := _) (v := .agg #[.slice none 0 0]) rfl (by kernel_rfl) (by kernel_rfl) (by kernel_rfl) (fun _ _ _ h => absurd h.1 (by simp)) (Or.inl ⟨by rfl, fun W hS => ?_⟩) hHeld ?_
     · have := cell_of_row W (g) 0 _ _ (0, 0) hS.1
       simp at this
       go_simp
     simp only [Act.put]
     refine wpAnyH_take (i := 1) (oi := _) (v := .int .i64 p) rfl (by kernel_rfl) (by kernel_rfl) (by kernel_rfl) (fun _ _ _ h => absurd h.1 (by simp)) (Or.inl ⟨by rfl, fun W hS => ?_⟩) hHeld ?_
     · have := cell_of_row W (g + 1) 0 _ _ (0, 0) hS.2.1
       simp at this
       go_simp
     simp only [Act.put]
     refine wpAnyH_take (i := 2) (oi := _) (v := .int .i64 c) rfl (by kernel_rfl) (by kernel_rfl) (by kernel_rfl) (fun _ _ _ h => absurd h.1 (by simp)) (Or.inl ⟨by rfl, fun W hS => ?_⟩) hHeld ?_
     · have := cell_of_row W (g + 1 + 1) 0 _ _ (0, 0) hS.2.2.1
       simp at this
       go_simp
     simp only [Act.put]
     refine wpAnyH_ready (rs := [3]) (by kernel_rfl) (by simp) ?_
     refine AllReadyH.cons rfl (fun K hK => ?_) AllReadyH.nil
     have a1 := cell_of_row _ g 0 _ _ (0, 0) hHeld.1
     have a2 := frozen_of_row _ g 0 _ _ hHeld.1
     simp at a1
     go_simp
     refine hK.out _ _ ⟨Xec hHeld.1 _, (Below.heap_setCell _ _ _ _ (by simp)).trans hHeld.2.1, (Below.heap_setCell _ _ _ _ (by simp; omega)).trans hHeld.2.2.1, hHeld.2.2.2.setCell (by have := HG.out; simp; omega) _⟩ (fun hHeld => ?_)
     clear hK K a1 a2
     refine wpAnyH_ready (rs := [4]) (by kernel_rfl) (by simp) ?_
     refine AllReadyH.cons rfl (fun K hK => ?_) AllReadyH.nil
     have a1 := cell_of_row _ (g + 1) 0 _ _ (0, 0) hHeld.2.1
     have a2 := frozen_of_row _ (g + 1) 0 _ _ hHeld.2.1
     simp at a1
     go_simp
     refine hK.out _ _ ⟨(Below.heap_setCell _ _ _ _ (by simp)).trans hHeld.1, Xec hHeld.2.1 _, (Below.heap_setCell _ _ _ _ (by simp)).trans hHeld.2.2.1, hHeld.2.2.2.setCell (by have := HG.out; simp; omega) _⟩ (fun hHeld => ?_)
     clear hK K a1 a2
     refine wpAnyH_ready (rs := [5]) (by kernel_rfl) (by simp) ?_
     refine AllReadyH.cons rfl (fun K hK => ?_) AllReadyH.nil
     have a1 := cell_of_row _ (g + 1 + 1) 0 _ _ (0, 0) hHeld.2.2.1
     have a2 := frozen_of_row _ (g + 1 + 1) 0 _ _ hHeld.2.2.1
     simp at a1
     go_simp
     refine hK.out _ _ ⟨(Below.heap_setCell _ _ _ _ (by simp; omega)).trans hHeld.1, (Below.heap_setCell _ _ _ _ (by simp)).trans hHeld.2.1, Xec hHeld.2.2.1 _, hHeld.2.2.2.setCell (by have := HG.out; simp; omega) _⟩ (fun hHeld => ?_)
     clear hK K a1 a2
     refine wpAnyH_done (by kernel_rfl) ?_ _
     exact ⟨rfl, rfl, hHeld⟩
   · rintro e a Y' ⟨rfl, rfl, r0, r1, r2, hb⟩
     have c0 := cell_of_row Y' g 0 _ _ (0, 0) r0
     have c1 := cell_of_row Y' (g + 1) 0 _ _ (0, 0) r1
     have c2 := cell_of_row Y' (g + 1 + 1) 0 _ _ (0, 0) r2
     simp at c0 c1 c2
     have HBZ := lh hb
     clear hb r0 r1 r2
     go_wp2
     refine ⟨.tuple #[.agg #[.slice none 0 0], .int .i64 p, .int .i64 c], ?_, ?_⟩
     · simp [results, Tryz.results16, go_sem, c0, c1, c2]
     · have he : Xco s.data.toList = ([], p, c) := by unfold Xco; rw [HT.out]
       unfold Xjt
       rw [he]
       exact ⟨_, rfl, ⟨none, 0, 0, rfl, Xbu.none _ _⟩, HBZ.out⟩
 | ok us =>
   rw [ht] at hp
   obtain ⟨hlen, v, rfl, hown⟩ := hp
   have c3 : (w1.setCell ⟨g + 1, 0, none⟩ (.int .i64 0)).cell? ⟨g + 1 + 1, 0, none⟩ = some (.int .i64 0) := (World.cell?_of_block (Below.heap_setCell _ _ _ _ (by simp))).trans c2
   have z3 : (w1.setCell ⟨g + 1, 0, none⟩ (.int .i64 0)).frozen? ⟨g + 1 + 1, 0, none⟩ = false := (World.frozen?_of_block (Below.heap_setCell _ _ _ _ (by simp))).trans z2
   have hl0 := hown.lt
   have HLT : Hid (∀ k, v.ownBlock = some k → g + 3 ≤ k) := lh fun k hk => by have := (hl0 k hk).1; have := HS.out; omega
   have HOY := lh ((hown.setE (p := ⟨g + 1, 0, none⟩) (fun k hk => by have := HLT.out k hk; simp; omega) (.int .i64 0)).setE (p := ⟨g + 1 + 1, 0, none⟩) (fun k hk => by have := HLT.out k hk; simp; omega) (.int .i64 0))
   obtain ⟨L, hL⟩ : ∃ L : Nat, L = s.size := ⟨_, rfl⟩
   have hX1 := HBI.out.size
   clear hown hl0
   have HBZ := lh (((HB1.out.setCell (p := ⟨g + 1, 0, none⟩) (by have := HG.out; simp; omega) (.int .i64 0)).setCell (p := ⟨g + 1 + 1, 0, none⟩) (by have := HG.out; simp; omega) (.int .i64 0)).alloc (by have := HB1.out.size; simpa using this) (.cells #[.int .i64 0, .string ⟨#[]⟩, .int .i64 s.size] 76))
   have HZ0 : Hid ((((w1.setCell ⟨g + 1, 0, none⟩ (.int .i64 0)).setCell ⟨g + 1 + 1, 0, none⟩ (.int .i64 0)).alloc (.cells #[.int .i64 0, .string ⟨#[]⟩, .int .i64 s.size] 76)).heap[g]? = some (.cells #[.slice none 0 0] 25 (0, 0))) := lh (by
    rw [Below.heap_alloc _ _ _ (by simp; have := HS.out; omega), Below.heap_setCell _ _ _ _ (by simp; omega), Below.heap_setCell _ _ _ _ (by simp)]; exact HQ0.out)
   have HZ1 : Hid ((((w1.setCell ⟨g + 1, 0, none⟩ (.int .i64 0)).setCell ⟨g + 1 + 1, 0, none⟩ (.int .i64 0)).alloc (.cells #[.int .i64 0, .string ⟨#[]⟩, .int .i64 s.size] 76)).heap[g + 1]? = some (.cells #[.int .i64 0] 3 (0, 0))) := lh (by
    rw [Below.heap_alloc _ _ _ (by simp; have := HS.out; omega), Below.heap_setCell _ _ _ _ (by simp)]; exact Xec HQ1.out _)
   have HZ2 : Hid ((((w1.setCell ⟨g + 1, 0, none⟩ (.int .i64 0)).setCell ⟨g + 1 + 1, 0, none⟩ (.int .i64 0)).alloc (.cells #[.int .i64 0, .string ⟨#[]⟩, .int .i64 s.size] 76)).heap[g + 1 + 1]? = some (.cells #[.int .i64 0] 26 (0, 0))) := lh (by
    rw [Below.heap_alloc _ _ _ (by simp; have := HS.out; omega)]; exact Xec ((Below.heap_setCell _ _ _ _ (by simp)).trans HQ2.out) _)
   have HT := lh ht
   clear ht
   go_wp2_with (at_builtin; refine Xhj rfl _ _ rfl X.heap.size _ us rfl (HOY.out.alloc _) ⟨w1.heap.size, 0, none⟩ 1 ⟨0, [], s.size⟩ rfl (Yed (by simp)) (by omega) (by simp; omega) ?_; intro v' w3 hown3 hgr; (have hgr' : World.grownBy _ w3 v.ownBlock := hgr); clear hgr; have HO3 := lh hown3; (obtain ⟨A3, C3, rfl, hc31, hc32, -⟩ := hown3.toks); have HGR := lh hgr'; clear hgr' hown3 hc31)
   have p0 := (HGR.out.block g (by simp; have := HS.out; omega) (fun e => by have := HLT.out _ e.symm; omega)).trans HZ0.out
   have p1 := (HGR.out.block (g + 1) (by simp; have := HS.out; omega) (fun e => by have := HLT.out _ e.symm; omega)).trans HZ1.out
   have p2 := (HGR.out.block (g + 1 + 1) (by simp; have := HS.out; omega) (fun e => by have := HLT.out _ e.symm; omega)).trans HZ2.out
   have hb3 := HBZ.out.grown HGR.out (by have := HB1.out.size; simp; omega) (fun k hk => by have := HLT.out k hk; have := HG.out; omega)
   obtain ⟨Z, hZ⟩ : ∃ Z, Z = w3.alloc (.cells #[.slice A3 (us.length + 1) C3] 78) := ⟨_, rfl⟩
   have hHO : Xcg w3 X.heap.size (.slice A3 (us.length + 1) C3) (us ++ [endT s.size]) := by
    have h := HO3.out
    rw [List.length_append] at h
    exact h
   have hrd : RdAt Z (w3.heap.size + 1) w3.heap.size s.size us := Yan hHO hlen (Xkq HT.out) (by rw [hZ]; exact Xae _ _) (Nat.le_refl _) (by omega) (by rw [hZ]; exact heap_alloc_new _ _)
   have hszZ : Z.heap.size = w3.heap.size + 1 := by rw [hZ]; simp
   have hbZ : Below w.heap.size w Z := by rw [hZ]; exact hb3.alloc hb3.size _
   have g0 := Xac p0
   have g1 := Xac p1
   have g2 := Xac p2
   have y0 : Z.heap[g]? = some (.cells #[.slice none 0 0] 25 (0, 0)) := by rw [hZ, Below.heap_alloc _ _ _ g0]; exact p0
   have y1 : Z.heap[g + 1]? = some (.cells #[.int .i64 0] 3 (0, 0)) := by rw [hZ, Below.heap_alloc _ _ _ g1]; exact p1
   have y2 : Z.heap[g + 1 + 1]? = some (.cells #[.int .i64 0] 26 (0, 0)) := by rw [hZ, Below.heap_alloc _ _ _ g2]; exact p2
   have hP := part_any hrd (by omega)
   have hlenS : s.data.toList.length = s.size := (Lib.size_eq _).symm
   rw [← hZ]
   clear c0 c1 c2 c3 z0 z1 z2 z3 HOY HBZ HZ0 HZ1 HZ2 HO3 HGR hHO hrd hZ hc32 hL L p0 p1 p2
   refine hP.mono ?_
   rintro e w5 hp5
   cases hx : Xbs s.size us with
   | bad q c =>
     rw [hx] at hp5
     obtain ⟨rfl, hc⟩ := hp5
     have he : Xco s.data.toList = ([], q, c) := by
      unfold Xco
      rw [HT.out]
      simp only [hlenS, hx]
     have x0 := hc.row y0 (by omega)
     have x1 := hc.row y1 (by omega)
     have x2 := hc.row y2 (by omega)
     have hb5 : Below w.heap.size w w5 := hbZ.trans (hc.below hbZ.size fun b hb => by have := hb3.size; omega)
     have c1 := cell_of_row w5 (g + 1) 0 _ _ (0, 0) x1
     have c2 := cell_of_row w5 (g + 1 + 1) 0 _ _ (0, 0) x2
     have z1 := frozen_of_row w5 (g + 1) 0 _ _ x1
     have z2 := frozen_of_row w5 (g + 1 + 1) 0 _ _ x2
     simp at c1 c2
     unfold Xag
     show Leaves _ _ _ _ _ _ _
     refine leaves_cons (f := 28) (args := #[.pointer (some ⟨g + 1, 0, none⟩), .pointer (some ⟨g + 1 + 1, 0, none⟩)]) (by simp) (by simp [go_sem]) ?_
     refine (Xmd ⟨g + 1, 0, none⟩ ⟨g + 1 + 1, 0, none⟩ w5 q c _ _ c1 c2 z1 z2 (by simp) (by simp)).mono ?_
     rintro e u' w6 ⟨rfl, rfl, hF⟩
     have k0 := Xac x0
     have k1 := Xac x1
     have k2 := Xac x2
     have f0 : w6.heap[g]? = some (.cells #[.slice none 0 0] 25 (0, 0)) := by
      rw [hF]
      refine (Below.heap_setCell _ _ _ _ (by simp; omega)).trans ?_
      refine (Below.heap_setCell _ _ _ _ (by simp)).trans ?_
      exact (Below.heap_alloc _ _ _ k0).trans x0
     have f1 : w6.heap[g + 1]? = some (.cells #[.int .i64 q] 3 (0, 0)) := by
      rw [hF]
      refine (Below.heap_setCell _ _ _ _ (by simp)).trans ?_
      exact Xec ((Below.heap_alloc _ _ _ k1).trans x1) _
     have f2 : w6.heap[g + 1 + 1]? = some (.cells #[.int .i64 c] 26 (0, 0)) := by
      rw [hF]
      exact Xec ((Below.heap_setCell _ _ _ _ (by simp)).trans ((Below.heap_alloc _ _ _ k2).trans x2)) _
     have hb6 : Below w.heap.size w w6 := by
      rw [hF]
      have := HG.out
      exact ((hb5.alloc hb5.size _).setCell (by simp; omega) _).drew.setCell (by simp; omega) _
     have c0 := cell_of_row w6 g 0 _ _ (0, 0) f0
     have c1 := cell_of_row w6 (g + 1) 0 _ _ (0, 0) f1
     have c2 := cell_of_row w6 (g + 1 + 1) 0 _ _ (0, 0) f2
     simp at c0 c1 c2
     simp [Leaves, settle]
     refine ⟨.tuple #[.agg #[.slice none 0 0], .int .i64 q, .int .i64 c], ?_, ?_⟩
     · simp [results, Tryz.results16, go_sem, c0, c1, c2]
     · unfold Xjt
       rw [he]
       exact ⟨_, rfl, ⟨none, 0, 0, rfl, Xbu.none _ _⟩, hb6⟩
   | ok l r =>
     rw [hx] at hp5
     obtain ⟨v, rfl, ⟨A, m, c, rfl, hd⟩, hc⟩ := hp5
     have he : Xco s.data.toList = (l, 0, 0) := by
      unfold Xco
      rw [HT.out]
      simp only [hlenS, hx]
     have x0 := hc.row y0 (by omega)
     have x1 := hc.row y1 (by omega)
     have x2 := hc.row y2 (by omega)
     have c0 := cell_of_row w5 g 0 _ _ (0, 0) x0
     have c1 := cell_of_row w5 (g + 1) 0 _ _ (0, 0) x1
     have c2 := cell_of_row w5 (g + 1 + 1) 0 _ _ (0, 0) x2
     have z0 := frozen_of_row w5 g 0 _ _ x0
     have z1 := frozen_of_row w5 (g + 1) 0 _ _ x1
     have z2 := frozen_of_row w5 (g + 1 + 1) 0 _ _ x2
     simp at c0 c1 c2
     have HD := lh hd
     have HC := lh hc
     have HX0 := lh x0
     have HX1 := lh x1
     have HX2 := lh x2
     have HE := lh he
     have HBZ := lh hbZ
     have HB3 := lh hb3
     have HSZ := lh hszZ
     clear hd hc x0 x1 x2 he hbZ hb3 hszZ hx hP
     go_wp2_with fail
     show Leaves _ _ _ _ _ _ _
     generalize hW : ((w5.setCell ⟨g, 0, none⟩ (.slice A m c)).setCell ⟨g + 1, 0, none⟩ (.int .i64 0)).setCell ⟨g + 1 + 1, 0, none⟩ (.int .i64 0) = W
     refine leaves_cons (f := 28) (args := #[.pointer (some ⟨g + 1, 0, none⟩), .pointer (some ⟨g + 1 + 1, 0, none⟩)]) (by simp) (by simp [go_sem]) ?_
     refine (Xwf ⟨g + 1, 0, none⟩ ⟨g + 1 + 1, 0, none⟩ W).mono ?_
     rintro e u' w6 ⟨rfl, rfl, hb6⟩
     have hsW : W.heap.size = w5.heap.size := by rw [← hW]; simp
     have f0 : w6.heap[g]? = some (.cells #[.slice A m c] 25 (0, 0)) := by
      refine (hb6.block _ (by have := Xac HX0.out; omega)).trans ?_
      rw [← hW]
      refine (Below.heap_setCell _ _ _ _ (by simp; omega)).trans ?_
      refine (Below.heap_setCell _ _ _ _ (by simp)).trans ?_
      exact Xec HX0.out _
     have f1 : w6.heap[g + 1]? = some (.cells #[.int .i64 0] 3 (0, 0)) := by
      refine (hb6.block _ (by have := Xac HX1.out; omega)).trans ?_
      rw [← hW]
      refine (Below.heap_setCell _ _ _ _ (by simp)).trans ?_
      exact Xec ((Below.heap_setCell _ _ _ _ (by simp)).trans HX1.out) _
     have f2 : w6.heap[g + 1 + 1]? = some (.cells #[.int .i64 0] 26 (0, 0)) := by
      refine (hb6.block _ (by have := Xac HX2.out; omega)).trans ?_
      rw [← hW]
      exact Xec ((Below.heap_setCell _ _ _ _ (by simp)).trans ((Below.heap_setCell _ _ _ _ (by simp; omega)).trans HX2.out)) _
     have hch : Chg (fun b => b = g ∨ b = g + 1 ∨ b = g + 1 + 1) w5 W := by
      rw [← hW]
      exact (((Chg.refl _ _).setCell _ _ fun _ => .inl rfl).setCell _ _ fun _ => .inr (.inl rfl)).setCell _ _ fun _ => .inr (.inr rfl)
     have hgs := HG.out
     have hb5 : Below w.heap.size w w5 := HBZ.out.trans (HC.out.below HBZ.out.size fun b hb => by have := HB3.out.size; omega)
     have hbW : Below w.heap.size w w6 := (hb5.trans (hch.below hb5.size fun b hb => by omega)).trans (hb6.mono (by have := hb5.size; omega))
     have hsz5 : Z.heap.size ≤ w5.heap.size := HC.out.size
     have hg3 := g2
     have hd6 : Xbu w6 w.heap.size (.slice A m c) l := by
      refine Xbu.low (Xbu.keep HD.out (by have := hb6.size; omega) fun b hb hb2 => ?_) (by have := HBZ.out.size; omega)
      have h1 := HSZ.out
      exact (hb6.block b (by omega)).trans (hch.block b hb (by omega))
     have c0 := cell_of_row w6 g 0 _ _ (0, 0) f0
     have c1 := cell_of_row w6 (g + 1) 0 _ _ (0, 0) f1
     have c2 := cell_of_row w6 (g + 1 + 1) 0 _ _ (0, 0) f2
     simp at c0 c1 c2
     simp [Leaves, settle]
     refine ⟨.tuple #[.agg #[.slice A m c], .int .i64 0, .int .i64 0], ?_, ?_⟩
     · simp [results, Tryz.results16, go_sem, c0, c1, c2]
     · unfold Xjt
       rw [HE.out]
       exact ⟨_, rfl, ⟨A, m, c, rfl, hd6⟩, hbW⟩
end Go.Proofs.YtbckeljbpknbdaaGreatDoor
