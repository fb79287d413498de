/- If Ig Ih Ij Ik -/
import Derived.Test.YtbckeljbpknbdaaGreatDoorVd9
import Derived.Maps.OwnSet
set_option linter.unusedVariables false
set_option linter.unusedSimpArgs false
namespace Go.Proofs.YtbckeljbpknbdaaGreatDoor
open Go.RowKit
section
def Xdy (g : Dg) : List Value := [.int .i64 g.pl, .int .i64 g.code, .string (Xab g.name)]
def dgV (l : List Dg) : List Value := l.flatMap Xdy
theorem dgV_app (a b : List Dg) : dgV (a ++ b) = dgV a ++ dgV b := by simp [dgV]
theorem dgV_one (g : Dg) : dgV [g] = Xdy g := by simp [dgV]
theorem Xnh (g : Dg) : ∀ u ∈ Xdy g, u.oneCell' = true := fun u hu => by
 unfold Xdy at hu
 simp at hu
 rcases hu with rfl | rfl | rfl <;> rfl
def Xhw (w : World) (base : Nat) (v : Value) (l : List Dg) : Prop := w.ownsRow base 39 3 v l.length (dgV l)
theorem info_dg : (Tryz.prog.info? 39).map (fun i => (i.zero, i.size, i.bytes)) = some (some (.agg #[.int .i64 0, .int .i64 0, .string ⟨#[]⟩]), 3, 32) := by kernel_rfl
theorem Xhw.keep {w w' : World} {base : Nat} {v : Value} {l : List Dg} (h : Xhw w base v l) (hb : ∀ g, v.ownBlock = some g → w'.heap[g]? = w.heap[g]?) : Xhw w' base v l := by
 unfold Xhw at h ⊢
 rcases h with ⟨h1, h2 | ⟨g, cap, cur, hv, hbg, hg, h3⟩⟩
 · exact ⟨h1, .inl h2⟩
 · exact ⟨h1, .inr ⟨g, cap, cur, hv, hbg, (hb g (by rw [hv]; rfl)).trans hg, h3⟩⟩
theorem Xhw.blk {w : World} {base : Nat} {v : Value} {l : List Dg} (h : Xhw w base v l) {g : Nat} (hg : v.ownBlock = some g) : base ≤ g ∧ g < w.heap.size ∧ ∃ cur, w.heap[g]? = some (.cells cur 39 (0, 0)) := by
 rcases h with ⟨h1, ⟨rfl, h2⟩ | ⟨g', cap, cur, rfl, hbg, hg', h3⟩⟩
 · cases hg
 · have e : g' = g := by simpa [Value.ownBlock] using hg
   subst e
   exact ⟨hbg, Xac hg', cur, hg'⟩
theorem Xhw.nil (w : World) (base : Nat) : Xhw w base (.slice none 0 0) [] := ⟨rfl, .inl ⟨rfl, rfl⟩⟩
structure Nm where
 dec : Value
 mp : Value
 t1 : Value
 t2 : Value
 t3 : Value
 t4 : Value
 t5 : Value
 t6 : Value
 t7 : Value
 t8 : Value
 lv : Value
def nmC (x : Nm) (dv : Value) (left : Int) : Array Value := #[x.dec, x.mp, x.t1, x.t2, x.t3, x.t4, x.t5, x.t6, x.t7, x.t8, x.lv, dv, .int .i64 left]
structure NmAt (w : World) (b base : Nat) (x : Nm) (l : List Dg) (left : Int) (dv : Value) : Prop where
 row : w.heap[b]? = some (.cells (nmC x dv left) 61 (0, 0))
 own : Xhw w base dv l
 bb : base ≤ b
def Xga (b : Nat) (dv : Value) (k : Nat) : Prop := k = b ∨ dv.ownBlock = some k
section
variable {w w' w1 w2 : World} {b base : Nat} {x : Nm} {l l1 l2 : List Dg} {left left1 left2 : Int} {dv dv1 dv2 : Value}
theorem NmAt.ne (h : NmAt w b base x l left dv) : dv.ownBlock ≠ some b := fun e => by
 obtain ⟨_, _, cur, hg⟩ := h.own.blk e
 rw [h.row] at hg
 simp at hg
theorem NmAt.lt (h : NmAt w b base x l left dv) : b < w.heap.size := Xac h.row
theorem NmAt.c0 (h : NmAt w b base x l left dv) : w.cell? ⟨b, 0, none⟩ = some x.dec := by rw [cell_of_row w b 0 _ _ (0, 0) h.row]; rfl
theorem NmAt.c1 (h : NmAt w b base x l left dv) : w.cell? ⟨b, 1, none⟩ = some x.mp := by rw [cell_of_row w b 1 _ _ (0, 0) h.row]; rfl
theorem NmAt.c11 (h : NmAt w b base x l left dv) : w.cell? ⟨b, 11, none⟩ = some dv := by rw [cell_of_row w b 11 _ _ (0, 0) h.row]; rfl
theorem NmAt.c12 (h : NmAt w b base x l left dv) : w.cell? ⟨b, 12, none⟩ = some (.int .i64 left) := by rw [cell_of_row w b 12 _ _ (0, 0) h.row]; rfl
theorem NmAt.fr (h : NmAt w b base x l left dv) (j : Nat) : w.frozen? ⟨b, j, none⟩ = false := frozen_of_row w b j _ _ h.row
theorem NmAt.mine (h : NmAt w b base x l left dv) {k : Nat} (hk : Xga b dv k) : base ≤ k ∧ k < w.heap.size := by
 rcases hk with rfl | hk
 · exact ⟨h.bb, h.lt⟩
 · obtain ⟨h1, h2, _⟩ := h.own.blk hk
   exact ⟨h1, h2⟩
theorem NmAt.keep (h : NmAt w b base x l left dv) (hk : ∀ k, Xga b dv k → w'.heap[k]? = w.heap[k]?) : NmAt w' b base x l left dv :=
 ⟨(hk b (.inl rfl)).trans h.row, h.own.keep fun g hg => hk g (.inr hg), h.bb⟩
theorem NmAt.below (h : NmAt w b base x l left dv) (hb : Below w.heap.size w w') : NmAt w' b base x l left dv := h.keep fun k hk => hb.block k (h.mine hk).2
theorem NmAt.alloc (h : NmAt w b base x l left dv) (o : Obj) : NmAt (w.alloc o) b base x l left dv := h.below ((Below.refl _ _).alloc (Nat.le_refl _) o)
def Xbj (w : World) (b base : Nat) (x : Nm) (dv : Value) (w' : World) (dv' : Value) (l' : List Dg) (left' : Int) : Prop :=
 NmAt w' b base x l' left' dv' ∧ (∀ k, dv'.ownBlock = some k → dv.ownBlock = some k ∨ w.heap.size ≤ k) ∧ Chg (Xga b dv) w w'
theorem Xbj.refl (h : NmAt w b base x l left dv) : Xbj w b base x dv w dv l left := ⟨h, fun k hk => .inl hk, Chg.refl _ _⟩
theorem Xbj.trans (h : Xbj w b base x dv w1 dv1 l1 left1) (k : Xbj w1 b base x dv1 w2 dv2 l2 left2) : Xbj w b base x dv w2 dv2 l2 left2 := by
 refine ⟨k.1, fun g hg => ?_, h.2.2.trans k.2.2 fun y hy hm => ?_⟩
 · rcases k.2.1 g hg with h1 | h1
   · exact h.2.1 g h1
   · have := h.2.2.size; exact .inr (by omega)
 · rcases hm with rfl | hm
   · exact .inl rfl
   · rcases h.2.1 y hm with h1 | h1
     · exact .inr h1
     · omega
theorem Xbj.below (h : Xbj w b base x dv w1 dv1 l1 left1) (hb : Below w1.heap.size w1 w2) : Xbj w b base x dv w2 dv1 l1 left1 := h.trans ⟨h.1.below hb, fun k hk => .inl hk, Chg.of_below hb⟩
end
theorem nmC_left (x : Nm) (dv : Value) (a c : Int) : (nmC x dv a).setIfInBounds 12 (.int .i64 c) = nmC x dv c := rfl
theorem nmC_dv (x : Nm) (dv v : Value) (a : Int) : (nmC x dv a).setIfInBounds 11 v = nmC x v a := rfl
theorem NmAt.setLeft {w : World} {b base : Nat} {x : Nm} {l : List Dg} {left : Int} {dv : Value} (h : NmAt w b base x l left dv) (c : Int) : Xbj w b base x dv (w.setCell ⟨b, 12, none⟩ (.int .i64 c)) dv l c := by
 refine ⟨⟨?_, h.own.keep fun g hg => Below.heap_setCell _ _ _ _ (fun e => h.ne (by have e2 : g = b := e; rw [← e2]; exact hg)), h.bb⟩, fun k hk => .inl hk, (Chg.refl _ _).setCell _ _ fun _ => .inl rfl⟩
 rw [heap_setCell_same _ _ _ _ _ _ h.row, nmC_left]
theorem NmAt.setDv {w w1 w2 : World} {b base : Nat} {x : Nm} {l l' : List Dg} {left : Int} {dv v : Value} (h : NmAt w b base x l left dv) (hb : Below w.heap.size w w1) (hown : Xhw w2 base v l') (hgr : w1.grownBy w2 dv.ownBlock) (hat : ∀ k, v.ownBlock = some k → dv.ownBlock = some k ∨ w1.heap.size ≤ k) : Xbj w b base x dv (w2.setCell ⟨b, 11, none⟩ v) v l' left := by
 have hne : v.ownBlock ≠ some b := fun e => by
  rcases hat b e with h1 | h1
  · exact h.ne h1
  · have := h.lt; have := hb.size; omega
 have hrow : w2.heap[b]? = some (.cells (nmC x dv left) 61 (0, 0)) := (hgr.block b (by have := h.lt; have := hb.size; omega) (fun e => h.ne e.symm)).trans ((hb.block b h.lt).trans h.row)
 refine ⟨⟨?_, hown.keep fun g hg => Below.heap_setCell _ _ _ _ (fun e => hne (by have e2 : g = b := e; rw [← e2]; exact hg)), h.bb⟩, fun k hk => ?_, ?_⟩
 · rw [heap_setCell_same _ _ _ _ _ _ hrow, nmC_dv]
 · rcases hat k hk with h1 | h1
   · exact .inl h1
   · have := hb.size; exact .inr (by omega)
 · exact (((Chg.of_below hb : Chg (Xga b dv) w w1)).grown hgr fun k _ hk => .inr hk).setCell _ _ fun _ => .inl rfl
set_option maxHeartbeats 1000000 in
theorem Xmn {w : World} {b base : Nat} {x : Nm} {l : List Dg} {left : Int} {dv : Value} (h : NmAt w b base x l left dv) (s t : List UInt8) (hs : s.length ≤ 100000) (ht : t.length ≤ 100000) (h0 : -1000000 ≤ left) (h1 : left ≤ 1000000) :
  Calls Tryz.prog 22 #[.pointer (some ⟨b, 0, none⟩), .string (Xab s), .string (Xab t)] w
   fun e w' => e = .returned (.bool (decide (0 ≤ left - ((1 + s.length + t.length : Nat) : Int)))) ∧ Xbj w b base x dv w' dv l (left - ((1 + s.length + t.length : Nat) : Int)) := by
 have hs1 : (Xab s).size = s.length := by rw [Lib.size_eq, Xbe]
 have ht1 : (Xab t).size = t.length := by rw [Lib.size_eq, Xbe]
 obtain ⟨S, hS⟩ : ∃ S, S = Xab s := ⟨_, rfl⟩
 obtain ⟨T, hT⟩ : ∃ T, T = Xab t := ⟨_, rfl⟩
 rw [← hS] at hs1
 rw [← hT] at ht1
 rw [← hS, ← hT]
 have c12 := h.c12
 have f12 := h.fr 12
 have H := lh h
 clear hS hT h
 go_enter Tryz.func22, Tryz.ntmps22
 go_wp2
 go_ret
 have e : left - ((1 + s.length + t.length : Nat) : Int) = left - (1 + (s.length : Int) + (t.length : Int)) := by omega
 rw [e]
 exact ⟨Xfd (by rw [Bool.eq_iff_iff]; simp), H.out.setLeft _⟩
theorem Xpd {ops : Array Oper} {o : Oper} {a : Act} {w : World} {K : Act → World → Prop} {Q : Exit → Act → World → Prop} {E : Prop} (hgd : o.guard = none) (s x : Operand)
  (ho : o.op = .call { callee := .builtin .append, args := #[s, x], argTypes := #[35, 35] })
  (base : Nat) (v : Value) (l : List Dg) (hs : a.eval s = v) (hown : Xhw w base v l) (ad : Addr) (c : Nat) (g : Dg) (hx : a.eval x = .slice (some ad) 1 c)
  (hnews : ∀ j y, (Xdy g)[j]? = some y → w.cell? (ad.add j) = some y) (hb : l.length ≤ 1000000) (hbase : base ≤ w.heap.size)
  (h : ∀ g' c' w', Xhw w' base (.slice (some ⟨g', 0, none⟩) (l.length + 1) c') (l ++ [g]) → w.grownBy w' v.ownBlock → (v.ownBlock = some g' ∨ g' = w.heap.size) → K (a.put o.dst (.slice (some ⟨g', 0, none⟩) (l.length + 1) c')) w') :
  if Region.wanted o (yielded ops a.tmps) = true then Oper.wp Tryz.prog o a w K Q else E := by
 obtain ⟨i0, hi, hz0, hz1, hz2⟩ := info_parts info_dg
 refine step_append_lies _ hgd s x 35 ho base 39 i0 _ 3 32 Tryz.underlying35 hi hz0 hz1 hz2 rfl (by decide) v l.length (dgV l) hs hown ad 1 c (Xdy g) hx rfl hnews (Xnh g)
  (by omega) (by unfold maxLen; omega) (by omega) hbase w.heap.size rfl fun g' cap w' hown' hgr hat hlt => h g' cap w' ?_ hgr hat
 unfold Xhw
 rw [List.length_append, dgV_app, dgV_one]
 exact hown'
theorem new_dg (w : World) (p c : Int) (S : ByteArray) (s : List UInt8) (hS : S = Xab s) : ∀ j y, (Xdy ⟨p, c, s⟩)[j]? = some y → (w.alloc (.cells #[.int .i64 p, .int .i64 c, .string S] 39)).cell? ((⟨w.heap.size, 0, none⟩ : Addr).add j) = some y := by
 intro j y hy
 rw [Xdo, Nat.zero_add, cell_of_row _ _ j _ _ (0, 0) (heap_alloc_new w _), hS, List.getElem?_toArray]
 exact hy
set_option maxHeartbeats 2000000 in
set_option maxRecDepth 100000 in
theorem Xko {w : World} {b base : Nat} {x : Nm} {l : List Dg} {left : Int} {dv : Value} (h : NmAt w b base x l left dv) (hl : l.length ≤ 1000000) (p c : Int) (s : List UInt8) (hs : s.length ≤ 40000) :
  Calls Tryz.prog 32 #[.pointer (some ⟨b, 0, none⟩), .int .i64 p, .int .i64 c, .string (Xab s)] w
   fun e w' => e = .returned (.tuple #[]) ∧ ∃ dv', Xbj w b base x dv w' dv' (l ++ [⟨p, c, s⟩]) left := by
 have hcl : ∀ wx, Calls Tryz.prog 48 #[.string (Xab s)] wx fun e w' => e = .returned (.string (Xab s)) ∧ Below wx.heap.size wx w' := fun wx => Xjw _ wx (by rw [Lib.size_eq, Xbe]; exact hs)
 obtain ⟨S, hS⟩ : ∃ S, S = Xab s := ⟨_, rfl⟩
 rw [← hS] at hcl ⊢
 have hcell : ∀ V : World, Below w.heap.size w V → V.cell? ⟨b, 11, none⟩ = some dv ∧ V.frozen? ⟨b, 11, none⟩ = false := fun V hV => by
  have k := h.below hV
  exact ⟨k.c11, k.fr 11⟩
 obtain ⟨c11, f11⟩ := hcell w (Below.refl _ _)
 have HCL := lh hcl
 have HS := lh hS
 have HCE := lh hcell
 have H := lh h
 clear hcl hS hcell h
 go_enter Tryz.func32, Tryz.ntmps32
 go_wp2_with fail
 have hbd : Below w.heap.size w w.drew := (Below.refl _ _).drew
 obtain ⟨d11, e11⟩ := HCE.out w.drew hbd
 have HBD := lh hbd
 clear hbd
 go_region_law (first
  | (go_simp
     go_at_call 48
     refine (HCL.out _).mono ?_
     rintro e w1 ⟨rfl, hb1⟩
     have hb2 : Below w.heap.size w w1 := HBD.out.trans (hb1.mono HBD.out.size)
     have hb3 : Below w.heap.size w (w1.alloc (.cells #[.int .i64 p, .int .i64 c, .string S] 39)) := hb2.alloc hb2.size _
     obtain ⟨c11b, f11b⟩ := HCE.out w1 hb2
     obtain ⟨c11c, f11c⟩ := HCE.out _ hb3
     have HOW : Hid (Xhw (w1.alloc (.cells #[.int .i64 p, .int .i64 c, .string S] 39)) base dv l) := lh (H.out.below hb3).own
     have HNW := lh (new_dg w1 p c S s HS.out)
     have HB3 := lh hb3
     have HBS : Hid (base ≤ (w1.alloc (.cells #[.int .i64 p, .int .i64 c, .string S] 39)).heap.size) := lh (by have := hb3.size; have := H.out.lt; have := H.out.bb; omega)
     clear hb1 hb2 hb3)
  | (refine Xpd rfl _ _ (by rfl) base dv l (by rfl) HOW.out ⟨w1.heap.size, 0, none⟩ 1 ⟨p, c, s⟩ (by rfl) HNW.out hl HBS.out ?_
     intro g3 c3 w3 hown3 hgr hat
     have hrow3 := (hgr.block b (by have := HB3.out.size; have := H.out.lt; omega) (fun e => H.out.ne e.symm)).trans ((HB3.out.block b H.out.lt).trans H.out.row)
     have z11 : w3.cell? ⟨b, 11, none⟩ = some dv := by rw [cell_of_row w3 b 11 _ _ (0, 0) hrow3]; rfl
     have y11 : w3.frozen? ⟨b, 11, none⟩ = false := frozen_of_row w3 b 11 _ _ hrow3
     have HGO := lh (H.out.setDv HB3.out hown3 hgr (fun k hk => hat.imp (fun h => by rw [h]; exact hk) (fun h => by have e2 : g3 = k := (by simpa [Value.ownBlock] using hk); omega)))
     clear hown3 hgr hat hrow3))
 all_goals
  go_end0
  exact ⟨rfl, _, HGO.out⟩
end
theorem Xvn (w : World) (g : Nat) (S : ByteArray) (hg : w.cell? ⟨g, 0, none⟩ = some (.string S)) (a t : ByteArray) :
  Calls Tryz.prog 89 #[.agg #[.string a, .string t], .pointer (some ⟨g, 0, none⟩)] w fun e w' => e = .returned (.bool (a.toList == S.toList)) ∧ Below w.heap.size w w' := by
 go_enter Tryz.func89, Tryz.ntmps89
 have hc : (w.alloc (.cells #[.string a, .string t] 49)).cell? ⟨g, 0, none⟩ = some (.string S) := ((Below.refl w.heap.size w).alloc (Nat.le_refl _) _).cell (Xce hg) |>.trans hg
 go_wp2
 go_ret
 exact ⟨rfl, (Below.refl _ _).alloc (Nat.le_refl _) _⟩
theorem Ydl {l : List Pr} {s : List UInt8} {j : Nat} (hj : j < l.length) : hasB (l.take (j + 1)) s = (hasB (l.take j) s || decide (l[j].name = s)) := by
 unfold hasB
 rw [List.take_succ_eq_append_getElem hj, List.any_append]
 simp
theorem Xth {l : List Pr} {s : List UInt8} {j : Nat} (hj : j < l.length) (h : l[j].name = s) : hasB l s = true := by
 unfold hasB
 rw [List.any_eq_true]
 exact ⟨l[j], List.getElem_mem hj, by simpa using h⟩
set_option maxHeartbeats 1000000 in
theorem Xvp (w : World) {l : List Pr} {v : Value} (hin : Xca w (fun b => b < w.heap.size) l v) (g : Nat) (s : List UInt8) (hg : w.cell? ⟨g, 0, none⟩ = some (.string (Xab s))) :
  Calls Tryz.prog 117 #[v, .func (.func 89) #[] #[.pointer (some ⟨g, 0, none⟩)]] w
   fun e w' => ∃ r : Int, e = .returned (.int .i64 r) ∧ decide (0 ≤ r) = hasB l s ∧ Below w.heap.size w w' := by
 obtain ⟨A, c, rfl, hc, hM, hA⟩ := hin
 obtain ⟨n, hn⟩ : ∃ n, n = l.length := ⟨_, rfl⟩
 rw [← hn] at hc ⊢
 obtain ⟨S, hS⟩ : ∃ S, S = Xab s := ⟨_, rfl⟩
 rw [← hS] at hg
 have hlt := Xce hg
 have HCL : Hid (∀ V : World, Below w.heap.size w V → ∀ a t, Calls Tryz.prog 89 #[.agg #[.string a, .string t], .pointer (some ⟨g, 0, none⟩)] V fun e w' => e = .returned (.bool (a.toList == S.toList)) ∧ Below V.heap.size V w') := lh fun V hV a t => Xvn V g S ((hV.cell hlt).trans hg) a t
 have HA := lh hA
 have HN := lh hn
 have HS : Hid (S.toList = s) := lh (by rw [hS, Lib.toList_data]; rfl)
 clear hA hn hS hg hlt
 go_enter Tryz.func117, Tryz.ntmps117
 go_wp2
 go_loopw [8] (fun i wr => ∃ j : Nat, j ≤ n ∧ i = .int .i64 j ∧ Hid (hasB (l.take j) s = false) ∧ Hid (Below w.heap.size w wr)) (fun i _ => n - (intOf i).toNat)
 case atStart => exact ⟨0, Nat.zero_le _, rfl, lh rfl, lh (Below.refl _ _)⟩
 case round =>
  obtain ⟨wo, rfl⟩ : ∃ wo : World, wo = wr := ⟨_, rfl⟩
  obtain ⟨j, hj, rfl, HF, HB⟩ := hrel
  by_cases hlt : j < n
  · have hjl : j < l.length := by rw [← HN.out]; exact hlt
    obtain ⟨b, off, rfl, hb, _, _, c0, c1⟩ := HA.out j hjl
    have r0 := (HB.out.cell (p := ⟨b, off + j * 2, none⟩) hb).trans c0
    have r1 := (HB.out.cell (p := ⟨b, off + j * 2 + 1, none⟩) hb).trans c1
    have hnx := Ydl (s := s) hjl
    rw [HF.out, Bool.false_or] at hnx
    have hof := Xth (s := s) hjl
    obtain ⟨NM, hNM⟩ : ∃ NM, NM = Xab l[j].name := ⟨_, rfl⟩
    obtain ⟨TY, hTY⟩ : ∃ TY, TY = Xab l[j].type := ⟨_, rfl⟩
    rw [← hNM] at r0
    rw [← hTY] at r1
    have hnl : NM.toList = l[j].name := by rw [hNM, Lib.toList_data]; rfl
    have HCC := lh (HCL.out wo HB.out NM TY)
    have hwj : IntKind.i64.wrap ((j : Int) + 1) = (j : Int) + 1 := IntWalk.i64_in _ ⟨by omega, by omega⟩
    by_cases he : l[j].name = s
    · have HT : Hid (hasB l s = true) := lh (hof he)
      have hq : (NM.toList == S.toList) = true := by rw [hnl, HS.out, he]; simp
      rw [hq] at HCC
      clear hnx hof hnl hNM hTY c0 c1 he hq HF hb
      go_wp2_with (first
       | ((with_reducible refine HCC.out.mono ?_); rintro e w1 ⟨rfl, hb1⟩; have HB1 := lh (HB.out.trans (hb1.mono HB.out.size)); clear hb1))
      go_ret
      exact ⟨_, rfl, by rw [HT.out]; simp, HB1.out⟩
    · have HF2 : Hid (hasB (l.take (j + 1)) s = false) := lh (by rw [hnx]; simpa using he)
      have hq : (NM.toList == S.toList) = false := by rw [hnl, HS.out]; simpa using he
      rw [hq] at HCC
      clear hnx hof hnl hNM hTY c0 c1 he hq HF hb
      go_wp2_with (first
       | ((with_reducible refine HCC.out.mono ?_); rintro e w1 ⟨rfl, hb1⟩; have HB1 := lh (HB.out.trans (hb1.mono HB.out.size)); clear hb1))
      go_roundw
      case rel => exact ⟨j + 1, by omega, by go_num, HF2, HB1⟩
      case measure => first | (simp [intOf]; done) | (simp [intOf]; omega)
  · have HT : Hid (hasB l s = false) := lh (by have := HF.out; rwa [List.take_of_length_le (by rw [← HN.out]; omega)] at this)
    clear HF
    go_wp2
    go_ret
    exact ⟨_, rfl, by rw [HT.out]; rfl, HB.out⟩
theorem Xmc (w : World) {l : List Pr} {v : Value} (hin : Xca w (fun b => b < w.heap.size) l v) (g : Nat) (s : List UInt8) (hg : w.cell? ⟨g, 0, none⟩ = some (.string (Xab s))) :
  Calls Tryz.prog 88 #[v, .func (.func 89) #[] #[.pointer (some ⟨g, 0, none⟩)]] w
   fun e w' => e = .returned (.bool (hasB l s)) ∧ Below w.heap.size w w' := by
 have HI := lh (Xvp w hin g s hg)
 obtain ⟨A, c, rfl, -⟩ := hin
 obtain ⟨hb, hhb⟩ : ∃ hb, hb = hasB l s := ⟨_, rfl⟩
 rw [← hhb] at HI ⊢
 clear hg hhb
 go_enter Tryz.func88, Tryz.ntmps88
 go_wp2_with (first
  | ((with_reducible refine HI.out.mono ?_); rintro e w1 ⟨r, rfl, hr, hb1⟩; have HR := lh hr; have HB1 := lh hb1; clear hr hb1))
 go_ret
 exact ⟨Xfd HR.out, HB1.out⟩
theorem Xnn (w : World) {l : List Pr} {v : Value} (hin : Xca w (fun b => b < w.heap.size) l v) (s : List UInt8) :
  Calls Tryz.prog 61 #[v, .string (Xab s)] w fun e w' => e = .returned (.bool (hasB l s)) ∧ Below w.heap.size w w' := by
 obtain ⟨S, hS⟩ : ∃ S, S = Xab s := ⟨_, rfl⟩
 have hbx : Below w.heap.size w (w.alloc (.cells #[.string (Xab s)] 9)) := (Below.refl _ _).alloc (Nat.le_refl _) _
 have h1 := Xmc (w.alloc (.cells #[.string (Xab s)] 9)) (hin.keep (fun b hb => hbx.block b hb) (fun b hb => Nat.lt_of_lt_of_le hb hbx.size)) w.heap.size s (by rw [cell_of_row _ _ 0 _ _ (0, 0) (heap_alloc_new w _)]; rfl)
 rw [← hS] at h1 hbx ⊢
 have HI := lh h1
 have HBX := lh hbx
 obtain ⟨A, c, rfl, -⟩ := hin
 have hmf : ∀ (fn : Fn) (first cap : Array Value) (w : World), (Instr.makeFunc fn first cap).run Tryz.prog w = .ok (.func fn first cap) w := fun _ _ _ _ => rfl
 clear h1 hbx hS
 go_enter Tryz.func61, Tryz.ntmps61
 go_wp2_with (first
  | ((with_reducible refine HI.out.mono ?_); rintro e w1 ⟨rfl, hb1⟩; have HB1 := lh (HBX.out.trans (hb1.mono HBX.out.size)); clear hb1))
 go_ret
 exact ⟨rfl, HB1.out⟩
def Xdj (w : World) (v : Value) (ks : List Int) : Prop := ∃ A c, v = .slice A ks.length c ∧ ks.length ≤ 10 ∧ ∀ (k : Nat) (hk : k < ks.length), ∃ g off, A = some ⟨g, off, none⟩ ∧ g < w.heap.size ∧ w.cell? ⟨g, off + k, none⟩ = some (.int .i64 ks[k])
theorem Xdj.below {w w' : World} {v : Value} {ks : List Int} (h : Xdj w v ks) (hb : Below w.heap.size w w') : Xdj w' v ks := by
 obtain ⟨A, c, rfl, hl, hc⟩ := h
 refine ⟨A, c, rfl, hl, fun k hk => ?_⟩
 obtain ⟨g, off, h1, h2, h3⟩ := hc k hk
 exact ⟨g, off, h1, Nat.lt_of_lt_of_le h2 hb.size, (hb.cell (p := ⟨g, off + k, none⟩) h2).trans h3⟩
theorem Xdj.nil (w : World) : Xdj w (.slice none 0 0) [] := ⟨none, 0, rfl, by simp, fun k hk => by simp at hk⟩
theorem Xdj.one (w : World) (a : Int) : Xdj (w.alloc (.cells #[.int .i64 a] 3)) (.slice (some ⟨w.heap.size, 0, none⟩) 1 1) [a] :=
 ⟨_, _, rfl, by simp, fun k hk => ⟨w.heap.size, 0, rfl, by simp, by
  have e : k = 0 := by simpa using hk
  subst e
  rw [cell_of_row _ _ _ _ _ (0, 0) (heap_alloc_new w _)]; rfl⟩⟩
theorem Xdj.two (w : World) (a b : Int) : Xdj (w.alloc (.cells #[.int .i64 a, .int .i64 b] 3)) (.slice (some ⟨w.heap.size, 0, none⟩) 2 2) [a, b] :=
 ⟨_, _, rfl, by simp, fun k hk => ⟨w.heap.size, 0, rfl, by simp, by
  have e : k = 0 ∨ k = 1 := by simp at hk; omega
  rw [cell_of_row _ _ _ _ _ (0, 0) (heap_alloc_new w _)]
  rcases e with rfl | rfl <;> rfl⟩⟩
set_option maxHeartbeats 1000000 in
theorem Xti (w : World) {ks : List Int} {v : Value} (h : Xdj w v ks) (x : Int) :
  Calls Tryz.prog 116 #[v, .int .i64 x] w fun e w' => ∃ r : Int, e = .returned (.int .i64 r) ∧ decide (0 ≤ r) = decide (x ∈ ks) ∧ w' = w := by
 obtain ⟨A, c, rfl, hl, hc⟩ := h
 obtain ⟨n, hn⟩ : ∃ n, n = ks.length := ⟨_, rfl⟩
 rw [← hn] at hl ⊢
 have HC := lh hc
 have HN := lh hn
 clear hc hn
 go_enter Tryz.func116, Tryz.ntmps116
 go_wp2
 go_loop [8] (fun i => ∃ j : Nat, j ≤ n ∧ i = .int .i64 j ∧ Hid (x ∉ ks.take j)) (fun i => n - (intOf i).toNat)
 case atStart => exact ⟨0, Nat.zero_le _, rfl, lh (by simp)⟩
 case round =>
  obtain ⟨j, hj, rfl, HF⟩ := hrel
  by_cases hlt : j < n
  · have hjl : j < ks.length := by rw [← HN.out]; exact hlt
    obtain ⟨g, off, rfl, hg, c0⟩ := HC.out j hjl
    have htk : ks.take (j + 1) = ks.take j ++ [ks[j]] := List.take_succ_eq_append_getElem hjl
    have hmem : ks[j] ∈ ks := List.getElem_mem hjl
    obtain ⟨y, hy⟩ : ∃ y, y = ks[j] := ⟨_, rfl⟩
    rw [← hy] at c0 htk hmem
    by_cases he : x = y
    · have HT : Hid (x ∈ ks) := lh (he ▸ hmem)
      have hq : (x == y) = true := by simp; exact he
      clear htk hmem hy hg he
      go_wp2
      go_ret
      exact ⟨_, rfl, by first | exact ⟨fun _ => HT.out, fun _ => by omega⟩ | (rw [decide_eq_true HT.out]; simp), rfl⟩
    · have HF2 : Hid (x ∉ ks.take (j + 1)) := lh (by rw [htk, List.mem_append]; rintro (h | h); exact HF.out h; exact he (by simpa using h))
      have hq : (x == y) = false := by simp; exact he
      clear htk hmem hy hg he HF
      go_wp2
      go_round
      case rel => exact ⟨j + 1, by omega, by go_num, HF2⟩
      case measure => first | (simp [intOf]; done) | (simp [intOf]; omega)
  · have HT : Hid (x ∉ ks) := lh (by have := HF.out; rwa [List.take_of_length_le (by rw [← HN.out]; omega)] at this)
    clear HF
    go_wp2
    go_ret
    exact ⟨_, rfl, by first | exact ⟨fun h => absurd h (by decide), fun h => absurd h HT.out⟩ | (rw [decide_eq_false HT.out]; rfl), rfl⟩
theorem Xna (w : World) {ks : List Int} {v : Value} (h : Xdj w v ks) (x : Int) :
  Calls Tryz.prog 87 #[v, .int .i64 x] w fun e w' => e = .returned (.bool (decide (x ∈ ks))) ∧ w' = w := by
 have HI := lh (Xti w h x)
 obtain ⟨A, c, rfl, -⟩ := h
 obtain ⟨hb, hhb⟩ : ∃ hb, hb = decide (x ∈ ks) := ⟨_, rfl⟩
 rw [← hhb] at HI ⊢
 clear hhb
 go_enter Tryz.func87, Tryz.ntmps87
 go_wp2_with (first
  | ((with_reducible refine HI.out.mono ?_); rintro e w1 ⟨r, rfl, hr, rfl⟩; have HR := lh hr; clear hr))
 go_ret
 exact ⟨Xfd HR.out, rfl⟩
def Xgw (w : World) (M : Nat) (ds : List Dc) : Prop := M < w.heap.size ∧ ∀ (V : World), V.heap[M]? = w.heap[M]? → ∀ s : List UInt8, s.length ≤ 40000 →
 (Instr.lookup 58 (.map (some M)) (.string (Xab s)) true).run Tryz.prog V = .ok (.tuple #[.int .i64 ((Xai ds s).getD 0 : Nat), .bool (Xai ds s).isSome]) V ∧
 (Instr.lookup 58 (.map (some M)) (.string (Xab s)) false).run Tryz.prog V = .ok (.int .i64 ((Xai ds s).getD 0 : Nat)) V
structure Env (w : World) (base : Nat) (x : Nm) (ds : List Dc) : Prop where
 kinds : ∃ A c, x.dec = .slice A ds.length c ∧ ∀ (i : Nat) (hi : i < ds.length), ∃ b off, A = some ⟨b, off, none⟩ ∧ b < base ∧ w.cell? ⟨b, off + i * 7, none⟩ = some (.int .i64 ds[i].kind)
 first : ∃ M, x.mp = .map (some M) ∧ M < base ∧ Xgw w M ds
theorem Env.keep {w w' : World} {base : Nat} {x : Nm} {ds : List Dc} (h : Env w base x ds) (hb : Below base w w') : Env w' base x ds := by
 obtain ⟨⟨A, c, h1, h2⟩, M, h3, h4, h5⟩ := h
 refine ⟨⟨A, c, h1, fun i hi => ?_⟩, M, h3, h4, Nat.lt_of_lt_of_le h5.1 hb.size, fun V hV s hs => h5.2 V (hV.trans (hb.block M h4)) s hs⟩
 obtain ⟨b, off, k1, k2, k3⟩ := h2 i hi
 exact ⟨b, off, k1, k2, (hb.cell (p := ⟨b, off + i * 7, none⟩) k2).trans k3⟩
theorem Xbj.of_drewN {w w' : World} {n b base : Nat} {x : Nm} {l' : List Dg} {left' : Int} {dv dv' : Value} (h : Xbj (w.drewN n) b base x dv w' dv' l' left') : Xbj w b base x dv w' dv' l' left' :=
 ⟨h.1, h.2.1, ⟨h.2.2.os, h.2.2.tape, h.2.2.output, h.2.2.size, h.2.2.block⟩⟩
theorem Xbj.below_base {w w' : World} {b base : Nat} {x : Nm} {l l' : List Dg} {left left' : Int} {dv dv' : Value} (h : NmAt w b base x l left dv) (k : Xbj w b base x dv w' dv' l' left') : Below base w w' :=
 k.2.2.below (by have := h.lt; have := h.bb; omega) fun y hy => (h.mine hy).1
theorem Xic {w : World} {b base : Nat} {x : Nm} {l : List Dg} {left : Int} {dv : Value} {ds : List Dc} (h : NmAt w b base x l left dv) (he : Env w base x ds) (s : List UInt8) (hs : s.length ≤ 40000) :
  Calls Tryz.prog 62 #[.pointer (some ⟨b, 0, none⟩), .string (Xab s)] w fun e w' => e = .returned (.bool (Xai ds s).isSome) ∧ w' = w := by
 obtain ⟨M, hM, _, hF⟩ := he.first
 have c1 := h.c1
 rw [hM] at c1
 have hrun := (hF.2 w rfl s hs).1
 obtain ⟨S, hS⟩ : ∃ S, S = Xab s := ⟨_, rfl⟩
 rw [← hS] at hrun ⊢
 obtain ⟨ix, hix⟩ : ∃ ix, ix = (Xai ds s).getD 0 := ⟨_, rfl⟩
 obtain ⟨is, his⟩ : ∃ is, is = (Xai ds s).isSome := ⟨_, rfl⟩
 rw [← hix, ← his] at hrun
 rw [← his]
 clear hF hM h he hix his hS
 go_enter Tryz.func62, Tryz.ntmps62
 go_wp2
 go_ret
 exact ⟨rfl, rfl⟩
set_option maxHeartbeats 2000000 in
theorem Xrt {w : World} {b base : Nat} {x : Nm} {l : List Dg} {left : Int} {dv : Value} {ds : List Dc} (h : NmAt w b base x l left dv) (he : Env w base x ds) (hl : l.length ≤ 1000000) (p : Int) (s : List UInt8) (hs : s.length ≤ 40000) (ks : List Int) (kv : Value) (hk : Xdj w kv ks) :
  Calls Tryz.prog 60 #[.pointer (some ⟨b, 0, none⟩), .int .i64 p, .string (Xab s), kv] w
   fun e w' => e = .returned (.tuple #[]) ∧ ∃ dv', Xbj w b base x dv w' dv' (l ++ useD ds p s ks) left := by
 have HD := lh (Xic h he s hs)
 have HT := lh fun (c : Int) => Xko h hl p c s hs
 have HTN := lh fun (nq : Nat) (c : Int) => Xko (h.below (⟨rfl, rfl, rfl, Nat.le_refl _, fun _ _ => rfl⟩ : Below w.heap.size w (w.drewN nq))) hl p c s hs
 obtain ⟨M, hM, _, hF⟩ := he.first
 obtain ⟨A, c, hA, hkd⟩ := he.kinds
 have c0 := h.c0
 have c1 := h.c1
 rw [hM] at c1
 rw [hA] at c0
 have hrun : ∀ nq, (Instr.lookup 58 (.map (some M)) (.string (Xab s)) false).run Tryz.prog (w.drewN nq) = .ok (.int .i64 ((Xai ds s).getD 0 : Nat)) (w.drewN nq) := fun nq => (hF.2 (w.drewN nq) rfl s hs).2
 have HCO := lh fun (nq : Nat) (y : Int) => Xna (w.drewN nq) (hk.below (⟨rfl, rfl, rfl, Nat.le_refl _, fun _ _ => rfl⟩ : Below w.heap.size w (w.drewN nq))) y
 obtain ⟨S, hS⟩ : ∃ S, S = Xab s := ⟨_, rfl⟩
 rw [← hS] at HD HT HTN hrun ⊢
 have H := lh h
 obtain ⟨KA, kc, rfl, hkl, -⟩ := hk
 obtain ⟨kn, hkn⟩ : ∃ kn, kn = ks.length := ⟨_, rfl⟩
 rw [← hkn] at HCO ⊢
 clear hF hM h he hS hkn hkl hA
 cases hx : Xai ds s with
 | none =>
   rw [hx] at HD
   have HU : Hid (useD ds p s ks = [⟨p, 41, s⟩]) := lh (by unfold useD; rw [hx])
   clear hx hrun hkd c0 c1 HCO
   go_enter Tryz.func60, Tryz.ntmps60
   go_wp2_with (first
    | ((with_reducible refine HD.out.mono ?_); rintro e w1 ⟨rfl, rfl⟩)
    | ((with_reducible refine (HT.out _).mono ?_); rintro e w1 ⟨rfl, dv', hw⟩; have HW := lh hw; clear hw))
   go_end0
   rw [HU.out]
   exact ⟨rfl, _, HW.out⟩
 | some i =>
   obtain ⟨hi, hnm⟩ := Xld hx
   rw [hx] at HD hrun
   obtain ⟨kb, off, rfl, _, k0⟩ := hkd i hi
   have hu : useD ds p s ks = if ds[i].kind ∈ ks then [] else [⟨p, 42, s⟩] := by
    unfold useD
    rw [hx]
    show (if ((ds[i]?.map Dc.kind).getD 0) ∈ ks then _ else _) = _
    rw [List.getElem?_eq_getElem hi]
    rfl
   obtain ⟨y, hy⟩ : ∃ y, y = ds[i].kind := ⟨_, rfl⟩
   rw [← hy] at k0 hu
   obtain ⟨dn, hdn⟩ : ∃ dn, dn = ds.length := ⟨_, rfl⟩
   rw [← hdn] at c0 hi
   have hrun2 : ∀ nq, (Instr.lookup 58 (.map (some M)) (.string S) false).run Tryz.prog (w.drewN nq) = .ok (.int .i64 (i : Nat)) (w.drewN nq) := hrun
   have hii : ((i : Int)).toNat = i := rfl
   clear hx hkd hnm hy hdn hrun
   by_cases hm : y ∈ ks
   · have HU : Hid (useD ds p s ks = []) := lh (by rw [hu, if_pos hm])
     have HC2 : Hid (∀ nq, Calls Tryz.prog 87 #[.slice KA kn kc, .int .i64 y] (w.drewN nq) fun e w' => e = .returned (.bool true) ∧ w' = w.drewN nq) := lh fun nq => by
      have := HCO.out nq y
      rwa [decide_eq_true hm] at this
     clear hu hm HCO
     go_enter Tryz.func60, Tryz.ntmps60
     go_wp2_with (first
      | ((with_reducible refine HD.out.mono ?_); rintro e w1 ⟨rfl, rfl⟩))
     go_quiet ((go_at_call 87; with_reducible exact Calls.quiet_of_same (HC2.out _)))
     go_wp2
     go_end0
     rw [HU.out, List.append_nil]
     exact ⟨rfl, dv, (Xbj.refl H.out).below ⟨rfl, rfl, rfl, Nat.le_refl _, fun _ _ => rfl⟩⟩
   · have HU : Hid (useD ds p s ks = [⟨p, 42, s⟩]) := lh (by rw [hu, if_neg hm])
     have HC2 : Hid (∀ nq, Calls Tryz.prog 87 #[.slice KA kn kc, .int .i64 y] (w.drewN nq) fun e w' => e = .returned (.bool false) ∧ w' = w.drewN nq) := lh fun nq => by
      have := HCO.out nq y
      rwa [decide_eq_false hm] at this
     clear hu hm HCO
     go_enter Tryz.func60, Tryz.ntmps60
     go_wp2_with (first
      | ((with_reducible refine HD.out.mono ?_); rintro e w1 ⟨rfl, rfl⟩))
     go_quiet ((go_at_call 87; with_reducible exact Calls.quiet_of_same (HC2.out _)))
     go_wp2_with (first
      | ((with_reducible refine (HTN.out _ _).mono ?_); rintro e w1 ⟨rfl, dv', hw⟩; have HW := lh hw; clear hw))
     go_end0
     rw [HU.out]
     exact ⟨rfl, dv', HW.out.of_drewN⟩
section
set_option maxHeartbeats 1000000 in
theorem Xjs {w : World} {b base : Nat} {x : Nm} {l : List Dg} {left : Int} {dv : Value} {ds : List Dc} (h : NmAt w b base x l left dv) (he : Env w base x ds) (hl : l.length ≤ 1000000) (p : Int) (s : List UInt8) (hs : s.length ≤ 40000) :
  Calls Tryz.prog 34 #[.pointer (some ⟨b, 0, none⟩), .int .i64 p, .string (Xab s)] w
   fun e w' => e = .returned (.tuple #[]) ∧ ∃ dv', Xbj w b base x dv w' dv' (l ++ Xbl ds p s) left := by
 have HC := lh (Xqu s w)
 have hal : Below w.heap.size w (w.alloc (.cells #[.int .i64 3] 3)) := (Below.refl _ _).alloc (Nat.le_refl _) _
 by_cases hh : s.head? = some 42
 · have HU := lh (Xrt (h.below hal) (he.keep ((Below.refl _ _).alloc (by have := h.lt; have := h.bb; omega) _)) hl p s.tail (by rw [List.length_tail]; omega) [3] _ (Xdj.one w 3))
   have HT : Hid (Xbl ds p s = useD ds p s.tail [3]) := lh (by unfold Xbl; rw [if_pos hh])
   rw [if_pos hh, decide_eq_true hh] at HC
   have HW0 := lh ((Xbj.refl h).below hal)
   obtain ⟨S, hS⟩ : ∃ S, S = Xab s := ⟨_, rfl⟩
   obtain ⟨S2, hS2⟩ : ∃ S, S = Xab s.tail := ⟨_, rfl⟩
   rw [← hS, ← hS2] at HC
   rw [← hS2] at HU
   rw [← hS]
   clear hh hal h he hS hS2
   go_enter Tryz.func34, Tryz.ntmps34
   go_wp2_with (first
    | ((with_reducible refine HC.out.mono ?_); rintro e w1 ⟨rfl, rfl⟩)
    | ((with_reducible refine HU.out.mono ?_); rintro e w2 ⟨rfl, dv', hw⟩; have HW := lh (HW0.out.trans hw); clear hw))
   go_end0
   rw [HT.out]
   exact ⟨rfl, _, HW.out⟩
 · have HT : Hid (Xbl ds p s = []) := lh (by unfold Xbl; rw [if_neg hh])
   rw [if_neg hh, decide_eq_false hh] at HC
   have H := lh h
   obtain ⟨S, hS⟩ : ∃ S, S = Xab s := ⟨_, rfl⟩
   rw [← hS] at HC
   rw [← hS]
   clear hh hal h he hS
   go_enter Tryz.func34, Tryz.ntmps34
   go_wp2_with (first
    | ((with_reducible refine HC.out.mono ?_); rintro e w1 ⟨rfl, rfl⟩))
   go_end0
   rw [HT.out, List.append_nil]
   exact ⟨rfl, _, Xbj.refl H.out⟩
def Xhk (w : World) (base : Nat) (v : Value) (ps : List Pr) : Prop := w.ownsRow base 49 2 v ps.length (prsV ps) ∧ ∀ (k : Nat) (hk : k < ps.length), ps[k].name.length ≤ 140737488355328 ∧ ps[k].type.length ≤ 140737488355328
theorem Xhk.nil (w : World) (base : Nat) : Xhk w base (.slice none 0 0) [] := ⟨⟨rfl, .inl ⟨rfl, rfl⟩⟩, fun k hk => absurd hk (by simp)⟩
theorem Xhk.keep {w w' : World} {base : Nat} {v : Value} {ps : List Pr} (h : Xhk w base v ps) (hb : ∀ g, v.ownBlock = some g → w'.heap[g]? = w.heap[g]?) : Xhk w' base v ps := by
 refine ⟨?_, h.2⟩
 rcases h.1 with ⟨h1, h2 | ⟨g, cap, cur, hv, hbg, hg, h3⟩⟩
 · exact ⟨h1, .inl h2⟩
 · exact ⟨h1, .inr ⟨g, cap, cur, hv, hbg, (hb g (by rw [hv]; rfl)).trans hg, h3⟩⟩
theorem Xhk.blk {w : World} {base : Nat} {v : Value} {ps : List Pr} (h : Xhk w base v ps) {g : Nat} (hg : v.ownBlock = some g) : base ≤ g ∧ g < w.heap.size ∧ ∃ cur, w.heap[g]? = some (.cells cur 49 (0, 0)) := by
 rcases h.1 with ⟨h1, ⟨rfl, h2⟩ | ⟨g', cap, cur, rfl, hbg, hg', h3⟩⟩
 · cases hg
 · have e : g' = g := by simpa [Value.ownBlock] using hg
   subst e
   exact ⟨hbg, Xac hg', cur, hg'⟩
theorem Xhk.prs {w : World} {base : Nat} {v : Value} {ps : List Pr} (h : Xhk w base v ps) : Xca w (fun b => b < w.heap.size) ps v := (Xlm h.2 h.1).keep (fun _ _ => rfl) fun b hb => hb.2.1
structure BdAt (w : World) (bb b base : Nat) (x : Nm) (l : List Dg) (left : Int) (dv lo : Value) (ps : List Pr) : Prop where
 nm : NmAt w b base x l left dv
 row : w.heap[bb]? = some (.cells #[.pointer (some ⟨b, 0, none⟩), lo] 91 (0, 0))
 own : Xhk w base lo ps
 bbb : base ≤ bb
def Xhb (bb b : Nat) (dv lo : Value) (k : Nat) : Prop := Xga b dv k ∨ k = bb ∨ lo.ownBlock = some k
section
variable {w w' w1 w2 : World} {bb b base : Nat} {x : Nm} {l l1 l2 : List Dg} {left left1 left2 : Int} {dv dv1 dv2 lo lo1 lo2 : Value} {ps ps1 ps2 : List Pr}
theorem BdAt.lt (h : BdAt w bb b base x l left dv lo ps) : bb < w.heap.size := Xac h.row
theorem BdAt.c0 (h : BdAt w bb b base x l left dv lo ps) : w.cell? ⟨bb, 0, none⟩ = some (.pointer (some ⟨b, 0, none⟩)) := by rw [cell_of_row w bb 0 _ _ (0, 0) h.row]; rfl
theorem BdAt.c1 (h : BdAt w bb b base x l left dv lo ps) : w.cell? ⟨bb, 1, none⟩ = some lo := by rw [cell_of_row w bb 1 _ _ (0, 0) h.row]; rfl
theorem BdAt.fr (h : BdAt w bb b base x l left dv lo ps) (j : Nat) : w.frozen? ⟨bb, j, none⟩ = false := frozen_of_row w bb j _ _ h.row
theorem BdAt.ne (h : BdAt w bb b base x l left dv lo ps) {k : Nat} (hk : Xga b dv k) : k ≠ bb ∧ lo.ownBlock ≠ some k := by
 constructor
 · rintro rfl
   rcases hk with rfl | hk
   · have := h.row; rw [h.nm.row] at this; simp [nmC] at this
   · obtain ⟨_, _, cur, hg⟩ := h.nm.own.blk hk
     rw [h.row] at hg
     simp at hg
 · intro e
   obtain ⟨_, _, cur, hg⟩ := h.own.blk e
   rcases hk with rfl | hk
   · rw [h.nm.row] at hg; simp at hg
   · obtain ⟨_, _, cur2, hg2⟩ := h.nm.own.blk hk
     rw [hg2] at hg
     simp at hg
theorem BdAt.nel (h : BdAt w bb b base x l left dv lo ps) : lo.ownBlock ≠ some bb := fun e => by
 obtain ⟨_, _, cur, hg⟩ := h.own.blk e
 rw [h.row] at hg
 simp at hg
theorem BdAt.mine (h : BdAt w bb b base x l left dv lo ps) {k : Nat} (hk : Xhb bb b dv lo k) : base ≤ k ∧ k < w.heap.size := by
 rcases hk with hk | rfl | hk
 · exact h.nm.mine hk
 · exact ⟨h.bbb, h.lt⟩
 · obtain ⟨h1, h2, _⟩ := h.own.blk hk
   exact ⟨h1, h2⟩
theorem BdAt.keep (h : BdAt w bb b base x l left dv lo ps) (hk : ∀ k, Xhb bb b dv lo k → w'.heap[k]? = w.heap[k]?) : BdAt w' bb b base x l left dv lo ps :=
 ⟨h.nm.keep fun k m => hk k (.inl m), (hk bb (.inr (.inl rfl))).trans h.row, h.own.keep fun g hg => hk g (.inr (.inr hg)), h.bbb⟩
theorem BdAt.below (h : BdAt w bb b base x l left dv lo ps) (hb : Below w.heap.size w w') : BdAt w' bb b base x l left dv lo ps := h.keep fun k hk => hb.block k (h.mine hk).2
def Xar (w : World) (bb b base : Nat) (x : Nm) (dv lo : Value) (w' : World) (dv' lo' : Value) (l' : List Dg) (left' : Int) (ps' : List Pr) : Prop :=
 BdAt w' bb b base x l' left' dv' lo' ps' ∧ (∀ k, dv'.ownBlock = some k → dv.ownBlock = some k ∨ w.heap.size ≤ k) ∧ (∀ k, lo'.ownBlock = some k → lo.ownBlock = some k ∨ w.heap.size ≤ k) ∧ Chg (Xhb bb b dv lo) w w'
theorem Xar.refl (h : BdAt w bb b base x l left dv lo ps) : Xar w bb b base x dv lo w dv lo l left ps := ⟨h, fun k hk => .inl hk, fun k hk => .inl hk, Chg.refl _ _⟩
theorem Xar.trans (h : Xar w bb b base x dv lo w1 dv1 lo1 l1 left1 ps1) (k : Xar w1 bb b base x dv1 lo1 w2 dv2 lo2 l2 left2 ps2) : Xar w bb b base x dv lo w2 dv2 lo2 l2 left2 ps2 := by
 have hs := h.2.2.2.size
 refine ⟨k.1, fun g hg => ?_, fun g hg => ?_, h.2.2.2.trans k.2.2.2 fun y hy hm => ?_⟩
 · rcases k.2.1 g hg with h1 | h1
   · exact h.2.1 g h1
   · exact .inr (by omega)
 · rcases k.2.2.1 g hg with h1 | h1
   · exact h.2.2.1 g h1
   · exact .inr (by omega)
 · rcases hm with (rfl | hm) | rfl | hm
   · exact .inl (.inl rfl)
   · rcases h.2.1 y hm with h1 | h1
     · exact .inl (.inr h1)
     · omega
   · exact .inr (.inl rfl)
   · rcases h.2.2.1 y hm with h1 | h1
     · exact .inr (.inr h1)
     · omega
theorem Xar.below (h : Xar w bb b base x dv lo w1 dv1 lo1 l1 left1 ps1) (hb : Below w1.heap.size w1 w2) : Xar w bb b base x dv lo w2 dv1 lo1 l1 left1 ps1 :=
 h.trans ⟨h.1.below hb, fun k hk => .inl hk, fun k hk => .inl hk, Chg.of_below hb⟩
theorem BdAt.went (h : BdAt w bb b base x l left dv lo ps) (k : Xbj w b base x dv w1 dv1 l1 left1) : Xar w bb b base x dv lo w1 dv1 lo l1 left1 ps := by
 have hk : ∀ y, y < w.heap.size → ¬ Xga b dv y → w1.heap[y]? = w.heap[y]? := fun y hy hn => k.2.2.block y hy hn
 refine ⟨⟨k.1, (hk bb h.lt (fun m => (h.ne m).1 rfl)).trans h.row, h.own.keep fun g hg => hk g (h.own.blk hg).2.1 (fun m => (h.ne m).2 hg), h.bbb⟩, k.2.1, fun g hg => .inl hg, (Chg.refl (Xhb bb b dv lo) w).trans k.2.2 fun y _ m => .inl m⟩
theorem Xar.below_base (h : BdAt w bb b base x l left dv lo ps) (k : Xar w bb b base x dv lo w1 dv1 lo1 l1 left1 ps1) : Below base w w1 :=
 k.2.2.2.below (by have := h.lt; have := h.bbb; omega) fun y hy => (h.mine hy).1
end
end
set_option maxHeartbeats 1000000 in
theorem Xum {w : World} {bb b base : Nat} {x : Nm} {l : List Dg} {left : Int} {dv lo : Value} {ps : List Pr} {ds : List Dc} (h : BdAt w bb b base x l left dv lo ps) (he : Env w base x ds) (hl : l.length ≤ 1000000) (p : Int) (s : List UInt8) (hs : s.length ≤ 40000) :
  Calls Tryz.prog 92 #[.pointer (some ⟨bb, 0, none⟩), .int .i64 p, .string (Xab s)] w
   fun e w' => e = .returned (.tuple #[]) ∧ ∃ dv', Xar w bb b base x dv lo w' dv' lo (l ++ Xbw ds ps p s) left ps := by
 have H := lh h
 have hcells : ∀ V : World, Below w.heap.size w V → V.cell? ⟨bb, 0, none⟩ = some (.pointer (some ⟨b, 0, none⟩)) ∧ V.cell? ⟨bb, 1, none⟩ = some lo := fun V hV => ⟨(h.below hV).c0, (h.below hV).c1⟩
 obtain ⟨c0, c1⟩ := hcells w (Below.refl _ _)
 have HCE := lh hcells
 have HH := lh (Xnn w h.own.prs s)
 have HUS := lh fun (V : World) (hV : Below w.heap.size w V) => Xrt (h.nm.below hV) (he.keep (hV.mono (by have := h.lt; have := h.bbb; omega))) hl p s hs [] _ (Xdj.nil V)
 obtain ⟨A, c, hlo, -⟩ := h.own.prs
 have hst : (Xab s).toList = s := by rw [Lib.toList_data]; rfl
 obtain ⟨S, hS⟩ : ∃ S, S = Xab s := ⟨_, rfl⟩
 rw [← hS] at HH HUS hst ⊢
 have HST := lh hst
 clear hS hst h he hcells hlo
 by_cases hn : s = []
 · have hU : Hid (Xbw ds ps p s = []) := lh (by unfold Xbw; rw [if_neg (fun k => k.1 hn)])
   have hem : S.toList = [] := HST.out.trans hn
   clear hn HH HUS
   go_enter Tryz.func92, Tryz.ntmps92
   go_wp2
   go_end0
   rw [hU.out, List.append_nil]
   exact ⟨rfl, _, Xar.refl H.out⟩
 · have hem : S.toList.isEmpty = false := by
    rw [HST.out]
    cases s with
    | nil => exact absurd rfl hn
    | cons a r => rfl
   cases hq : hasB ps s with
   | true =>
     have hU : Hid (Xbw ds ps p s = []) := lh (by unfold Xbw; rw [if_neg (fun k => by rw [hq] at k; cases k.2)])
     rw [hq] at HH
     clear hn hq HUS
     go_enter Tryz.func92, Tryz.ntmps92
     go_wp2_with (first
      | ((with_reducible refine HH.out.mono ?_); rintro e w1 ⟨rfl, hb1⟩; have HB1 := lh hb1; clear hb1))
     go_end0
     rw [hU.out, List.append_nil]
     exact ⟨rfl, _, (Xar.refl H.out).below HB1.out⟩
   | false =>
     have hU : Hid (Xbw ds ps p s = useD ds p s []) := lh (by unfold Xbw; rw [if_pos ⟨hn, hq⟩])
     rw [hq] at HH
     clear hn hq
     go_enter Tryz.func92, Tryz.ntmps92
     go_wp2_with (first
      | ((with_reducible refine HH.out.mono ?_); rintro e w1 ⟨rfl, hb1⟩; obtain ⟨d0, d1⟩ := HCE.out w1 hb1; have HU1 := lh (HUS.out w1 hb1); have HB1 := lh hb1; clear hb1)
      | ((with_reducible refine HU1.out.mono ?_); rintro e w2 ⟨rfl, dv', hw⟩; have HW := lh hw; clear hw))
     go_end0
     rw [hU.out]
     exact ⟨rfl, _, ((Xar.refl H.out).below HB1.out).trans ((H.out.below HB1.out).went HW.out)⟩
theorem prV_one (a t : List UInt8) : ∀ u ∈ [Value.string (Xab a), .string (Xab t)], u.oneCell' = true := fun u hu => by
 simp at hu
 rcases hu with rfl | rfl <;> rfl
theorem Yer (ps : List Pr) (p : Pr) : prsV (ps ++ [p]) = prsV ps ++ [.string (Xab p.name), .string (Xab p.type)] := by
 induction ps with
 | nil => rfl
 | cons q ps ih => rw [List.cons_append, prsV, prsV, ih]; rfl
theorem Xpf {ops : Array Oper} {o : Oper} {a : Act} {w : World} {K : Act → World → Prop} {Q : Exit → Act → World → Prop} {E : Prop} (hgd : o.guard = none) (s x : Operand)
  (ho : o.op = .call { callee := .builtin .append, args := #[s, x], argTypes := #[43, 43] })
  (base : Nat) (v : Value) (ps : List Pr) (hs : a.eval s = v) (hown : Xhk w base v ps) (ad : Addr) (c : Nat) (nm ty : List UInt8) (hn : nm.length ≤ 40000 ∧ ty.length ≤ 40000) (hx : a.eval x = .slice (some ad) 1 c)
  (hnews : ∀ j y, ([Value.string (Xab nm), .string (Xab ty)] : List Value)[j]? = some y → w.cell? (ad.add j) = some y) (hb : ps.length ≤ 1000000) (hbase : base ≤ w.heap.size)
  (h : ∀ g' c' w', Xhk w' base (.slice (some ⟨g', 0, none⟩) (ps.length + 1) c') (ps ++ [⟨nm, ty⟩]) → w.grownBy w' v.ownBlock → (v.ownBlock = some g' ∨ g' = w.heap.size) → K (a.put o.dst (.slice (some ⟨g', 0, none⟩) (ps.length + 1) c')) w') :
  if Region.wanted o (yielded ops a.tmps) = true then Oper.wp Tryz.prog o a w K Q else E := by
 obtain ⟨i0, hi, hz0, hz1, hz2⟩ := info_parts Xvr
 refine step_append_lies _ hgd s x 43 ho base 49 i0 _ 2 32 Tryz.underlying43 hi hz0 hz1 hz2 rfl (by decide) v ps.length (prsV ps) hs hown.1 ad 1 c [.string (Xab nm), .string (Xab ty)] hx rfl hnews (prV_one nm ty)
  (by omega) (by unfold maxLen; omega) (by omega) hbase w.heap.size rfl fun g' cap w' hown' hgr hat hlt => h g' cap w' ⟨?_, fun k hk => ?_⟩ hgr hat
 · rw [List.length_append, Yer]
   exact hown'
 · by_cases hlt : k < ps.length
   · rw [List.getElem_append_left hlt]; exact hown.2 k hlt
   · have e : k = ps.length := by simp at hk; omega
     subst e
     have e2 : (ps ++ [(⟨nm, ty⟩ : Pr)])[ps.length] = ⟨nm, ty⟩ := by simp
     rw [e2]
     show nm.length ≤ _ ∧ ty.length ≤ _
     omega
theorem new_ps (w : World) (a t : List UInt8) (A T : ByteArray) (hA : A = Xab a) (hT : T = Xab t) : ∀ j y, ([Value.string (Xab a), .string (Xab t)] : List Value)[j]? = some y → (w.alloc (.cells #[.string A, .string T] 49)).cell? ((⟨w.heap.size, 0, none⟩ : Addr).add j) = some y := by
 intro j y hy
 rw [Xdo, Nat.zero_add, cell_of_row _ _ j _ _ (0, 0) (heap_alloc_new w _), hA, hT, List.getElem?_toArray]
 exact hy
theorem BdAt.setLo {w w1 w2 : World} {bb b base : Nat} {x : Nm} {l : List Dg} {left : Int} {dv lo v : Value} {ps ps' : List Pr} (h : BdAt w bb b base x l left dv lo ps) (hb : Below w.heap.size w w1) (hown : Xhk w2 base v ps') (hgr : w1.grownBy w2 lo.ownBlock) (hat : ∀ k, v.ownBlock = some k → lo.ownBlock = some k ∨ w1.heap.size ≤ k) : Xar w bb b base x dv lo (w2.setCell ⟨bb, 1, none⟩ v) dv v l left ps' := by
 have hs := hb.size
 have hk : ∀ y, y < w.heap.size → lo.ownBlock ≠ some y → w2.heap[y]? = w.heap[y]? := fun y hy hn => (hgr.block y (by omega) (fun e => hn e.symm)).trans (hb.block y hy)
 have hne : v.ownBlock ≠ some bb := fun e => by
  rcases hat bb e with h1 | h1
  · exact h.nel h1
  · have := h.lt; omega
 have hrow := (hk bb h.lt h.nel).trans h.row
 refine ⟨⟨h.nm.keep fun y m => ?_, ?_, hown.keep fun g hg => Below.heap_setCell _ _ _ _ (fun e => hne (by have e2 : g = bb := e; rw [← e2]; exact hg)), h.bbb⟩, fun k hk => .inl hk, fun k hk => ?_, ?_⟩
 · exact (Below.heap_setCell _ _ _ _ (fun e => (h.ne m).1 e)).trans (hk y (h.nm.mine m).2 (h.ne m).2)
 · rw [heap_setCell_same _ _ _ _ _ _ hrow]; rfl
 · rcases hat k hk with h1 | h1
   · exact .inl h1
   · exact .inr (by omega)
 · exact (((Chg.of_below hb : Chg (Xhb bb b dv lo) w w1)).grown hgr fun k _ hk => .inr (.inr hk)).setCell _ _ fun _ => .inr (.inl rfl)
set_option maxHeartbeats 4000000 in
set_option maxRecDepth 100000 in
theorem Ybd {w : World} {bb b base : Nat} {x : Nm} {l : List Dg} {left : Int} {dv lo : Value} {ps : List Pr} (h : BdAt w bb b base x l left dv lo ps) (hl : ps.length ≤ 1000000) (s t : List UInt8) (hs : s.length ≤ 40000) (ht : t.length ≤ 40000) :
  Calls Tryz.prog 63 #[.pointer (some ⟨bb, 0, none⟩), .string (Xab s), .string (Xab t)] w
   fun e w' => e = .returned (.tuple #[]) ∧ ∃ lo', Xar w bb b base x dv lo w' dv lo' l left (addL ps s t) := by
 have HH := lh (Xnn w h.own.prs s)
 have hcl : ∀ wx, Calls Tryz.prog 48 #[.string (Xab s)] wx fun e w' => e = .returned (.string (Xab s)) ∧ Below wx.heap.size wx w' := fun wx => Xjw _ wx (by rw [Lib.size_eq, Xbe]; exact hs)
 have hcl2 : ∀ wx, Calls Tryz.prog 48 #[.string (Xab t)] wx fun e w' => e = .returned (.string (Xab t)) ∧ Below wx.heap.size wx w' := fun wx => Xjw _ wx (by rw [Lib.size_eq, Xbe]; exact ht)
 obtain ⟨S, hS⟩ : ∃ S, S = Xab s := ⟨_, rfl⟩
 obtain ⟨T, hT⟩ : ∃ T, T = Xab t := ⟨_, rfl⟩
 rw [← hS] at hcl HH ⊢
 rw [← hT] at hcl2 ⊢
 have hcell : ∀ V : World, Below w.heap.size w V → V.cell? ⟨bb, 1, none⟩ = some lo ∧ V.frozen? ⟨bb, 1, none⟩ = false := fun V hV => ⟨(h.below hV).c1, (h.below hV).fr 1⟩
 obtain ⟨c1, f1⟩ := hcell w (Below.refl _ _)
 have HCL := lh hcl
 have HCL2 := lh hcl2
 have HS := lh hS
 have HT := lh hT
 have HCE := lh hcell
 have H := lh h
 clear hcl hcl2 hS hT hcell h
 cases hq : hasB ps s with
 | true =>
   have hU : Hid (addL ps s t = ps) := lh (by unfold addL; rw [if_pos hq])
   rw [hq] at HH
   clear hq
   go_enter Tryz.func63, Tryz.ntmps63
   go_wp2_with (first
    | ((with_reducible refine HH.out.mono ?_); rintro e w1 ⟨rfl, hb1⟩; have HB1 := lh hb1; clear hb1))
   go_end0
   rw [hU.out]
   exact ⟨rfl, _, (Xar.refl H.out).below HB1.out⟩
 | false =>
   have hU : Hid (addL ps s t = ps ++ [⟨s, t⟩]) := lh (by unfold addL; rw [if_neg (by rw [hq]; decide)])
   rw [hq] at HH
   clear hq
   go_enter Tryz.func63, Tryz.ntmps63
   go_wp2_with (first
    | ((with_reducible refine HH.out.mono ?_); rintro e w1 ⟨rfl, hb1⟩; have HB1 := lh hb1; clear hb1))
   have hbd : Below w.heap.size w w1.drew := HB1.out.drew
   obtain ⟨d1, e1⟩ := HCE.out w1.drew hbd
   have HBD := lh hbd
   clear hbd
   go_region_law (first
    | (go_simp
       go_at_call 48
       refine (HCL.out _).mono ?_
       rintro e w2 ⟨rfl, hb2⟩
       have HB2 := lh (HBD.out.trans (hb2.mono HBD.out.size))
       obtain ⟨d2, e2⟩ := HCE.out w2 HB2.out
       clear hb2)
    | (go_simp
       go_at_call 48
       refine (HCL2.out _).mono ?_
       rintro e w3 ⟨rfl, hb3⟩
       have HB3 := lh (HB2.out.trans (hb3.mono HB2.out.size))
       have hb4 : Below w.heap.size w (w3.alloc (.cells #[.string S, .string T] 49)) := HB3.out.alloc HB3.out.size _
       obtain ⟨d3, e3⟩ := HCE.out w3 HB3.out
       obtain ⟨d4, e4⟩ := HCE.out _ hb4
       have HB4 := lh hb4
       have HOW := lh (H.out.below hb4).own
       have HNW := lh (new_ps w3 s t S T HS.out HT.out)
       have HBS : Hid (base ≤ (w3.alloc (.cells #[.string S, .string T] 49)).heap.size) := lh (by have := hb4.size; have := H.out.lt; have := H.out.bbb; omega)
       clear hb3 hb4)
    | (refine Xpf rfl _ _ (by rfl) base lo ps (by rfl) HOW.out ⟨w3.heap.size, 0, none⟩ 1 s t ⟨hs, ht⟩ (by rfl) HNW.out hl HBS.out ?_
       intro g5 c5 w5 hown5 hgr hat
       have hrow5 := (hgr.block bb (by have := HB4.out.size; have := H.out.lt; omega) (fun e => H.out.nel e.symm)).trans ((HB4.out.block bb H.out.lt).trans H.out.row)
       have z1 : w5.cell? ⟨bb, 1, none⟩ = some lo := by rw [cell_of_row w5 bb 1 _ _ (0, 0) hrow5]; rfl
       have y1 : w5.frozen? ⟨bb, 1, none⟩ = false := frozen_of_row w5 bb 1 _ _ hrow5
       have HGO := lh (H.out.setLo HB4.out hown5 hgr (fun k hk => hat.imp (fun h => by rw [h]; exact hk) (fun h => by have e2 : g5 = k := (by simpa [Value.ownBlock] using hk); omega)))
       clear hown5 hgr hat hrow5))
   all_goals
    go_end0
    rw [hU.out]
    exact ⟨rfl, _, HGO.out⟩
end Go.Proofs.YtbckeljbpknbdaaGreatDoor
