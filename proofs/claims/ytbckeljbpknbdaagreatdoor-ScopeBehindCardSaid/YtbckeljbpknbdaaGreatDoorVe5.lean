/- Ir It Iu Iv Iy Iz Ea Eb Ec -/
import Derived.Test.YtbckeljbpknbdaaGreatDoorVe2
import Derived.StringKeys
import Derived.Sort.Statements
import Derived.Lib.SlicesCompact
import Derived.Shelf.SlSortCmp.Insertion
import Derived.Shelf.SlSortCmp.WholeK
import Derived.Shelf.SlicesG.Cmp
import Derived.Test.YtbckeljbpknbdaaGreatDoorRows
set_option linter.unusedVariables false
set_option linter.unusedSimpArgs false
namespace Go.Proofs.YtbckeljbpknbdaaGreatDoor
open Go.RowKit
section
def ixV (l : List Nat) : List Value := l.map fun i => .int .i64 (i : Nat)
theorem info_ix : (Tryz.prog.info? 3).map (fun i => (i.zero, i.size, i.bytes)) = some (some (.int .i64 0), 1, 8) := by kernel_rfl
theorem info_lv : (Tryz.prog.info? 43).map (fun i => (i.zero, i.size, i.bytes)) = some (some (.slice none 0 0), 1, 24) := by kernel_rfl
def Xuo (w : World) (base : Nat) (v : Value) (l : List Nat) : Prop := w.ownsRow base 3 1 v l.length (ixV l)
structure Xmb (w : World) (base : Nat) (v : Value) (vs : List Value) (ll : List (List Pr)) : Prop where
 len : vs.length = ll.length
 own : w.ownsRow base 43 1 v vs.length vs
 each : ∀ (k : Nat) (hk : k < vs.length) (hx : k < ll.length), Xhk w base vs[k] ll[k]
theorem Xeo {w : World} {base e size : Nat} {v : Value} {n : Nat} {xs : List Value} (h : w.ownsRow base e size v n xs) {g : Nat} (hg : v.ownBlock = some g) : base ≤ g ∧ g < w.heap.size ∧ ∃ cur, w.heap[g]? = some (.cells cur e (0, 0)) := by
 rcases h with ⟨h1, ⟨rfl, h2⟩ | ⟨g', cap, cur, rfl, hbg, hg', h3⟩⟩
 · cases hg
 · have e : g' = g := by simpa [Value.ownBlock] using hg
   subst e
   exact ⟨hbg, Xac hg', cur, hg'⟩
theorem Xkk {w w' : World} {base e size : Nat} {v : Value} {n : Nat} {xs : List Value} (h : w.ownsRow base e size v n xs) (hb : ∀ g, v.ownBlock = some g → w'.heap[g]? = w.heap[g]?) : w'.ownsRow base e size v n xs := by
 rcases h with ⟨h1, h2 | ⟨g, cap, cur, hv, hbg, hg, h3⟩⟩
 · exact ⟨h1, .inl h2⟩
 · exact ⟨h1, .inr ⟨g, cap, cur, hv, hbg, (hb g (by rw [hv]; rfl)).trans hg, h3⟩⟩
structure Tb where
 k : Int → List Nat
 lv : List (List Pr)
def tOf (x : Nm) (k : Int) : Value := if k = 1 then x.t1 else if k = 2 then x.t2 else if k = 3 then x.t3 else if k = 4 then x.t4 else if k = 5 then x.t5 else if k = 6 then x.t6 else if k = 7 then x.t7 else x.t8
def setT (x : Nm) (k : Int) (v : Value) : Nm := if k = 1 then { x with t1 := v } else if k = 2 then { x with t2 := v } else if k = 3 then { x with t3 := v } else if k = 4 then { x with t4 := v } else if k = 5 then { x with t5 := v } else if k = 6 then { x with t6 := v } else if k = 7 then { x with t7 := v } else { x with t8 := v }
def setLv (x : Nm) (v : Value) : Nm := { x with lv := v }
theorem Xnp {k : Int} (h1 : 1 ≤ k) (h8 : k ≤ 8) : k = 1 ∨ k = 2 ∨ k = 3 ∨ k = 4 ∨ k = 5 ∨ k = 6 ∨ k = 7 ∨ k = 8 := by omega
theorem Xwp {x : Nm} {k : Int} {v : Value} (h1 : 1 ≤ k) (h8 : k ≤ 8) : tOf (setT x k v) k = v := by
 rcases Xnp h1 h8 with rfl | rfl | rfl | rfl | rfl | rfl | rfl | rfl <;> rfl
theorem Xiz {x : Nm} {k j : Int} {v : Value} (h1 : 1 ≤ k) (h8 : k ≤ 8) (g1 : 1 ≤ j) (g8 : j ≤ 8) (hn : j ≠ k) : tOf (setT x k v) j = tOf x j := by
 rcases Xnp h1 h8 with rfl | rfl | rfl | rfl | rfl | rfl | rfl | rfl <;> rcases Xnp g1 g8 with rfl | rfl | rfl | rfl | rfl | rfl | rfl | rfl <;> first | rfl | exact absurd rfl hn
theorem Xuc {x : Nm} {k : Int} {v : Value} (h1 : 1 ≤ k) (h8 : k ≤ 8) : (setT x k v).dec = x.dec ∧ (setT x k v).mp = x.mp ∧ (setT x k v).lv = x.lv := by
 rcases Xnp h1 h8 with rfl | rfl | rfl | rfl | rfl | rfl | rfl | rfl <;> exact ⟨rfl, rfl, rfl⟩
theorem nmC_setT {x : Nm} {k : Int} {v dv : Value} {left : Int} (h1 : 1 ≤ k) (h8 : k ≤ 8) : (nmC x dv left).setIfInBounds (1 + k.toNat) v = nmC (setT x k v) dv left := by
 rcases Xnp h1 h8 with rfl | rfl | rfl | rfl | rfl | rfl | rfl | rfl <;> rfl
theorem Ydv {x : Nm} {k : Int} {dv : Value} {left : Int} (h1 : 1 ≤ k) (h8 : k ≤ 8) : (nmC x dv left)[1 + k.toNat]? = some (tOf x k) := by
 rcases Xnp h1 h8 with rfl | rfl | rfl | rfl | rfl | rfl | rfl | rfl <;> rfl
theorem Ydu {x : Nm} {v dv : Value} {left : Int} : (nmC x dv left).setIfInBounds 10 v = nmC (setLv x v) dv left := rfl
structure TbAt (w : World) (base : Nat) (x : Nm) (T : Tb) : Prop where
 ix : ∀ k, 1 ≤ k → k ≤ 8 → Xuo w base (tOf x k) (T.k k)
 lv : ∃ vs, Xmb w base x.lv vs T.lv
 sep : ∀ j k : Int, 1 ≤ j → j ≤ 8 → 1 ≤ k → k ≤ 8 → j ≠ k → ∀ g, (tOf x j).ownBlock = some g → (tOf x k).ownBlock ≠ some g
theorem Xmb.keep {w w' : World} {base : Nat} {v : Value} {vs : List Value} {ll : List (List Pr)} (h : Xmb w base v vs ll)
  (hk : ∀ g cur ty, base ≤ g → w.heap[g]? = some (.cells cur ty (0, 0)) → (ty = 43 ∨ ty = 49) → w'.heap[g]? = w.heap[g]?) : Xmb w' base v vs ll := by
 refine ⟨h.len, Xkk h.own fun g hg => ?_, fun k hk1 hx => (h.each k hk1 hx).keep fun g hg => ?_⟩
 · obtain ⟨a, _, cur, c⟩ := Xeo h.own hg
   exact hk g cur _ a c (.inl rfl)
 · obtain ⟨a, _, cur, c⟩ := (h.each k hk1 hx).blk hg
   exact hk g cur _ a c (.inr rfl)
theorem TbAt.keep {w w' : World} {base : Nat} {x : Nm} {T : Tb} (h : TbAt w base x T)
  (hk : ∀ g cur ty, base ≤ g → w.heap[g]? = some (.cells cur ty (0, 0)) → (ty = 3 ∨ ty = 43 ∨ ty = 49) → w'.heap[g]? = w.heap[g]?) : TbAt w' base x T := by
 obtain ⟨vs, hv⟩ := h.lv
 refine ⟨fun k h1 h8 => Xkk (h.ix k h1 h8) fun g hg => ?_, ⟨vs, hv.keep fun g cur ty a c d => hk g cur ty a c (.inr d)⟩, h.sep⟩
 obtain ⟨a, _, cur, c⟩ := Xeo (h.ix k h1 h8) hg
 exact hk g cur _ a c (.inl rfl)
theorem TbAt.below {w w' : World} {base : Nat} {x : Nm} {T : Tb} (h : TbAt w base x T) (hb : Below w.heap.size w w') : TbAt w' base x T :=
 h.keep fun g _ _ _ hg _ => hb.block g (Xac hg)
theorem NmAt.far {w : World} {b base : Nat} {x : Nm} {l : List Dg} {left : Int} {dv : Value} (h : NmAt w b base x l left dv) {g : Nat} {cs : Array Value} {ty : TypeId} (hg : w.heap[g]? = some (.cells cs ty (0, 0))) (h1 : ty ≠ 61) (h2 : ty ≠ 39) : ¬ Xga b dv g := by
 rintro (rfl | hm)
 · rw [h.row] at hg
   simp at hg
   exact h1 hg.2.symm
 · obtain ⟨_, _, cur, hc⟩ := h.own.blk hm
   rw [hc] at hg
   simp at hg
   exact h2 hg.2.symm
theorem TbAt.went {w w' : World} {b base : Nat} {x : Nm} {T : Tb} {l : List Dg} {left : Int} {dv : Value} (h : TbAt w base x T) (hn : NmAt w b base x l left dv) (hc : Chg (Xga b dv) w w') : TbAt w' base x T :=
 h.keep fun g cur ty _ hg ht => hc.block g (Xac hg) (hn.far hg (by rintro rfl; rcases ht with h | h | h <;> cases h) (by rintro rfl; rcases ht with h | h | h <;> cases h))
structure DcSt (w0 : World) (base D : Nat) (cs : Array Value) (ds : List Dc) (w : World) (b : Nat) (x : Nm) (T : Tb) (l : List Dg) (left : Int) (dv : Value) : Prop where
 nm : NmAt w b base x l left dv
 tb : TbAt w base x T
 row : w.heap[D]? = some (.cells cs 46 (0, 0))
 env : Env w base x ds
 bel : Below base w0 w
section
variable {w0 w w' : World} {base D b : Nat} {cs : Array Value} {ds : List Dc} {x : Nm} {T : Tb} {l l' : List Dg} {left left' : Int} {dv dv' : Value}
theorem DcSt.went (h : DcSt w0 base D cs ds w b x T l left dv) (hw : Xbj w b base x dv w' dv' l' left') : DcSt w0 base D cs ds w' b x T l' left' dv' :=
 ⟨hw.1, h.tb.went h.nm hw.2.2, (hw.2.2.block D (Xac h.row) (h.nm.far h.row (by decide) (by decide))).trans h.row, h.env.keep (Xbj.below_base h.nm hw), h.bel.trans (Xbj.below_base h.nm hw)⟩
theorem DcSt.below (h : DcSt w0 base D cs ds w b x T l left dv) (hb : Below w.heap.size w w') : DcSt w0 base D cs ds w' b x T l left dv := h.went ((Xbj.refl h.nm).below hb)
theorem DcSt.base_le (h : DcSt w0 base D cs ds w b x T l left dv) : base ≤ w.heap.size := by have := h.nm.lt; have := h.nm.bb; omega
theorem DcSt.cell (h : DcSt w0 base D cs ds w b x T l left dv) (j : Nat) (v : Value) (hj : cs[j]? = some v) : w.cell? ⟨D, j, none⟩ = some v := by rw [cell_of_row w D j _ _ (0, 0) h.row]; exact hj
theorem DcSt.ct (h : DcSt w0 base D cs ds w b x T l left dv) {k : Int} (h1 : 1 ≤ k) (h8 : k ≤ 8) : w.cell? ⟨b, 1 + k.toNat, none⟩ = some (tOf x k) := by rw [cell_of_row w b _ _ _ (0, 0) h.nm.row]; exact Ydv h1 h8
theorem DcSt.c10 (h : DcSt w0 base D cs ds w b x T l left dv) : w.cell? ⟨b, 10, none⟩ = some x.lv := by rw [cell_of_row w b _ _ _ (0, 0) h.nm.row]; rfl
end
def Tb.add (T : Tb) (k : Int) (i : Nat) : Tb := { T with k := fun j => if j = k then T.k j ++ [i] else T.k j }
theorem DcSt.setT {w0 w w1 w2 : World} {base D b : Nat} {cs : Array Value} {ds : List Dc} {x : Nm} {T : Tb} {l : List Dg} {left : Int} {dv v : Value} {i : Nat} {k : Int} (h : DcSt w0 base D cs ds w b x T l left dv) (h1 : 1 ≤ k) (h8 : k ≤ 8) (hb : Below w.heap.size w w1)
  (hown : Xuo w2 base v (T.k k ++ [i])) (hgr : w1.grownBy w2 (tOf x k).ownBlock) (hat : ∀ g, v.ownBlock = some g → (tOf x k).ownBlock = some g ∨ w1.heap.size ≤ g) : DcSt w0 base D cs ds (w2.setCell ⟨b, 1 + k.toNat, none⟩ v) b (Go.Proofs.YtbckeljbpknbdaaGreatDoor.setT x k v) (T.add k i) l left dv := by
 have hs1 := hb.size
 have hs2 := hgr.size
 obtain ⟨r1, r2, r3⟩ := Xuc (x := x) (v := v) h1 h8
 -- blocks of w that are not the list's own are as they were in w2
 have hkeep : ∀ g, g < w.heap.size → (tOf x k).ownBlock ≠ some g → w2.heap[g]? = w.heap[g]? := fun g hg hn => (hgr.block g (by omega) (fun e => hn e.symm)).trans (hb.block g hg)
 have hbne : (tOf x k).ownBlock ≠ some b := fun e => by
  obtain ⟨_, _, cur, hg⟩ := Xeo (h.tb.ix k h1 h8) e
  rw [h.nm.row] at hg
  simp at hg
 have hvb : v.ownBlock ≠ some b := fun e => by
  rcases hat b e with h3 | h3
  · exact hbne h3
  · have := h.nm.lt; omega
 have hbl := h.nm.lt
 have hset : ∀ g, g ≠ b → (w2.setCell ⟨b, 1 + k.toNat, none⟩ v).heap[g]? = w2.heap[g]? := fun g hg => Below.heap_setCell _ _ _ _ hg
 have hrow : w2.heap[b]? = some (.cells (nmC x dv left) 61 (0, 0)) := (hkeep b hbl hbne).trans h.nm.row
 have hdv : ∀ g, dv.ownBlock = some g → (w2.setCell ⟨b, 1 + k.toNat, none⟩ v).heap[g]? = w.heap[g]? := fun g hg => by
  obtain ⟨q1, q2, cur, q3⟩ := h.nm.own.blk hg
  refine (hset g (fun e => h.nm.ne (by rw [← e]; exact hg))).trans (hkeep g q2 fun e => ?_)
  obtain ⟨_, _, cur2, hg2⟩ := Xeo (h.tb.ix k h1 h8) e
  rw [q3] at hg2
  simp at hg2
 have hnmr : NmAt (w2.setCell ⟨b, 1 + k.toNat, none⟩ v) b base (Go.Proofs.YtbckeljbpknbdaaGreatDoor.setT x k v) l left dv :=
  ⟨by rw [heap_setCell_same _ _ _ _ _ _ hrow, nmC_setT h1 h8], h.nm.own.keep hdv, h.nm.bb⟩
 have hbelow : Below base w (w2.setCell ⟨b, 1 + k.toNat, none⟩ v) := by
  have q1 : Below base w w2 := (hb.mono h.base_le).grown hgr (by have := h.base_le; omega) fun g hg => (Xeo (h.tb.ix k h1 h8) hg).1
  exact q1.setCell (p := ⟨b, 1 + k.toNat, none⟩) h.nm.bb _
 refine ⟨hnmr, ⟨fun j g1 g8 => ?_, ?_, ?_⟩, ?_, ?_, h.bel.trans hbelow⟩
 · by_cases hj : j = k
   · subst hj
     rw [Xwp h1 h8]
     have e : (T.add j i).k j = T.k j ++ [i] := by unfold Tb.add; simp
     rw [e]
     exact Xkk hown fun g hg => hset g (fun e => hvb (by rw [← e]; exact hg))
   · rw [Xiz h1 h8 g1 g8 hj]
     have e : (T.add k i).k j = T.k j := by unfold Tb.add; simp [hj]
     rw [e]
     refine Xkk (h.tb.ix j g1 g8) fun g hg => ?_
     obtain ⟨_, q2, cur, q3⟩ := Xeo (h.tb.ix j g1 g8) hg
     refine (hset g (fun e => ?_)).trans (hkeep g q2 (h.tb.sep j k g1 g8 h1 h8 hj g hg))
     subst e
     rw [h.nm.row] at q3
     simp at q3
 · obtain ⟨vs, hv⟩ := h.tb.lv
   rw [r3]
   refine ⟨vs, hv.keep fun g cur ty _ hg ht => ?_⟩
   refine (hset g (fun e => ?_)).trans (hkeep g (Xac hg) fun e => ?_)
   · subst e
     rw [h.nm.row] at hg
     simp at hg
     rcases ht with rfl | rfl <;> exact absurd hg.2 (by decide)
   · obtain ⟨_, _, cur2, hg2⟩ := Xeo (h.tb.ix k h1 h8) e
     rw [hg] at hg2
     simp at hg2
     rcases ht with rfl | rfl <;> exact absurd hg2.2 (by decide)
 · intro a c a1 a8 c1 c8 hne g hga hgc
   by_cases ha : a = k
   · subst ha
     rw [Xwp h1 h8] at hga
     have hc : c ≠ a := fun e => hne e.symm
     rw [Xiz h1 h8 c1 c8 hc] at hgc
     rcases hat g hga with h3 | h3
     · exact h.tb.sep a c a1 a8 c1 c8 hne g h3 hgc
     · obtain ⟨_, q2, _⟩ := Xeo (h.tb.ix c c1 c8) hgc
       omega
   · rw [Xiz h1 h8 a1 a8 ha] at hga
     by_cases hc : c = k
     · subst hc
       rw [Xwp h1 h8] at hgc
       rcases hat g hgc with h3 | h3
       · exact h.tb.sep a c a1 a8 c1 c8 hne g hga h3
       · obtain ⟨_, q2, _⟩ := Xeo (h.tb.ix a a1 a8) hga
         omega
     · rw [Xiz h1 h8 c1 c8 hc] at hgc
       exact h.tb.sep a c a1 a8 c1 c8 hne g hga hgc
 · refine (hset D (fun e => ?_)).trans ((hkeep D (Xac h.row) fun e => ?_).trans h.row)
   · have := h.row
     rw [e, h.nm.row] at this
     simp at this
   · obtain ⟨_, _, cur2, hg2⟩ := Xeo (h.tb.ix k h1 h8) e
     rw [h.row] at hg2
     simp at hg2
 · have q := h.env.keep hbelow
   exact ⟨by rw [r1]; exact q.kinds, by rw [r2]; exact q.first⟩
end
set_option maxHeartbeats 2000000 in
theorem Yad (w : World) (b : Nat) (k : Int) (h1 : 1 ≤ k) (h8 : k ≤ 8) :
  Calls Tryz.prog 33 #[.pointer (some ⟨b, 0, none⟩), .int .i64 k] w
   fun e w' => e = .returned (.tuple #[.pointer (some ⟨b, 1 + k.toNat, none⟩), .int .i64 (mostK k : Nat)]) ∧ w' = w := by
 rcases Xnp h1 h8 with rfl | rfl | rfl | rfl | rfl | rfl | rfl | rfl
 all_goals
  clear h1 h8
  go_enter Tryz.func33, Tryz.ntmps33
  go_wp2
  go_ret2
  exact ⟨rfl, rfl⟩
theorem Xde {w : World} {base e size : Nat} {v : Value} {n : Nat} {xs : List Value} (h : w.ownsRow base e size v n xs) : ∃ A c, v = .slice A n c := by
 rcases h.2 with ⟨rfl, h2⟩ | ⟨g, cap, cur, rfl, hbg, hg, hc1, hc2, _⟩
 · exact ⟨none, 0, by rw [h2]⟩
 · exact ⟨_, cap, rfl⟩
theorem Xmf {ops : Array Oper} {rest : List Oper} {o : Oper} {a : Act} {w : World} {Q : Exit → Act → World → Prop} (hgd : o.guard = none) (s x : Operand)
  (ho : o.op = .call { callee := .builtin .append, args := #[s, x], argTypes := #[31, 31] })
  (base : Nat) (v : Value) (l : List Nat) (hs : a.eval s = v) (hown : Xuo w base v l) (g c : Nat) (i : Nat) (hx : a.eval x = .slice (some ⟨g, 0, none⟩) 1 c)
  (hg : w.cell? ⟨g, 0, none⟩ = some (.int .i64 (i : Nat))) (hb : l.length ≤ 100000) (hbase : base ≤ w.heap.size)
  (h : ∀ g' c' w', Xuo w' base (.slice (some ⟨g', 0, none⟩) (l.length + 1) c') (l ++ [i]) → w.grownBy w' v.ownBlock → (v.ownBlock = some g' ∨ g' = w.heap.size) → wpList Tryz.prog ops Q rest (a.put o.dst (.slice (some ⟨g', 0, none⟩) (l.length + 1) c')) w') : wpList Tryz.prog ops Q (o :: rest) a w := by
 obtain ⟨i0, hi, hz0, hz1, hz2⟩ := info_parts info_ix
 refine wpList_append_lies _ hgd s x 31 ho base 3 i0 (.int .i64 0) 1 8 Tryz.underlying31 hi hz0 hz1 hz2 rfl (by decide) v l.length (ixV l) hs hown ⟨g, 0, none⟩ 1 c [.int .i64 (i : Nat)] hx rfl (fun j u hu => ?_) (by intro u hu; simp at hu; subst hu; rfl) (by omega) (by unfold maxLen; omega) (by omega) hbase w.heap.size rfl fun g' cap w' hown' hgr hat _ => h g' cap w' ?_ hgr hat
 · match j, hu with
   | 0, hu =>
     have e : Value.int .i64 (i : Nat) = u := by simpa using hu
     rw [Xdo, ← e]; exact hg
   | j + 1, hu => simp at hu
 · unfold Xuo
   have e : ixV (l ++ [i]) = ixV l ++ [.int .i64 (i : Nat)] := by simp [ixV]
   rw [List.length_append, e]
   exact hown'
theorem Xpe {ops : Array Oper} {o : Oper} {a : Act} {w : World} {K : Act → World → Prop} {Q : Exit → Act → World → Prop} {E : Prop} (hgd : o.guard = none) (s x : Operand)
  (ho : o.op = .call { callee := .builtin .append, args := #[s, x], argTypes := #[32, 32] })
  (base : Nat) (v : Value) (vs : List Value) (ll : List (List Pr)) (hs : a.eval s = v) (hown : Xmb w base v vs ll) (g : Nat) (c : Nat) (u : Value) (ps : List Pr) (hx : a.eval x = .slice (some ⟨g, 0, none⟩) 1 c)
  (hg : w.cell? ⟨g, 0, none⟩ = some u) (hps : Xhk w base u ps) (hb : ll.length ≤ 100000) (hbase : base ≤ w.heap.size)
  (h : ∀ g' c' w', Xmb w' base (.slice (some ⟨g', 0, none⟩) (vs.length + 1) c') (vs ++ [u]) (ll ++ [ps]) → w.grownBy w' v.ownBlock → (v.ownBlock = some g' ∨ g' = w.heap.size) → K (a.put o.dst (.slice (some ⟨g', 0, none⟩) (vs.length + 1) c')) w') :
  if Region.wanted o (yielded ops a.tmps) = true then Oper.wp Tryz.prog o a w K Q else E := by
 obtain ⟨i0, hi, hz0, hz1, hz2⟩ := info_parts info_lv
 have hu1 : u.oneCell' = true := by obtain ⟨A, c, rfl⟩ := Xde hps.1; rfl
 refine step_append_lies _ hgd s x 32 ho base 43 i0 (.slice none 0 0) 1 24 Tryz.underlying32 hi hz0 hz1 hz2 rfl (by decide) v vs.length vs hs hown.own ⟨g, 0, none⟩ 1 c [u] hx rfl (fun j u' hu => ?_) (by simpa using hu1) (by omega) (by rw [hown.len]; unfold maxLen; omega) (by rw [hown.len]; omega) hbase w.heap.size rfl fun g' cap w' hown' hgr hat _ => h g' cap w' ?_ hgr hat
 · match j, hu with
   | 0, hu =>
     have e : u = u' := by simpa using hu
     rw [Xdo, ← e]; exact hg
   | j + 1, hu => simp at hu
 · have hkeep : ∀ (u : Value) (ps : List Pr), Xhk w base u ps → Xhk w' base u ps := fun u ps hu => hu.keep fun k hk => by
    obtain ⟨_, q2, cur, q3⟩ := hu.blk hk
    refine hgr.block k q2 fun e => ?_
    obtain ⟨_, _, cur2, hg2⟩ := Xeo hown.own e.symm
    rw [q3] at hg2
    simp at hg2
   refine ⟨by simp [hown.len], by rw [List.length_append]; exact hown', fun k hk hx => ?_⟩
   by_cases hlt : k < vs.length
   · have hl2 : k < ll.length := by rw [← hown.len]; exact hlt
     rw [List.getElem_append_left hlt, List.getElem_append_left hl2]
     exact hkeep _ _ (hown.each k hlt hl2)
   · have e : k = vs.length := by simp at hk; omega
     have e2 : k = ll.length := by rw [← hown.len]; exact e
     have e3 : (vs ++ [u])[k] = u := by rw [List.getElem_append_right (by omega)]; simp [e]
     have e4 : (ll ++ [ps])[k] = ps := by rw [List.getElem_append_right (by omega)]; simp [e2]
     rw [e3, e4]
     exact hkeep _ _ hps
theorem DcSt.setLv {w0 w w1 w2 : World} {base D b : Nat} {cs : Array Value} {ds : List Dc} {x : Nm} {T : Tb} {l : List Dg} {left : Int} {dv v : Value} {vs vs' : List Value} {ll : List (List Pr)} (h : DcSt w0 base D cs ds w b x T l left dv) (hv : Xmb w base x.lv vs T.lv) (hb : Below w.heap.size w w1)
  (hown : Xmb w2 base v vs' ll) (hgr : w1.grownBy w2 x.lv.ownBlock) (hat : ∀ g, v.ownBlock = some g → x.lv.ownBlock = some g ∨ w1.heap.size ≤ g) : DcSt w0 base D cs ds (w2.setCell ⟨b, 10, none⟩ v) b (Go.Proofs.YtbckeljbpknbdaaGreatDoor.setLv x v) { T with lv := ll } l left dv := by
 have hs1 := hb.size
 have hs2 := hgr.size
 have hkeep : ∀ g, g < w.heap.size → x.lv.ownBlock ≠ some g → w2.heap[g]? = w.heap[g]? := fun g hg hn => (hgr.block g (by omega) (fun e => hn e.symm)).trans (hb.block g hg)
 have hother : ∀ {g : Nat} {cs : Array Value} {ty : TypeId}, w.heap[g]? = some (.cells cs ty (0, 0)) → ty ≠ 43 → x.lv.ownBlock ≠ some g := fun {g cs ty} hg hn e => by
  obtain ⟨_, _, cur, hc⟩ := Xeo hv.own e
  rw [hc] at hg
  simp at hg
  exact hn hg.2.symm
 have hbne : x.lv.ownBlock ≠ some b := hother h.nm.row (by decide)
 have hvb : v.ownBlock ≠ some b := fun e => by
  rcases hat b e with h3 | h3
  · exact hbne h3
  · have := h.nm.lt; omega
 have hbl := h.nm.lt
 have hset : ∀ g, g ≠ b → (w2.setCell ⟨b, 10, none⟩ v).heap[g]? = w2.heap[g]? := fun g hg => Below.heap_setCell _ _ _ _ hg
 have hall : ∀ {g : Nat} {cs : Array Value} {ty : TypeId}, w.heap[g]? = some (.cells cs ty (0, 0)) → ty ≠ 43 → ty ≠ 61 → (w2.setCell ⟨b, 10, none⟩ v).heap[g]? = w.heap[g]? := fun {g cs ty} hg hn hm => by
  refine (hset g (fun e => ?_)).trans (hkeep g (Xac hg) (hother hg hn))
  subst e
  rw [h.nm.row] at hg
  simp at hg
  exact hm hg.2.symm
 have hrow : w2.heap[b]? = some (.cells (nmC x dv left) 61 (0, 0)) := (hkeep b hbl hbne).trans h.nm.row
 have hbelow : Below base w (w2.setCell ⟨b, 10, none⟩ v) := by
  have q1 : Below base w w2 := (hb.mono h.base_le).grown hgr (by have := h.base_le; omega) fun g hg => (Xeo hv.own hg).1
  exact q1.setCell (p := ⟨b, 10, none⟩) h.nm.bb _
 refine ⟨⟨by rw [heap_setCell_same _ _ _ _ _ _ hrow, Ydu], h.nm.own.keep fun g hg => ?_, h.nm.bb⟩, ⟨fun j g1 g8 => Xkk (h.tb.ix j g1 g8) fun g hg => ?_, ⟨vs', ?_⟩, h.tb.sep⟩, ?_, ?_, h.bel.trans hbelow⟩
 · obtain ⟨_, _, cur, q3⟩ := h.nm.own.blk hg
   exact hall q3 (by decide) (by decide)
 · obtain ⟨_, _, cur, q3⟩ := Xeo (h.tb.ix j g1 g8) hg
   exact hall q3 (by decide) (by decide)
 · refine hown.keep fun g cur ty _ hg ht => hset g fun e => ?_
   subst e
   rw [hrow] at hg
   simp at hg
   rcases ht with rfl | rfl <;> exact absurd hg.2 (by decide)
 · exact (hall h.row (by decide) (by decide)).trans h.row
 · have q := h.env.keep hbelow
   exact ⟨q.kinds, q.first⟩
def DcWent (w : World) (b base : Nat) (x : Nm) (left : Int) (w' : World) (T' : Tb) (l' : List Dg) (m : Nat) : Prop :=
 ∃ x' dv' left', NmAt w' b base x' l' left' dv' ∧ TbAt w' base x' T' ∧ x'.dec = x.dec ∧ x'.mp = x.mp ∧ Below base w w' ∧ left - (m : Nat) ≤ left' ∧ left' ≤ left
theorem Xzn {ds pre r : List Dc} {d : Dc} (h : ds = pre ++ d :: r) : ∃ j, Xai ds d.name = some j ∧ j ≤ pre.length := by
 subst h
 induction pre with
 | nil => exact ⟨0, by rw [List.nil_append, Xai, if_pos rfl], Nat.zero_le _⟩
 | cons a pre ih =>
   rw [List.cons_append, Xai]
   split
   · exact ⟨0, rfl, Nat.zero_le _⟩
   · obtain ⟨j, h1, h2⟩ := ih
     exact ⟨j + 1, by rw [h1]; rfl, by simpa using h2⟩
theorem DcSt.bd {w0 X w' : World} {base D b bb : Nat} {cs : Array Value} {ds : List Dc} {x : Nm} {T : Tb} {l l' : List Dg} {left left' : Int} {dv dv' lo lo' : Value} {ps ps' : List Pr} (h : DcSt w0 base D cs ds X b x T l left dv) (hB : BdAt X bb b base x l left dv lo ps) (hlo : lo.ownBlock = none)
  (hw : Xar X bb b base x dv lo w' dv' lo' l' left' ps') : DcSt w0 base D cs ds w' b x T l' left' dv' := by
 have hk : ∀ (g : Nat) (cur : Array Value) (ty : TypeId), X.heap[g]? = some (Obj.cells cur ty (0, 0)) → ty ≠ 61 → ty ≠ 39 → ty ≠ 91 → w'.heap[g]? = X.heap[g]? := fun g cur ty hg h1 h2 h3 => hw.2.2.2.block g (Xac hg) (by
  rintro (hm | rfl | hm)
  · exact h.nm.far hg h1 h2 hm
  · rw [hB.row] at hg
    simp at hg
    exact h3 hg.2.symm
  · rw [hlo] at hm; cases hm)
 have hbel := Xar.below_base hB hw
 exact ⟨hw.1.nm, h.tb.keep fun g cur ty _ hg ht => hk g cur ty hg (by rintro rfl; rcases ht with h | h | h <;> cases h) (by rintro rfl; rcases ht with h | h | h <;> cases h) (by rintro rfl; rcases ht with h | h | h <;> cases h), (hk D _ _ h.row (by decide) (by decide) (by decide)).trans h.row, h.env.keep hbel, h.bel.trans hbel⟩
set_option maxHeartbeats 8000000 in
set_option maxRecDepth 100000 in
theorem decl_any {w0 : World} {B : Nat} {k p u : Int} {nm ty : List UInt8} {qs : List Pr} {bd : List Sm} {PA BA : Option Addr} {pn pc bn bc : Nat} (hq : Xca w0 (· < B) qs (.slice PA pn pc)) (hbody : Xay w0 (· < B) bd (.slice BA bn bc))
  {w : World} {b base : Nat} {x : Nm} {T : Tb} {l : List Dg} {left : Int} {dv : Value} {ds pre r : List Dc} (h : NmAt w b base x l left dv) (ht : TbAt w base x T) (he : Env w base x ds) (hds : ds = pre ++ ⟨k, p, u, nm, ty, qs, bd⟩ :: r) (hBb : B ≤ base) (hb : Below B w0 w)
  (hT : ∀ k, 1 ≤ k → k ≤ 8 → T.k k = Xbg k pre 0) (hk1 : 1 ≤ k) (hk8 : k ≤ 8) (hle : ((prWs qs + smWs bd : Nat) : Int) ≤ left) (hleft2 : left ≤ 40000) (hll : l.length + 3 * (1 + nm.length + ty.length + prWs qs + smWs bd) ≤ 700000) (hpre : pre.length ≤ 100000) (hlv : T.lv.length ≤ 100000)
  (hnm : nm.length ≤ 40000) (hty : ty.length ≤ 40000) :
  Calls Tryz.prog 23 #[.pointer (some ⟨b, 0, none⟩), .int .i64 (pre.length : Nat), .agg #[.int .i64 k, .int .i64 p, .int .i64 u, .string (Xab nm), .string (Xab ty), .slice PA pn pc, .slice BA bn bc]] w
   fun e w' => e = .returned (.tuple #[]) ∧ DcWent w b base x left w' ⟨(T.add k pre.length).k, T.lv ++ (dcD ds pre ⟨k, p, u, nm, ty, qs, bd⟩).2⟩ (l ++ (dcD ds pre ⟨k, p, u, nm, ty, qs, bd⟩).1) (prWs qs + smWs bd) := by
 have hbase : base ≤ w.heap.size := by have := h.lt; have := h.bb; omega
 obtain ⟨ix, hix, hixle⟩ : ∃ j, Xai ds nm = some j ∧ j ≤ pre.length := Xzn hds
 obtain ⟨i, hi⟩ : ∃ q, q = pre.length := ⟨_, rfl⟩
 obtain ⟨E1, hE1⟩ : ∃ q : List Dg, q = if Xai ds nm = some pre.length then [] else [⟨p, 40, nm⟩] := ⟨_, rfl⟩
 obtain ⟨E2, hE2⟩ : ∃ q : List Dg, q = if mostK k ≤ (pre.filter fun x => decide (x.kind = k)).length then [⟨p, 22, nm⟩] else [] := ⟨_, rfl⟩
 have hdc1 : (dcD ds pre ⟨k, p, u, nm, ty, qs, bd⟩).1 = E1 ++ E2 ++ Xbl ds p ty ++ prDs ds p (decide (k = 7)) [] qs ++ (if Xgb k = true then (smDs ds (Xdt qs) bd).1 else []) := by rw [hE1, hE2]; rfl
 have hdc2 : (dcD ds pre ⟨k, p, u, nm, ty, qs, bd⟩).2 = if Xgb k = true then [(smDs ds (Xdt qs) bd).2] else [] := rfl
 have hl1 : E1.length ≤ 1 := by rw [hE1]; split <;> simp
 have hl2 : E2.length ≤ 1 := by rw [hE2]; split <;> simp
 have hl3 := Xfq ds p ty
 have hl4 := Xmq ds p (decide (k = 7)) [] qs
 have hl5 := Xhh qs
 have hl7 := Xmv qs []
 have hl8 := Xhp ds (Xdt qs) bd
 have hTl : (T.k k).length = (pre.filter fun x => decide (x.kind = k)).length := by rw [hT k hk1 hk8, Xkc]
 have hfl : (pre.filter fun x => decide (x.kind = k)).length ≤ pre.length := List.length_filter_le ..
 obtain ⟨LL, hLL⟩ : ∃ q, q = l ++ (dcD ds pre ⟨k, p, u, nm, ty, qs, bd⟩).1 := ⟨_, rfl⟩
 obtain ⟨TV, hTV⟩ : ∃ q, q = T.lv ++ (dcD ds pre ⟨k, p, u, nm, ty, qs, bd⟩).2 := ⟨_, rfl⟩
 rw [← hLL, ← hTV]
 rw [hdc1] at hLL
 rw [hdc2] at hTV
 have HLL := lh hLL
 have HTV := lh hTV
 clear hLL hTV
 rw [← hi] at hE1 hixle hpre hfl ⊢
 obtain ⟨D, hD⟩ : ∃ q, q = w.heap.size := ⟨_, rfl⟩
 obtain ⟨S, hS⟩ : ∃ q, q = Xab nm := ⟨_, rfl⟩
 obtain ⟨Y, hY⟩ : ∃ q, q = Xab ty := ⟨_, rfl⟩
 rw [← hS, ← hY]
 obtain ⟨X, hX⟩ : ∃ X : World, X = w.alloc (.cells #[.int .i64 k, .int .i64 p, .int .i64 u, .string S, .string Y, .slice PA pn pc, .slice BA bn bc] 46) := ⟨_, rfl⟩
 obtain ⟨cs, hcs⟩ : ∃ q : Array Value, q = #[.int .i64 k, .int .i64 p, .int .i64 u, .string S, .string Y, .slice PA pn pc, .slice BA bn bc] := ⟨_, rfl⟩
 have hbx : Below w.heap.size w X := by rw [hX]; exact (Below.refl _ _).alloc (Nat.le_refl _) _
 have hrow : X.heap[D]? = some (.cells cs 46 (0, 0)) := by rw [hX, hcs, hD]; exact heap_alloc_new _ _
 have hst : DcSt w base D cs ds X b x T l left dv := ⟨h.below hbx, ht.below hbx, hrow, he.keep (hbx.mono hbase), hbx.mono hbase⟩
 have HCE : Hid (∀ (V : World) (x' : Nm) (T' : Tb) (l' : List Dg) (lf' : Int) (dv' : Value), DcSt w base D cs ds V b x' T' l' lf' dv' → V.cell? ⟨D, 0, none⟩ = some (.int .i64 k) ∧ V.cell? ⟨D, 1, none⟩ = some (.int .i64 p) ∧ V.cell? ⟨D, 2, none⟩ = some (.int .i64 u) ∧ V.cell? ⟨D, 3, none⟩ = some (.string S) ∧ V.cell? ⟨D, 4, none⟩ = some (.string Y) ∧ V.cell? ⟨D, 5, none⟩ = some (.slice PA pn pc) ∧ V.cell? ⟨D, 6, none⟩ = some (.slice BA bn bc)) := lh fun V x' T' l' lf' dv' hV => by
  rw [hcs] at hV
  exact ⟨hV.cell 0 _ rfl, hV.cell 1 _ rfl, hV.cell 2 _ rfl, hV.cell 3 _ rfl, hV.cell 4 _ rfl, hV.cell 5 _ rfl, hV.cell 6 _ rfl⟩
 obtain ⟨M, hM, _, hF⟩ := hst.env.first
 have hlook : ∀ nq, (Instr.lookup 58 (.map (some M)) (.string S) false).run Tryz.prog (X.drewN nq) = .ok (.int .i64 (ix : Nat)) (X.drewN nq) := fun nq => by
  have q := (hF.2 (X.drewN nq) rfl nm hnm).2
  rw [hix, ← hS] at q
  exact q
 have x1 : X.cell? ⟨b, 1, none⟩ = some (.map (some M)) := by rw [hst.nm.c1, hM]
 have HTE : Hid (∀ (V : World) (x' : Nm) (T' : Tb) (l' : List Dg) (lf' : Int) (dv' : Value) (c : Int), DcSt w base D cs ds V b x' T' l' lf' dv' → l'.length ≤ 900000 → Calls Tryz.prog 32 #[.pointer (some ⟨b, 0, none⟩), .int .i64 p, .int .i64 c, .string S] V fun e w' => e = .returned (.tuple #[]) ∧ ∃ dv2, DcSt w base D cs ds w' b x' T' (l' ++ [⟨p, c, nm⟩]) lf' dv2) := lh fun V x' T' l' lf' dv' c hV hl' => by
  rw [hS]
  exact (Xko hV.nm (by omega) p c nm hnm).mono fun e w' ⟨e1, dv2, e2⟩ => ⟨e1, dv2, hV.went e2⟩
 have HUT : Hid (∀ (V : World) (x' : Nm) (T' : Tb) (l' : List Dg) (lf' : Int) (dv' : Value), DcSt w base D cs ds V b x' T' l' lf' dv' → l'.length ≤ 900000 → Calls Tryz.prog 34 #[.pointer (some ⟨b, 0, none⟩), .int .i64 p, .string Y] V fun e w' => e = .returned (.tuple #[]) ∧ ∃ dv2, DcSt w base D cs ds w' b x' T' (l' ++ Xbl ds p ty) lf' dv2) := lh fun V x' T' l' lf' dv' hV hl' => by
  rw [hY]
  exact (Xjs hV.nm hV.env (by omega) p ty hty).mono fun e w' ⟨e1, dv2, e2⟩ => ⟨e1, dv2, hV.went e2⟩
 have HPA : Hid (∀ (V : World) (x' : Nm) (T' : Tb) (l' : List Dg) (dv' : Value), DcSt w base D cs ds V b x' T' l' left dv' → l'.length ≤ 800000 → Calls Tryz.prog 35 #[.pointer (some ⟨b, 0, none⟩), .agg #[.int .i64 k, .int .i64 p, .int .i64 u, .string S, .string Y, .slice PA pn pc, .slice BA bn bc]] V fun e w' => e = .returned (.tuple #[]) ∧ ∃ dv2, DcSt w base D cs ds w' b x' T' (l' ++ prDs ds p (decide (k = 7)) [] qs) (left - prWs qs) dv2) := lh fun V x' T' l' dv' hV hl' =>
  (Yeh hq hV.nm hV.env hBb (hb.trans (hV.bel.mono hBb)) (by omega) hleft2 hl' k p u S Y BA bn bc).mono fun e w' ⟨e1, dv2, e2⟩ => ⟨e1, dv2, hV.went e2⟩
 have HPR : Hid (∀ (V : World) (bb : Nat) (x' : Nm) (l' : List Dg) (dv' lo' : Value), Below base w V → BdAt V bb b base x' l' (left - prWs qs) dv' lo' [] → Calls Tryz.prog 36 #[.pointer (some ⟨bb, 0, none⟩), .slice PA pn pc] V fun e w' => e = .returned (.tuple #[]) ∧ ∃ lo2, Xar V bb b base x' dv' lo' w' dv' lo2 l' (left - prWs qs) (Xdt qs)) := lh fun V bb x' l' dv' lo' hbv hV =>
  Yai hq hV hBb (hb.trans (hbv.mono hBb)) (by omega) (by omega) (by simp)
 have HSM : Hid (∀ (V : World) (bb : Nat) (x' : Nm) (l' : List Dg) (dv' lo' : Value), Below base w V → Env V base x' ds → BdAt V bb b base x' l' (left - prWs qs) dv' lo' (Xdt qs) → l'.length + 3 * smWs bd ≤ 900000 → Calls Tryz.prog 37 #[.pointer (some ⟨bb, 0, none⟩), .slice BA bn bc] V fun e w' => e = .returned (.tuple #[]) ∧ ∃ dv2 lo2, Xar V bb b base x' dv' lo' w' dv2 lo2 (l' ++ (smDs ds (Xdt qs) bd).1) (left - prWs qs - smWs bd) (smDs ds (Xdt qs) bd).2) := lh fun V bb x' l' dv' lo' hbv hev hV hl' =>
  (Ygc hbody) V bb b base x' l' _ dv' lo' (Xdt qs) ds hV hev hBb (hb.trans (hbv.mono hBb)) (by omega) (by omega) (by omega) (by have e : Xdt qs = Xow [] qs := rfl; rw [e]; simp at hl7; omega)
 have HLI : Hid (∀ V : World, Calls Tryz.prog 33 #[.pointer (some ⟨b, 0, none⟩), .int .i64 k] V fun e w' => e = .returned (.tuple #[.pointer (some ⟨b, 1 + k.toNat, none⟩), .int .i64 (mostK k : Nat)]) ∧ w' = V) := lh fun V => Yad V b k hk1 hk8
 have HST := lh hst
 have HX := lh hX
 have HSZ : Hid (l.length + E1.length + E2.length + (Xbl ds p ty).length + (prDs ds p (decide (k = 7)) [] qs).length + 3 * smWs bd ≤ 700000) := lh (by omega)
 have HBA := lh hbase
 have HK : Hid (1 ≤ k ∧ k ≤ 8) := lh ⟨hk1, hk8⟩
 have HLE := lh hle
 have HLV := lh hlv
 have HIX := lh hix
 have HPL : Hid (i ≤ 100000) := lh hpre
 have HT2 : Hid ((T.k k).length = (pre.filter fun x => decide (x.kind = k)).length ∧ (T.k k).length ≤ 100000) := lh ⟨hTl, by omega⟩
 have HE1 := lh hE1
 have HE2 := lh hE2
 subst hD
 obtain ⟨d0, d1, d2, d3, d4, d5, d6⟩ := HCE.out _ _ _ _ _ _ hst
 have HXL : Hid (ix ≤ i) := lh hixle
 clear hl1 hl2 hl3 hl4 hl5 hl7 hl8 hTl hfl hS hY hX hcs hbx hrow hst hM hF hdc1 hdc2 hE1 hE2 h ht he hds hb hT hle hll hpre hlv hnm hty hq hbody hbase hi hix hk1 hk8 hixle
 go_enter Tryz.func23, Tryz.ntmps23
 go_upto_region 1 with fail
 rw [← HX.out]
 have hii : ((i : Nat) : Int).toNat = i := rfl
 go_quiet (fail)
 generalize hwq : X.drewN _ = V1
 have HV1 := lh (show DcSt w base w.heap.size cs ds V1 b x T l left dv from hwq ▸ HST.out.below (Xmx X _))
 clear hwq x1 hlook d0 d1 d2 d3 d4 d5 d6
 have HV1C := HCE.out _ _ _ _ _ _ HV1.out
 go_upto_if 17 with fail
 go_cut [] from 9 (fun wx => ∃ dv1, DcSt w base w.heap.size cs ds wx b x T (l ++ E1) left dv1)
 case first =>
  obtain ⟨d0, d1, d2, d3, d4, d5, d6⟩ := HV1C
  have hxl := HXL.out
  by_cases hlt : ix < i
  · have HF : Hid (E1 = [⟨p, 40, nm⟩]) := lh (by rw [HE1.out, HIX.out, if_neg (by simp; omega)])
    have HT1 := lh (HTE.out V1 _ _ _ _ _ 40 HV1.out (by have := HSZ.out; omega))
    go_wp2_with (first
     | ((with_reducible refine HT1.out.mono ?_); rintro e w2 ⟨rfl, dv2, hw2⟩; have HW2 := lh hw2; clear hw2))
    go_meet
    case rel => exact ⟨dv2, by rw [HF.out]; exact HW2.out⟩
  · have HF : Hid (E1 = []) := lh (by rw [HE1.out, HIX.out, if_pos (by simp; omega)])
    go_wp2
    go_meet
    case rel => exact ⟨dv, by rw [HF.out, List.append_nil]; exact HV1.out⟩
 case rest =>
  obtain ⟨dv1, hwc⟩ := hcut
  obtain ⟨V2, rfl⟩ : ∃ V2 : World, V2 = wc := ⟨_, rfl⟩
  have HV2 := lh hwc
  clear hwc HV1C HV1
  obtain ⟨d0, d1, d2, d3, d4, d5, d6⟩ := HCE.out _ _ _ _ _ _ HV2.out
  obtain ⟨tA, tc, htk⟩ := Xde (HV2.out.tb.ix k HK.out.1 HK.out.2)
  have ht := HV2.out.ct HK.out.1 HK.out.2
  rw [htk] at ht
  obtain ⟨kt, hkt⟩ : ∃ q, q = 1 + k.toNat := ⟨_, rfl⟩
  obtain ⟨tn, htn⟩ : ∃ q, q = (T.k k).length := ⟨_, rfl⟩
  obtain ⟨mk, hmk⟩ : ∃ q, q = mostK k := ⟨_, rfl⟩
  have HL1 := lh (HLI.out V2)
  rw [← hkt, ← hmk] at HL1
  rw [← hkt, ← htn] at ht
  rw [← htn] at htk
  have HKT := lh hkt
  have HTN := lh htn
  have HMK := lh hmk
  have HTK := lh htk
  clear hkt htn hmk htk
  go_upto_if 38 with (first
   | ((with_reducible refine HL1.out.mono ?_); rintro e w3 ⟨rfl, rfl⟩))
  go_cut [] from 9 (fun wx => ∃ dv2, DcSt w base w.heap.size cs ds wx b x T (l ++ E1 ++ E2) left dv2)
  case first =>
   have HTE1 := lh (HTE.out _ _ _ _ _ _ 22 HV2.out (by have := HSZ.out; simp only [List.length_append]; omega))
   by_cases hlt : mk ≤ tn
   · have HF : Hid (E2 = [⟨p, 22, nm⟩]) := lh (by rw [HE2.out, ← HMK.out, ← HT2.out.1, ← HTN.out, if_pos hlt])
     go_wp2_with (first
      | ((with_reducible refine HTE1.out.mono ?_); rintro e w4 ⟨rfl, dv2, hw2⟩; have HW2 := lh hw2; clear hw2))
     go_meet
     case rel => exact ⟨dv2, by rw [HF.out]; exact HW2.out⟩
   · have HF : Hid (E2 = []) := lh (by rw [HE2.out, ← HMK.out, ← HT2.out.1, ← HTN.out, if_neg hlt])
     go_wp2
     go_meet
     case rel => exact ⟨dv1, by rw [HF.out, List.append_nil]; exact HV2.out⟩
  case rest =>
   obtain ⟨dv2, hwc⟩ := hcut
   obtain ⟨V3, rfl⟩ : ∃ V3 : World, V3 = wc := ⟨_, rfl⟩
   have HV3 := lh hwc
   clear hwc d0 d1 d2 d3 d4 d5 d6 ht
   have hkc := HK.out
   have ht := HV3.out.ct hkc.1 hkc.2
   have hf := HV3.out.nm.fr kt
   have hal : Below V3.heap.size V3 (V3.alloc (.cells #[.int .i64 (i : Nat)] 3)) := (Below.refl _ _).alloc (Nat.le_refl _) _
   have how := (HV3.out.below hal).tb.ix k hkc.1 hkc.2
   rw [HTK.out] at ht how
   rw [← HKT.out] at ht
   have HOW := lh how
   have HAL := lh hal
   have HNC : Hid ((V3.alloc (.cells #[.int .i64 (i : Nat)] 3)).cell? ⟨V3.heap.size, 0, none⟩ = some (.int .i64 (i : Nat))) := lh (by rw [cell_of_row _ _ 0 _ _ (0, 0) (heap_alloc_new _ _)]; rfl)
   have HBS : Hid (base ≤ (V3.alloc (.cells #[.int .i64 (i : Nat)] 3)).heap.size) := lh (by have := HV3.out.base_le; have := hal.size; omega)
   have htl := HT2.out.2
   clear how hal hkc
   go_upto_region 8 with (first
    | (at_builtin
       refine Xmf rfl _ _ rfl base (.slice tA tn tc) (T.k k) rfl HOW.out V3.heap.size 1 i rfl HNC.out htl HBS.out ?_
       intro g4 c4 w4 hown4 hgr hat
       have hrow4 := (hgr.block b (by have := HAL.out.size; have := HV3.out.nm.lt; omega) (fun e => by
        obtain ⟨_, _, cur, hc⟩ := Xeo HOW.out e.symm
        rw [HAL.out.block b HV3.out.nm.lt, HV3.out.nm.row] at hc
        simp at hc)).trans ((HAL.out.block b HV3.out.nm.lt).trans HV3.out.nm.row)
       have z4 : w4.cell? ⟨b, kt, none⟩ = some (.slice tA tn tc) := by rw [cell_of_row w4 b kt _ _ (0, 0) hrow4, HKT.out, ← HTK.out]; exact Ydv HK.out.1 HK.out.2
       have y4 : w4.frozen? ⟨b, kt, none⟩ = false := frozen_of_row w4 b kt _ _ hrow4
       obtain ⟨V5, hV5⟩ : ∃ V5 : World, V5 = w4.setCell ⟨b, kt, none⟩ (.slice (some ⟨g4, 0, none⟩) ((T.k k).length + 1) c4) := ⟨_, rfl⟩
       have HX5 := lh hV5
       have HV5 : Hid (DcSt w base w.heap.size cs ds V5 b (setT x k (.slice (some ⟨g4, 0, none⟩) ((T.k k).length + 1) c4)) (T.add k i) (l ++ E1 ++ E2) left dv2) := lh (by
        rw [hV5, HKT.out]
        exact HV3.out.setT HK.out.1 HK.out.2 HAL.out hown4 (by rw [HTK.out]; exact hgr) (fun g hg => by
         rw [HTK.out]
         exact hat.imp (fun h => by rw [h]; exact hg) (fun h => by have e2 : g4 = g := (by simpa [Value.ownBlock] using hg); omega))
        )
       clear hown4 hgr hat hrow4 hV5))
   rw [← HX5.out]
   clear ht hf z4 y4 htl
   obtain ⟨x5, hx5⟩ : ∃ q, q = setT x k (.slice (some ⟨g4, 0, none⟩) ((T.k k).length + 1) c4) := ⟨_, rfl⟩
   have hr5 := Xuc (x := x) (v := .slice (some ⟨g4, 0, none⟩) ((T.k k).length + 1) c4) HK.out.1 HK.out.2
   rw [← hx5] at HV5 hr5
   have HR5 := lh hr5
   clear hx5 hr5
   obtain ⟨d0, d1, d2, d3, d4, d5, d6⟩ := HCE.out _ _ _ _ _ _ HV5.out
   have HU5 := lh (HUT.out _ _ _ _ _ _ HV5.out (by have := HSZ.out; simp only [List.length_append]; omega))
   go_upto_region 10 with (first
    | ((with_reducible refine HU5.out.mono ?_); rintro e w6 ⟨rfl, dv6, hw6⟩; have HP6 := lh (HPA.out _ _ _ _ _ hw6 (by have := HSZ.out; simp only [List.length_append]; omega)); obtain ⟨e0, e1, e2, e3, e4, e5, e6⟩ := HCE.out _ _ _ _ _ _ hw6; clear hw6)
    | ((with_reducible refine HP6.out.mono ?_); rintro e w7 ⟨rfl, dv7, hw7⟩; have HV7 := lh hw7; clear hw7))
   clear d0 d1 d2 d3 d4 d5 d6 e0 e1 e2 e3 e4 e5 e6 HU5 HP6
   obtain ⟨d0, d1, d2, d3, d4, d5, d6⟩ := HCE.out _ _ _ _ _ _ HV7.out
   go_cut [69] from 9 (fun s69 wx => s69 = .bool (Xgb k) ∧ wx = w7)
   case first =>
    by_cases k7 : k = 7
    · have q7 : (k == 7) = true := by simp; exact k7
      have HF : Hid (Xgb k = true) := lh (by unfold Xgb; exact decide_eq_true (.inl k7))
      clear k7
      go_wp2
      go_meet
      case rel => exact ⟨congrArg Value.bool HF.out.symm, rfl⟩
    · have q7 : (k == 7) = false := by simp; exact k7
      by_cases k8 : k = 8
      · have q8 : (k == 8) = true := by simp; exact k8
        have HF : Hid (Xgb k = true) := lh (by unfold Xgb; exact decide_eq_true (.inr k8))
        clear k7 k8
        go_wp2
        go_meet
        case rel => exact ⟨congrArg Value.bool HF.out.symm, rfl⟩
      · have q8 : (k == 8) = false := by simp; exact k8
        have HF : Hid (Xgb k = false) := lh (by unfold Xgb; exact decide_eq_false (by rintro (h | h); exact k7 h; exact k8 h))
        clear k7 k8
        go_wp2
        go_meet
        case rel => exact ⟨congrArg Value.bool HF.out.symm, rfl⟩
   case rest =>
    obtain ⟨rfl, rfl⟩ := hcut
    cases hbb : Xgb k with
    | false =>
      clear d0 d1 d2 d3 d4 d5 d6
      go_wp2
      go_end0
      refine ⟨rfl, x5, dv7, left - prWs qs, ?_, ?_, HR5.out.1, HR5.out.2.1, HV7.out.bel, ?_, ?_⟩
      · have h9 := HV7.out.nm
        rw [HLL.out, hbb]
        simpa [List.append_assoc] using h9
      · have h9 := HV7.out.tb
        rw [HTV.out, hbb]
        simpa [Tb.add] using h9
      · omega
      · omega
    | true =>
      obtain ⟨X2, hX2⟩ : ∃ X2 : World, X2 = wc.alloc (.cells #[.pointer (some ⟨b, 0, none⟩), .slice none 0 0] 91) := ⟨_, rfl⟩
      have hb2 : Below wc.heap.size wc X2 := by rw [hX2]; exact (Below.refl _ _).alloc (Nat.le_refl _) _
      have hs2 := HV7.out.below hb2
      have hB2 : BdAt X2 wc.heap.size b base x5 (l ++ E1 ++ E2 ++ Xbl ds p ty ++ prDs ds p (decide (k = 7)) [] qs) (left - prWs qs) dv7 (.slice none 0 0) [] := ⟨hs2.nm, by rw [hX2]; exact heap_alloc_new _ _, Xhk.nil _ _, HV7.out.base_le⟩
      have HP2 := lh (HPR.out _ _ _ _ _ _ hs2.bel hB2)
      have HX2 := lh hX2
      have HB2 := lh hB2
      have HS2 := lh hs2
      clear d0 d1 d2 d3 d4 d5 d6
      obtain ⟨d0, d1, d2, d3, d4, d5, d6⟩ := HCE.out _ _ _ _ _ _ HS2.out
      clear hX2 hb2 hs2 hB2
      go_upto_region 12 with fail
      rw [← HX2.out]
      go_upto_region 14 with (first
       | ((with_reducible refine HP2.out.mono ?_); rintro e w8 ⟨rfl, lo8, hw8⟩; have hd8 := HS2.out.bd HB2.out rfl hw8; have HQ8 := lh (HSM.out _ _ _ _ _ _ hd8.bel hd8.env hw8.1 (by have := HSZ.out; simp only [List.length_append]; omega)); obtain ⟨e0, e1, e2, e3, e4, e5, e6⟩ := HCE.out _ _ _ _ _ _ hd8; have HW8 := lh hw8; clear hw8 hd8)
       | ((with_reducible refine HQ8.out.mono ?_); rintro e w9 ⟨rfl, dv9, lo9, hw9⟩; have HW9 := lh (HW8.out.trans hw9); clear hw9))
      clear d0 d1 d2 d3 d4 d5 d6 e0 e1 e2 e3 e4 e5 e6 HP2 HQ8
      obtain ⟨vs, hvs⟩ := HS2.out.tb.lv
      have hd9 := HS2.out.bd HB2.out rfl HW9.out
      have hv9 : Xmb w9 base x5.lv vs T.lv := hvs.keep fun g cur ty hbg hg hty => by
       refine HW9.out.2.2.2.block g (Xac hg) ?_
       rintro (hm | rfl | hm)
       · exact HS2.out.nm.far hg (by rintro rfl; rcases hty with h | h <;> cases h) (by rintro rfl; rcases hty with h | h <;> cases h) hm
       · rw [HB2.out.row] at hg
         simp at hg
         rcases hty with h | h <;> (rw [h] at hg; exact absurd hg.2 (by decide))
       · cases hm
      have hps9 := HW9.out.1.own
      have hc1 := HW9.out.1.c1
      have hc10 := hd9.c10
      have hf10 := hd9.nm.fr 10
      have hfb := frozen_of_row w9 wc.heap.size 1 _ _ HW9.out.1.row
      obtain ⟨lA, lc, hlv⟩ := Xde hv9.own
      obtain ⟨ZS, hZS⟩ : ∃ q, q = (smDs ds (Xdt qs) bd).2 := ⟨_, rfl⟩
      rw [← hZS] at hps9
      obtain ⟨zn, hzn⟩ : ∃ q, q = ZS.length := ⟨_, rfl⟩
      obtain ⟨vn, hvn⟩ : ∃ q, q = vs.length := ⟨_, rfl⟩
      obtain ⟨pA, pc9, hlo⟩ := Xde hps9.1
      rw [← hzn] at hlo
      rw [← hvn] at hlv
      subst hlo
      rw [hlv] at hc10
      have hal0 : Below w9.heap.size w9 (w9.alloc (.cells #[.slice pA zn pc9] 43)) := (Below.refl _ _).alloc (Nat.le_refl _) _
      obtain ⟨V9, hV9⟩ : ∃ V9 : World, V9 = (w9.alloc (.cells #[.slice pA zn pc9] 43)).drew := ⟨_, rfl⟩
      have hal : Below w9.heap.size w9 V9 := by rw [hV9]; exact hal0.drew
      have how : Xmb V9 base (.slice lA vn lc) vs T.lv := by rw [← hlv]; exact hv9.keep fun g cur ty _ hg _ => hal.block g (Xac hg)
      have hpw : Xhk V9 base (.slice pA zn pc9) ZS := hps9.keep fun g hg => hal.block g (hps9.blk hg).2.1
      have hnc : V9.cell? ⟨w9.heap.size, 0, none⟩ = some (.slice pA zn pc9) := by
       rw [hV9]
       show (w9.alloc (.cells #[.slice pA zn pc9] 43)).cell? ⟨w9.heap.size, 0, none⟩ = _
       rw [cell_of_row _ _ 0 _ _ (0, 0) (heap_alloc_new _ _)]; rfl
      have hbs : base ≤ V9.heap.size := by have := hd9.base_le; have := hal.size; omega
      have HOW := lh how
      have HPW := lh hpw
      have HNC := lh hnc
      have HBS := lh hbs
      have HAL := lh hal
      have HD9 := lh hd9
      have HV9 := lh hv9
      have HLVE := lh hlv
      have HVN := lh hvn
      have HZS := lh hZS
      have gc1 : w9.drew.cell? ⟨wc.heap.size, 1, none⟩ = some (.slice pA zn pc9) := hc1
      have gc10 : w9.drew.cell? ⟨b, 10, none⟩ = some (.slice lA vn lc) := hc10
      have kc10 : V9.cell? ⟨b, 10, none⟩ = some (.slice lA vn lc) := (hal.cell (p := ⟨b, 10, none⟩) hd9.nm.lt).trans hc10
      have kc1 : V9.cell? ⟨wc.heap.size, 1, none⟩ = some (.slice pA zn pc9) := (hal.cell (p := ⟨wc.heap.size, 1, none⟩) HW9.out.1.lt).trans hc1
      rw [hV9] at kc10 kc1
      have hlvb := HLV.out
      clear hvs hd9 hv9 hps9 hc1 hc10 hf10 hfb hlv hZS hzn hvn hal0 hal how hpw hnc hbs
      go_region_law (first
       | (refine Xpe rfl _ _ (by rfl) base (.slice lA vn lc) vs T.lv (by rfl) (hV9 ▸ HOW.out) w9.heap.size 1 (.slice pA zn pc9) ZS (by rfl) (hV9 ▸ HNC.out) (hV9 ▸ HPW.out) hlvb (hV9 ▸ HBS.out) ?_
          intro g3 c3 w3 hown3 hgr hat
          have hrow3 := (hgr.block b (by have := HAL.out.size; have := HD9.out.nm.lt; rw [← hV9]; omega) (fun e => by
           rw [← hV9] at hgr
           obtain ⟨_, _, cur, hc⟩ := Xeo HOW.out.own e.symm
           rw [HAL.out.block b HD9.out.nm.lt, HD9.out.nm.row] at hc
           simp at hc)).trans ((by rw [← hV9]; exact HAL.out.block b HD9.out.nm.lt : _ = w9.heap[b]?).trans HD9.out.nm.row)
          have z10 : w3.cell? ⟨b, 10, none⟩ = some (.slice lA vn lc) := by rw [cell_of_row w3 b 10 _ _ (0, 0) hrow3, ← HLVE.out]; rfl
          have y10 : w3.frozen? ⟨b, 10, none⟩ = false := frozen_of_row w3 b 10 _ _ hrow3
          have HGO := lh (HD9.out.setLv HV9.out HAL.out hown3 (by rw [HLVE.out, hV9]; exact hgr) (fun g hg => by
           rw [HLVE.out]
           exact hat.imp (fun h => by rw [h]; exact hg) (fun h => by have e2 : g3 = g := (by simpa [Value.ownBlock] using hg); rw [hV9]; omega)))
          clear hown3 hgr hat hrow3))
      all_goals
       go_end0
       have h9 := HGO.out
       have hle := HLE.out
       refine ⟨rfl, setLv x5 (.slice (some ⟨g3, 0, none⟩) (vs.length + 1) c3), dv9, left - prWs qs - smWs bd, ?_, ?_, HR5.out.1, HR5.out.2.1, h9.bel, by omega, by omega⟩
       · rw [HLL.out, hbb]
         have h8 := h9.nm
         rw [if_pos rfl]
         simpa [List.append_assoc] using h8
       · rw [HTV.out, hbb, if_pos rfl, ← HZS.out]
         exact h9.tb
section
open Go.Maps (Keyed IsMap)
theorem Ydd : Keyed Tryz.prog 9 := Maps.string_keyed Tryz.underlying9
theorem Ydc (s : List UInt8) (hs : s.length ≤ 40000) : keyOf Tryz.prog 9 (.string (Xab s)) = some (.string s) := by
 have := Go.WideMaps.keyOf_string_mk (P := Tryz.prog) (k := 9) Tryz.underlying9 (s := Xab s) (by rw [Lib.size_eq, Xbe]; unfold maxLen; omega)
 rw [Xbe] at this
 exact this
set_option maxRecDepth 100000 in
theorem Yde (w : World) : (zeroValue 3).run Tryz.prog w = .ok (.int .i64 0) w := by rfl
def FM (w : World) (M n : Nat) (ds : List Dc) : Prop := ∃ D : DataW Unit, w.ownsMap Tryz.prog 9 (plainElem Tryz.prog 3) M n D ∧ IsMap D ∧
 ∀ s : List UInt8, Maps.has D (.string s) = (Xai ds s).isSome ∧ D.atKey (.string s) (.lit (.int .i64 0)) = .lit (.int .i64 ((Xai ds s).getD 0 : Nat))
theorem FM.of_block {w w' : World} {M n : Nat} {ds : List Dc} (h : FM w M n ds) (hb : w'.heap[M]? = w.heap[M]?) : FM w' M n ds := by
 obtain ⟨D, ⟨es, clock, h1, h2, h3, h4⟩, hm, hs⟩ := h
 exact ⟨D, ⟨es, clock, hb.trans h1, h2, h3, h4⟩, hm, hs⟩
theorem FM.lt {w : World} {M n : Nat} {ds : List Dc} (h : FM w M n ds) : M < w.heap.size := by
 obtain ⟨D, ho, _⟩ := h
 exact ho.lt
theorem FM.look {w : World} {M n : Nat} {ds : List Dc} (h : FM w M n ds) (s : List UInt8) (hs : s.length ≤ 40000) :
  (Instr.lookup 58 (.map (some M)) (.string (Xab s)) true).run Tryz.prog w = .ok (.tuple #[.int .i64 ((Xai ds s).getD 0 : Nat), .bool (Xai ds s).isSome]) w ∧
  (Instr.lookup 58 (.map (some M)) (.string (Xab s)) false).run Tryz.prog w = .ok (.int .i64 ((Xai ds s).getD 0 : Nat)) w := by
 obtain ⟨D, ho, hm, hd⟩ := h
 obtain ⟨d1, d2⟩ := hd s
 refine ⟨?_, ?_⟩
 · obtain ⟨v, ps, hrun, hv⟩ := ho.look_ok Ydd Tryz.underlying58 (Yde w) (plainElem_int Tryz.underlying3 (by decide)) (Ydc s hs)
   obtain ⟨c, rfl, hc, _⟩ := plainElem_int_inv Tryz.underlying3 hv
   have hc1 := congrArg Prod.fst hc
   rw [d2] at hc1
   have e : ((Xai ds s).getD 0 : Nat) = c := by simpa using hc1
   rw [hrun, d1, ← e]
 · obtain ⟨c, hrun, hat, _⟩ := ho.lookup_int Ydd Tryz.underlying58 Tryz.underlying3 (Yde w) (Ydc s hs)
   rw [d2] at hat
   have e : ((Xai ds s).getD 0 : Nat) = c := by simpa using hat
   rw [hrun, ← e]
theorem FM.first {w : World} {M n : Nat} {ds : List Dc} (h : FM w M n ds) : Xgw w M ds := ⟨h.lt, fun V hV s hs => (h.of_block hV).look s hs⟩
theorem FM.nil (w : World) : FM (w.alloc (.map #[] 0)) w.heap.size 0 [] := ⟨.map [], World.ownsMap_made w _ _ _, ⟨[], rfl⟩, fun s => ⟨rfl, rfl⟩⟩
theorem Xlu : ∀ {ds : List Dc} {s : List UInt8}, Xai ds s = none → ∀ d ∈ ds, d.name ≠ s
 | [], s, h, d, hd => by cases hd
 | e :: ds, s, h, d, hd => by
   rw [Xai] at h
   split at h
   · cases h
   · rename_i hn
     rcases List.mem_cons.1 hd with rfl | hd
     · exact hn
     · exact Xlu (Option.map_eq_none_iff.1 h) d hd
theorem Xhu : ∀ {ds : List Dc} {z : Dc} {s : List UInt8} {i : Nat}, Xai ds s = some i → Xai (ds ++ [z]) s = some i
 | [], z, s, i, h => by cases h
 | d :: ds, z, s, i, h => by
   rw [List.cons_append, Xai]
   rw [Xai] at h
   split
   · rename_i e; rw [if_pos e] at h; exact h
   · rename_i e
     rw [if_neg e] at h
     cases hx : Xai ds s with
     | none => rw [hx] at h; cases h
     | some j => rw [hx] at h; rw [Xhu hx]; exact h
theorem Xss {ds : List Dc} {z : Dc} (h : (Xai ds z.name).isSome = true) (s : List UInt8) : Xai (ds ++ [z]) s = Xai ds s := by
 cases hx : Xai ds s with
 | some i => exact Xhu hx
 | none =>
   have hne : s ≠ z.name := by
    rintro rfl
    rw [hx] at h
    cases h
   rw [Xfl hne, hx]
theorem FM.skip {w : World} {M n : Nat} {ds : List Dc} {z : Dc} (h : FM w M n ds) (hz : (Xai ds z.name).isSome = true) : FM w M n (ds ++ [z]) := by
 obtain ⟨D, ho, hm, hd⟩ := h
 exact ⟨D, ho, hm, fun s => by rw [Xss hz s]; exact hd s⟩
theorem FM.put {w' : World} {M n : Nat} {ds : List Dc} {z : Dc} {D : DataW Unit} (hm : IsMap D) (hd : ∀ s : List UInt8, Maps.has D (.string s) = (Xai ds s).isSome ∧ D.atKey (.string s) (.lit (.int .i64 0)) = .lit (.int .i64 ((Xai ds s).getD 0 : Nat)))
  (ho : w'.ownsMap Tryz.prog 9 (plainElem Tryz.prog 3) M n (D.put (.string z.name) (.lit (.int .i64 (ds.length : Nat))))) (hz : (Xai ds z.name).isSome = false) : FM w' M n (ds ++ [z]) := by
 refine ⟨_, ho, hm.put _ _, fun s => ?_⟩
 have hnone : Xai ds z.name = none := by
  cases hx : Xai ds z.name with
  | none => rfl
  | some i => rw [hx] at hz; cases hz
 by_cases hs : s = z.name
 · subst hs
   rw [Xls (Xlu hnone)]
   exact ⟨Maps.has_put_same hm (k := .string z.name) trivial _, Maps.atKey_put_same hm (k := .string z.name) trivial _ _⟩
 · have hne : (Lit.string s) ≠ Lit.string z.name := fun e => hs (by injection e)
   rw [Xfl hs]
   exact ⟨by rw [Maps.has_put_other hne]; exact (hd s).1, by rw [Maps.atKey_put_other hne]; exact (hd s).2⟩
theorem Xca.sl {w : World} {S : Nat → Prop} {ps : List Pr} {v : Value} (h : Xca w S ps v) : ∃ A c, v = .slice A ps.length c := by
 obtain ⟨A, c, h1, -⟩ := h
 exact ⟨A, c, h1⟩
set_option maxHeartbeats 4000000 in
set_option maxRecDepth 100000 in
theorem Xzs (w : World) {ds : List Dc} {v : Value} (hin : Xfs w (· < w.heap.size) ds v) (hnm : ∀ d ∈ ds, d.name.length ≤ 40000) (hlen : ds.length ≤ 100000) :
  Calls Tryz.prog 21 #[v] w
   fun e w' => e = .returned (.map (some w.heap.size)) ∧ Xgw w' w.heap.size ds ∧ Below w.heap.size w w' := by
 obtain ⟨A, c, fp, fb, rfl, hc, hM, hA, hp, hb⟩ := hin
 obtain ⟨n, hn⟩ : ∃ n, n = ds.length := ⟨_, rfl⟩
 rw [← hn] at hc hlen ⊢
 have HN := lh hn
 have HA := lh hA
 have HP := lh hp
 have HB := lh hb
 have HNM := lh hnm
 obtain ⟨M, hMM⟩ : ∃ M, M = w.heap.size := ⟨_, rfl⟩
 obtain ⟨W0, hW0⟩ : ∃ W0 : World, W0 = w.alloc (.map #[] 0) := ⟨_, rfl⟩
 have hbw : Below M w W0 := by rw [hW0, hMM]; exact (Below.refl _ _).alloc (Nat.le_refl _) _
 have hF0 : FM W0 M 0 [] := by rw [hW0, hMM]; exact FM.nil w
 have HF0 := lh hF0
 have HBW := lh hbw
 have HW0 := lh hW0
 have HMM := lh hMM
 clear hn hA hp hb hnm hbw hF0 hW0 hMM
 have hmm := @run_makeMap Tryz.prog
 go_enter Tryz.func21, Tryz.ntmps21
 go_upto_region 2 with fail
 rw [← HW0.out, ← HMM.out]
 go_wp2
 go_loopw [11] (fun i wr => ∃ (j : Nat), j ≤ n ∧ i = .int .i64 j ∧ Hid (FM wr M j (ds.take j)) ∧ Hid (Below M w wr)) (fun i _ => n - (intOf i).toNat)
 case atStart => exact ⟨0, Nat.zero_le _, rfl, HF0, HBW⟩
 case round =>
  obtain ⟨wo, rfl⟩ : ∃ wo : World, wo = wr := ⟨_, rfl⟩
  obtain ⟨j, hj, rfl, HF, HBE⟩ := hrel
  by_cases hlt : j < n
  · have hje : j < ds.length := by rw [← HN.out]; exact hlt
    obtain ⟨pb, off, rfl, hpb, hnl, htl, p0, p1, p2, p3, p4, p5, p6⟩ := HA.out j hje
    have hpb2 : pb < M := by rw [HMM.out]; exact hpb
    have hpc : ∀ i, wo.cell? ⟨pb, i, none⟩ = w.cell? ⟨pb, i, none⟩ := fun i => World.cell?_of_block (HBE.out.block pb hpb2)
    have r0 := (hpc _).trans p0
    have r1 := (hpc _).trans p1
    have r2 := (hpc _).trans p2
    have r3 := (hpc _).trans p3
    have r4 := (hpc _).trans p4
    have r5 := (hpc _).trans p5
    have r6 := (hpc _).trans p6
    obtain ⟨QA, qc, hqv⟩ := (HP.out j hje).sl
    obtain ⟨BA, bc, hbd, -, -⟩ := (HB.out j hje).slice
    rw [hqv] at r5
    rw [hbd] at r6
    have htk : ds.take (j + 1) = ds.take j ++ [ds[j]] := List.take_succ_eq_append_getElem hje
    have hlen2 : (ds.take j).length = j := by rw [List.length_take]; omega
    have hnm := HNM.out ds[j] (List.getElem_mem hje)
    obtain ⟨z, hz⟩ : ∃ z, z = ds[j] := ⟨_, rfl⟩
    rw [← hz] at r0 r1 r2 r3 r4 r5 r6 htk hnm
    obtain ⟨k, hk⟩ : ∃ q, q = z.kind := ⟨_, rfl⟩
    obtain ⟨p, hp⟩ : ∃ q, q = z.pl := ⟨_, rfl⟩
    obtain ⟨m, hm⟩ : ∃ q, q = z.num := ⟨_, rfl⟩
    obtain ⟨S, hS⟩ : ∃ q, q = Xab z.name := ⟨_, rfl⟩
    obtain ⟨T, hT⟩ : ∃ q, q = Xab z.type := ⟨_, rfl⟩
    obtain ⟨qn, hqn⟩ : ∃ q, q = z.pairs.length := ⟨_, rfl⟩
    obtain ⟨bn, hbn⟩ : ∃ q, q = z.body.length := ⟨_, rfl⟩
    rw [← hk] at r0
    rw [← hp] at r1
    rw [← hm] at r2
    rw [← hS] at r3
    rw [← hT] at r4
    rw [← hqn] at r5
    rw [← hbn] at r6
    obtain ⟨X, hX⟩ : ∃ X : World, X = wo.alloc (.cells #[.int .i64 k, .int .i64 p, .int .i64 m, .string S, .string T, .slice QA qn qc, .slice BA bn bc] 46) := ⟨_, rfl⟩
    have hbx : Below wo.heap.size wo X := by rw [hX]; exact (Below.refl _ _).alloc (Nat.le_refl _) _
    have x3 : X.cell? ⟨wo.heap.size, 3, none⟩ = some (.string S) := by rw [hX, cell_of_row _ _ 3 _ _ (0, 0) (heap_alloc_new _ _)]; rfl
    have hMlt := HF.out.lt
    have hFX : FM X M j (ds.take j) := HF.out.of_block (hbx.block M hMlt)
    have hBX : Below M w X := HBE.out.trans (hbx.mono (by omega))
    have hlook := (hFX.look z.name hnm).1
    obtain ⟨gi, hgi⟩ : ∃ q, q = (Xai (ds.take j) z.name).getD 0 := ⟨_, rfl⟩
    rw [← hgi, ← hS] at hlook
    have HX := lh hX
    have HFX := lh hFX
    have HBX := lh hBX
    have HTK := lh htk
    have HKY : Hid (keyOf Tryz.prog 9 (.string S) = some (.string z.name)) := lh (by rw [hS]; exact Ydc _ hnm)
    have HLN := lh hlen2
    cases hq : (Xai (ds.take j) z.name).isSome with
    | true =>
      rw [hq] at hlook
      have HF2 : Hid (FM X M (j + 1) (ds.take (j + 1))) := lh (by
       rw [htk]
       obtain ⟨D, ho, hm, hd⟩ := hFX.skip hq
       exact ⟨D, ho.mono (by omega), hm, hd⟩)
      clear hje hpb2 hpc p0 p1 p2 p3 p4 p5 p6 hqv hq hbd htk hlen2 hnm hz hk hp hm hS hT hqn hbn hX hbx hMlt hFX hBX hnl htl hpb hgi
      go_upto_region 5 with fail
      rw [← HX.out]
      go_wp2
      go_roundw
      case rel => exact ⟨j + 1, by omega, by go_num, HF2, HBX⟩
      case measure => first | (simp [intOf]; done) | (simp [intOf]; omega)
    | false =>
      rw [hq] at hlook
      obtain ⟨D, ho, hm2, hd⟩ := hFX
      have HOW := lh ho
      have HIM := lh hm2
      have HDD := lh hd
      have HQ := lh hq
      have hjm : j < maxLen := by unfold maxLen; omega
      have HWF : Hid ((Lit.int .i64 (j : Nat)).wf = true) := lh (by
       have h1 : IntKind.i64.min ≤ (j : Int) := by have : IntKind.i64.min = -9223372036854775808 := rfl; omega
       have h2 : (j : Int) ≤ IntKind.i64.max := by have : IntKind.i64.max = 9223372036854775807 := rfl; omega
       show (decide (IntKind.i64.min ≤ (j : Int)) && decide ((j : Int) ≤ IntKind.i64.max)) = true
       rw [decide_eq_true h1, decide_eq_true h2]; rfl)
      clear ho hm2 hd
      clear hje hpb2 hpc p0 p1 p2 p3 p4 p5 p6 hqv hq hbd htk hlen2 hnm hz hk hp hm hS hT hqn hbn hX hbx hMlt hBX hnl htl hpb hgi
      go_upto_region 5 with fail
      rw [← HX.out]
      go_wp2_with (first
       | (at_mapUpdate
          refine wpList_mapUpdate_own _ rfl _ _ _ 58 rfl 9 3 Ydd Tryz.underlying58 _ M j D rfl HOW.out hjm _ _ (.string z.name) rfl rfl HKY.out (.lit (.int .i64 (j : Nat))) [] (plainElem_int Tryz.underlying3 HWF.out) ?_
          intro w5 hown5 hgr5
          have HF2 : Hid (FM w5 M (j + 1) (ds.take (j + 1))) := lh (by
           rw [HTK.out]
           exact FM.put HIM.out HDD.out (by rw [HLN.out]; exact hown5) HQ.out)
          have HB5 : Hid (Below M w w5) := lh (HBX.out.grown hgr5 (by have := HBX.out.size; rw [HMM.out]; exact this) (fun k hk => by cases hk; exact Nat.le_refl _))
          clear hown5 hgr5))
      go_roundw
      case rel => exact ⟨j + 1, by omega, by go_num, HF2, HB5⟩
      case measure => first | (simp [intOf]; done) | (simp [intOf]; omega)
  · have HT : Hid (ds.take j = ds) := lh (List.take_of_length_le (by rw [← HN.out]; omega))
    go_wp2
    go_ret
    rw [← HMM.out]
    refine ⟨rfl, ?_, ?_⟩
    · have h9 := HF.out.first
      rw [HT.out] at h9
      exact h9
    · exact HBE.out
end
instance : Inhabited Dg := ⟨⟨0, 0, []⟩⟩
theorem Ybp : ∀ a b : List UInt8, Op.bytesLess a b = decide (Lib.compareBytes a b < 0)
 | [], [] => rfl
 | [], _ :: _ => rfl
 | _ :: _, [] => rfl
 | a :: la, b :: lb => by
   rw [Op.bytesLess, Lib.compareBytes, Ybp la lb]
   by_cases h1 : a < b
   · simp [h1]
   · by_cases h2 : b < a
     · have h3 : a ≠ b := fun e => UInt8.lt_irrefl a (by rw [← e] at h2; exact h2)
       simp [h1, h2, h3]
     · have e : a = b := UInt8.le_antisymm (UInt8.not_lt.1 h2) (UInt8.not_lt.1 h1)
       simp [h1, h2, e]
theorem ltOf_cfD : Go.Proofs.ltOf cfD = ltD := rfl
theorem LtD.asym {a b : Dg} (h : LtD a b) (k : LtD b a) : False := (h.trans k).irrefl
theorem swoD : Go.Sort.SWO (Go.Proofs.ltOf cfD) := by
 rw [ltOf_cfD]
 have f : ∀ x y, ltD x y = false ↔ ¬ LtD x y := fun x y => by rw [← Bool.not_eq_true, Xnw]
 refine ⟨fun x => (f _ _).2 fun h => h.irrefl, fun x y z h1 h2 => (Xnw _ _).2 (((Xnw _ _).1 h1).trans ((Xnw _ _).1 h2)), fun x y z h1 h2 => (f _ _).2 fun h => ?_⟩
 have k1 := (f _ _).1 h1
 have k2 := (f _ _).1 h2
 rcases LtD.total x y with q | rfl | q
 · exact k1 q
 · exact k2 h
 · exact k2 (q.trans h)
theorem Xtm {a b : Dg} (h1 : leD a b = true) (h2 : leD b a = true) : a = b := by
 rw [Xlh] at h1 h2
 rcases h1 with h1 | h1
 · rcases h2 with h2 | h2
   · exact absurd (h1.asym h2) id
   · exact h2.symm
 · exact h1
theorem Yfv {d d' : Array Dg} (hp : Go.Sort.PermIn 0 d.size d d') (hs : Go.Sort.SortedIn (Go.Proofs.ltOf cfD) 0 d.size d') : d'.toList = d.toList.mergeSort leD := by
 obtain ⟨h1, _, h3⟩ := hp
 have e1 : (d'.extract 0 d.size).toList = d'.toList := by rw [← h1]; simp
 have e2 : (d.extract 0 d.size).toList = d.toList := by simp
 rw [e1, e2] at h3
 refine List.Perm.eq_of_pairwise (le := fun a b => leD a b = true) (fun a b _ _ x y => Xtm x y) ?_ (List.pairwise_mergeSort Xto Xtn _) (h3.trans (List.mergeSort_perm _ _).symm)
 rw [List.pairwise_iff_getElem]
 intro i j hi hj hij
 have hi' : i < d'.size := by simpa using hi
 have hj' : j < d'.size := by simpa using hj
 have := hs i j (Nat.zero_le _) hij (by omega)
 rw [getElem!_pos d' j hj', getElem!_pos d' i hi'] at this
 unfold leD
 rw [Array.getElem_toList, Array.getElem_toList]
 have e : ltD d'[j] d'[i] = false := this
 rw [e]; rfl
theorem Xjx : ∀ (l : List Dg) (a : Dg), Xbm (l ++ [a]) = if l.getLast? = some a then Xbm l else Xbm l ++ [a]
 | [], a => by simp [Xbm]
 | [b], a => by
   show Xbm [b, a] = _
   unfold Xbm
   by_cases h : b = a
   · subst h; simp [Xbm]
   · rw [if_neg h]; simp [h, Xbm]
 | b :: c :: r, a => by
   have ih := Xjx (c :: r) a
   have e : (b :: c :: r).getLast? = (c :: r).getLast? := by simp [List.getLast?_cons]
   rw [e]
   show Xbm (b :: c :: (r ++ [a])) = _
   unfold Xbm
   have e2 : Xbm (c :: (r ++ [a])) = Xbm (c :: r ++ [a]) := rfl
   rw [e2, ih]
   by_cases h : b = c
   · rw [if_pos h, if_pos h]
   · rw [if_neg h, if_neg h]
     split
     · rfl
     · rfl
theorem Xlq (d : Array Dg) : ∀ m, m ≤ d.size → Lib.compactUpTo d m = Xbm (d.toList.take m)
 | 0, _ => by rw [List.take_zero]; rfl
 | m + 1, h => by
   have hm : m < d.toList.length := by simp; omega
   have hm2 : m < d.size := h
   rw [Lib.compactUpTo_succ, Xlq d m (by omega), List.take_succ_eq_append_getElem hm, Xjx]
   have e : d[m]! = d.toList[m] := by rw [getElem!_pos d m hm2]; rfl
   by_cases h0 : m = 0
   · subst h0
     have k : Lib.keeps d 0 = true := by simp [Lib.keeps]
     rw [k, if_pos rfl, List.take_zero, e]; rfl
   · have hl : (d.toList.take m).getLast? = some d[m - 1]! := by
      rw [getElem!_pos d (m - 1) (by omega), List.getLast?_eq_getElem?, List.length_take, Nat.min_eq_left (by omega), List.getElem?_take, if_pos (by omega)]
      rw [List.getElem?_eq_getElem (by simp; omega)]; rfl
     rw [hl]
     by_cases hk : d[m]! = d[m - 1]!
     · rw [Lib.keeps_neg (by omega) hk, if_neg (by simp), if_pos (by rw [← hk, e])]; simp
     · rw [Lib.keeps_pos hk, if_pos rfl, if_neg (fun h => hk (by injection h with h; rw [e]; exact h.symm)), e]
theorem Xzf (d : Array Dg) : Lib.compactUpTo d d.size = Xbm d.toList := by
 rw [Xlq d d.size (Nat.le_refl _), List.take_of_length_le (by simp)]
theorem ordD_is {d d' : Array Dg} {raw : List Dg} (hr : d.toList = raw) (hp : Go.Sort.PermIn 0 d.size d d') (hs : Go.Sort.SortedIn (Go.Proofs.ltOf cfD) 0 d.size d') : Lib.compactUpTo d' d'.size = ordD raw := by
 rw [Xzf, Yfv hp hs, hr]; rfl
def put3 (w : World) (blk o : Nat) (a b c : Value) : World := ((w.setCell ⟨blk, o, none⟩ a).setCell ⟨blk, o + 1, none⟩ b).setCell ⟨blk, o + 2, none⟩ c
theorem Xhl {b o o' : Nat} (h : o ≠ o') : (⟨b, o, none⟩ : Addr) ≠ ⟨b, o', none⟩ := fun e => h (by injection e)
theorem Xri (w : World) (blk o : Nat) (a b c : Value) {i : Nat} (h0 : i ≠ o) (h1 : i ≠ o + 1) (h2 : i ≠ o + 2) : (put3 w blk o a b c).cell? ⟨blk, i, none⟩ = w.cell? ⟨blk, i, none⟩ := by
 unfold put3
 rw [World.cell?_setCell_other _ _ _ _ (Xhl (Ne.symm h2)), World.cell?_setCell_other _ _ _ _ (Xhl (Ne.symm h1)), World.cell?_setCell_other _ _ _ _ (Xhl (Ne.symm h0))]
theorem Xwj {w : World} {blk o : Nat} {a b c a0 b0 c0 : Value} (k0 : w.cell? ⟨blk, o, none⟩ = some a0) (k1 : w.cell? ⟨blk, o + 1, none⟩ = some b0) (k2 : w.cell? ⟨blk, o + 2, none⟩ = some c0) :
  (put3 w blk o a b c).cell? ⟨blk, o, none⟩ = some a ∧ (put3 w blk o a b c).cell? ⟨blk, o + 1, none⟩ = some b ∧ (put3 w blk o a b c).cell? ⟨blk, o + 2, none⟩ = some c := by
 unfold put3
 have e1 := World.cell?_setCell_same _ _ a k0
 have e2 : (w.setCell ⟨blk, o, none⟩ a).cell? ⟨blk, o + 1, none⟩ = some b0 := (World.cell?_setCell_other _ _ _ _ (Xhl (by omega))).trans k1
 have e3 : ((w.setCell ⟨blk, o, none⟩ a).setCell ⟨blk, o + 1, none⟩ b).cell? ⟨blk, o + 2, none⟩ = some c0 := (World.cell?_setCell_other _ _ _ _ (Xhl (by omega))).trans ((World.cell?_setCell_other _ _ _ _ (Xhl (by omega))).trans k2)
 refine ⟨?_, ?_, World.cell?_setCell_same _ _ c e3⟩
 · rw [World.cell?_setCell_other _ _ _ _ (Xhl (by omega)), World.cell?_setCell_other _ _ _ _ (Xhl (by omega))]; exact e1
 · rw [World.cell?_setCell_other _ _ _ _ (Xhl (by omega))]; exact World.cell?_setCell_same _ _ b e2
def Xft (w : World) (blk : Nat) (d : Array Dg) : Prop := ∀ i, i < d.size → w.cell? ⟨blk, i * 3, none⟩ = some (.int .i64 d[i]!.pl) ∧ w.cell? ⟨blk, i * 3 + 1, none⟩ = some (.int .i64 d[i]!.code) ∧ w.cell? ⟨blk, i * 3 + 2, none⟩ = some (.string (Xab d[i]!.name)) ∧ ∀ j, j < 3 → w.frozen? ⟨blk, i * 3 + j, none⟩ = false
theorem Xft.keep {w w' : World} {blk : Nat} {d : Array Dg} (h : Xft w blk d) (hb : w'.heap[blk]? = w.heap[blk]?) : Xft w' blk d := fun i hi => by
 obtain ⟨h0, h1, h2, hf⟩ := h i hi
 exact ⟨(World.cell?_of_block hb).trans h0, (World.cell?_of_block hb).trans h1, (World.cell?_of_block hb).trans h2, fun j hj => (World.frozen?_of_block hb).trans (hf j hj)⟩
theorem Xft.put {w : World} {blk : Nat} {d : Array Dg} (h : Xft w blk d) {k : Nat} (hk : k < d.size) (x : Dg) : Xft (put3 w blk (k * 3) (.int .i64 x.pl) (.int .i64 x.code) (.string (Xab x.name))) blk (d.setIfInBounds k x) := fun i hi => by
 have hi' : i < d.size := by simpa using hi
 have hfz : ∀ a : Addr, (put3 w blk (k * 3) (.int .i64 x.pl) (.int .i64 x.code) (.string (Xab x.name))).frozen? a = w.frozen? a := fun a => by unfold put3; rw [World.frozen?_setCell, World.frozen?_setCell, World.frozen?_setCell]
 obtain ⟨h0, h1, h2, hf⟩ := h i hi'
 refine ⟨?_, ?_, ?_, fun j hj => (hfz _).trans (hf j hj)⟩ <;> by_cases e : i = k
 · subst e; rw [Go.Sort.getElem!_set_same d i x hk]; exact (Xwj h0 h1 h2).1
 · rw [Go.Sort.getElem!_set_other d k i x e, Xri _ _ _ _ _ _ (by omega) (by omega) (by omega)]; exact h0
 · subst e; rw [Go.Sort.getElem!_set_same d i x hk]; exact (Xwj h0 h1 h2).2.1
 · rw [Go.Sort.getElem!_set_other d k i x e, Xri _ _ _ _ _ _ (by omega) (by omega) (by omega)]; exact h1
 · subst e; rw [Go.Sort.getElem!_set_same d i x hk]; exact (Xwj h0 h1 h2).2.2
 · rw [Go.Sort.getElem!_set_other d k i x e, Xri _ _ _ _ _ _ (by omega) (by omega) (by omega)]; exact h2
theorem put3_chg {w w0 : World} {blk o : Nat} {a b c : Value} (h : Chg (· = blk) w0 w) : Chg (· = blk) w0 (put3 w blk o a b c) := by
 unfold put3
 exact ((h.setCell _ _ fun _ => rfl).setCell _ _ fun _ => rfl).setCell _ _ fun _ => rfl
theorem Xse {w0 : World} {blk : Nat} : ∀ (vs : List Value) (o : Nat) (w : World), Chg (· = blk) w0 w → Chg (· = blk) w0 (w.setCells blk o vs)
 | [], _, _, h => h
 | v :: r, o, w, h => by rw [World.setCells]; exact Xse r (o + 1) _ (h.setCell _ _ fun _ => rfl)
theorem Xua {w : World} {blk : Nat} {d : Array Dg} (h : Xft w blk d) {k n c : Nat} (hn : 0 < n) (hk : k + n ≤ d.size) :
  ∃ vs, ∀ ty : TypeId, (Builtin.clear_ #[35] ty #[.slice (some ⟨blk, k * 3, none⟩) n c]).run Tryz.prog w = .ok (.tuple #[]) (w.setCells blk (k * 3) vs) := by
 obtain ⟨zs, hzs⟩ : ∃ zs, zs = (Builtin.zeroCells (#[.int .i64 0, .int .i64 0, .string ⟨#[]⟩] : Array Value) n).toList := ⟨_, rfl⟩
 have hlen : zs.length = n * 3 := by rw [hzs]; simp [Builtin.zeroCells]
 have hone : ∀ v ∈ zs, v.oneCell' = true := fun v hv => by
  rw [hzs] at hv
  simp [Builtin.zeroCells] at hv
  obtain ⟨a, _, rfl⟩ := hv
  have h3 : a % 3 = 0 ∨ a % 3 = 1 ∨ a % 3 = 2 := by omega
  rcases h3 with h | h | h <;> rw [h] <;> rfl
 have hst := run_storeCells_cells (P := Tryz.prog) blk (k * 3) zs 0 w (fun j hj => by
   obtain ⟨c0, c1, c2, _⟩ := h (k + j / 3) (by omega)
   have h3 : j % 3 = 0 ∨ j % 3 = 1 ∨ j % 3 = 2 := by omega
   rcases h3 with h | h | h
   · rw [show k * 3 + 0 + j = (k + j / 3) * 3 by omega, c0]; rfl
   · rw [show k * 3 + 0 + j = (k + j / 3) * 3 + 1 by omega, c1]; rfl
   · rw [show k * 3 + 0 + j = (k + j / 3) * 3 + 2 by omega, c2]; rfl)
  (fun j hj => by
    obtain ⟨_, _, _, f⟩ := h (k + j / 3) (by omega)
    rw [show k * 3 + 0 + j = (k + j / 3) * 3 + j % 3 by omega]; exact f _ (by omega)) hone
 simp only [Nat.add_zero] at hst
 refine ⟨zs, fun ty => ?_⟩
 obtain ⟨m, rfl⟩ : ∃ m, n = m + 1 := ⟨n - 1, by omega⟩
 have hz := Tryz.zeroValue39
 simp [Builtin.clear_, run_underlying Tryz.underlying35, hz, Value.cells, ← hzs, hst]
theorem Xex (s : List UInt8) : (Xab s).toList = s := by rw [Lib.toList_data]; rfl
theorem dg_ne {x y : Dg} (h : x ≠ y) : ¬ x.pl = y.pl ∨ (x.pl = y.pl ∧ ¬ x.code = y.code) ∨ (x.pl = y.pl ∧ x.code = y.code ∧ ¬ (Xab x.name).toList = (Xab y.name).toList) := by
 rw [Xex, Xex]
 by_cases h1 : x.pl = y.pl
 · by_cases h2 : x.code = y.code
   · refine .inr (.inr ⟨h1, h2, fun h3 => h ?_⟩)
     cases x; cases y
     simp only at h1 h2 h3
     rw [h1, h2, h3]
   · exact .inr (.inl ⟨h1, h2⟩)
 · exact .inl h1
theorem Xzj {w : World} {blk n k : Nat} {d dk : Array Dg} (h : Xft w blk dk) (hI : Lib.CompInv d n k dk) (hn : n = d.size) (vs : List Value) : Xft (w.setCells blk (k * 3) vs) blk (Lib.compactUpTo d d.size).toArray := fun i hi => by
 subst hn
 have hl := hI.len
 have hi' : i < k := by rw [← hl]; simpa using hi
 have hlt := hI.lt
 obtain ⟨h0, h1, h2, hf⟩ := h i (by rw [hI.size]; omega)
 have hg := hI.low i hi'
 have e : (Lib.compactUpTo d d.size).toArray[i]! = dk[i]! := by
  rw [getElem!_pos _ i hi]
  have h2 := List.getElem?_eq_getElem (l := Lib.compactUpTo d d.size) (i := i) (by simpa using hi)
  rw [hg] at h2
  injection h2 with h2
  rw [h2]; rfl
 rw [e]
 have hc : ∀ j, j < k * 3 → (w.setCells blk (k * 3) vs).cell? ⟨blk, j, none⟩ = w.cell? ⟨blk, j, none⟩ := fun j hj => World.cell?_setCells_out blk vs _ w ⟨blk, j, none⟩ (fun _ _ => Or.inl hj)
 exact ⟨(hc _ (by omega)).trans h0, (hc _ (by omega)).trans h1, (hc _ (by omega)).trans h2, fun j hj => (World.frozen?_setCells blk vs _ w _).trans (hf j hj)⟩
set_option maxHeartbeats 4000000 in
set_option maxRecDepth 1000000 in
theorem Xsh (w : World) (blk cap : Nat) (d : Array Dg) (hH : Xft w blk d) (hsz : d.size ≤ 1000000) (hcap : d.size ≤ cap) (hcap2 : cap ≤ 9223372036854775807) :
  Calls Tryz.prog 44 #[.slice (some ⟨blk, 0, none⟩) d.size cap] w fun e w' => e = .returned (.slice (some ⟨blk, 0, none⟩) (Lib.compactUpTo d d.size).length cap) ∧ Xft w' blk (Lib.compactUpTo d d.size).toArray ∧ Chg (· = blk) w w' := by
 have same : ∀ W : World, Xft W blk d → (∀ j, j < d.size → Lib.keeps d j = true) → (Lib.compactUpTo d d.size).length = d.size ∧ Xft W blk (Lib.compactUpTo d d.size).toArray := fun W hW hall => by
  have e : Lib.compactUpTo d d.size = d.toList := by rw [Lib.compactUpTo_all d _ hall, Lib.range_map_get]
  rw [e]
  exact ⟨by simp, hW⟩
 have HS := lh same
 have HH := lh hH
 clear same hH
 obtain ⟨n, hn⟩ : ∃ n, n = d.size := ⟨_, rfl⟩
 have HN := lh hn
 rw [← hn] at hsz hcap
 have e0 : (Value.slice (some ⟨blk, 0, none⟩) d.size cap) = Value.slice (some ⟨blk, 0, none⟩) n cap := by rw [hn]
 rw [e0]
 clear e0 hn
 by_cases h2 : n < 2
 · have hd : (decide ((n : Int) < 2)) = true := decide_eq_true (by omega)
   go_enter Tryz.func44, Tryz.ntmps44
   go_wp2
   go_ret
   obtain ⟨e1, e2⟩ := HS.out w HH.out (fun j hj => Lib.keeps_lt_one d j (by have := HN.out; omega))
   exact ⟨by rw [e1, ← HN.out]; rfl, e2, Chg.refl _ _⟩
 · have hd : (decide ((n : Int) < 2)) = false := decide_eq_false (by omega)
   go_enter Tryz.func44, Tryz.ntmps44
   go_wp2
   go_loopw [3] (fun s3 wr => ∃ k : Nat, 1 ≤ k ∧ k ≤ n ∧ s3 = .int .i64 k ∧ Hid (Xft wr blk d) ∧ Hid (Chg (· = blk) w wr) ∧ Hid (∀ j, j < k → Lib.keeps d j = true)) (fun s3 _ => n - (intOf s3).toNat)
   case atStart => exact ⟨1, Nat.le_refl _, by omega, rfl, lh HH.out, lh (Chg.refl _ _), lh (Lib.keeps_lt_one d)⟩
   case round =>
    obtain ⟨wo, rfl⟩ : ∃ wo : World, wo = wr := ⟨_, rfl⟩
    obtain ⟨k, hk1, hk, rfl, HR, HC, HA⟩ := hrel
    by_cases hlt : k < n
    · obtain ⟨a0, a1, a2, -⟩ := HR.out k (by rw [← HN.out]; exact hlt)
      obtain ⟨b0, b1, b2, -⟩ := HR.out (k - 1) (by rw [← HN.out]; omega)
      obtain ⟨x, hx⟩ : ∃ x, x = d[k]! := ⟨_, rfl⟩
      obtain ⟨y, hy⟩ : ∃ y, y = d[k - 1]! := ⟨_, rfl⟩
      rw [← hx] at a0 a1 a2
      rw [← hy] at b0 b1 b2
      have hwk : IntKind.i64.wrap ((k : Int) - 1) = (k : Int) - 1 := IntWalk.i64_in _ ⟨by omega, by omega⟩
      have hkn : ¬ ((k : Int) - 1 < 0) := by omega
      have htn : ((k : Int) - 1).toNat = k - 1 := by omega
      by_cases hdup : x = y
      · have HD : Hid (Lib.keeps d k = false) := lh (Lib.keeps_neg (by omega) (by rw [← hx, ← hy]; exact hdup))
        subst hdup
        clear hx hy
        generalize x.pl = p at a0 b0
        generalize x.code = c at a1 b1
        generalize Xab x.name = S at a2 b2
        go_wp2
        go_region
        all_goals
         go_wp2
         go_loopw [3, 5] (fun s3 s5 wr => ∃ (kk k2 : Nat) (dk : Array Dg), s3 = .int .i64 kk ∧ s5 = .int .i64 k2 ∧ 1 ≤ k2 ∧ k + k2 ≤ n ∧ kk < k + k2 ∧ Hid (Xft wr blk dk) ∧ Hid (Chg (· = blk) w wr) ∧ Hid (Lib.CompInv d (k + k2) kk dk)) (fun s3 s5 _ => n - k - (intOf s5).toNat)
         case atStart => exact ⟨k, 1, d, rfl, rfl, Nat.le_refl _, by omega, by omega, lh (HR.out.keep rfl), lh HC.out.drew, lh (Lib.CompInv.start HA.out HD.out)⟩
         case round =>
          obtain ⟨wq, rfl⟩ : ∃ wq : World, wq = wr := ⟨_, rfl⟩
          obtain ⟨kk, k2, dk, rfl, rfl, hg1, hg2, hg3, HR2, HC2, HI⟩ := hrel
          clear a0 a1 a2 b0 b1 b2 hwk hkn htn
          by_cases hl2 : k + k2 < n
          · have hk1 := HI.out.high (k + k2) (by omega)
            have hk0 := HI.out.high (k + k2 - 1) (by omega)
            have hkn : kk < dk.size := by rw [HI.out.size, ← HN.out]; omega
            obtain ⟨a0, a1, a2, -⟩ := HR2.out (k + k2) (by rw [HI.out.size, ← HN.out]; exact hl2)
            obtain ⟨b0, b1, b2, -⟩ := HR2.out (k + k2 - 1) (by rw [HI.out.size, ← HN.out]; omega)
            obtain ⟨o0, o1, o2, hfz⟩ := HR2.out kk hkn
            have f0 := hfz 0 (by omega)
            have f1 := hfz 1 (by omega)
            have f2 := hfz 2 (by omega)
            rw [Nat.add_zero] at f0
            rw [hk1, show (k + k2) * 3 = k * 3 + k2 * 3 by omega] at a0 a1 a2
            rw [hk0, show (k + k2 - 1) * 3 = k * 3 + (k2 - 1) * 3 by omega] at b0 b1 b2
            obtain ⟨x, hx⟩ : ∃ x, x = d[k + k2]! := ⟨_, rfl⟩
            obtain ⟨y, hy⟩ : ∃ y, y = d[k + k2 - 1]! := ⟨_, rfl⟩
            rw [← hx] at a0 a1 a2
            rw [← hy] at b0 b1 b2
            generalize (Value.int .i64 dk[kk]!.pl) = z0 at o0
            generalize (Value.int .i64 dk[kk]!.code) = z1 at o1
            generalize (Value.string (Xab dk[kk]!.name)) = z2 at o2
            have hwk : IntKind.i64.wrap ((k2 : Int) - 1) = (k2 : Int) - 1 := IntWalk.i64_in _ ⟨by omega, by omega⟩
            have hk2 : ¬ ((k2 : Int) - 1 < 0) := by omega
            have htn : ((k2 : Int) - 1).toNat = k2 - 1 := by omega
            clear hk1 hk0 hfz
            by_cases hdup : x = y
            · have HD2 : Hid (Lib.keeps d (k + k2) = false) := lh (Lib.keeps_neg (by omega) (by rw [← hx, ← hy]; exact hdup))
              subst hdup
              clear hx hy
              generalize x.pl = p at a0 b0
              generalize x.code = c at a1 b1
              generalize Xab x.name = S at a2 b2
              go_wp2
              go_region
              all_goals
               go_wp2
               go_roundw
               case rel => exact ⟨kk, k2 + 1, dk, rfl, by go_num, by omega, by omega, by omega, lh (HR2.out.keep rfl), lh HC2.out.drew, lh (HI.out.skip HD2.out)⟩
               case measure => first | (simp [intOf]; done) | (simp [intOf]; omega)
            · have HD2 : Hid (Lib.keeps d (k + k2) = true) := lh (Lib.keeps_pos (by rw [← hx, ← hy]; exact hdup))
              have hq := dg_ne hdup
              have HX : Hid (Lib.CompInv d (k + k2 + 1) (kk + 1) (dk.setIfInBounds kk x)) := lh (by have := HI.out.keep (by rw [← HN.out]; exact hl2) HD2.out; rwa [← hx] at this)
              clear hx hy hdup
              obtain ⟨p, hp⟩ : ∃ p, p = x.pl := ⟨_, rfl⟩
              obtain ⟨c, hc⟩ : ∃ c, c = x.code := ⟨_, rfl⟩
              obtain ⟨S, hS⟩ : ∃ S, S = Xab x.name := ⟨_, rfl⟩
              obtain ⟨p', hp'⟩ : ∃ p, p = y.pl := ⟨_, rfl⟩
              obtain ⟨c', hc'⟩ : ∃ c, c = y.code := ⟨_, rfl⟩
              obtain ⟨S', hS'⟩ : ∃ S, S = Xab y.name := ⟨_, rfl⟩
              rw [← hp, ← hc, ← hS, ← hp', ← hc', ← hS'] at hq
              rw [← hp] at a0
              rw [← hc] at a1
              rw [← hS] at a2
              rw [← hp'] at b0
              rw [← hc'] at b1
              rw [← hS'] at b2
              have HPUT : Hid (Xft (put3 wq.drew blk (kk * 3) (.int .i64 p) (.int .i64 c) (.string S)) blk (dk.setIfInBounds kk x)) := lh (by
               have := Xft.put (w := wq.drew) (HR2.out.keep rfl) hkn x
               rwa [← hp, ← hc, ← hS] at this)
              have HPC : Hid (Chg (· = blk) w (put3 wq.drew blk (kk * 3) (.int .i64 p) (.int .i64 c) (.string S))) := lh (put3_chg HC2.out.drew)
              clear hp hc hS hp' hc' hS' hkn
              rcases hq with h1 | ⟨rfl, h1⟩ | ⟨rfl, rfl, h1⟩
              all_goals
               go_wp2
               go_region
               all_goals
                go_wp2
                go_roundw
                case rel => exact ⟨kk + 1, k2 + 1, _, by go_num, by go_num, by omega, by omega, by omega, HPUT, HPC, HX⟩
                case measure => first | (simp [intOf]; done) | (simp [intOf]; omega)
          · have hend : k + k2 = n := by omega
            obtain ⟨vs, hcl⟩ := Xua HR2.out (k := kk) (n := n - kk) (c := cap - kk) (by omega) (by rw [HI.out.size, ← HN.out]; omega)
            have hI : Hid (Lib.CompInv d n kk dk) := lh (by have := HI.out; rwa [hend] at this)
            go_wp2
            go_ret
            exact ⟨by rw [HN.out] at hI; rw [hI.out.len]; rfl, Xzj HR2.out hI.out HN.out vs, Xse vs _ _ HC2.out⟩
      · have HD : Hid (Lib.keeps d k = true) := lh (Lib.keeps_pos (by rw [← hx, ← hy]; exact hdup))
        have hq := dg_ne hdup
        clear hx hy hdup
        obtain ⟨p, hp⟩ : ∃ p, p = x.pl := ⟨_, rfl⟩
        obtain ⟨c, hc⟩ : ∃ c, c = x.code := ⟨_, rfl⟩
        obtain ⟨S, hS⟩ : ∃ S, S = Xab x.name := ⟨_, rfl⟩
        obtain ⟨p', hp'⟩ : ∃ p, p = y.pl := ⟨_, rfl⟩
        obtain ⟨c', hc'⟩ : ∃ c, c = y.code := ⟨_, rfl⟩
        obtain ⟨S', hS'⟩ : ∃ S, S = Xab y.name := ⟨_, rfl⟩
        rw [← hp, ← hc, ← hS, ← hp', ← hc', ← hS'] at hq
        rw [← hp] at a0
        rw [← hc] at a1
        rw [← hS] at a2
        rw [← hp'] at b0
        rw [← hc'] at b1
        rw [← hS'] at b2
        clear hp hc hS hp' hc' hS'
        rcases hq with h1 | ⟨rfl, h1⟩ | ⟨rfl, rfl, h1⟩
        all_goals
         go_wp2
         go_region
         all_goals
          go_wp2
          go_roundw
          case rel =>
           refine ⟨k + 1, by omega, by omega, by go_num, lh (HR.out.keep rfl), lh HC.out.drew, lh fun j hj => ?_⟩
           by_cases e : j = k
           · rw [e]; exact HD.out
           · exact HA.out j (by omega)
          case measure => first | (simp [intOf]; done) | (simp [intOf]; omega)
    · have hend : k = n := by omega
      subst hend
      go_wp2
      go_ret
      obtain ⟨e1, e2⟩ := HS.out wo HR.out (fun j hj => HA.out j (by rw [HN.out]; exact hj))
      exact ⟨by rw [e1, ← HN.out]; rfl, e2, HC.out⟩
section
open Go.Shelf
def Yat : Go.Shelf.Ren := ⟨fun | 6 => 38 | 15 => 66 | 14 => 65 | 28 => 101 | 29 => 102 | 20 => 93 | 21 => 94 | 22 => 95 | 23 => 96 | 24 => 97 | 25 => 98 | 26 => 99 | 27 => 100 | 46 => 118 | 47 => 119 | 48 => 120 | 49 => 121 | 50 => 122 | 57 => 130 | n => n, fun | 22 => 35 | 24 => 39 | 25 => 99 | 3 => 3 | 39 => 121 | 0 => 0 | 53 => 144 | 55 => 146 | 4 => 4 | 46 => 138 | 45 => 137 | 50 => 82 | 5 => 5 | 9 => 9 | 66 => 162 | 70 => 166 | 76 => 170 | 77 => 101 | n => n, fun | n => n⟩
theorem sortDg : Go.Proofs.SlLaysF0.n6 Tryz.prog Yat := {
 mixed := by kernel_rfl
 f6 := ⟨Tryz.f38.name, by decide, Tryz.func38.trans (congrArg some (by kernel_rfl))⟩
 f14 := ⟨Tryz.f65.name, by decide, Tryz.func65.trans (congrArg some (by kernel_rfl))⟩
 f15 := Tryz.func66.trans (congrArg some (by kernel_rfl))
 f20 := ⟨Tryz.f93.name, by decide, Tryz.func93.trans (congrArg some (by kernel_rfl))⟩
 f21 := ⟨Tryz.f94.name, by decide, Tryz.func94.trans (congrArg some (by kernel_rfl))⟩
 f22 := ⟨Tryz.f95.name, by decide, Tryz.func95.trans (congrArg some (by kernel_rfl))⟩
 f23 := ⟨Tryz.f96.name, by decide, Tryz.func96.trans (congrArg some (by kernel_rfl))⟩
 f24 := ⟨Tryz.f97.name, by decide, Tryz.func97.trans (congrArg some (by kernel_rfl))⟩
 f25 := ⟨Tryz.f98.name, by decide, Tryz.func98.trans (congrArg some (by kernel_rfl))⟩
 f26 := ⟨Tryz.f99.name, by decide, Tryz.func99.trans (congrArg some (by kernel_rfl))⟩
 f27 := ⟨Tryz.f100.name, by decide, Tryz.func100.trans (congrArg some (by kernel_rfl))⟩
 f28 := Tryz.func101.trans (congrArg some (by kernel_rfl))
 f29 := Tryz.func102.trans (congrArg some (by kernel_rfl))
 f46 := ⟨Tryz.f118.name, by decide, Tryz.func118.trans (congrArg some (by kernel_rfl))⟩
 f47 := Tryz.func119.trans (congrArg some (by kernel_rfl))
 f48 := Tryz.func120.trans (congrArg some (by kernel_rfl))
 f49 := ⟨Tryz.f121.name, by decide, Tryz.func121.trans (congrArg some (by kernel_rfl))⟩
 f50 := ⟨Tryz.f122.name, by decide, Tryz.func122.trans (congrArg some (by kernel_rfl))⟩
 f57 := ⟨Tryz.f130.name, by decide, Tryz.func130.trans (congrArg some (by kernel_rfl))⟩
 t0 := Tryz.underlying0
 a0 := Tryz.isAgg0
 z0 := Tryz.sizeOf0
 v0 := Tryz.zeroValue0
 t3 := Tryz.underlying3
 a3 := Tryz.isAgg3
 z3 := Tryz.sizeOf3
 v3 := Tryz.zeroValue3
 t4 := Tryz.underlying4
 a4 := Tryz.isAgg4
 z4 := Tryz.sizeOf4
 v4 := Tryz.zeroValue4
 t5 := Tryz.underlying5
 a5 := Tryz.isAgg5
 z5 := Tryz.sizeOf5
 v5 := Tryz.zeroValue5
 t9 := Tryz.underlying9
 a9 := Tryz.isAgg9
 z9 := Tryz.sizeOf9
 v9 := Tryz.zeroValue9
 t22 := Tryz.underlying35
 a22 := Tryz.isAgg35
 z22 := Tryz.sizeOf35
 v22 := Tryz.zeroValue35
 t25 := Tryz.underlying99
 a25 := Tryz.isAgg99
 z25 := Tryz.sizeOf99
 v25 := Tryz.zeroValue99
 t39 := Tryz.underlying121
 a39 := Tryz.isAgg121
 z39 := Tryz.sizeOf121
 v39 := Tryz.zeroValue121
 t45 := Tryz.underlying137
 a45 := Tryz.isAgg137
 z45 := Tryz.sizeOf137
 v45 := Tryz.zeroValue137
 t46 := Tryz.underlying138
 a46 := Tryz.isAgg138
 z46 := Tryz.sizeOf138
 v46 := Tryz.zeroValue138
 t50 := Tryz.underlying82
 a50 := Tryz.isAgg82
 z50 := Tryz.sizeOf82
 v50 := Tryz.zeroValue82
 t53 := Tryz.underlying144
 a53 := Tryz.isAgg144
 z53 := Tryz.sizeOf144
 v53 := Tryz.zeroValue144
 t55 := Tryz.underlying146
 a55 := Tryz.isAgg146
 z55 := Tryz.sizeOf146
 v55 := Tryz.zeroValue146
 t66 := Tryz.underlying162
 a66 := Tryz.isAgg162
 z66 := Tryz.sizeOf162
 v66 := Tryz.zeroValue162
 t70 := Tryz.underlying166
 a70 := Tryz.isAgg166
 z70 := Tryz.sizeOf166
 v70 := Tryz.zeroValue166
 t76 := Tryz.underlying170
 a76 := Tryz.isAgg170
 z76 := Tryz.sizeOf170
 v76 := Tryz.zeroValue170
 t77 := Tryz.underlying101
 a77 := Tryz.isAgg101
 z77 := Tryz.sizeOf101
 v77 := Tryz.zeroValue101 }
def Xzc : Go.Shelf.Ren := ⟨fun | 5 => 41 | 7 => 67 | n => n, fun | 22 => 3 | 3 => 3 | 4 => 4 | n => n, fun | n => n⟩
theorem cmpInt : Go.Proofs.SlLaysC2.n5 Tryz.prog Xzc := {
 mixed := by kernel_rfl
 f5 := ⟨Tryz.f41.name, by decide, Tryz.func41.trans (congrArg some (by kernel_rfl))⟩
 f7 := ⟨Tryz.f67.name, by decide, Tryz.func67.trans (congrArg some (by kernel_rfl))⟩
 t3 := Tryz.underlying3
 a3 := Tryz.isAgg3
 z3 := Tryz.sizeOf3
 v3 := Tryz.zeroValue3
 t4 := Tryz.underlying4
 a4 := Tryz.isAgg4
 z4 := Tryz.sizeOf4
 v4 := Tryz.zeroValue4
 t22 := Tryz.underlying3
 a22 := Tryz.isAgg3
 z22 := Tryz.sizeOf3
 v22 := Tryz.zeroValue3 }
def Xza : Go.Shelf.Ren := ⟨fun | 5 => 42 | 7 => 68 | n => n, fun | 22 => 26 | 3 => 3 | 4 => 4 | n => n, fun | n => n⟩
theorem cmpErr : Go.Proofs.SlLaysC2.n5 Tryz.prog Xza := {
 mixed := by kernel_rfl
 f5 := ⟨Tryz.f42.name, by decide, Tryz.func42.trans (congrArg some (by kernel_rfl))⟩
 f7 := ⟨Tryz.f68.name, by decide, Tryz.func68.trans (congrArg some (by kernel_rfl))⟩
 t3 := Tryz.underlying3
 a3 := Tryz.isAgg3
 z3 := Tryz.sizeOf3
 v3 := Tryz.zeroValue3
 t4 := Tryz.underlying4
 a4 := Tryz.isAgg4
 z4 := Tryz.sizeOf4
 v4 := Tryz.zeroValue4
 t22 := Tryz.underlying26
 a22 := Tryz.isAgg26
 z22 := Tryz.sizeOf26
 v22 := Tryz.zeroValue26 }
end
theorem Xzb (x y : Int) (w : World) : Calls Tryz.prog 41 #[.int .i64 x, .int .i64 y] w fun e w' => e = .returned (.int .i64 (Lib.compareInt x y)) ∧ w' = w := AnyG.cmp_Compare_int cmpInt x y w
theorem Xyz (x y : Int) (w : World) : Calls Tryz.prog 42 #[.int .i64 x, .int .i64 y] w fun e w' => e = .returned (.int .i64 (Lib.compareInt x y)) ∧ w' = w := AnyG.cmp_Compare_int cmpErr x y w
theorem Xlj (s : ByteArray) (w : World) : Calls Tryz.prog 69 #[.string s] w fun e w' => e = .returned (.bool false) ∧ w' = w := by
 go_enter Tryz.func69, Tryz.ntmps69
 go_wp2
 go_ret
 exact ⟨by simp, rfl⟩
theorem cb_val : ∀ a b : List UInt8, Lib.compareBytes a b = -1 ∨ Lib.compareBytes a b = 0 ∨ Lib.compareBytes a b = 1
 | [], [] => .inr (.inl rfl)
 | [], _ :: _ => .inl rfl
 | _ :: _, [] => .inr (.inr rfl)
 | a :: la, b :: lb => by
   rw [Lib.compareBytes]
   split
   · exact .inl rfl
   · split
     · exact .inr (.inr rfl)
     · exact cb_val la lb
set_option maxHeartbeats 1000000 in
theorem Xzd (a b : List UInt8) (w : World) : Calls Tryz.prog 43 #[.string (Xab a), .string (Xab b)] w fun e w' => e = .returned (.int .i64 (Lib.compareBytes a b)) ∧ w' = w := by
 have hl := Ybp (Xab a).toList (Xab b).toList
 have hq : ((Xab a).toList == (Xab b).toList) = decide (Lib.compareBytes a b = 0) := by
  rw [Xex, Xex, Bool.eq_iff_iff]
  simp only [beq_iff_eq, decide_eq_true_eq]
  exact ⟨fun e => by rw [e]; exact Xus b, Xqs a b⟩
 rw [Xex, Xex] at hl
 have hl2 : Op.bytesLess (Xab a).toList (Xab b).toList = decide (Lib.compareBytes a b < 0) := by rw [Xex, Xex]; exact hl
 clear hl
 have hself : Lib.compareBytes a b = 0 → a = b := Xqs a b
 obtain ⟨c, hc⟩ : ∃ c, c = Lib.compareBytes a b := ⟨_, rfl⟩
 have hv := cb_val a b
 rw [← hc] at hl2 hq hv hself ⊢
 clear hc
 rcases hv with rfl | rfl | rfl
 · obtain ⟨S, hS⟩ : ∃ S, S = Xab a := ⟨_, rfl⟩
   obtain ⟨T, hT⟩ : ∃ T, T = Xab b := ⟨_, rfl⟩
   rw [← hS, ← hT] at hl2 ⊢
   rw [show decide ((-1 : Int) < 0) = true from rfl] at hl2
   clear hS hT hq hself
   go_enter Tryz.func43, Tryz.ntmps43
   go_wp2_with (first
    | (go_at_call 69; refine (Xlj _ _).mono ?_; rintro e w1 ⟨rfl, rfl⟩))
   go_ret
   exact ⟨rfl, rfl⟩
 · obtain rfl := hself rfl
   obtain ⟨S, hS⟩ : ∃ S, S = Xab a := ⟨_, rfl⟩
   rw [← hS] at hl2 ⊢
   rw [show decide ((0 : Int) < 0) = false from rfl] at hl2
   clear hS hq hself
   go_enter Tryz.func43, Tryz.ntmps43
   go_wp2_with (first
    | (go_at_call 69; refine (Xlj _ _).mono ?_; rintro e w1 ⟨rfl, rfl⟩))
   all_goals
    go_ret
    exact ⟨rfl, rfl⟩
 · obtain ⟨S, hS⟩ : ∃ S, S = Xab a := ⟨_, rfl⟩
   obtain ⟨T, hT⟩ : ∃ T, T = Xab b := ⟨_, rfl⟩
   rw [← hS, ← hT] at hl2 hq ⊢
   rw [show decide ((1 : Int) < 0) = false from rfl] at hl2
   rw [show decide ((1 : Int) = 0) = false from rfl] at hq
   have HQ := lh hq
   clear hS hT hself hq
   go_enter Tryz.func43, Tryz.ntmps43
   go_wp2_with (first
    | (go_at_call 69; refine (Xlj _ _).mono ?_; rintro e w1 ⟨rfl, rfl⟩))
   all_goals first
    | (go_ret; exact ⟨rfl, rfl⟩)
    | (exfalso; have := HQ.out; simp_all)
def orL : List Int → Int
 | [] => 0
 | a :: r => if a = 0 then orL r else a
theorem Xdj.three (w : World) (a b c : Int) : Xdj (w.alloc (.cells #[.int .i64 a, .int .i64 b, .int .i64 c] 3)) (.slice (some ⟨w.heap.size, 0, none⟩) 3 3) [a, b, c] :=
 ⟨_, _, rfl, by simp, fun k hk => ⟨w.heap.size, 0, rfl, by simp, by
  have e : k = 0 ∨ k = 1 ∨ k = 2 := by simp at hk; omega
  rw [cell_of_row _ _ _ _ _ (0, 0) (heap_alloc_new w _)]
  rcases e with rfl | rfl | rfl <;> rfl⟩⟩
theorem orL_drop {ks : List Int} {j : Nat} (hj : j < ks.length) : orL (ks.drop j) = if ks[j] = 0 then orL (ks.drop (j + 1)) else ks[j] := by
 rw [List.drop_eq_getElem_cons hj, orL]
set_option maxHeartbeats 1000000 in
theorem or_any (w : World) {ks : List Int} {v : Value} (h : Xdj w v ks) :
  Calls Tryz.prog 40 #[v] w fun e w' => e = .returned (.int .i64 (orL ks)) ∧ w' = w := by
 obtain ⟨A, c, rfl, hl, hc⟩ := h
 obtain ⟨n, hn⟩ : ∃ n, n = ks.length := ⟨_, rfl⟩
 rw [← hn] at hl ⊢
 have HC := lh hc
 have HN := lh hn
 clear hc hn
 go_enter Tryz.func40, Tryz.ntmps40
 go_wp2
 go_loop [8] (fun i => ∃ j : Nat, j ≤ n ∧ i = .int .i64 j ∧ Hid (orL ks = orL (ks.drop j))) (fun i => n - (intOf i).toNat)
 case atStart => exact ⟨0, Nat.zero_le _, rfl, lh rfl⟩
 case round =>
  obtain ⟨j, hj, rfl, HF⟩ := hrel
  by_cases hlt : j < n
  · have hjl : j < ks.length := by rw [← HN.out]; exact hlt
    obtain ⟨g, off, rfl, hg, c0⟩ := HC.out j hjl
    have ho := orL_drop hjl
    rw [← HF.out] at ho
    obtain ⟨y, hy⟩ : ∃ y, y = ks[j] := ⟨_, rfl⟩
    rw [← hy] at c0 ho
    clear hy hg
    by_cases he : y = 0
    · rw [if_pos he] at ho
      subst he
      have HF2 : Hid (orL ks = orL (ks.drop (j + 1))) := lh ho
      clear ho
      go_wp2
      go_round
      case rel => exact ⟨j + 1, by omega, by go_num, HF2⟩
      case measure => first | (simp [intOf]; done) | (simp [intOf]; omega)
    · rw [if_neg he] at ho
      have HT := lh ho
      clear ho
      go_wp2
      go_ret
      exact ⟨by rw [HT.out]; rfl, rfl⟩
  · have HT : Hid (orL ks = 0) := lh (by rw [HF.out, List.drop_eq_nil_of_le (by rw [← HN.out]; omega)]; rfl)
    clear HF
    go_wp2
    go_ret
    exact ⟨by rw [HT.out]; rfl, rfl⟩
theorem orL_cf (x y : Dg) : orL [Lib.compareInt x.pl y.pl, Lib.compareInt x.code y.code, Lib.compareBytes x.name y.name] = cfD x y := by
 unfold cfD
 simp only [orL]
 by_cases h1 : Lib.compareInt x.pl y.pl = 0
 · by_cases h2 : Lib.compareInt x.code y.code = 0
   · by_cases h3 : Lib.compareBytes x.name y.name = 0
     · simp [h1, h2, h3]
     · simp [h1, h2, h3]
   · simp [h1, h2]
 · simp [h1]
theorem grown3 (W : World) (a b c : Obj) : ((((W.alloc a).alloc b).drew).alloc c) = Go.Sort.grow (W.drewN 1) #[a, b, c] := by
 rw [Go.Sort.alloc_eq_grow, Go.Sort.alloc_eq_grow, Go.Sort.alloc_eq_grow, Go.Sort.drew_grow, Go.Sort.drew_grow, Go.Sort.grow_grow, Go.Sort.grow_grow]
 rfl
set_option maxHeartbeats 4000000 in
set_option maxRecDepth 100000 in
theorem Xoz (x y : Dg) (W : World) : Calls Tryz.prog 39 #[.agg (Xdy x).toArray, .agg (Xdy y).toArray] W fun e w' => e = .returned (.int .i64 (cfD x y)) ∧ ∃ q os', w' = Go.Sort.grow (W.drewN q) os' := by
 have h1 := fun w => Xzb x.pl y.pl w
 have h2 := fun w => Xyz x.code y.code w
 have h3 := fun w => Xzd x.name y.name w
 have h4 := fun w => or_any _ (Xdj.three w (Lib.compareInt x.pl y.pl) (Lib.compareInt x.code y.code) (Lib.compareBytes x.name y.name))
 rw [orL_cf] at h4
 show Calls Tryz.prog 39 #[.agg #[.int .i64 x.pl, .int .i64 x.code, .string (Xab x.name)], .agg #[.int .i64 y.pl, .int .i64 y.code, .string (Xab y.name)]] W _
 generalize cfD x y = r at h4 ⊢
 generalize Lib.compareInt x.pl y.pl = r1 at h1 h4
 generalize Lib.compareInt x.code y.code = r2 at h2 h4
 generalize Lib.compareBytes x.name y.name = r3 at h3 h4
 generalize x.pl = a0 at h1 ⊢
 generalize x.code = a1 at h2 ⊢
 generalize Xab x.name = a2 at h3 ⊢
 generalize y.pl = b0 at h1 ⊢
 generalize y.code = b1 at h2 ⊢
 generalize Xab y.name = b2 at h3 ⊢
 have H1 := lh h1
 have H2 := lh h2
 have H3 := lh h3
 have H4 := lh h4
 clear h1 h2 h3 h4
 go_enter Tryz.func39, Tryz.ntmps39
 go_wp2_with fail
 obtain ⟨X, hX⟩ : ∃ X : World, X = ((W.alloc (.cells #[.int .i64 a0, .int .i64 a1, .string a2] 39)).alloc (.cells #[.int .i64 b0, .int .i64 b1, .string b2] 39)) := ⟨_, rfl⟩
 have e1 : (W.alloc (.cells #[.int .i64 a0, .int .i64 a1, .string a2] 39)).heap.size = W.heap.size + 1 := by simp
 have r0 : X.heap[W.heap.size]? = some (.cells #[.int .i64 a0, .int .i64 a1, .string a2] 39 (0, 0)) := by rw [hX]; exact ((Xae _ _).block _ (by simp)).trans (heap_alloc_new _ _)
 have r1 : X.heap[W.heap.size + 1]? = some (.cells #[.int .i64 b0, .int .i64 b1, .string b2] 39 (0, 0)) := by rw [hX, ← e1]; exact heap_alloc_new _ _
 have c0 : X.cell? ⟨W.heap.size, 0, none⟩ = some (.int .i64 a0) := by rw [cell_of_row X _ 0 _ _ (0, 0) r0]; rfl
 have c1 : X.cell? ⟨W.heap.size, 1, none⟩ = some (.int .i64 a1) := by rw [cell_of_row X _ 1 _ _ (0, 0) r0]; rfl
 have c2 : X.cell? ⟨W.heap.size, 2, none⟩ = some (.string a2) := by rw [cell_of_row X _ 2 _ _ (0, 0) r0]; rfl
 have c3 : X.cell? ⟨W.heap.size + 1, 0, none⟩ = some (.int .i64 b0) := by rw [cell_of_row X _ 0 _ _ (0, 0) r1]; rfl
 have c4 : X.cell? ⟨W.heap.size + 1, 1, none⟩ = some (.int .i64 b1) := by rw [cell_of_row X _ 1 _ _ (0, 0) r1]; rfl
 have c5 : X.cell? ⟨W.heap.size + 1, 2, none⟩ = some (.string b2) := by rw [cell_of_row X _ 2 _ _ (0, 0) r1]; rfl
 rw [← hX]
 have HX := lh hX
 clear hX r0 r1 e1
 go_still_tail 15, (by kernel_rfl)
 still_call (H1.out _)
 repeat still_step
 still_call (H2.out _)
 repeat still_step
 still_call (H3.out _)
 refine wpStill_nil ?_
 change wpList _ _ _ _ _ X.drew
 go_wp2_with (first
  | (go_at_call 40; refine (H4.out X.drew).mono ?_; rintro e w1 ⟨rfl, rfl⟩))
 go_ret
 exact ⟨rfl, 1, _, by rw [HX.out]; exact grown3 _ _ _ _⟩
end Go.Proofs.YtbckeljbpknbdaaGreatDoor
