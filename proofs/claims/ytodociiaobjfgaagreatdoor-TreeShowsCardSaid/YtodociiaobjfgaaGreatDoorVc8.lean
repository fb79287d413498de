/- Kg -/
import Derived.Test.YtodociiaobjfgaaGreatDoorVc6
set_option linter.unusedVariables false
set_option linter.unusedSimpArgs false
namespace Go.Proofs.YtodociiaobjfgaaGreatDoor
open Go.RowKit
theorem Xau.empty {w : World} {base : Nat} (h : base ≤ w.heap.size) : Xau (w.alloc (.cells #[] 9)) base (.slice (some ⟨w.heap.size, 0, none⟩) 0 0) [] :=
 ⟨rfl, .inr ⟨w.heap.size, 0, #[], rfl, h, heap_alloc_new w _, Nat.le_refl _, Nat.zero_le _, rfl, rfl⟩⟩
theorem Xcs.empty {w : World} {base : Nat} (h : base ≤ w.heap.size) : Xcs (w.alloc (.cells #[] 53)) base (.slice (some ⟨w.heap.size, 0, none⟩) 0 0) [] [] :=
 ⟨⟨rfl, .inr ⟨w.heap.size, 0, #[], rfl, h, heap_alloc_new w _, Nat.le_refl _, Nat.zero_le _, rfl, rfl⟩⟩, rfl, fun k hk => by simp at hk⟩
theorem Xda {w w' : World} {base : Nat} {v : Value} {l : List (List UInt8)} (hown : Xau w base v l) (hgr : w.grownBy w' v.ownBlock) (hbase : base ≤ w.heap.size) : Below base w w' := by
 refine ⟨hgr.os, hgr.tape, hgr.output, hgr.size, fun k hk => hgr.block k (by omega) (fun e => ?_)⟩
 have := hown.lt e.symm
 omega
theorem Xcd {ops : Array Oper} {rest : List Oper} {o : Oper} {a : Act} {w wb : World} {Q : Exit → Act → World → Prop} (hgd : o.guard = none) (sl x : Operand)
  (ho : o.op = .call { callee := .builtin .append, args := #[sl, x], argTypes := #[53, 53] })
  (base K : Nat) (v : Value) (l : List (List UInt8)) (hs : a.eval sl = v) (hown : Xau w base v l) (cs : Array Value) (n : Nat) (t : List (List UInt8)) (hn : n = t.length) (hn0 : 0 < n) (hc : cs.toList = stV t) (H : Nat) (hH : w.heap.size = H) (hx : a.eval x = .slice (some ⟨H, 0, none⟩) n n)
  (hl : l.length ≤ K) (hK : K ≤ 800000) (ht : t.length ≤ 100000) (hbase : base ≤ w.heap.size) (hbel : Below base wb w)
  (h : ∀ g cap w' L N, L = l ++ t → N = L.length → L.length ≤ K + 100000 → Xau w' base (.slice (some ⟨g, 0, none⟩) N cap) L → base ≤ w'.heap.size → Below base wb w' → wpList Tryz.prog ops Q rest (a.put o.dst (.slice (some ⟨g, 0, none⟩) N cap)) w') : wpList Tryz.prog ops Q (o :: rest) a (w.alloc (.cells cs 9)) := by
 subst hH
 have hba : base ≤ (w.alloc (.cells cs 9)).heap.size := by simp; omega
 refine Xdr hgd sl x ho base v l hs (hown.alloc _) ⟨w.heap.size, 0, none⟩ n n t hn hn0 hx ?_ (by omega) hba ?_
 · intro j u hu
   rw [Xco, Nat.zero_add, cell_of_row _ _ j _ _ (0, 0) (heap_alloc_new w _)]
   rw [← hc, Array.getElem?_toList] at hu
   exact hu
 · intro g cap w' hown' hgr hat
   have hb := Xda (hown.alloc (.cells cs 9)) hgr hba
   refine h g cap w' (l ++ t) (l.length + n) rfl (by rw [List.length_append, hn]) (by rw [List.length_append]; omega) hown' (Nat.le_trans hba hb.size) ((hbel.alloc hbase _).trans hb)
theorem Xfz {ops : Array Oper} {rest : List Oper} {o : Oper} {a : Act} {w wb : World} {Q : Exit → Act → World → Prop} (hgd : o.guard = none) (sl x : Operand)
  (ho : o.op = .call { callee := .builtin .append, args := #[sl, x], argTypes := #[53, 53] })
  (base K : Nat) (v : Value) (l : List (List UInt8)) (hs : a.eval sl = v) (hown : Xau w base v l) (u : Value) (t : List (List UInt8)) (hu : Xeo wb base u t) (ht0 : t ≠ []) (hx : a.eval x = u)
  (hl : l.length ≤ K) (hK : K ≤ 800000) (ht : t.length ≤ 100000) (hbase : base ≤ w.heap.size) (hbel : Below base wb w)
  (h : ∀ g cap w' L N, L = l ++ t → N = L.length → L.length ≤ K + 100000 → Xau w' base (.slice (some ⟨g, 0, none⟩) N cap) L → base ≤ w'.heap.size → Below base wb w' → wpList Tryz.prog ops Q rest (a.put o.dst (.slice (some ⟨g, 0, none⟩) N cap)) w') : wpList Tryz.prog ops Q (o :: rest) a w := by
 obtain ⟨gt, c, cur, rfl, hlt, hcur, hcells⟩ := hu.below hbel (Nat.le_refl _) (Nat.le_refl _)
 have hn0 : 0 < t.length := by
  rcases Nat.eq_zero_or_pos t.length with h | h
  · exact absurd (List.eq_nil_of_length_eq_zero h) ht0
  · exact h
 refine Xdr hgd sl x ho base v l hs hown ⟨gt, 0, none⟩ t.length c t rfl hn0 hx hcells (by omega) hbase ?_
 intro g cap w' hown' hgr hat
 have hb := Xda hown hgr hbase
 refine h g cap w' (l ++ t) (l.length + t.length) rfl (by rw [List.length_append]) (by rw [List.length_append]; omega) hown' (Nat.le_trans hbase hb.size) (hbel.trans hb)
theorem one_row (w : World) (v : Value) : (w.alloc (.cells #[v] 53)).cell? ⟨w.heap.size, 0, none⟩ = some v := by
 rw [cell_of_row _ _ 0 _ _ (0, 0) (heap_alloc_new w _)]; rfl
theorem Xmb {xs : List (List (List UInt8))} : ∀ (j : Nat) (h : j < xs.length), xs[j].length ≤ (xs.map List.length).sum := by
 induction xs with
 | nil => intro j h; simp at h
 | cons x xs ih =>
   intro j h
   cases j with
   | zero => simp
   | succ j => have := ih j (by simpa using h); simp; omega
def RefT (w0 : World) (B : Nat) (es : List Ex) (v : Value) : Prop :=
 ∀ (k p num d c : Int) (name : List UInt8) (T : List (List UInt8)) (w : World), penE (.mk k p num name es) d c = some T → T.length ≤ 100000 → Below B w0 w → B ≤ w.heap.size →
  Calls Tryz.prog 63 #[.agg #[.int .i64 k, .int .i64 p, .int .i64 num, .string (Xaa name), v]] w
   fun e w' => ∃ v, e = .returned v ∧ Xau w' w.heap.size v T ∧ Below w.heap.size w w'
set_option maxHeartbeats 4000000 in
set_option maxRecDepth 100000 in
theorem Xhu {w0 : World} {B : Nat} {es : List Ex} {v : Value} (h : Xbm w0 (· < B) es v) : RefT w0 B es v := by
 induction h with
 | mk es A c f hc hM hA hr ih =>
   intro k p num d ch name T w hpen hTl hb hB
   obtain ⟨k1, k13, hhead, hlen, xs, hxs, hxl, hT⟩ := Xig hpen
   have hsum := Xkc (n := num) (s := name) k1 k13 (hxl.trans hlen)
   rw [← hT] at hsum
   have ho : 1 ≤ ownN k := by unfold ownN; split <;> (try split) <;> omega
   obtain ⟨ne, hne⟩ : ∃ ne, ne = es.length := ⟨_, rfl⟩
   obtain ⟨S, hS⟩ : ∃ S, S = Xaa name := ⟨_, rfl⟩
   rw [← hne] at hc hlen hxl ⊢
   rw [← hS]
   have hih : ∀ (j : Nat) (hj : j < es.length), ∃ b off, A = some ⟨b, off, none⟩ ∧ b < B ∧
     w0.cell? ⟨b, off + j * 5, none⟩ = some (.int .i64 es[j].kind) ∧ w0.cell? ⟨b, off + j * 5 + 1, none⟩ = some (.int .i64 es[j].pl) ∧ w0.cell? ⟨b, off + j * 5 + 2, none⟩ = some (.int .i64 es[j].num) ∧
     w0.cell? ⟨b, off + j * 5 + 3, none⟩ = some (.string (Xaa es[j].name)) ∧ w0.cell? ⟨b, off + j * 5 + 4, none⟩ = some (f j) ∧
     ∀ (hx : j < xs.length) (w : World), Below B w0 w → B ≤ w.heap.size →
      Calls Tryz.prog 63 #[.agg #[.int .i64 es[j].kind, .int .i64 es[j].pl, .int .i64 es[j].num, .string (Xaa es[j].name), f j]] w
       fun e w' => ∃ v, e = .returned v ∧ Xau w' w.heap.size v xs[j] ∧ xs[j] ≠ [] ∧ Below w.heap.size w w' := fun j hj => by
    obtain ⟨b, off, h1, h2, h3, h4, h5, h6, h7, h8⟩ := hA j hj
    refine ⟨b, off, h1, h2, h4, h5, h6, h7, h8, fun hx w a1 a2 => ?_⟩
    obtain ⟨d', c', hp⟩ := Xjn _ _ _ _ _ hxs j hj hx
    have hpl := Xmb (xs := xs) j hx
    have hp2 := hp
    rw [← Ex.eta es[j]] at hp2
    have := ih j hj es[j].kind es[j].pl es[j].num d' c' es[j].name xs[j] w hp2 (by omega) a1 a2
    exact this.mono fun e w' ⟨v, e1, e2, e3⟩ => ⟨v, e1, e2, Xpl hp, e3⟩
   have HH := lh hih
   have HXN : Hid (∀ (j : Nat) (hx : j < xs.length), xs[j] ≠ []) := lh (fun j hx => by
    obtain ⟨d', c', hp⟩ := Xjn _ _ _ _ _ hxs j (by omega) hx
    exact Xpl hp)
   have HXL : Hid (∀ (j : Nat) (hx : j < xs.length), xs[j].length ≤ 100000) := lh (fun j hx => by have := Xmb (xs := xs) j hx; omega)
   have HNE := lh hne
   have HN := lh hxl
   have HLEN := lh hlen
   have HT := lh hT
   have HS := lh hS
   have HB := lh hb
   have HHD := lh hhead
   have hne3 : ne ≤ 3 := by rw [hlen]; unfold argsN; split <;> (try split) <;> (try split) <;> omega
   clear hsum ho hne hS hih hxs hpen hhead hlen hT hTl hb hA hr ih hxl
   go_enter Tryz.func63, Tryz.ntmps63
   go_upto_region 1 with fail
   have hrow := heap_alloc_new w (.cells #[.int .i64 k, .int .i64 p, .int .i64 num, .string S, .slice A ne c] 35)
   have hbX : Below w.heap.size w (w.alloc (.cells #[.int .i64 k, .int .i64 p, .int .i64 num, .string S, .slice A ne c] 35)) := (Below.refl _ _).alloc (Nat.le_refl _) _
   have hsX : (w.alloc (.cells #[.int .i64 k, .int .i64 p, .int .i64 num, .string S, .slice A ne c] 35)).heap.size = w.heap.size + 1 := by simp
   generalize w.alloc (.cells #[.int .i64 k, .int .i64 p, .int .i64 num, .string S, .slice A ne c] 35) = X at hrow hbX hsX ⊢
   obtain ⟨g, hg⟩ : ∃ g, g = w.heap.size := ⟨_, rfl⟩
   rw [← hg] at hrow hsX ⊢
   have hcells : ∀ V : World, Below X.heap.size X V → V.cell? ⟨g, 0, none⟩ = some (.int .i64 k) ∧ V.cell? ⟨g, 2, none⟩ = some (.int .i64 num) ∧ V.cell? ⟨g, 3, none⟩ = some (.string S) ∧ V.cell? ⟨g, 4, none⟩ = some (.slice A ne c) := fun V hV => by
    have e := (hV.block g (by omega)).trans hrow
    exact ⟨cell_of_row V g 0 _ _ (0, 0) e, cell_of_row V g 2 _ _ (0, 0) e, cell_of_row V g 3 _ _ (0, 0) e, cell_of_row V g 4 _ _ (0, 0) e⟩
   have HG := lh hg
   have HBX := lh hbX
   have HC := lh hcells
   obtain ⟨g1, hg1⟩ : ∃ g1, g1 = X.heap.size := ⟨_, rfl⟩
   have HG1 := lh hg1
   have HE := lh (Xcs.empty (w := X) (base := g1) (by omega))
   have HBE := lh ((Below.refl g1 X).alloc (by omega) (.cells #[] 53))
   clear hg hbX hrow hsX hcells hg1
   go_wp2
   go_loopw [3, 4] (fun o i wr => ∃ (j : Nat) (vs : List Value) (A3 : Option Addr) (c3 : Nat), j ≤ ne ∧ i = .int .i64 j ∧ o = .slice A3 j c3 ∧ Hid (Xcs wr g1 (.slice A3 j c3) vs (xs.take j)) ∧ Hid (Below g1 X wr)) (fun _ i _ => ne - (intOf i).toNat)
   case atStart => exact ⟨0, [], _, 0, Nat.zero_le _, rfl, rfl, HE, HBE⟩
   case round =>
    obtain ⟨wo, rfl⟩ : ∃ wo : World, wo = wr := ⟨_, rfl⟩
    obtain ⟨j, vs, A3, c3, hj, rfl, rfl, HO, HBL⟩ := hrel
    have hbl : Below X.heap.size X wo := HG1.out ▸ HBL.out
    obtain ⟨c0, c2, c3', c4⟩ := HC.out wo hbl
    have hgo : g1 ≤ wo.heap.size := by rw [HG1.out]; exact hbl.size
    by_cases hlt : j < ne
    · have hje : j < es.length := by rw [← HNE.out]; exact hlt
      have hjx : j < xs.length := by rw [HN.out]; exact hlt
      obtain ⟨b, off, rfl, hbB, p0, p1, p2, p3, p4, hcc⟩ := HH.out j hje
      obtain ⟨Z, hZ⟩ : ∃ Z, Z = es[j] := ⟨_, rfl⟩
      rw [← hZ] at p0 p1 p2 p3 hcc
      have hbw : Below B w0 wo := HB.out.trans ((HBX.out.trans (hbl.mono HBX.out.size)).mono hB)
      have hsx : B ≤ wo.heap.size := Nat.le_trans hB (Nat.le_trans HBX.out.size hbl.size)
      have r0 := (hbw.cell (p := ⟨b, off + j * 5, none⟩) hbB).trans p0
      have r1 := (hbw.cell (p := ⟨b, off + j * 5 + 1, none⟩) hbB).trans p1
      have r2 := (hbw.cell (p := ⟨b, off + j * 5 + 2, none⟩) hbB).trans p2
      have r3 := (hbw.cell (p := ⟨b, off + j * 5 + 3, none⟩) hbB).trans p3
      have r4 := (hbw.cell (p := ⟨b, off + j * 5 + 4, none⟩) hbB).trans p4
      obtain ⟨yk, hyk⟩ : ∃ x, x = Z.kind := ⟨_, rfl⟩
      obtain ⟨yp, hyp⟩ : ∃ x, x = Z.pl := ⟨_, rfl⟩
      obtain ⟨yn, hyn⟩ : ∃ x, x = Z.num := ⟨_, rfl⟩
      obtain ⟨ys, hys⟩ : ∃ x, x = Xaa Z.name := ⟨_, rfl⟩
      obtain ⟨yv, hyv⟩ : ∃ x, x = f j := ⟨_, rfl⟩
      rw [← hyk, ← hyp, ← hyn, ← hys, ← hyv] at hcc
      rw [← hyk] at r0
      rw [← hyp] at r1
      rw [← hyn] at r2
      rw [← hys] at r3
      rw [← hyv] at r4
      have HCC := lh (hcc hjx wo hbw hsx)
      obtain ⟨xj, hxj⟩ : ∃ xj, xj = xs[j] := ⟨_, rfl⟩
      rw [← hxj] at HCC
      have HNX : Hid (xs.take j ++ [xj] = xs.take (j + 1)) := lh (by rw [List.take_succ_eq_append_getElem hjx, hxj])
      have HTJ : Hid ((xs.take j).length = j) := lh (by rw [List.length_take]; omega)
      have HGO := lh hgo
      have hwj : IntKind.i64.wrap ((j : Int) + 1) = (j : Int) + 1 := IntWalk.i64_in _ ⟨by omega, by omega⟩
      clear hyk hyp hyn hys hyv HH hZ hje p0 p1 p2 p3 p4 hcc hbw hbl hgo hxj hjx
      go_wp2_with (first
       | ((with_reducible refine HCC.out.mono ?_); rintro e w1 ⟨v1, rfl, hown1, hne1, hb1⟩; have HO1 := lh (hown1.inn hne1); have HB1 := lh hb1; obtain ⟨G1, C1, CUR1, hv1, -⟩ := hown1.inn hne1; subst hv1; clear hown1 hne1 hb1)
       | (at_builtin; refine Xin rfl _ _ rfl g1 (.slice A3 j c3) vs (xs.take j) rfl ((HO.out.keep HB1.out).alloc _) w1.heap.size 1 _ xj rfl (one_row w1 _) (HO1.out.below ((Below.refl _ _).alloc (Nat.le_refl _) _) (Nat.le_refl _) (by simp)) (by rw [HTJ.out]; omega) (by have h1 := HGO.out; have h2 := HB1.out.size; simp; omega) ?_; intro v4 w4 hown4 hb4; rw [HNX.out] at hown4; obtain ⟨A4, c4', hv4⟩ := hown4.form; have hl4 : (xs.take (j + 1)).length = j + 1 := (by rw [← HNX.out, List.length_append, HTJ.out]; rfl); rw [hl4] at hv4; subst hv4; have HO4 := lh hown4; have HB4 := lh (HBL.out.trans ((((HB1.out).mono HGO.out).alloc (Nat.le_trans HGO.out HB1.out.size) _).trans hb4)); clear hown4 hb4 hl4))
      go_roundw
      case rel => exact ⟨j + 1, _, A4, c4', by omega, by go_num, rfl, HO4, HB4⟩
      case measure => first | (simp [intOf]; done) | (simp [intOf]; omega)
    · have hje : j = ne := by omega
      have hx : xs.take j = xs := List.take_of_length_le (by rw [HN.out]; omega)
      rw [hx] at HO
      obtain ⟨g2, hg2⟩ : ∃ g2, g2 = wo.heap.size := ⟨_, rfl⟩
      have hfin : ∀ (V : World) (v : Value) (L : List (List UInt8)), Xau V g2 v L → Below g2 wo V → L = T → Xau V g v T ∧ Below g w V := fun V v L h1 h2 h3 => by
       subst h3
       have h4 := HBX.out.size
       have h5 := hbl.size
       have h6 := HG.out
       refine ⟨h1.base (by omega), ?_⟩
       have h7 : Below w.heap.size w V := HBX.out.trans ((hbl.mono HBX.out.size).trans (h2.mono (by omega)))
       exact h6 ▸ h7
      have hcell : ∀ V : World, Below g2 wo V → V.cell? ⟨g, 0, none⟩ = some (.int .i64 k) ∧ V.cell? ⟨g, 2, none⟩ = some (.int .i64 num) ∧ V.cell? ⟨g, 3, none⟩ = some (.string S) := fun V hV => by
       obtain ⟨a0, a2, a3, _⟩ := HC.out V (hbl.trans (hV.mono (by have := HG1.out; omega)))
       exact ⟨a0, a2, a3⟩
      have hxat : ∀ (i : Nat) (hi : i < xs.length), ∃ gx cx u, (A3 = some ⟨gx, 0, none⟩ ∧ c3 = cx) ∧ Xeo wo g2 u xs[i] ∧ ∀ V : World, Below g2 wo V → V.cell? ⟨gx, i, none⟩ = some u := fun i hi => by
       obtain ⟨gx, cx, u, e1, e2, e3, e4⟩ := HO.out.get i hi
       injection e1 with e5 e6 e7
       refine ⟨gx, cx, u, ⟨e5, e7⟩, hg2 ▸ e4, fun V hV => ?_⟩
       exact (hV.cell (p := ⟨gx, i, none⟩) (by show gx < g2; omega)).trans e3
      have HF := lh hfin
      have HCE := lh hcell
      have HXA := lh hxat
      have HG2 := lh hg2
      have HO0 := lh (Xau.empty (w := wo) (base := g2) (by omega))
      have hb0 := (Below.refl g2 wo).alloc (by omega) (.cells #[] 9)
      have HB0 := lh hb0
      have HS0 : Hid (g2 ≤ (wo.alloc (.cells #[] 9)).heap.size) := lh (by simp; omega)
      obtain ⟨e0, e2, e3⟩ := hcell _ hb0
      clear hx hfin hcell hxat hg2 hb0 hlt hbl hgo HC HBX HH HBE HE HBL HO hj c0 c2 c3'
      rcases Xse k1 k13 with rfl | rfl | rfl | rfl | rfl | rfl | rfl | rfl | rfl | rfl | rfl | rfl | rfl
      · as_aux_lemma =>
        obtain rfl : xs = [] := List.eq_nil_of_length_eq_zero (HN.out.trans HLEN.out)
        obtain ⟨u, rfl, hu⟩ : ∃ u : Nat, num = (u : Int) ∧ u < 1000000000000000000 := by
         have h := HHD.out
         unfold Xcj at h
         rw [if_pos rfl] at h
         have h2 := of_decide_eq_true h
         exact ⟨num.toNat, by omega, by omega⟩
        have HFT : Hid (T = [] ++ [Lib.itoa u]) := lh (by rw [HT.out]; simp [Xbg])
        have HSH := lh (Xoa u hu)
        clear HT HXA
        go_wp2_with (first
         | (go_at_call 34; refine (HSH.out _).mono ?_; rintro e w7 ⟨rfl, hb7⟩; have hs7 := hb7.size; have HO7 := lh (HO0.out.below hb7); have HB7 := lh (HB0.out.trans (hb7.mono HS0.out)); have HS7 : Hid (g2 ≤ w7.heap.size) := lh (Nat.le_trans HS0.out hs7); clear hb7 hs7)
         | (at_builtin; refine Xcd rfl _ _ rfl g2 0 (.slice (some ⟨wo.heap.size, 0, none⟩) 0 0) [] rfl HO7.out (#[.string (Xaa (Lib.itoa u))]) 1 [Lib.itoa u] rfl (by omega) rfl _ (by simp) rfl (by simp) (by omega) (by simp) HS7.out HB7.out ?_; intro gA1 cA1 wA1 LA1 NA1 hL1 hN1 hl1 hown1 hs1 hb1; have HL1 := lh hL1; have HO1 := lh hown1; have HB1 := lh hb1; clear hL1 hN1 hl1 hown1 hs1 hb1))
        go_ret
        obtain ⟨hz1, hz2⟩ := HF.out _ _ _ HO1.out HB1.out (by rw [HFT.out, HL1.out])
        exact ⟨_, rfl, by rw [← HG.out]; exact hz1, by rw [← HG.out]; exact hz2⟩
      · as_aux_lemma =>
        by_cases hn1 : num = 1
        · have qn : (num == 1) = true := by simp; exact hn1
          obtain rfl : xs = [] := List.eq_nil_of_length_eq_zero (HN.out.trans HLEN.out)
          have HFT : Hid (T = [] ++ [[116, 114, 117, 101]]) := lh (by rw [HT.out]; simp [Xbg, hn1])
          clear HT HXA hn1
          go_wp2_with (first
           | (at_builtin; refine Xcd rfl _ _ rfl g2 0 (.slice (some ⟨wo.heap.size, 0, none⟩) 0 0) [] rfl HO0.out (#[.string ⟨#[116, 114, 117, 101]⟩]) 1 [[116, 114, 117, 101]] rfl (by omega) (rfl) _ (by simp) rfl (by simp) (by omega) (by simp) HS0.out HB0.out ?_; intro gA1 cA1 wA1 LA1 NA1 hL1 hN1 hl1 hown1 hs1 hb1; have HL1 := lh hL1; have HK1 := lh hl1; have HO1 := lh hown1; have HB1 := lh hb1; have HS1 := lh hs1; obtain ⟨e0_1, e2_1, e3_1⟩ := HCE.out wA1 hb1; clear hL1 hN1 hl1 hown1 hs1 hb1))
          go_ret
          obtain ⟨hz1, hz2⟩ := HF.out _ _ _ HO1.out HB1.out (by rw [HFT.out, HL1.out])
          exact ⟨_, rfl, by rw [← HG.out]; exact hz1, by rw [← HG.out]; exact hz2⟩
        · have qn : (num == 1) = false := by simp; exact hn1
          obtain rfl : xs = [] := List.eq_nil_of_length_eq_zero (HN.out.trans HLEN.out)
          have HFT : Hid (T = [] ++ [[102, 97, 108, 115, 101]]) := lh (by rw [HT.out]; simp [Xbg, hn1])
          clear HT HXA hn1
          go_wp2_with (first
           | (at_builtin; refine Xcd rfl _ _ rfl g2 0 (.slice (some ⟨wo.heap.size, 0, none⟩) 0 0) [] rfl HO0.out (#[.string ⟨#[102, 97, 108, 115, 101]⟩]) 1 [[102, 97, 108, 115, 101]] rfl (by omega) (rfl) _ (by simp) rfl (by simp) (by omega) (by simp) HS0.out HB0.out ?_; intro gA1 cA1 wA1 LA1 NA1 hL1 hN1 hl1 hown1 hs1 hb1; have HL1 := lh hL1; have HK1 := lh hl1; have HO1 := lh hown1; have HB1 := lh hb1; have HS1 := lh hs1; obtain ⟨e0_1, e2_1, e3_1⟩ := HCE.out wA1 hb1; clear hL1 hN1 hl1 hown1 hs1 hb1))
          go_ret
          obtain ⟨hz1, hz2⟩ := HF.out _ _ _ HO1.out HB1.out (by rw [HFT.out, HL1.out])
          exact ⟨_, rfl, by rw [← HG.out]; exact hz1, by rw [← HG.out]; exact hz2⟩
      · as_aux_lemma =>
        obtain rfl : xs = [] := List.eq_nil_of_length_eq_zero (HN.out.trans HLEN.out)
        have HFT : Hid (T = [] ++ [[110, 105, 108]]) := lh (by rw [HT.out]; simp [Xbg])
        clear HT HXA
        go_wp2_with (first
         | (at_builtin; refine Xcd rfl _ _ rfl g2 0 (.slice (some ⟨wo.heap.size, 0, none⟩) 0 0) [] rfl HO0.out (#[.string ⟨#[110, 105, 108]⟩]) 1 [[110, 105, 108]] rfl (by omega) (rfl) _ (by simp) rfl (by simp) (by omega) (by simp) HS0.out HB0.out ?_; intro gA1 cA1 wA1 LA1 NA1 hL1 hN1 hl1 hown1 hs1 hb1; have HL1 := lh hL1; have HK1 := lh hl1; have HO1 := lh hown1; have HB1 := lh hb1; have HS1 := lh hs1; obtain ⟨e0_1, e2_1, e3_1⟩ := HCE.out wA1 hb1; clear hL1 hN1 hl1 hown1 hs1 hb1))
        go_ret
        obtain ⟨hz1, hz2⟩ := HF.out _ _ _ HO1.out HB1.out (by rw [HFT.out, HL1.out])
        exact ⟨_, rfl, by rw [← HG.out]; exact hz1, by rw [← HG.out]; exact hz2⟩
      · as_aux_lemma =>
        obtain rfl : xs = [] := List.eq_nil_of_length_eq_zero (HN.out.trans HLEN.out)
        have HFT : Hid (T = [] ++ [name]) := lh (by rw [HT.out]; simp [Xbg])
        clear HT HXA
        go_wp2_with (first
         | (at_builtin; refine Xcd rfl _ _ rfl g2 0 (.slice (some ⟨wo.heap.size, 0, none⟩) 0 0) [] rfl HO0.out (#[.string S]) 1 [name] rfl (by omega) (by rw [HS.out]; rfl) _ (by simp) rfl (by simp) (by omega) (by simp) HS0.out HB0.out ?_; intro gA1 cA1 wA1 LA1 NA1 hL1 hN1 hl1 hown1 hs1 hb1; have HL1 := lh hL1; have HK1 := lh hl1; have HO1 := lh hown1; have HB1 := lh hb1; have HS1 := lh hs1; obtain ⟨e0_1, e2_1, e3_1⟩ := HCE.out wA1 hb1; clear hL1 hN1 hl1 hown1 hs1 hb1))
        go_ret
        obtain ⟨hz1, hz2⟩ := HF.out _ _ _ HO1.out HB1.out (by rw [HFT.out, HL1.out])
        exact ⟨_, rfl, by rw [← HG.out]; exact hz1, by rw [← HG.out]; exact hz2⟩
      · as_aux_lemma =>
        obtain ⟨X0, rfl⟩ : ∃ X0, xs = [X0] := by
         have hl : xs.length = 1 := HN.out.trans HLEN.out
         match xs, hl with
         | [a0], _ => exact ⟨a0, rfl⟩
        obtain rfl : ne = 1 := by rw [HLEN.out]; rfl
        subst hje
        obtain ⟨GX0, CX0, U0, ⟨hA0, hc0'⟩, hin0, hxc0⟩ := HXA.out 0 (by simp)
        subst hA0
        subst hc0'
        have HX0 := lh hin0
        have HXC0 := lh hxc0
        have HXN0 : Hid (X0 ≠ []) := lh (HXN.out 0 (by simp))
        have HXL0 : Hid (X0.length ≤ 100000) := lh (HXL.out 0 (by simp))
        have ex0_0 := HXC0.out _ HB0.out
        obtain ⟨GU0, CU0, CURU0, hU0, -⟩ := hin0
        clear hxc0
        subst hU0
        have HFT : Hid (T = [] ++ X0 ++ [[46], name]) := lh (by rw [HT.out]; simp [Xbg])
        clear HT HXA
        go_wp2_with (first
         | (at_builtin; refine Xfz rfl _ _ rfl g2 0 (.slice (some ⟨wo.heap.size, 0, none⟩) 0 0) [] rfl HO0.out (.slice (some ⟨GU0, 0, none⟩) X0.length CU0) X0 HX0.out HXN0.out rfl (by simp) (by omega) HXL0.out HS0.out HB0.out ?_; intro gA1 cA1 wA1 LA1 NA1 hL1 hN1 hl1 hown1 hs1 hb1; have HL1 := lh hL1; have HK1 := lh hl1; have HO1 := lh hown1; have HB1 := lh hb1; have HS1 := lh hs1; obtain ⟨e0_1, e2_1, e3_1⟩ := HCE.out wA1 hb1; clear hL1 hN1 hl1 hown1 hs1 hb1)
         | (at_builtin; refine Xcd rfl _ _ rfl g2 100000 (.slice (some ⟨gA1, 0, none⟩) NA1 cA1) LA1 rfl HO1.out (#[.string ⟨#[46]⟩, .string S]) 2 [[46], name] rfl (by omega) (by rw [HS.out]; rfl) _ (by simp) rfl HK1.out (by omega) (by simp) HS1.out HB1.out ?_; intro gA2 cA2 wA2 LA2 NA2 hL2 hN2 hl2 hown2 hs2 hb2; have HL2 := lh hL2; have HK2 := lh hl2; have HO2 := lh hown2; have HB2 := lh hb2; have HS2 := lh hs2; obtain ⟨e0_2, e2_2, e3_2⟩ := HCE.out wA2 hb2; clear hL2 hN2 hl2 hown2 hs2 hb2))
        go_ret
        obtain ⟨hz1, hz2⟩ := HF.out _ _ _ HO2.out HB2.out (by rw [HFT.out, HL2.out, HL1.out])
        exact ⟨_, rfl, by rw [← HG.out]; exact hz1, by rw [← HG.out]; exact hz2⟩
      · as_aux_lemma =>
        obtain ⟨X0, X1, rfl⟩ : ∃ X0 X1, xs = [X0, X1] := by
         have hl : xs.length = 2 := HN.out.trans HLEN.out
         match xs, hl with
         | [a0, a1], _ => exact ⟨a0, a1, rfl⟩
        obtain rfl : ne = 2 := by rw [HLEN.out]; rfl
        subst hje
        obtain ⟨GX0, CX0, U0, ⟨hA0, hc0'⟩, hin0, hxc0⟩ := HXA.out 0 (by simp)
        subst hA0
        subst hc0'
        have HX0 := lh hin0
        have HXC0 := lh hxc0
        have HXN0 : Hid (X0 ≠ []) := lh (HXN.out 0 (by simp))
        have HXL0 : Hid (X0.length ≤ 100000) := lh (HXL.out 0 (by simp))
        have ex0_0 := HXC0.out _ HB0.out
        obtain ⟨GU0, CU0, CURU0, hU0, -⟩ := hin0
        clear hxc0
        obtain ⟨GX1, CX1, U1, ⟨hA1, hc1'⟩, hin1, hxc1⟩ := HXA.out 1 (by simp)
        obtain rfl : GX0 = GX1 := by injection hA1 with h; injection h
        have HX1 := lh hin1
        have HXC1 := lh hxc1
        have HXN1 : Hid (X1 ≠ []) := lh (HXN.out 1 (by simp))
        have HXL1 : Hid (X1.length ≤ 100000) := lh (HXL.out 1 (by simp))
        have ex0_1 := HXC1.out _ HB0.out
        obtain ⟨GU1, CU1, CURU1, hU1, -⟩ := hin1
        clear hxc1
        subst hU0
        subst hU1
        have HFT : Hid (T = [] ++ X0 ++ [[91]] ++ X1 ++ [[93]]) := lh (by rw [HT.out]; simp [Xbg])
        clear HT HXA
        go_wp2_with (first
         | (at_builtin; refine Xfz rfl _ _ rfl g2 0 (.slice (some ⟨wo.heap.size, 0, none⟩) 0 0) [] rfl HO0.out (.slice (some ⟨GU0, 0, none⟩) X0.length CU0) X0 HX0.out HXN0.out rfl (by simp) (by omega) HXL0.out HS0.out HB0.out ?_; intro gA1 cA1 wA1 LA1 NA1 hL1 hN1 hl1 hown1 hs1 hb1; have HL1 := lh hL1; have HK1 := lh hl1; have HO1 := lh hown1; have HB1 := lh hb1; have HS1 := lh hs1; obtain ⟨e0_1, e2_1, e3_1⟩ := HCE.out wA1 hb1; have ex1_1 := HXC1.out wA1 hb1; clear hL1 hN1 hl1 hown1 hs1 hb1)
         | (at_builtin; refine Xcd rfl _ _ rfl g2 100000 (.slice (some ⟨gA1, 0, none⟩) NA1 cA1) LA1 rfl HO1.out (#[.string ⟨#[91]⟩]) 1 [[91]] rfl (by omega) (rfl) _ (by simp) rfl HK1.out (by omega) (by simp) HS1.out HB1.out ?_; intro gA2 cA2 wA2 LA2 NA2 hL2 hN2 hl2 hown2 hs2 hb2; have HL2 := lh hL2; have HK2 := lh hl2; have HO2 := lh hown2; have HB2 := lh hb2; have HS2 := lh hs2; obtain ⟨e0_2, e2_2, e3_2⟩ := HCE.out wA2 hb2; have ex2_1 := HXC1.out wA2 hb2; clear hL2 hN2 hl2 hown2 hs2 hb2)
         | (at_builtin; refine Xfz rfl _ _ rfl g2 200000 (.slice (some ⟨gA2, 0, none⟩) NA2 cA2) LA2 rfl HO2.out (.slice (some ⟨GU1, 0, none⟩) X1.length CU1) X1 HX1.out HXN1.out rfl HK2.out (by omega) HXL1.out HS2.out HB2.out ?_; intro gA3 cA3 wA3 LA3 NA3 hL3 hN3 hl3 hown3 hs3 hb3; have HL3 := lh hL3; have HK3 := lh hl3; have HO3 := lh hown3; have HB3 := lh hb3; have HS3 := lh hs3; obtain ⟨e0_3, e2_3, e3_3⟩ := HCE.out wA3 hb3; clear hL3 hN3 hl3 hown3 hs3 hb3)
         | (at_builtin; refine Xcd rfl _ _ rfl g2 300000 (.slice (some ⟨gA3, 0, none⟩) NA3 cA3) LA3 rfl HO3.out (#[.string ⟨#[93]⟩]) 1 [[93]] rfl (by omega) (rfl) _ (by simp) rfl HK3.out (by omega) (by simp) HS3.out HB3.out ?_; intro gA4 cA4 wA4 LA4 NA4 hL4 hN4 hl4 hown4 hs4 hb4; have HL4 := lh hL4; have HK4 := lh hl4; have HO4 := lh hown4; have HB4 := lh hb4; have HS4 := lh hs4; obtain ⟨e0_4, e2_4, e3_4⟩ := HCE.out wA4 hb4; clear hL4 hN4 hl4 hown4 hs4 hb4))
        go_ret
        obtain ⟨hz1, hz2⟩ := HF.out _ _ _ HO4.out HB4.out (by rw [HFT.out, HL4.out, HL3.out, HL2.out, HL1.out])
        exact ⟨_, rfl, by rw [← HG.out]; exact hz1, by rw [← HG.out]; exact hz2⟩
      · as_aux_lemma =>
        obtain ⟨X0, X1, X2, rfl⟩ : ∃ X0 X1 X2, xs = [X0, X1, X2] := by
         have hl : xs.length = 3 := HN.out.trans HLEN.out
         match xs, hl with
         | [a0, a1, a2], _ => exact ⟨a0, a1, a2, rfl⟩
        obtain rfl : ne = 3 := by rw [HLEN.out]; rfl
        subst hje
        obtain ⟨GX0, CX0, U0, ⟨hA0, hc0'⟩, hin0, hxc0⟩ := HXA.out 0 (by simp)
        subst hA0
        subst hc0'
        have HX0 := lh hin0
        have HXC0 := lh hxc0
        have HXN0 : Hid (X0 ≠ []) := lh (HXN.out 0 (by simp))
        have HXL0 : Hid (X0.length ≤ 100000) := lh (HXL.out 0 (by simp))
        have ex0_0 := HXC0.out _ HB0.out
        obtain ⟨GU0, CU0, CURU0, hU0, -⟩ := hin0
        clear hxc0
        obtain ⟨GX1, CX1, U1, ⟨hA1, hc1'⟩, hin1, hxc1⟩ := HXA.out 1 (by simp)
        obtain rfl : GX0 = GX1 := by injection hA1 with h; injection h
        have HX1 := lh hin1
        have HXC1 := lh hxc1
        have HXN1 : Hid (X1 ≠ []) := lh (HXN.out 1 (by simp))
        have HXL1 : Hid (X1.length ≤ 100000) := lh (HXL.out 1 (by simp))
        have ex0_1 := HXC1.out _ HB0.out
        obtain ⟨GU1, CU1, CURU1, hU1, -⟩ := hin1
        clear hxc1
        obtain ⟨GX2, CX2, U2, ⟨hA2, hc2'⟩, hin2, hxc2⟩ := HXA.out 2 (by simp)
        obtain rfl : GX0 = GX2 := by injection hA2 with h; injection h
        have HX2 := lh hin2
        have HXC2 := lh hxc2
        have HXN2 : Hid (X2 ≠ []) := lh (HXN.out 2 (by simp))
        have HXL2 : Hid (X2.length ≤ 100000) := lh (HXL.out 2 (by simp))
        have ex0_2 := HXC2.out _ HB0.out
        obtain ⟨GU2, CU2, CURU2, hU2, -⟩ := hin2
        clear hxc2
        subst hU0
        subst hU1
        subst hU2
        have HFT : Hid (T = [] ++ X0 ++ [[91]] ++ X1 ++ [[58]] ++ X2 ++ [[93]]) := lh (by rw [HT.out]; simp [Xbg])
        clear HT HXA
        go_wp2_with (first
         | (at_builtin; refine Xfz rfl _ _ rfl g2 0 (.slice (some ⟨wo.heap.size, 0, none⟩) 0 0) [] rfl HO0.out (.slice (some ⟨GU0, 0, none⟩) X0.length CU0) X0 HX0.out HXN0.out rfl (by simp) (by omega) HXL0.out HS0.out HB0.out ?_; intro gA1 cA1 wA1 LA1 NA1 hL1 hN1 hl1 hown1 hs1 hb1; have HL1 := lh hL1; have HK1 := lh hl1; have HO1 := lh hown1; have HB1 := lh hb1; have HS1 := lh hs1; obtain ⟨e0_1, e2_1, e3_1⟩ := HCE.out wA1 hb1; have ex1_1 := HXC1.out wA1 hb1; clear hL1 hN1 hl1 hown1 hs1 hb1)
         | (at_builtin; refine Xcd rfl _ _ rfl g2 100000 (.slice (some ⟨gA1, 0, none⟩) NA1 cA1) LA1 rfl HO1.out (#[.string ⟨#[91]⟩]) 1 [[91]] rfl (by omega) (rfl) _ (by simp) rfl HK1.out (by omega) (by simp) HS1.out HB1.out ?_; intro gA2 cA2 wA2 LA2 NA2 hL2 hN2 hl2 hown2 hs2 hb2; have HL2 := lh hL2; have HK2 := lh hl2; have HO2 := lh hown2; have HB2 := lh hb2; have HS2 := lh hs2; obtain ⟨e0_2, e2_2, e3_2⟩ := HCE.out wA2 hb2; have ex2_1 := HXC1.out wA2 hb2; clear hL2 hN2 hl2 hown2 hs2 hb2)
         | (at_builtin; refine Xfz rfl _ _ rfl g2 200000 (.slice (some ⟨gA2, 0, none⟩) NA2 cA2) LA2 rfl HO2.out (.slice (some ⟨GU1, 0, none⟩) X1.length CU1) X1 HX1.out HXN1.out rfl HK2.out (by omega) HXL1.out HS2.out HB2.out ?_; intro gA3 cA3 wA3 LA3 NA3 hL3 hN3 hl3 hown3 hs3 hb3; have HL3 := lh hL3; have HK3 := lh hl3; have HO3 := lh hown3; have HB3 := lh hb3; have HS3 := lh hs3; obtain ⟨e0_3, e2_3, e3_3⟩ := HCE.out wA3 hb3; have ex3_2 := HXC2.out wA3 hb3; clear hL3 hN3 hl3 hown3 hs3 hb3)
         | (at_builtin; refine Xcd rfl _ _ rfl g2 300000 (.slice (some ⟨gA3, 0, none⟩) NA3 cA3) LA3 rfl HO3.out (#[.string ⟨#[58]⟩]) 1 [[58]] rfl (by omega) (rfl) _ (by simp) rfl HK3.out (by omega) (by simp) HS3.out HB3.out ?_; intro gA4 cA4 wA4 LA4 NA4 hL4 hN4 hl4 hown4 hs4 hb4; have HL4 := lh hL4; have HK4 := lh hl4; have HO4 := lh hown4; have HB4 := lh hb4; have HS4 := lh hs4; obtain ⟨e0_4, e2_4, e3_4⟩ := HCE.out wA4 hb4; have ex4_2 := HXC2.out wA4 hb4; clear hL4 hN4 hl4 hown4 hs4 hb4)
         | (at_builtin; refine Xfz rfl _ _ rfl g2 400000 (.slice (some ⟨gA4, 0, none⟩) NA4 cA4) LA4 rfl HO4.out (.slice (some ⟨GU2, 0, none⟩) X2.length CU2) X2 HX2.out HXN2.out rfl HK4.out (by omega) HXL2.out HS4.out HB4.out ?_; intro gA5 cA5 wA5 LA5 NA5 hL5 hN5 hl5 hown5 hs5 hb5; have HL5 := lh hL5; have HK5 := lh hl5; have HO5 := lh hown5; have HB5 := lh hb5; have HS5 := lh hs5; obtain ⟨e0_5, e2_5, e3_5⟩ := HCE.out wA5 hb5; clear hL5 hN5 hl5 hown5 hs5 hb5)
         | (at_builtin; refine Xcd rfl _ _ rfl g2 500000 (.slice (some ⟨gA5, 0, none⟩) NA5 cA5) LA5 rfl HO5.out (#[.string ⟨#[93]⟩]) 1 [[93]] rfl (by omega) (rfl) _ (by simp) rfl HK5.out (by omega) (by simp) HS5.out HB5.out ?_; intro gA6 cA6 wA6 LA6 NA6 hL6 hN6 hl6 hown6 hs6 hb6; have HL6 := lh hL6; have HK6 := lh hl6; have HO6 := lh hown6; have HB6 := lh hb6; have HS6 := lh hs6; obtain ⟨e0_6, e2_6, e3_6⟩ := HCE.out wA6 hb6; clear hL6 hN6 hl6 hown6 hs6 hb6))
        go_ret
        obtain ⟨hz1, hz2⟩ := HF.out _ _ _ HO6.out HB6.out (by rw [HFT.out, HL6.out, HL5.out, HL4.out, HL3.out, HL2.out, HL1.out])
        exact ⟨_, rfl, by rw [← HG.out]; exact hz1, by rw [← HG.out]; exact hz2⟩
      · as_aux_lemma =>
        obtain ⟨X0, rfl⟩ : ∃ X0, xs = [X0] := by
         have hl : xs.length = 1 := HN.out.trans HLEN.out
         match xs, hl with
         | [a0], _ => exact ⟨a0, rfl⟩
        obtain rfl : ne = 1 := by rw [HLEN.out]; rfl
        subst hje
        obtain ⟨GX0, CX0, U0, ⟨hA0, hc0'⟩, hin0, hxc0⟩ := HXA.out 0 (by simp)
        subst hA0
        subst hc0'
        have HX0 := lh hin0
        have HXC0 := lh hxc0
        have HXN0 : Hid (X0 ≠ []) := lh (HXN.out 0 (by simp))
        have HXL0 : Hid (X0.length ≤ 100000) := lh (HXL.out 0 (by simp))
        have ex0_0 := HXC0.out _ HB0.out
        obtain ⟨GU0, CU0, CURU0, hU0, -⟩ := hin0
        clear hxc0
        subst hU0
        have HFT : Hid (T = [] ++ [[108, 101, 110], [40]] ++ X0 ++ [[41]]) := lh (by rw [HT.out]; simp [Xbg])
        clear HT HXA
        go_wp2_with (first
         | (at_builtin; refine Xcd rfl _ _ rfl g2 0 (.slice (some ⟨wo.heap.size, 0, none⟩) 0 0) [] rfl HO0.out (#[.string ⟨#[108, 101, 110]⟩, .string ⟨#[40]⟩]) 2 [[108, 101, 110], [40]] rfl (by omega) (rfl) _ (by simp) rfl (by simp) (by omega) (by simp) HS0.out HB0.out ?_; intro gA1 cA1 wA1 LA1 NA1 hL1 hN1 hl1 hown1 hs1 hb1; have HL1 := lh hL1; have HK1 := lh hl1; have HO1 := lh hown1; have HB1 := lh hb1; have HS1 := lh hs1; obtain ⟨e0_1, e2_1, e3_1⟩ := HCE.out wA1 hb1; have ex1_0 := HXC0.out wA1 hb1; clear hL1 hN1 hl1 hown1 hs1 hb1)
         | (at_builtin; refine Xfz rfl _ _ rfl g2 100000 (.slice (some ⟨gA1, 0, none⟩) NA1 cA1) LA1 rfl HO1.out (.slice (some ⟨GU0, 0, none⟩) X0.length CU0) X0 HX0.out HXN0.out rfl HK1.out (by omega) HXL0.out HS1.out HB1.out ?_; intro gA2 cA2 wA2 LA2 NA2 hL2 hN2 hl2 hown2 hs2 hb2; have HL2 := lh hL2; have HK2 := lh hl2; have HO2 := lh hown2; have HB2 := lh hb2; have HS2 := lh hs2; obtain ⟨e0_2, e2_2, e3_2⟩ := HCE.out wA2 hb2; clear hL2 hN2 hl2 hown2 hs2 hb2)
         | (at_builtin; refine Xcd rfl _ _ rfl g2 200000 (.slice (some ⟨gA2, 0, none⟩) NA2 cA2) LA2 rfl HO2.out (#[.string ⟨#[41]⟩]) 1 [[41]] rfl (by omega) (rfl) _ (by simp) rfl HK2.out (by omega) (by simp) HS2.out HB2.out ?_; intro gA3 cA3 wA3 LA3 NA3 hL3 hN3 hl3 hown3 hs3 hb3; have HL3 := lh hL3; have HK3 := lh hl3; have HO3 := lh hown3; have HB3 := lh hb3; have HS3 := lh hs3; obtain ⟨e0_3, e2_3, e3_3⟩ := HCE.out wA3 hb3; clear hL3 hN3 hl3 hown3 hs3 hb3))
        go_ret
        obtain ⟨hz1, hz2⟩ := HF.out _ _ _ HO3.out HB3.out (by rw [HFT.out, HL3.out, HL2.out, HL1.out])
        exact ⟨_, rfl, by rw [← HG.out]; exact hz1, by rw [← HG.out]; exact hz2⟩
      · as_aux_lemma =>
        obtain ⟨X0, rfl⟩ : ∃ X0, xs = [X0] := by
         have hl : xs.length = 1 := HN.out.trans HLEN.out
         match xs, hl with
         | [a0], _ => exact ⟨a0, rfl⟩
        obtain rfl : ne = 1 := by rw [HLEN.out]; rfl
        subst hje
        obtain ⟨GX0, CX0, U0, ⟨hA0, hc0'⟩, hin0, hxc0⟩ := HXA.out 0 (by simp)
        subst hA0
        subst hc0'
        have HX0 := lh hin0
        have HXC0 := lh hxc0
        have HXN0 : Hid (X0 ≠ []) := lh (HXN.out 0 (by simp))
        have HXL0 : Hid (X0.length ≤ 100000) := lh (HXL.out 0 (by simp))
        have ex0_0 := HXC0.out _ HB0.out
        obtain ⟨GU0, CU0, CURU0, hU0, -⟩ := hin0
        clear hxc0
        subst hU0
        have HFT : Hid (T = [] ++ [[40], name] ++ X0 ++ [[41]]) := lh (by rw [HT.out]; simp [Xbg])
        clear HT HXA
        go_wp2_with (first
         | (at_builtin; refine Xcd rfl _ _ rfl g2 0 (.slice (some ⟨wo.heap.size, 0, none⟩) 0 0) [] rfl HO0.out (#[.string ⟨#[40]⟩, .string S]) 2 [[40], name] rfl (by omega) (by rw [HS.out]; rfl) _ (by simp) rfl (by simp) (by omega) (by simp) HS0.out HB0.out ?_; intro gA1 cA1 wA1 LA1 NA1 hL1 hN1 hl1 hown1 hs1 hb1; have HL1 := lh hL1; have HK1 := lh hl1; have HO1 := lh hown1; have HB1 := lh hb1; have HS1 := lh hs1; obtain ⟨e0_1, e2_1, e3_1⟩ := HCE.out wA1 hb1; have ex1_0 := HXC0.out wA1 hb1; clear hL1 hN1 hl1 hown1 hs1 hb1)
         | (at_builtin; refine Xfz rfl _ _ rfl g2 100000 (.slice (some ⟨gA1, 0, none⟩) NA1 cA1) LA1 rfl HO1.out (.slice (some ⟨GU0, 0, none⟩) X0.length CU0) X0 HX0.out HXN0.out rfl HK1.out (by omega) HXL0.out HS1.out HB1.out ?_; intro gA2 cA2 wA2 LA2 NA2 hL2 hN2 hl2 hown2 hs2 hb2; have HL2 := lh hL2; have HK2 := lh hl2; have HO2 := lh hown2; have HB2 := lh hb2; have HS2 := lh hs2; obtain ⟨e0_2, e2_2, e3_2⟩ := HCE.out wA2 hb2; clear hL2 hN2 hl2 hown2 hs2 hb2)
         | (at_builtin; refine Xcd rfl _ _ rfl g2 200000 (.slice (some ⟨gA2, 0, none⟩) NA2 cA2) LA2 rfl HO2.out (#[.string ⟨#[41]⟩]) 1 [[41]] rfl (by omega) (rfl) _ (by simp) rfl HK2.out (by omega) (by simp) HS2.out HB2.out ?_; intro gA3 cA3 wA3 LA3 NA3 hL3 hN3 hl3 hown3 hs3 hb3; have HL3 := lh hL3; have HK3 := lh hl3; have HO3 := lh hown3; have HB3 := lh hb3; have HS3 := lh hs3; obtain ⟨e0_3, e2_3, e3_3⟩ := HCE.out wA3 hb3; clear hL3 hN3 hl3 hown3 hs3 hb3))
        go_ret
        obtain ⟨hz1, hz2⟩ := HF.out _ _ _ HO3.out HB3.out (by rw [HFT.out, HL3.out, HL2.out, HL1.out])
        exact ⟨_, rfl, by rw [← HG.out]; exact hz1, by rw [← HG.out]; exact hz2⟩
      · as_aux_lemma =>
        obtain ⟨X0, X1, rfl⟩ : ∃ X0 X1, xs = [X0, X1] := by
         have hl : xs.length = 2 := HN.out.trans HLEN.out
         match xs, hl with
         | [a0, a1], _ => exact ⟨a0, a1, rfl⟩
        obtain rfl : ne = 2 := by rw [HLEN.out]; rfl
        subst hje
        obtain ⟨GX0, CX0, U0, ⟨hA0, hc0'⟩, hin0, hxc0⟩ := HXA.out 0 (by simp)
        subst hA0
        subst hc0'
        have HX0 := lh hin0
        have HXC0 := lh hxc0
        have HXN0 : Hid (X0 ≠ []) := lh (HXN.out 0 (by simp))
        have HXL0 : Hid (X0.length ≤ 100000) := lh (HXL.out 0 (by simp))
        have ex0_0 := HXC0.out _ HB0.out
        obtain ⟨GU0, CU0, CURU0, hU0, -⟩ := hin0
        clear hxc0
        obtain ⟨GX1, CX1, U1, ⟨hA1, hc1'⟩, hin1, hxc1⟩ := HXA.out 1 (by simp)
        obtain rfl : GX0 = GX1 := by injection hA1 with h; injection h
        have HX1 := lh hin1
        have HXC1 := lh hxc1
        have HXN1 : Hid (X1 ≠ []) := lh (HXN.out 1 (by simp))
        have HXL1 : Hid (X1.length ≤ 100000) := lh (HXL.out 1 (by simp))
        have ex0_1 := HXC1.out _ HB0.out
        obtain ⟨GU1, CU1, CURU1, hU1, -⟩ := hin1
        clear hxc1
        subst hU0
        subst hU1
        have HFT : Hid (T = [] ++ [[40]] ++ X0 ++ [name] ++ X1 ++ [[41]]) := lh (by rw [HT.out]; simp [Xbg])
        clear HT HXA
        go_wp2_with (first
         | (at_builtin; refine Xcd rfl _ _ rfl g2 0 (.slice (some ⟨wo.heap.size, 0, none⟩) 0 0) [] rfl HO0.out (#[.string ⟨#[40]⟩]) 1 [[40]] rfl (by omega) (rfl) _ (by simp) rfl (by simp) (by omega) (by simp) HS0.out HB0.out ?_; intro gA1 cA1 wA1 LA1 NA1 hL1 hN1 hl1 hown1 hs1 hb1; have HL1 := lh hL1; have HK1 := lh hl1; have HO1 := lh hown1; have HB1 := lh hb1; have HS1 := lh hs1; obtain ⟨e0_1, e2_1, e3_1⟩ := HCE.out wA1 hb1; have ex1_0 := HXC0.out wA1 hb1; clear hL1 hN1 hl1 hown1 hs1 hb1)
         | (at_builtin; refine Xfz rfl _ _ rfl g2 100000 (.slice (some ⟨gA1, 0, none⟩) NA1 cA1) LA1 rfl HO1.out (.slice (some ⟨GU0, 0, none⟩) X0.length CU0) X0 HX0.out HXN0.out rfl HK1.out (by omega) HXL0.out HS1.out HB1.out ?_; intro gA2 cA2 wA2 LA2 NA2 hL2 hN2 hl2 hown2 hs2 hb2; have HL2 := lh hL2; have HK2 := lh hl2; have HO2 := lh hown2; have HB2 := lh hb2; have HS2 := lh hs2; obtain ⟨e0_2, e2_2, e3_2⟩ := HCE.out wA2 hb2; have ex2_1 := HXC1.out wA2 hb2; clear hL2 hN2 hl2 hown2 hs2 hb2)
         | (at_builtin; refine Xcd rfl _ _ rfl g2 200000 (.slice (some ⟨gA2, 0, none⟩) NA2 cA2) LA2 rfl HO2.out (#[.string S]) 1 [name] rfl (by omega) (by rw [HS.out]; rfl) _ (by simp) rfl HK2.out (by omega) (by simp) HS2.out HB2.out ?_; intro gA3 cA3 wA3 LA3 NA3 hL3 hN3 hl3 hown3 hs3 hb3; have HL3 := lh hL3; have HK3 := lh hl3; have HO3 := lh hown3; have HB3 := lh hb3; have HS3 := lh hs3; obtain ⟨e0_3, e2_3, e3_3⟩ := HCE.out wA3 hb3; have ex3_1 := HXC1.out wA3 hb3; clear hL3 hN3 hl3 hown3 hs3 hb3)
         | (at_builtin; refine Xfz rfl _ _ rfl g2 300000 (.slice (some ⟨gA3, 0, none⟩) NA3 cA3) LA3 rfl HO3.out (.slice (some ⟨GU1, 0, none⟩) X1.length CU1) X1 HX1.out HXN1.out rfl HK3.out (by omega) HXL1.out HS3.out HB3.out ?_; intro gA4 cA4 wA4 LA4 NA4 hL4 hN4 hl4 hown4 hs4 hb4; have HL4 := lh hL4; have HK4 := lh hl4; have HO4 := lh hown4; have HB4 := lh hb4; have HS4 := lh hs4; obtain ⟨e0_4, e2_4, e3_4⟩ := HCE.out wA4 hb4; clear hL4 hN4 hl4 hown4 hs4 hb4)
         | (at_builtin; refine Xcd rfl _ _ rfl g2 400000 (.slice (some ⟨gA4, 0, none⟩) NA4 cA4) LA4 rfl HO4.out (#[.string ⟨#[41]⟩]) 1 [[41]] rfl (by omega) (rfl) _ (by simp) rfl HK4.out (by omega) (by simp) HS4.out HB4.out ?_; intro gA5 cA5 wA5 LA5 NA5 hL5 hN5 hl5 hown5 hs5 hb5; have HL5 := lh hL5; have HK5 := lh hl5; have HO5 := lh hown5; have HB5 := lh hb5; have HS5 := lh hs5; obtain ⟨e0_5, e2_5, e3_5⟩ := HCE.out wA5 hb5; clear hL5 hN5 hl5 hown5 hs5 hb5))
        go_ret
        obtain ⟨hz1, hz2⟩ := HF.out _ _ _ HO5.out HB5.out (by rw [HFT.out, HL5.out, HL4.out, HL3.out, HL2.out, HL1.out])
        exact ⟨_, rfl, by rw [← HG.out]; exact hz1, by rw [← HG.out]; exact hz2⟩
      · as_aux_lemma =>
        obtain rfl : xs = [] := List.eq_nil_of_length_eq_zero (HN.out.trans HLEN.out)
        have HFT : Hid (T = [] ++ [[110, 101, 119], name]) := lh (by rw [HT.out]; simp [Xbg])
        clear HT HXA
        go_wp2_with (first
         | (at_builtin; refine Xcd rfl _ _ rfl g2 0 (.slice (some ⟨wo.heap.size, 0, none⟩) 0 0) [] rfl HO0.out (#[.string ⟨#[110, 101, 119]⟩, .string S]) 2 [[110, 101, 119], name] rfl (by omega) (by rw [HS.out]; rfl) _ (by simp) rfl (by simp) (by omega) (by simp) HS0.out HB0.out ?_; intro gA1 cA1 wA1 LA1 NA1 hL1 hN1 hl1 hown1 hs1 hb1; have HL1 := lh hL1; have HK1 := lh hl1; have HO1 := lh hown1; have HB1 := lh hb1; have HS1 := lh hs1; obtain ⟨e0_1, e2_1, e3_1⟩ := HCE.out wA1 hb1; clear hL1 hN1 hl1 hown1 hs1 hb1))
        go_ret
        obtain ⟨hz1, hz2⟩ := HF.out _ _ _ HO1.out HB1.out (by rw [HFT.out, HL1.out])
        exact ⟨_, rfl, by rw [← HG.out]; exact hz1, by rw [← HG.out]; exact hz2⟩
      · as_aux_lemma =>
        obtain ⟨X0, rfl⟩ : ∃ X0, xs = [X0] := by
         have hl : xs.length = 1 := HN.out.trans HLEN.out
         match xs, hl with
         | [a0], _ => exact ⟨a0, rfl⟩
        obtain rfl : ne = 1 := by rw [HLEN.out]; rfl
        subst hje
        obtain ⟨GX0, CX0, U0, ⟨hA0, hc0'⟩, hin0, hxc0⟩ := HXA.out 0 (by simp)
        subst hA0
        subst hc0'
        have HX0 := lh hin0
        have HXC0 := lh hxc0
        have HXN0 : Hid (X0 ≠ []) := lh (HXN.out 0 (by simp))
        have HXL0 : Hid (X0.length ≤ 100000) := lh (HXL.out 0 (by simp))
        have ex0_0 := HXC0.out _ HB0.out
        obtain ⟨GU0, CU0, CURU0, hU0, -⟩ := hin0
        clear hxc0
        subst hU0
        have HFT : Hid (T = [] ++ [[109, 97, 107, 101], [40]] ++ X0 ++ [[41]]) := lh (by rw [HT.out]; simp [Xbg])
        clear HT HXA
        go_wp2_with (first
         | (at_builtin; refine Xcd rfl _ _ rfl g2 0 (.slice (some ⟨wo.heap.size, 0, none⟩) 0 0) [] rfl HO0.out (#[.string ⟨#[109, 97, 107, 101]⟩, .string ⟨#[40]⟩]) 2 [[109, 97, 107, 101], [40]] rfl (by omega) (rfl) _ (by simp) rfl (by simp) (by omega) (by simp) HS0.out HB0.out ?_; intro gA1 cA1 wA1 LA1 NA1 hL1 hN1 hl1 hown1 hs1 hb1; have HL1 := lh hL1; have HK1 := lh hl1; have HO1 := lh hown1; have HB1 := lh hb1; have HS1 := lh hs1; obtain ⟨e0_1, e2_1, e3_1⟩ := HCE.out wA1 hb1; have ex1_0 := HXC0.out wA1 hb1; clear hL1 hN1 hl1 hown1 hs1 hb1)
         | (at_builtin; refine Xfz rfl _ _ rfl g2 100000 (.slice (some ⟨gA1, 0, none⟩) NA1 cA1) LA1 rfl HO1.out (.slice (some ⟨GU0, 0, none⟩) X0.length CU0) X0 HX0.out HXN0.out rfl HK1.out (by omega) HXL0.out HS1.out HB1.out ?_; intro gA2 cA2 wA2 LA2 NA2 hL2 hN2 hl2 hown2 hs2 hb2; have HL2 := lh hL2; have HK2 := lh hl2; have HO2 := lh hown2; have HB2 := lh hb2; have HS2 := lh hs2; obtain ⟨e0_2, e2_2, e3_2⟩ := HCE.out wA2 hb2; clear hL2 hN2 hl2 hown2 hs2 hb2)
         | (at_builtin; refine Xcd rfl _ _ rfl g2 200000 (.slice (some ⟨gA2, 0, none⟩) NA2 cA2) LA2 rfl HO2.out (#[.string ⟨#[41]⟩]) 1 [[41]] rfl (by omega) (rfl) _ (by simp) rfl HK2.out (by omega) (by simp) HS2.out HB2.out ?_; intro gA3 cA3 wA3 LA3 NA3 hL3 hN3 hl3 hown3 hs3 hb3; have HL3 := lh hL3; have HK3 := lh hl3; have HO3 := lh hown3; have HB3 := lh hb3; have HS3 := lh hs3; obtain ⟨e0_3, e2_3, e3_3⟩ := HCE.out wA3 hb3; clear hL3 hN3 hl3 hown3 hs3 hb3))
        go_ret
        obtain ⟨hz1, hz2⟩ := HF.out _ _ _ HO3.out HB3.out (by rw [HFT.out, HL3.out, HL2.out, HL1.out])
        exact ⟨_, rfl, by rw [← HG.out]; exact hz1, by rw [← HG.out]; exact hz2⟩
      · as_aux_lemma =>
        obtain rfl : xs = [] := List.eq_nil_of_length_eq_zero (HN.out.trans HLEN.out)
        have HFT : Hid (T = [] ++ [[114, 101, 108, 101, 97, 115, 101], name]) := lh (by rw [HT.out]; simp [Xbg])
        clear HT HXA
        go_wp2_with (first
         | (at_builtin; refine Xcd rfl _ _ rfl g2 0 (.slice (some ⟨wo.heap.size, 0, none⟩) 0 0) [] rfl HO0.out (#[.string ⟨#[114, 101, 108, 101, 97, 115, 101]⟩, .string S]) 2 [[114, 101, 108, 101, 97, 115, 101], name] rfl (by omega) (by rw [HS.out]; rfl) _ (by simp) rfl (by simp) (by omega) (by simp) HS0.out HB0.out ?_; intro gA1 cA1 wA1 LA1 NA1 hL1 hN1 hl1 hown1 hs1 hb1; have HL1 := lh hL1; have HK1 := lh hl1; have HO1 := lh hown1; have HB1 := lh hb1; have HS1 := lh hs1; obtain ⟨e0_1, e2_1, e3_1⟩ := HCE.out wA1 hb1; clear hL1 hN1 hl1 hown1 hs1 hb1))
        go_ret
        obtain ⟨hz1, hz2⟩ := HF.out _ _ _ HO1.out HB1.out (by rw [HFT.out, HL1.out])
        exact ⟨_, rfl, by rw [← HG.out]; exact hz1, by rw [← HG.out]; exact hz2⟩
end Go.Proofs.YtodociiaobjfgaaGreatDoor
