/- Kp Kq Kqa Kqb Km0 -/
import Derived.Test.YtodociiaobjfgaaGreatDoorVc8
import Derived.Test.YtodociiaobjfgaaGreatDoorVc9
set_option linter.unusedVariables false
set_option linter.unusedSimpArgs false
namespace Go.Proofs.YtodociiaobjfgaaGreatDoor
open Go.RowKit
structure Out (V w : World) (base g N c : Nat) (L : List (List UInt8)) : Prop where
 len : N = L.length
 own : Xau w base (.slice (some ⟨g, 0, none⟩) N c) L
 bel : Below base V w
 size : base ≤ w.heap.size
theorem Out.call {V w w1 : World} {base g N c : Nat} {L : List (List UInt8)} (h : Out V w base g N c L) (hb : Below w.heap.size w w1) : Out V w1 base g N c L :=
 ⟨h.len, h.own.below hb, h.bel.trans (hb.mono h.size), Nat.le_trans h.size hb.size⟩
theorem Out.alloc {V w : World} {base g N c : Nat} {L : List (List UInt8)} (h : Out V w base g N c L) (o : Obj) : Out V (w.alloc o) base g N c L :=
 h.call ((Below.refl _ _).alloc (Nat.le_refl _) _)
theorem Out.lit {w : World} {base : Nat} (cs : Array Value) (t : List (List UInt8)) (n : Nat) (hn : n = t.length) (hc : cs.toList = stV t) (hb : base ≤ w.heap.size) (hm : t.length ≤ 1000) {V : World} (hV : Below base V w) : Out V (w.alloc (.cells cs 9)) base w.heap.size n n t :=
 ⟨hn, Xau.lit cs t n hn hc hb hm, hV.alloc hb _, Nat.le_trans hb (by simp)⟩
theorem Xvb {ops : Array Oper} {rest : List Oper} {o : Oper} {a : Act} {V w : World} {Q : Exit → Act → World → Prop} (hgd : o.guard = none) (sl x : Operand)
  (ho : o.op = .call { callee := .builtin .append, args := #[sl, x], argTypes := #[53, 53] })
  {base g N c : Nat} {L T t r : List (List UInt8)} (hout : Out V w base g N c L) (hTl : T.length ≤ 100000) (hs : a.eval sl = .slice (some ⟨g, 0, none⟩) N c) (hT : L ++ (t ++ r) = T)
  (ad : Addr) (n m : Nat) (hn : n = t.length) (hn0 : 0 < n) (hx : a.eval x = .slice (some ad) n m) (hg : ∀ (j : Nat) (u : Value), (stV t)[j]? = some u → w.cell? (ad.add j) = some u)
  (h : ∀ g' N' c' w' L', Out V w' base g' N' c' L' → L' ++ r = T → wpList Tryz.prog ops Q rest (a.put o.dst (.slice (some ⟨g', 0, none⟩) N' c')) w') : wpList Tryz.prog ops Q (o :: rest) a w := by
 have hl : L.length + t.length ≤ 100000 := by
  rw [← hT, List.length_append, List.length_append] at hTl; omega
 refine Xdr hgd sl x ho base _ L hs hout.own ad n m t hn hn0 hx hg (by omega) hout.size fun g' c' w' hown hgr _ => ?_
 have hb := Xda hout.own hgr hout.size
 refine h g' (L.length + n) c' w' (L ++ t) ⟨by rw [List.length_append, hn], hown, hout.bel.trans hb, Nat.le_trans hout.size hb.size⟩ (by rw [List.append_assoc]; exact hT)
theorem Xax {ops : Array Oper} {rest : List Oper} {o : Oper} {a : Act} {V w : World} {Q : Exit → Act → World → Prop} (hgd : o.guard = none) (sl x : Operand)
  (ho : o.op = .call { callee := .builtin .append, args := #[sl, x], argTypes := #[53, 53] })
  {base g N c : Nat} {L T t r : List (List UInt8)} (hout : Out V w base g N c L) (hTl : T.length ≤ 100000) (hs : a.eval sl = .slice (some ⟨g, 0, none⟩) N c) (hT : L ++ (t ++ r) = T)
  {cs : Array Value} (hc : cs.toList = stV t) {n : Nat} (hn : n = t.length) (hn0 : 0 < n) {H : Nat} (hH : w.heap.size = H) (hx : a.eval x = .slice (some ⟨H, 0, none⟩) n n)
  (h : ∀ g' N' c' w' L', Out V w' base g' N' c' L' → L' ++ r = T → wpList Tryz.prog ops Q rest (a.put o.dst (.slice (some ⟨g', 0, none⟩) N' c')) w') : wpList Tryz.prog ops Q (o :: rest) a (w.alloc (.cells cs 9)) := by
 subst hH
 refine Xvb hgd sl x ho (hout.alloc _) hTl hs hT ⟨w.heap.size, 0, none⟩ n n hn hn0 hx (fun j u hu => ?_) h
 rw [Xco, Nat.zero_add, cell_of_row _ _ j _ _ (0, 0) (heap_alloc_new w _)]
 rw [← hc, Array.getElem?_toList] at hu
 exact hu
theorem Xbq {ops : Array Oper} {rest : List Oper} {o : Oper} {a : Act} {V w : World} {Q : Exit → Act → World → Prop} (hgd : o.guard = none) (sl x : Operand)
  (ho : o.op = .call { callee := .builtin .append, args := #[sl, x], argTypes := #[53, 53] })
  {base g N c : Nat} {L T t r : List (List UInt8)} (hout : Out V w base g N c L) (hTl : T.length ≤ 100000) (hs : a.eval sl = .slice (some ⟨g, 0, none⟩) N c) (hT : L ++ (t ++ r) = T)
  {V2 : World} {b2 g2 n m : Nat} (hu : Out V2 w b2 g2 n m t) (ht : t ≠ []) (hx : a.eval x = .slice (some ⟨g2, 0, none⟩) n m)
  (h : ∀ g' N' c' w' L', Out V w' base g' N' c' L' → L' ++ r = T → wpList Tryz.prog ops Q rest (a.put o.dst (.slice (some ⟨g', 0, none⟩) N' c')) w') : wpList Tryz.prog ops Q (o :: rest) a w := by
 have h0 : 0 < t.length := by
  rcases Nat.eq_zero_or_pos t.length with h | h
  · exact absurd (List.eq_nil_of_length_eq_zero h) ht
  · exact h
 exact Xvb hgd sl x ho hout hTl hs hT ⟨g2, 0, none⟩ n m hu.len (by rw [hu.len]; exact h0) hx (World.ownsRow.cells (g := g2) hu.own rfl) h
theorem Out.done {V w w1 : World} {base b g N c : Nat} {L T : List (List UInt8)} (h : Out V w1 base g N c L) (hL : L ++ [] = T) (hV : Below b w V) (hb : b ≤ base) : Out w w1 b g N c T := by
 rw [List.append_nil] at hL
 subst hL
 exact ⟨h.len, h.own.base hb, hV.trans (h.bel.mono hb), Nat.le_trans hb h.size⟩
def Xch (w : World) (T : List (List UInt8)) (e : Ending) (w' : World) : Prop := ∃ g N c, e = .returned (.slice (some ⟨g, 0, none⟩) N c) ∧ Out w w' w.heap.size g N c T ∧ T ≠ []
theorem Xlk {w w' : World} {T : List (List UInt8)} {v : Value} (h : Xau w' w.heap.size v T) (hT : T ≠ []) (hb : Below w.heap.size w w') : Xch w T (.returned v) w' := by
 obtain ⟨g, c, cur, rfl, _⟩ := h.inn hT
 exact ⟨g, T.length, c, rfl, ⟨rfl, h, hb, hb.size⟩, hT⟩
theorem Xfj (w : World) (t : List UInt8) (ht : t.length ≤ 40000) {TY : List (List UInt8)} (hty : tyT t = some TY) : Calls Tryz.prog 31 #[.string (Xaa t)] w (Xch w TY) := by
 refine (Xfg w t ht).mono fun e w' => ?_
 rintro ⟨v, rfl, hown, hb⟩
 rw [hty] at hown
 refine Xlk hown ?_ hb
 have := Xev hty
 intro h; rw [h] at this; simp at this
def Xtr (w0 : World) (B : Nat) (es : List Ex) (A : Option Addr) : Prop := ∀ (j : Nat) (hj : j < es.length), ∃ b off yk yp yn ys yv, A = some ⟨b, off, none⟩ ∧ b < B ∧
  w0.cell? ⟨b, off + j * 5, none⟩ = some (.int .i64 yk) ∧ w0.cell? ⟨b, off + j * 5 + 1, none⟩ = some (.int .i64 yp) ∧ w0.cell? ⟨b, off + j * 5 + 2, none⟩ = some (.int .i64 yn) ∧ w0.cell? ⟨b, off + j * 5 + 3, none⟩ = some (.string ys) ∧ w0.cell? ⟨b, off + j * 5 + 4, none⟩ = some yv ∧
  ∀ (d : Int) (T : List (List UInt8)) (w : World), penE es[j] d 0 = some T → T.length ≤ 100000 → Below B w0 w → B ≤ w.heap.size →
   Calls Tryz.prog 63 #[.agg #[.int .i64 yk, .int .i64 yp, .int .i64 yn, .string ys, yv]] w (Xch w T)
theorem Xtm {w0 : World} {B : Nat} {es : List Ex} {v : Value} (h : Xbm w0 (· < B) es v) : ∃ A c, v = .slice A es.length c ∧ Xtr w0 B es A := by
 cases h with
 | mk es A c f hc hM hA hr =>
   refine ⟨A, c, rfl, fun j hj => ?_⟩
   obtain ⟨b, off, h1, h2, h3, h4, h5, h6, h7, h8⟩ := hA j hj
   refine ⟨b, off, _, _, _, _, _, h1, h2, h4, h5, h6, h7, h8, fun d T w a1 a2 a3 a4 => ?_⟩
   have hne := Xpl a1
   rw [← Ex.eta es[j]] at a1
   refine (Xhu (hr j hj) es[j].kind es[j].pl es[j].num d 0 es[j].name T w a1 a2 a3 a4).mono fun e w' => ?_
   rintro ⟨v, rfl, h1, h2⟩
   exact Xlk h1 hne h2
theorem Xnq : ∀ (es : List Ex) (d : Int) (xs : List (List (List UInt8))), Xdc es d = some xs → ∀ (j : Nat) (hj : j < es.length) (hx : j < xs.length), penE es[j] d 0 = some xs[j]
 | [], d, xs, h, j, hj, hx => by simp at hj
 | e :: es, d, xs, h, j, hj, hx => by
   rw [Xdc] at h
   split at h
   · cases h
   · rename_i x h1
     split at h
     · cases h
     · rename_i ys h2
       cases h
       cases j with
       | zero => exact h1
       | succ j => exact Xnq es d ys h2 j (by simpa using hj) (by simpa using hx)
structure TkF (w X : World) (g : Nat) (k p : Int) (SN ST : ByteArray) (A A2 A3 : Option Addr) (c m2 m3 nx nb nl : Nat) (em bz : Bool) (nm ty : List UInt8) (xs : List (List (List UInt8))) (B1 B2 TY T : List (List UInt8)) : Prop where
 HX : Hid (X = w.alloc (.cells #[.int .i64 k, .int .i64 p, .string SN, .string ST, .slice A nx c, .slice A2 nb m2, .slice A3 nl m3] 38))
 HG : Hid (g = w.heap.size)
 HGL : Hid (g < X.heap.size)
 HC : Hid (∀ W : World, Below X.heap.size X W → W.cell? ⟨g, 0, none⟩ = some (.int .i64 k) ∧ W.cell? ⟨g, 2, none⟩ = some (.string SN) ∧ W.cell? ⟨g, 3, none⟩ = some (.string ST) ∧ W.cell? ⟨g, 4, none⟩ = some (.slice A nx c) ∧ W.cell? ⟨g, 5, none⟩ = some (.slice A2 nb m2) ∧ W.cell? ⟨g, 6, none⟩ = some (.slice A3 nl m3))
 HTK : Hid (∀ (j : Nat) (hj : j < xs.length), ∃ b off yk yp yn ys yv, A = some ⟨b, off, none⟩ ∧ (∀ W, Below X.heap.size X W → W.cell? ⟨b, off + j * 5, none⟩ = some (.int .i64 yk) ∧ W.cell? ⟨b, off + j * 5 + 1, none⟩ = some (.int .i64 yp) ∧ W.cell? ⟨b, off + j * 5 + 2, none⟩ = some (.int .i64 yn) ∧ W.cell? ⟨b, off + j * 5 + 3, none⟩ = some (.string ys) ∧ W.cell? ⟨b, off + j * 5 + 4, none⟩ = some yv) ∧ ∀ W, Below X.heap.size X W → Calls Tryz.prog 63 #[.agg #[.int .i64 yk, .int .i64 yp, .int .i64 yn, .string ys, yv]] W (Xch W xs[j]))
 HTY : Hid (TY ≠ [] → ∀ W, Below X.heap.size X W → Calls Tryz.prog 31 #[.string ST] W (Xch W TY))
 HB1 : Hid (B1 ≠ [] → ∀ W, Below X.heap.size X W → Calls Tryz.prog 35 #[.slice A2 nb m2] W (Xch W B1))
 HB2 : Hid (B2 ≠ [] → ∀ W, Below X.heap.size X W → Calls Tryz.prog 35 #[.slice A3 nl m3] W (Xch W B2))
 HEND : Hid (∀ W, Below X.heap.size X W → Below g w W)
 HSN : Hid (SN = Xaa nm)
 HST : Hid (ST = Xaa ty)
 HNX : Hid (nx = xs.length)
 HTL : Hid (T.length ≤ 100000)
 HT0 : Hid (T ≠ [])
 hse : ST.toList.isEmpty = em
 hsz : SN.toList.isEmpty = bz
set_option maxHeartbeats 40000000 in
set_option maxRecDepth 100000 in
theorem tk_1 {w X : World} {g : Nat} {p : Int} {SN ST : ByteArray} {A A2 A3 : Option Addr} {c m2 m3 nb nl : Nat} {em : Bool} {bz : Bool} {nm ty : List UInt8} {B1 B2 TY T : List (List UInt8)} {X0 : List (List UInt8)} (F : TkF w X g 1 p SN ST A A2 A3 c m2 m3 1 nb nl em bz nm ty [X0] B1 B2 TY T) (hTY : TY ≠ []) (hT : [[118, 97, 114]] ++ ([nm] ++ (TY ++ ([[61]] ++ (X0 ++ ([[59]] ++ []))))) = T) :
  Calls Tryz.prog 50 #[.agg #[.int .i64 1, .int .i64 p, .string SN, .string ST, .slice A 1 c, .slice A2 nb m2, .slice A3 nl m3]] w fun e w' => ∃ g' N c, e = .returned (.slice (some ⟨g', 0, none⟩) N c) ∧ Out w w' g g' N c T ∧ T ≠ [] := by
 obtain ⟨HX, HG, HGL, HC, HTK, HTY, HB1, HB2, HEND, HSN, HST, HNX, HTL, HT0, hse, hsz⟩ := F
 have HE := lh hT
 clear hT
 obtain ⟨b0, o0, yk0, yp0, yn0, ys0, yv0, hA0, hcl0, htk0⟩ := HTK.out 0 (by simp)
 subst hA0
 clear HTK
 go_enter Tryz.func50, Tryz.ntmps50
 go_upto_region 1 with fail
 rw [← HG.out, ← HX.out]
 obtain ⟨c0, c2, c3, c4, c5, c6⟩ := HC.out X (Below.refl _ _)
 have hgl := HGL.out
 go_upto_region 3 with fail
 obtain ⟨V, hV⟩ : ∃ V : World, V = X.alloc (.cells #[.string ⟨#[]⟩, .string ⟨#[118, 97, 114]⟩, .string ⟨#[115, 101, 116]⟩, .string ⟨#[105, 102]⟩, .string ⟨#[119, 104, 105, 108, 101]⟩, .string ⟨#[108, 111, 99, 107]⟩, .string ⟨#[117, 110, 108, 111, 99, 107]⟩, .string ⟨#[115, 101, 110, 100]⟩, .string ⟨#[114, 101, 99, 118]⟩, .string ⟨#[111, 117, 116]⟩, .string ⟨#[99, 97, 108, 108]⟩, .string ⟨#[114, 101, 116, 117, 114, 110]⟩] 98) := ⟨_, rfl⟩
 have hsz : V.heap.size = X.heap.size + 1 := by rw [hV]; simp
 rw [← hV, ← hsz]
 have hbV : Below X.heap.size X V := by rw [hV]; exact (Below.refl _ _).alloc (Nat.le_refl _) _
 have HBV := lh hbV
 clear hV hbV hgl hsz c0 c2 c3 c4 c5 c6
 have HO := lh (Out.lit (V := V) (w := V) (base := V.heap.size) #[.string ⟨#[118, 97, 114]⟩] [[118, 97, 114]] 1 rfl rfl (Nat.le_refl _) (by simp) (Below.refl _ _))
 have HUP : Hid (∀ W, Below V.heap.size V W → Below X.heap.size X W) := lh fun W hW => HBV.out.trans (hW.mono HBV.out.size)
 have HC2 : Hid (∀ W : World, Below V.heap.size V W → W.cell? ⟨g, 0, none⟩ = some (.int .i64 1) ∧ W.cell? ⟨g, 2, none⟩ = some (.string SN) ∧ W.cell? ⟨g, 3, none⟩ = some (.string ST) ∧ W.cell? ⟨g, 4, none⟩ = some (.slice (some ⟨b0, o0, none⟩) 1 c) ∧ W.cell? ⟨g, 5, none⟩ = some (.slice A2 nb m2) ∧ W.cell? ⟨g, 6, none⟩ = some (.slice A3 nl m3) ∧ (W.cell? ⟨b0, o0, none⟩ = some (.int .i64 yk0) ∧ W.cell? ⟨b0, o0 + 1, none⟩ = some (.int .i64 yp0) ∧ W.cell? ⟨b0, o0 + 2, none⟩ = some (.int .i64 yn0) ∧ W.cell? ⟨b0, o0 + 3, none⟩ = some (.string ys0) ∧ W.cell? ⟨b0, o0 + 4, none⟩ = some yv0) ∧ (True ∧ True ∧ True ∧ True ∧ True)) := lh fun W hW => by
  obtain ⟨a0, a2, a3, a4, a5, a6⟩ := HC.out W (HUP.out W hW)
  refine ⟨a0, a2, a3, a4, a5, a6, ?_, ?_⟩
  · have h := hcl0 W (HUP.out W hW)
    simp only [Nat.zero_mul, Nat.add_zero] at h
    exact h
  · exact ⟨trivial, trivial, trivial, trivial, trivial⟩
 have HX0 := lh htk0
 clear hcl0 htk0
 have HTY2 := lh (HTY.out hTY)
 clear HTY HB1 HB2
 obtain ⟨c0, c2, c3, c4, c5, c6, ⟨d0, d1, d2, d3, d4⟩, ⟨e0, e1, e2, e3, e4⟩⟩ := HC2.out _ HO.out.bel
 go_wp2_with (first
  | (at_builtin; refine Xax rfl _ _ rfl HO.out HTL.out rfl HE.out (by first | rfl | (rw [HSN.out]; rfl) | (rw [HST.out]; rfl) | (rw [HSN.out, HST.out]; rfl)) (by rfl) (by decide) (by simp) rfl ?_; intro g1 N1 c1 w1 L1 ho1 he1; replace HO := lh ho1; replace HE := lh he1; clear ho1 he1; obtain ⟨c0, c2, c3, c4, c5, c6, ⟨d0, d1, d2, d3, d4⟩, ⟨e0, e1, e2, e3, e4⟩⟩ := HC2.out w1 HO.out.bel)
  | (at_builtin; refine Xbq rfl _ _ rfl HO.out HTL.out rfl HE.out HU.out HUN.out rfl ?_; intro g1 N1 c1 w1 L1 ho1 he1; replace HO := lh ho1; replace HE := lh he1; clear ho1 he1; obtain ⟨c0, c2, c3, c4, c5, c6, ⟨d0, d1, d2, d3, d4⟩, ⟨e0, e1, e2, e3, e4⟩⟩ := HC2.out w1 HO.out.bel; clear HU HUN)
  | ((with_reducible refine (HX0.out _ (HUP.out _ HO.out.bel)).mono ?_); rintro e w1 ⟨gu, nu, cu, rfl, hu, hun⟩; have hb1 := hu.bel; replace HO := lh (HO.out.call hb1); have HU := lh hu; have HUN := lh hun; clear hu hun hb1; obtain ⟨c0, c2, c3, c4, c5, c6, ⟨d0, d1, d2, d3, d4⟩, ⟨e0, e1, e2, e3, e4⟩⟩ := HC2.out w1 HO.out.bel)
  | ((with_reducible refine (HTY2.out _ (HUP.out _ HO.out.bel)).mono ?_); rintro e w1 ⟨gu, nu, cu, rfl, hu, hun⟩; have hb1 := hu.bel; replace HO := lh (HO.out.call hb1); have HU := lh hu; have HUN := lh hun; clear hu hun hb1; obtain ⟨c0, c2, c3, c4, c5, c6, ⟨d0, d1, d2, d3, d4⟩, ⟨e0, e1, e2, e3, e4⟩⟩ := HC2.out w1 HO.out.bel))
 go_ret
 exact ⟨_, _, _, rfl, HO.out.done HE.out (HEND.out _ HBV.out) (by have := HGL.out; have := HBV.out.size; omega), HT0.out⟩
set_option maxHeartbeats 40000000 in
set_option maxRecDepth 100000 in
theorem tk_2 {w X : World} {g : Nat} {p : Int} {SN ST : ByteArray} {A A2 A3 : Option Addr} {c m2 m3 nb nl : Nat} {em : Bool} {bz : Bool} {nm ty : List UInt8} {B1 B2 TY T : List (List UInt8)} {X0 X1 : List (List UInt8)} (F : TkF w X g 2 p SN ST A A2 A3 c m2 m3 2 nb nl em bz nm ty [X0, X1] B1 B2 TY T) (hT : [[115, 101, 116]] ++ (X0 ++ ([[61]] ++ (X1 ++ ([[59]] ++ [])))) = T) :
  Calls Tryz.prog 50 #[.agg #[.int .i64 2, .int .i64 p, .string SN, .string ST, .slice A 2 c, .slice A2 nb m2, .slice A3 nl m3]] w fun e w' => ∃ g' N c, e = .returned (.slice (some ⟨g', 0, none⟩) N c) ∧ Out w w' g g' N c T ∧ T ≠ [] := by
 obtain ⟨HX, HG, HGL, HC, HTK, HTY, HB1, HB2, HEND, HSN, HST, HNX, HTL, HT0, hse, hsz⟩ := F
 have HE := lh hT
 clear hT
 obtain ⟨b0, o0, yk0, yp0, yn0, ys0, yv0, hA0, hcl0, htk0⟩ := HTK.out 0 (by simp)
 subst hA0
 obtain ⟨b1, o1, yk1, yp1, yn1, ys1, yv1, hA1, hcl1, htk1⟩ := HTK.out 1 (by simp)
 cases hA1
 clear HTK
 go_enter Tryz.func50, Tryz.ntmps50
 go_upto_region 1 with fail
 rw [← HG.out, ← HX.out]
 obtain ⟨c0, c2, c3, c4, c5, c6⟩ := HC.out X (Below.refl _ _)
 have hgl := HGL.out
 go_upto_region 3 with fail
 obtain ⟨V, hV⟩ : ∃ V : World, V = X.alloc (.cells #[.string ⟨#[]⟩, .string ⟨#[118, 97, 114]⟩, .string ⟨#[115, 101, 116]⟩, .string ⟨#[105, 102]⟩, .string ⟨#[119, 104, 105, 108, 101]⟩, .string ⟨#[108, 111, 99, 107]⟩, .string ⟨#[117, 110, 108, 111, 99, 107]⟩, .string ⟨#[115, 101, 110, 100]⟩, .string ⟨#[114, 101, 99, 118]⟩, .string ⟨#[111, 117, 116]⟩, .string ⟨#[99, 97, 108, 108]⟩, .string ⟨#[114, 101, 116, 117, 114, 110]⟩] 98) := ⟨_, rfl⟩
 have hsz : V.heap.size = X.heap.size + 1 := by rw [hV]; simp
 rw [← hV, ← hsz]
 have hbV : Below X.heap.size X V := by rw [hV]; exact (Below.refl _ _).alloc (Nat.le_refl _) _
 have HBV := lh hbV
 clear hV hbV hgl hsz c0 c2 c3 c4 c5 c6
 have HO := lh (Out.lit (V := V) (w := V) (base := V.heap.size) #[.string ⟨#[115, 101, 116]⟩] [[115, 101, 116]] 1 rfl rfl (Nat.le_refl _) (by simp) (Below.refl _ _))
 have HUP : Hid (∀ W, Below V.heap.size V W → Below X.heap.size X W) := lh fun W hW => HBV.out.trans (hW.mono HBV.out.size)
 have HC2 : Hid (∀ W : World, Below V.heap.size V W → W.cell? ⟨g, 0, none⟩ = some (.int .i64 2) ∧ W.cell? ⟨g, 2, none⟩ = some (.string SN) ∧ W.cell? ⟨g, 3, none⟩ = some (.string ST) ∧ W.cell? ⟨g, 4, none⟩ = some (.slice (some ⟨b0, o0, none⟩) 2 c) ∧ W.cell? ⟨g, 5, none⟩ = some (.slice A2 nb m2) ∧ W.cell? ⟨g, 6, none⟩ = some (.slice A3 nl m3) ∧ (W.cell? ⟨b0, o0, none⟩ = some (.int .i64 yk0) ∧ W.cell? ⟨b0, o0 + 1, none⟩ = some (.int .i64 yp0) ∧ W.cell? ⟨b0, o0 + 2, none⟩ = some (.int .i64 yn0) ∧ W.cell? ⟨b0, o0 + 3, none⟩ = some (.string ys0) ∧ W.cell? ⟨b0, o0 + 4, none⟩ = some yv0) ∧ (W.cell? ⟨b0, o0 + 5, none⟩ = some (.int .i64 yk1) ∧ W.cell? ⟨b0, o0 + 5 + 1, none⟩ = some (.int .i64 yp1) ∧ W.cell? ⟨b0, o0 + 5 + 2, none⟩ = some (.int .i64 yn1) ∧ W.cell? ⟨b0, o0 + 5 + 3, none⟩ = some (.string ys1) ∧ W.cell? ⟨b0, o0 + 5 + 4, none⟩ = some yv1)) := lh fun W hW => by
  obtain ⟨a0, a2, a3, a4, a5, a6⟩ := HC.out W (HUP.out W hW)
  refine ⟨a0, a2, a3, a4, a5, a6, ?_, ?_⟩
  · have h := hcl0 W (HUP.out W hW)
    simp only [Nat.zero_mul, Nat.add_zero] at h
    exact h
  · have h := hcl1 W (HUP.out W hW)
    simp only [Nat.one_mul] at h
    exact h
 have HX0 := lh htk0
 have HX1 := lh htk1
 clear hcl0 htk0
 clear hcl1 htk1
 clear HTY HB1 HB2
 obtain ⟨c0, c2, c3, c4, c5, c6, ⟨d0, d1, d2, d3, d4⟩, ⟨e0, e1, e2, e3, e4⟩⟩ := HC2.out _ HO.out.bel
 go_wp2_with (first
  | (at_builtin; refine Xax rfl _ _ rfl HO.out HTL.out rfl HE.out (by first | rfl | (rw [HSN.out]; rfl) | (rw [HST.out]; rfl) | (rw [HSN.out, HST.out]; rfl)) (by rfl) (by decide) (by simp) rfl ?_; intro g1 N1 c1 w1 L1 ho1 he1; replace HO := lh ho1; replace HE := lh he1; clear ho1 he1; obtain ⟨c0, c2, c3, c4, c5, c6, ⟨d0, d1, d2, d3, d4⟩, ⟨e0, e1, e2, e3, e4⟩⟩ := HC2.out w1 HO.out.bel)
  | (at_builtin; refine Xbq rfl _ _ rfl HO.out HTL.out rfl HE.out HU.out HUN.out rfl ?_; intro g1 N1 c1 w1 L1 ho1 he1; replace HO := lh ho1; replace HE := lh he1; clear ho1 he1; obtain ⟨c0, c2, c3, c4, c5, c6, ⟨d0, d1, d2, d3, d4⟩, ⟨e0, e1, e2, e3, e4⟩⟩ := HC2.out w1 HO.out.bel; clear HU HUN)
  | ((with_reducible refine (HX0.out _ (HUP.out _ HO.out.bel)).mono ?_); rintro e w1 ⟨gu, nu, cu, rfl, hu, hun⟩; have hb1 := hu.bel; replace HO := lh (HO.out.call hb1); have HU := lh hu; have HUN := lh hun; clear hu hun hb1; obtain ⟨c0, c2, c3, c4, c5, c6, ⟨d0, d1, d2, d3, d4⟩, ⟨e0, e1, e2, e3, e4⟩⟩ := HC2.out w1 HO.out.bel)
  | ((with_reducible refine (HX1.out _ (HUP.out _ HO.out.bel)).mono ?_); rintro e w1 ⟨gu, nu, cu, rfl, hu, hun⟩; have hb1 := hu.bel; replace HO := lh (HO.out.call hb1); have HU := lh hu; have HUN := lh hun; clear hu hun hb1; obtain ⟨c0, c2, c3, c4, c5, c6, ⟨d0, d1, d2, d3, d4⟩, ⟨e0, e1, e2, e3, e4⟩⟩ := HC2.out w1 HO.out.bel))
 go_ret
 exact ⟨_, _, _, rfl, HO.out.done HE.out (HEND.out _ HBV.out) (by have := HGL.out; have := HBV.out.size; omega), HT0.out⟩
set_option maxHeartbeats 40000000 in
set_option maxRecDepth 100000 in
theorem tk_8 {w X : World} {g : Nat} {p : Int} {SN ST : ByteArray} {A A2 A3 : Option Addr} {c m2 m3 nb nl : Nat} {em : Bool} {bz : Bool} {nm ty : List UInt8} {B1 B2 TY T : List (List UInt8)} (F : TkF w X g 8 p SN ST A A2 A3 c m2 m3 0 nb nl em bz nm ty [] B1 B2 TY T) (hT : [[114, 101, 99, 118]] ++ ([nm, ty] ++ ([[59]] ++ [])) = T) :
  Calls Tryz.prog 50 #[.agg #[.int .i64 8, .int .i64 p, .string SN, .string ST, .slice A 0 c, .slice A2 nb m2, .slice A3 nl m3]] w fun e w' => ∃ g' N c, e = .returned (.slice (some ⟨g', 0, none⟩) N c) ∧ Out w w' g g' N c T ∧ T ≠ [] := by
 obtain ⟨HX, HG, HGL, HC, HTK, HTY, HB1, HB2, HEND, HSN, HST, HNX, HTL, HT0, hse, hsz⟩ := F
 have HE := lh hT
 clear hT
 clear HTK
 go_enter Tryz.func50, Tryz.ntmps50
 go_upto_region 1 with fail
 rw [← HG.out, ← HX.out]
 obtain ⟨c0, c2, c3, c4, c5, c6⟩ := HC.out X (Below.refl _ _)
 have hgl := HGL.out
 go_upto_region 3 with fail
 obtain ⟨V, hV⟩ : ∃ V : World, V = X.alloc (.cells #[.string ⟨#[]⟩, .string ⟨#[118, 97, 114]⟩, .string ⟨#[115, 101, 116]⟩, .string ⟨#[105, 102]⟩, .string ⟨#[119, 104, 105, 108, 101]⟩, .string ⟨#[108, 111, 99, 107]⟩, .string ⟨#[117, 110, 108, 111, 99, 107]⟩, .string ⟨#[115, 101, 110, 100]⟩, .string ⟨#[114, 101, 99, 118]⟩, .string ⟨#[111, 117, 116]⟩, .string ⟨#[99, 97, 108, 108]⟩, .string ⟨#[114, 101, 116, 117, 114, 110]⟩] 98) := ⟨_, rfl⟩
 have hsz : V.heap.size = X.heap.size + 1 := by rw [hV]; simp
 rw [← hV, ← hsz]
 have hbV : Below X.heap.size X V := by rw [hV]; exact (Below.refl _ _).alloc (Nat.le_refl _) _
 have HBV := lh hbV
 clear hV hbV hgl hsz c0 c2 c3 c4 c5 c6
 have HO := lh (Out.lit (V := V) (w := V) (base := V.heap.size) #[.string ⟨#[114, 101, 99, 118]⟩] [[114, 101, 99, 118]] 1 rfl rfl (Nat.le_refl _) (by simp) (Below.refl _ _))
 have HUP : Hid (∀ W, Below V.heap.size V W → Below X.heap.size X W) := lh fun W hW => HBV.out.trans (hW.mono HBV.out.size)
 have HC2 : Hid (∀ W : World, Below V.heap.size V W → W.cell? ⟨g, 0, none⟩ = some (.int .i64 8) ∧ W.cell? ⟨g, 2, none⟩ = some (.string SN) ∧ W.cell? ⟨g, 3, none⟩ = some (.string ST) ∧ W.cell? ⟨g, 4, none⟩ = some (.slice A 0 c) ∧ W.cell? ⟨g, 5, none⟩ = some (.slice A2 nb m2) ∧ W.cell? ⟨g, 6, none⟩ = some (.slice A3 nl m3) ∧ (True ∧ True ∧ True ∧ True ∧ True) ∧ (True ∧ True ∧ True ∧ True ∧ True)) := lh fun W hW => by
  obtain ⟨a0, a2, a3, a4, a5, a6⟩ := HC.out W (HUP.out W hW)
  refine ⟨a0, a2, a3, a4, a5, a6, ?_, ?_⟩
  · exact ⟨trivial, trivial, trivial, trivial, trivial⟩
  · exact ⟨trivial, trivial, trivial, trivial, trivial⟩
 clear HTY HB1 HB2
 obtain ⟨c0, c2, c3, c4, c5, c6, ⟨d0, d1, d2, d3, d4⟩, ⟨e0, e1, e2, e3, e4⟩⟩ := HC2.out _ HO.out.bel
 go_wp2_with (first
  | (at_builtin; refine Xax rfl _ _ rfl HO.out HTL.out rfl HE.out (by first | rfl | (rw [HSN.out]; rfl) | (rw [HST.out]; rfl) | (rw [HSN.out, HST.out]; rfl)) (by rfl) (by decide) (by simp) rfl ?_; intro g1 N1 c1 w1 L1 ho1 he1; replace HO := lh ho1; replace HE := lh he1; clear ho1 he1; obtain ⟨c0, c2, c3, c4, c5, c6, ⟨d0, d1, d2, d3, d4⟩, ⟨e0, e1, e2, e3, e4⟩⟩ := HC2.out w1 HO.out.bel)
  | (at_builtin; refine Xbq rfl _ _ rfl HO.out HTL.out rfl HE.out HU.out HUN.out rfl ?_; intro g1 N1 c1 w1 L1 ho1 he1; replace HO := lh ho1; replace HE := lh he1; clear ho1 he1; obtain ⟨c0, c2, c3, c4, c5, c6, ⟨d0, d1, d2, d3, d4⟩, ⟨e0, e1, e2, e3, e4⟩⟩ := HC2.out w1 HO.out.bel; clear HU HUN))
 go_ret
 exact ⟨_, _, _, rfl, HO.out.done HE.out (HEND.out _ HBV.out) (by have := HGL.out; have := HBV.out.size; omega), HT0.out⟩
set_option maxHeartbeats 40000000 in
set_option maxRecDepth 100000 in
theorem tk_3 {w X : World} {g : Nat} {p : Int} {SN ST : ByteArray} {A A2 A3 : Option Addr} {c m2 m3 nb : Nat} {em : Bool} {bz : Bool} {nm ty : List UInt8} {B1 B2 TY T : List (List UInt8)} {X0 : List (List UInt8)} (F : TkF w X g 3 p SN ST A A2 A3 c m2 m3 1 nb 0 em bz nm ty [X0] B1 B2 TY T) (hB1 : B1 ≠ []) (hT : [[105, 102]] ++ (X0 ++ (B1 ++ [])) = T) :
  Calls Tryz.prog 50 #[.agg #[.int .i64 3, .int .i64 p, .string SN, .string ST, .slice A 1 c, .slice A2 nb m2, .slice A3 0 m3]] w fun e w' => ∃ g' N c, e = .returned (.slice (some ⟨g', 0, none⟩) N c) ∧ Out w w' g g' N c T ∧ T ≠ [] := by
 obtain ⟨HX, HG, HGL, HC, HTK, HTY, HB1, HB2, HEND, HSN, HST, HNX, HTL, HT0, hse, hsz⟩ := F
 have HE := lh hT
 clear hT
 obtain ⟨b0, o0, yk0, yp0, yn0, ys0, yv0, hA0, hcl0, htk0⟩ := HTK.out 0 (by simp)
 subst hA0
 clear HTK
 go_enter Tryz.func50, Tryz.ntmps50
 go_upto_region 1 with fail
 rw [← HG.out, ← HX.out]
 obtain ⟨c0, c2, c3, c4, c5, c6⟩ := HC.out X (Below.refl _ _)
 have hgl := HGL.out
 go_upto_region 3 with fail
 obtain ⟨V, hV⟩ : ∃ V : World, V = X.alloc (.cells #[.string ⟨#[]⟩, .string ⟨#[118, 97, 114]⟩, .string ⟨#[115, 101, 116]⟩, .string ⟨#[105, 102]⟩, .string ⟨#[119, 104, 105, 108, 101]⟩, .string ⟨#[108, 111, 99, 107]⟩, .string ⟨#[117, 110, 108, 111, 99, 107]⟩, .string ⟨#[115, 101, 110, 100]⟩, .string ⟨#[114, 101, 99, 118]⟩, .string ⟨#[111, 117, 116]⟩, .string ⟨#[99, 97, 108, 108]⟩, .string ⟨#[114, 101, 116, 117, 114, 110]⟩] 98) := ⟨_, rfl⟩
 have hsz : V.heap.size = X.heap.size + 1 := by rw [hV]; simp
 rw [← hV, ← hsz]
 have hbV : Below X.heap.size X V := by rw [hV]; exact (Below.refl _ _).alloc (Nat.le_refl _) _
 have HBV := lh hbV
 clear hV hbV hgl hsz c0 c2 c3 c4 c5 c6
 have HO := lh (Out.lit (V := V) (w := V) (base := V.heap.size) #[.string ⟨#[105, 102]⟩] [[105, 102]] 1 rfl rfl (Nat.le_refl _) (by simp) (Below.refl _ _))
 have HUP : Hid (∀ W, Below V.heap.size V W → Below X.heap.size X W) := lh fun W hW => HBV.out.trans (hW.mono HBV.out.size)
 have HC2 : Hid (∀ W : World, Below V.heap.size V W → W.cell? ⟨g, 0, none⟩ = some (.int .i64 3) ∧ W.cell? ⟨g, 2, none⟩ = some (.string SN) ∧ W.cell? ⟨g, 3, none⟩ = some (.string ST) ∧ W.cell? ⟨g, 4, none⟩ = some (.slice (some ⟨b0, o0, none⟩) 1 c) ∧ W.cell? ⟨g, 5, none⟩ = some (.slice A2 nb m2) ∧ W.cell? ⟨g, 6, none⟩ = some (.slice A3 0 m3) ∧ (W.cell? ⟨b0, o0, none⟩ = some (.int .i64 yk0) ∧ W.cell? ⟨b0, o0 + 1, none⟩ = some (.int .i64 yp0) ∧ W.cell? ⟨b0, o0 + 2, none⟩ = some (.int .i64 yn0) ∧ W.cell? ⟨b0, o0 + 3, none⟩ = some (.string ys0) ∧ W.cell? ⟨b0, o0 + 4, none⟩ = some yv0) ∧ (True ∧ True ∧ True ∧ True ∧ True)) := lh fun W hW => by
  obtain ⟨a0, a2, a3, a4, a5, a6⟩ := HC.out W (HUP.out W hW)
  refine ⟨a0, a2, a3, a4, a5, a6, ?_, ?_⟩
  · have h := hcl0 W (HUP.out W hW)
    simp only [Nat.zero_mul, Nat.add_zero] at h
    exact h
  · exact ⟨trivial, trivial, trivial, trivial, trivial⟩
 have HX0 := lh htk0
 clear hcl0 htk0
 have HB12 := lh (HB1.out hB1)
 clear HTY HB1 HB2
 obtain ⟨c0, c2, c3, c4, c5, c6, ⟨d0, d1, d2, d3, d4⟩, ⟨e0, e1, e2, e3, e4⟩⟩ := HC2.out _ HO.out.bel
 go_wp2_with (first
  | (at_builtin; refine Xax rfl _ _ rfl HO.out HTL.out rfl HE.out (by first | rfl | (rw [HSN.out]; rfl) | (rw [HST.out]; rfl) | (rw [HSN.out, HST.out]; rfl)) (by rfl) (by decide) (by simp) rfl ?_; intro g1 N1 c1 w1 L1 ho1 he1; replace HO := lh ho1; replace HE := lh he1; clear ho1 he1; obtain ⟨c0, c2, c3, c4, c5, c6, ⟨d0, d1, d2, d3, d4⟩, ⟨e0, e1, e2, e3, e4⟩⟩ := HC2.out w1 HO.out.bel)
  | (at_builtin; refine Xbq rfl _ _ rfl HO.out HTL.out rfl HE.out HU.out HUN.out rfl ?_; intro g1 N1 c1 w1 L1 ho1 he1; replace HO := lh ho1; replace HE := lh he1; clear ho1 he1; obtain ⟨c0, c2, c3, c4, c5, c6, ⟨d0, d1, d2, d3, d4⟩, ⟨e0, e1, e2, e3, e4⟩⟩ := HC2.out w1 HO.out.bel; clear HU HUN)
  | ((with_reducible refine (HX0.out _ (HUP.out _ HO.out.bel)).mono ?_); rintro e w1 ⟨gu, nu, cu, rfl, hu, hun⟩; have hb1 := hu.bel; replace HO := lh (HO.out.call hb1); have HU := lh hu; have HUN := lh hun; clear hu hun hb1; obtain ⟨c0, c2, c3, c4, c5, c6, ⟨d0, d1, d2, d3, d4⟩, ⟨e0, e1, e2, e3, e4⟩⟩ := HC2.out w1 HO.out.bel)
  | ((with_reducible refine (HB12.out _ (HUP.out _ HO.out.bel)).mono ?_); rintro e w1 ⟨gu, nu, cu, rfl, hu, hun⟩; have hb1 := hu.bel; replace HO := lh (HO.out.call hb1); have HU := lh hu; have HUN := lh hun; clear hu hun hb1; obtain ⟨c0, c2, c3, c4, c5, c6, ⟨d0, d1, d2, d3, d4⟩, ⟨e0, e1, e2, e3, e4⟩⟩ := HC2.out w1 HO.out.bel))
 go_ret
 exact ⟨_, _, _, rfl, HO.out.done HE.out (HEND.out _ HBV.out) (by have := HGL.out; have := HBV.out.size; omega), HT0.out⟩
set_option maxHeartbeats 40000000 in
set_option maxRecDepth 100000 in
theorem tk_4 {w X : World} {g : Nat} {p : Int} {SN ST : ByteArray} {A A2 A3 : Option Addr} {c m2 m3 nb : Nat} {em : Bool} {bz : Bool} {nm ty : List UInt8} {B1 B2 TY T : List (List UInt8)} {X0 : List (List UInt8)} (F : TkF w X g 4 p SN ST A A2 A3 c m2 m3 1 nb 0 em bz nm ty [X0] B1 B2 TY T) (hB1 : B1 ≠ []) (hT : [[119, 104, 105, 108, 101]] ++ (X0 ++ (B1 ++ [])) = T) :
  Calls Tryz.prog 50 #[.agg #[.int .i64 4, .int .i64 p, .string SN, .string ST, .slice A 1 c, .slice A2 nb m2, .slice A3 0 m3]] w fun e w' => ∃ g' N c, e = .returned (.slice (some ⟨g', 0, none⟩) N c) ∧ Out w w' g g' N c T ∧ T ≠ [] := by
 obtain ⟨HX, HG, HGL, HC, HTK, HTY, HB1, HB2, HEND, HSN, HST, HNX, HTL, HT0, hse, hsz⟩ := F
 have HE := lh hT
 clear hT
 obtain ⟨b0, o0, yk0, yp0, yn0, ys0, yv0, hA0, hcl0, htk0⟩ := HTK.out 0 (by simp)
 subst hA0
 clear HTK
 go_enter Tryz.func50, Tryz.ntmps50
 go_upto_region 1 with fail
 rw [← HG.out, ← HX.out]
 obtain ⟨c0, c2, c3, c4, c5, c6⟩ := HC.out X (Below.refl _ _)
 have hgl := HGL.out
 go_upto_region 3 with fail
 obtain ⟨V, hV⟩ : ∃ V : World, V = X.alloc (.cells #[.string ⟨#[]⟩, .string ⟨#[118, 97, 114]⟩, .string ⟨#[115, 101, 116]⟩, .string ⟨#[105, 102]⟩, .string ⟨#[119, 104, 105, 108, 101]⟩, .string ⟨#[108, 111, 99, 107]⟩, .string ⟨#[117, 110, 108, 111, 99, 107]⟩, .string ⟨#[115, 101, 110, 100]⟩, .string ⟨#[114, 101, 99, 118]⟩, .string ⟨#[111, 117, 116]⟩, .string ⟨#[99, 97, 108, 108]⟩, .string ⟨#[114, 101, 116, 117, 114, 110]⟩] 98) := ⟨_, rfl⟩
 have hsz : V.heap.size = X.heap.size + 1 := by rw [hV]; simp
 rw [← hV, ← hsz]
 have hbV : Below X.heap.size X V := by rw [hV]; exact (Below.refl _ _).alloc (Nat.le_refl _) _
 have HBV := lh hbV
 clear hV hbV hgl hsz c0 c2 c3 c4 c5 c6
 have HO := lh (Out.lit (V := V) (w := V) (base := V.heap.size) #[.string ⟨#[119, 104, 105, 108, 101]⟩] [[119, 104, 105, 108, 101]] 1 rfl rfl (Nat.le_refl _) (by simp) (Below.refl _ _))
 have HUP : Hid (∀ W, Below V.heap.size V W → Below X.heap.size X W) := lh fun W hW => HBV.out.trans (hW.mono HBV.out.size)
 have HC2 : Hid (∀ W : World, Below V.heap.size V W → W.cell? ⟨g, 0, none⟩ = some (.int .i64 4) ∧ W.cell? ⟨g, 2, none⟩ = some (.string SN) ∧ W.cell? ⟨g, 3, none⟩ = some (.string ST) ∧ W.cell? ⟨g, 4, none⟩ = some (.slice (some ⟨b0, o0, none⟩) 1 c) ∧ W.cell? ⟨g, 5, none⟩ = some (.slice A2 nb m2) ∧ W.cell? ⟨g, 6, none⟩ = some (.slice A3 0 m3) ∧ (W.cell? ⟨b0, o0, none⟩ = some (.int .i64 yk0) ∧ W.cell? ⟨b0, o0 + 1, none⟩ = some (.int .i64 yp0) ∧ W.cell? ⟨b0, o0 + 2, none⟩ = some (.int .i64 yn0) ∧ W.cell? ⟨b0, o0 + 3, none⟩ = some (.string ys0) ∧ W.cell? ⟨b0, o0 + 4, none⟩ = some yv0) ∧ (True ∧ True ∧ True ∧ True ∧ True)) := lh fun W hW => by
  obtain ⟨a0, a2, a3, a4, a5, a6⟩ := HC.out W (HUP.out W hW)
  refine ⟨a0, a2, a3, a4, a5, a6, ?_, ?_⟩
  · have h := hcl0 W (HUP.out W hW)
    simp only [Nat.zero_mul, Nat.add_zero] at h
    exact h
  · exact ⟨trivial, trivial, trivial, trivial, trivial⟩
 have HX0 := lh htk0
 clear hcl0 htk0
 have HB12 := lh (HB1.out hB1)
 clear HTY HB1 HB2
 obtain ⟨c0, c2, c3, c4, c5, c6, ⟨d0, d1, d2, d3, d4⟩, ⟨e0, e1, e2, e3, e4⟩⟩ := HC2.out _ HO.out.bel
 go_wp2_with (first
  | (at_builtin; refine Xax rfl _ _ rfl HO.out HTL.out rfl HE.out (by first | rfl | (rw [HSN.out]; rfl) | (rw [HST.out]; rfl) | (rw [HSN.out, HST.out]; rfl)) (by rfl) (by decide) (by simp) rfl ?_; intro g1 N1 c1 w1 L1 ho1 he1; replace HO := lh ho1; replace HE := lh he1; clear ho1 he1; obtain ⟨c0, c2, c3, c4, c5, c6, ⟨d0, d1, d2, d3, d4⟩, ⟨e0, e1, e2, e3, e4⟩⟩ := HC2.out w1 HO.out.bel)
  | (at_builtin; refine Xbq rfl _ _ rfl HO.out HTL.out rfl HE.out HU.out HUN.out rfl ?_; intro g1 N1 c1 w1 L1 ho1 he1; replace HO := lh ho1; replace HE := lh he1; clear ho1 he1; obtain ⟨c0, c2, c3, c4, c5, c6, ⟨d0, d1, d2, d3, d4⟩, ⟨e0, e1, e2, e3, e4⟩⟩ := HC2.out w1 HO.out.bel; clear HU HUN)
  | ((with_reducible refine (HX0.out _ (HUP.out _ HO.out.bel)).mono ?_); rintro e w1 ⟨gu, nu, cu, rfl, hu, hun⟩; have hb1 := hu.bel; replace HO := lh (HO.out.call hb1); have HU := lh hu; have HUN := lh hun; clear hu hun hb1; obtain ⟨c0, c2, c3, c4, c5, c6, ⟨d0, d1, d2, d3, d4⟩, ⟨e0, e1, e2, e3, e4⟩⟩ := HC2.out w1 HO.out.bel)
  | ((with_reducible refine (HB12.out _ (HUP.out _ HO.out.bel)).mono ?_); rintro e w1 ⟨gu, nu, cu, rfl, hu, hun⟩; have hb1 := hu.bel; replace HO := lh (HO.out.call hb1); have HU := lh hu; have HUN := lh hun; clear hu hun hb1; obtain ⟨c0, c2, c3, c4, c5, c6, ⟨d0, d1, d2, d3, d4⟩, ⟨e0, e1, e2, e3, e4⟩⟩ := HC2.out w1 HO.out.bel))
 go_ret
 exact ⟨_, _, _, rfl, HO.out.done HE.out (HEND.out _ HBV.out) (by have := HGL.out; have := HBV.out.size; omega), HT0.out⟩
set_option maxHeartbeats 40000000 in
set_option maxRecDepth 100000 in
theorem tk_3e {w X : World} {g : Nat} {p : Int} {SN ST : ByteArray} {A A2 A3 : Option Addr} {c m2 m3 nb nl : Nat} {em : Bool} {bz : Bool} {nm ty : List UInt8} {B1 B2 TY T : List (List UInt8)} {X0 : List (List UInt8)} (F : TkF w X g 3 p SN ST A A2 A3 c m2 m3 1 nb nl em bz nm ty [X0] B1 B2 TY T) (hnl : 0 < nl) (hB1 : B1 ≠ []) (hB2 : B2 ≠ []) (hT : [[105, 102]] ++ (X0 ++ (B1 ++ ([[101, 108, 115, 101]] ++ (B2 ++ [])))) = T) :
  Calls Tryz.prog 50 #[.agg #[.int .i64 3, .int .i64 p, .string SN, .string ST, .slice A 1 c, .slice A2 nb m2, .slice A3 nl m3]] w fun e w' => ∃ g' N c, e = .returned (.slice (some ⟨g', 0, none⟩) N c) ∧ Out w w' g g' N c T ∧ T ≠ [] := by
 obtain ⟨HX, HG, HGL, HC, HTK, HTY, HB1, HB2, HEND, HSN, HST, HNX, HTL, HT0, hse, hsz⟩ := F
 have HE := lh hT
 clear hT
 obtain ⟨b0, o0, yk0, yp0, yn0, ys0, yv0, hA0, hcl0, htk0⟩ := HTK.out 0 (by simp)
 subst hA0
 clear HTK
 go_enter Tryz.func50, Tryz.ntmps50
 go_upto_region 1 with fail
 rw [← HG.out, ← HX.out]
 obtain ⟨c0, c2, c3, c4, c5, c6⟩ := HC.out X (Below.refl _ _)
 have hgl := HGL.out
 go_upto_region 3 with fail
 obtain ⟨V, hV⟩ : ∃ V : World, V = X.alloc (.cells #[.string ⟨#[]⟩, .string ⟨#[118, 97, 114]⟩, .string ⟨#[115, 101, 116]⟩, .string ⟨#[105, 102]⟩, .string ⟨#[119, 104, 105, 108, 101]⟩, .string ⟨#[108, 111, 99, 107]⟩, .string ⟨#[117, 110, 108, 111, 99, 107]⟩, .string ⟨#[115, 101, 110, 100]⟩, .string ⟨#[114, 101, 99, 118]⟩, .string ⟨#[111, 117, 116]⟩, .string ⟨#[99, 97, 108, 108]⟩, .string ⟨#[114, 101, 116, 117, 114, 110]⟩] 98) := ⟨_, rfl⟩
 have hsz : V.heap.size = X.heap.size + 1 := by rw [hV]; simp
 rw [← hV, ← hsz]
 have hbV : Below X.heap.size X V := by rw [hV]; exact (Below.refl _ _).alloc (Nat.le_refl _) _
 have HBV := lh hbV
 clear hV hbV hgl hsz c0 c2 c3 c4 c5 c6
 have HO := lh (Out.lit (V := V) (w := V) (base := V.heap.size) #[.string ⟨#[105, 102]⟩] [[105, 102]] 1 rfl rfl (Nat.le_refl _) (by simp) (Below.refl _ _))
 have HUP : Hid (∀ W, Below V.heap.size V W → Below X.heap.size X W) := lh fun W hW => HBV.out.trans (hW.mono HBV.out.size)
 have HC2 : Hid (∀ W : World, Below V.heap.size V W → W.cell? ⟨g, 0, none⟩ = some (.int .i64 3) ∧ W.cell? ⟨g, 2, none⟩ = some (.string SN) ∧ W.cell? ⟨g, 3, none⟩ = some (.string ST) ∧ W.cell? ⟨g, 4, none⟩ = some (.slice (some ⟨b0, o0, none⟩) 1 c) ∧ W.cell? ⟨g, 5, none⟩ = some (.slice A2 nb m2) ∧ W.cell? ⟨g, 6, none⟩ = some (.slice A3 nl m3) ∧ (W.cell? ⟨b0, o0, none⟩ = some (.int .i64 yk0) ∧ W.cell? ⟨b0, o0 + 1, none⟩ = some (.int .i64 yp0) ∧ W.cell? ⟨b0, o0 + 2, none⟩ = some (.int .i64 yn0) ∧ W.cell? ⟨b0, o0 + 3, none⟩ = some (.string ys0) ∧ W.cell? ⟨b0, o0 + 4, none⟩ = some yv0) ∧ (True ∧ True ∧ True ∧ True ∧ True)) := lh fun W hW => by
  obtain ⟨a0, a2, a3, a4, a5, a6⟩ := HC.out W (HUP.out W hW)
  refine ⟨a0, a2, a3, a4, a5, a6, ?_, ?_⟩
  · have h := hcl0 W (HUP.out W hW)
    simp only [Nat.zero_mul, Nat.add_zero] at h
    exact h
  · exact ⟨trivial, trivial, trivial, trivial, trivial⟩
 have HX0 := lh htk0
 clear hcl0 htk0
 have HB22 := lh (HB2.out hB2)
 have HB12 := lh (HB1.out hB1)
 clear HTY HB1 HB2
 obtain ⟨c0, c2, c3, c4, c5, c6, ⟨d0, d1, d2, d3, d4⟩, ⟨e0, e1, e2, e3, e4⟩⟩ := HC2.out _ HO.out.bel
 go_wp2_with (first
  | (at_builtin; refine Xax rfl _ _ rfl HO.out HTL.out rfl HE.out (by first | rfl | (rw [HSN.out]; rfl) | (rw [HST.out]; rfl) | (rw [HSN.out, HST.out]; rfl)) (by rfl) (by decide) (by simp) rfl ?_; intro g1 N1 c1 w1 L1 ho1 he1; replace HO := lh ho1; replace HE := lh he1; clear ho1 he1; obtain ⟨c0, c2, c3, c4, c5, c6, ⟨d0, d1, d2, d3, d4⟩, ⟨e0, e1, e2, e3, e4⟩⟩ := HC2.out w1 HO.out.bel)
  | (at_builtin; refine Xbq rfl _ _ rfl HO.out HTL.out rfl HE.out HU.out HUN.out rfl ?_; intro g1 N1 c1 w1 L1 ho1 he1; replace HO := lh ho1; replace HE := lh he1; clear ho1 he1; obtain ⟨c0, c2, c3, c4, c5, c6, ⟨d0, d1, d2, d3, d4⟩, ⟨e0, e1, e2, e3, e4⟩⟩ := HC2.out w1 HO.out.bel; clear HU HUN)
  | ((with_reducible refine (HX0.out _ (HUP.out _ HO.out.bel)).mono ?_); rintro e w1 ⟨gu, nu, cu, rfl, hu, hun⟩; have hb1 := hu.bel; replace HO := lh (HO.out.call hb1); have HU := lh hu; have HUN := lh hun; clear hu hun hb1; obtain ⟨c0, c2, c3, c4, c5, c6, ⟨d0, d1, d2, d3, d4⟩, ⟨e0, e1, e2, e3, e4⟩⟩ := HC2.out w1 HO.out.bel)
  | ((with_reducible refine (HB12.out _ (HUP.out _ HO.out.bel)).mono ?_); rintro e w1 ⟨gu, nu, cu, rfl, hu, hun⟩; have hb1 := hu.bel; replace HO := lh (HO.out.call hb1); have HU := lh hu; have HUN := lh hun; clear hu hun hb1; obtain ⟨c0, c2, c3, c4, c5, c6, ⟨d0, d1, d2, d3, d4⟩, ⟨e0, e1, e2, e3, e4⟩⟩ := HC2.out w1 HO.out.bel)
  | ((with_reducible refine (HB22.out _ (HUP.out _ HO.out.bel)).mono ?_); rintro e w1 ⟨gu, nu, cu, rfl, hu, hun⟩; have hb1 := hu.bel; replace HO := lh (HO.out.call hb1); have HU := lh hu; have HUN := lh hun; clear hu hun hb1; obtain ⟨c0, c2, c3, c4, c5, c6, ⟨d0, d1, d2, d3, d4⟩, ⟨e0, e1, e2, e3, e4⟩⟩ := HC2.out w1 HO.out.bel))
 go_ret
 exact ⟨_, _, _, rfl, HO.out.done HE.out (HEND.out _ HBV.out) (by have := HGL.out; have := HBV.out.size; omega), HT0.out⟩
def okS (k : Int) (bn bz em bt : Bool) (tn nx nb nl : Nat) (fk : Int) (own : Int) : Prop :=
  (k = 1) ∧ (own = 4 + (tn : Int)) ∧ (bn = true) ∧ True ∧ True ∧ True ∧ (0 < tn) ∧ (nx = 1) ∧ (nb = 0) ∧ (nl = 0) ∧ True ∨
  (k = 2) ∧ (own = 3) ∧ (bn = false) ∧ (bz = true) ∧ (em = true) ∧ True ∧ True ∧ (nx = 2) ∧ (nb = 0) ∧ (nl = 0) ∧ ((fk = 4 ∨ fk = 5 ∨ fk = 6)) ∨
  (k = 5) ∧ (own = 3) ∧ (bn = true) ∧ True ∧ (em = true) ∧ True ∧ True ∧ (nx = 0) ∧ (nb = 0) ∧ (nl = 0) ∧ True ∨
  (k = 6) ∧ (own = 3) ∧ (bn = true) ∧ True ∧ (em = true) ∧ True ∧ True ∧ (nx = 0) ∧ (nb = 0) ∧ (nl = 0) ∧ True ∨
  (k = 7) ∧ (own = 3) ∧ (bn = true) ∧ True ∧ (em = true) ∧ True ∧ True ∧ (nx = 1) ∧ (nb = 0) ∧ (nl = 0) ∧ True ∨
  (k = 8) ∧ (own = 4) ∧ (bn = true) ∧ True ∧ True ∧ (bt = true) ∧ True ∧ (nx = 0) ∧ (nb = 0) ∧ (nl = 0) ∧ True ∨
  (k = 9) ∧ (own = 3) ∧ (bn = true) ∧ True ∧ (em = true) ∧ True ∧ True ∧ (nx = 1) ∧ (nb = 0) ∧ (nl = 0) ∧ True ∨
  (k = 10) ∧ (own = 5) ∧ (bn = true) ∧ True ∧ (em = true) ∧ True ∧ True ∧ (nx ≤ 1) ∧ (nb = 0) ∧ (nl = 0) ∧ True ∨
  (k = 10) ∧ (own = 5 + ((nx : Int) - 1)) ∧ (bn = true) ∧ True ∧ (em = true) ∧ True ∧ True ∧ (1 < nx ∧ nx ≤ 4) ∧ (nb = 0) ∧ (nl = 0) ∧ True ∨
  (k = 10) ∧ (own = 7) ∧ (bn = true) ∧ True ∧ (em = false) ∧ (bt = true) ∧ True ∧ (nx ≤ 1) ∧ (nb = 0) ∧ (nl = 0) ∧ True ∨
  (k = 10) ∧ (own = 7 + ((nx : Int) - 1)) ∧ (bn = true) ∧ True ∧ (em = false) ∧ (bt = true) ∧ True ∧ (1 < nx ∧ nx ≤ 4) ∧ (nb = 0) ∧ (nl = 0) ∧ True ∨
  (k = 11) ∧ (own = 2) ∧ (bn = false) ∧ (bz = true) ∧ (em = true) ∧ True ∧ True ∧ (nx ≤ 1) ∧ (nb = 0) ∧ (nl = 0) ∧ True
def okS34 (k : Int) (bn bz em bt : Bool) (tn nx nb nl : Nat) (fk : Int) (own : Int) : Prop :=
  (k = 3) ∧ (own = 1) ∧ (bn = false) ∧ (bz = true) ∧ (em = true) ∧ True ∧ True ∧ (nx = 1) ∧ True ∧ True ∧ True ∨
  (k = 4) ∧ (own = 1) ∧ (bn = false) ∧ (bz = true) ∧ (em = true) ∧ True ∧ True ∧ (nx = 1) ∧ True ∧ (nl = 0) ∧ True
def badS (k : Int) (bn bz em bt : Bool) (tn nx nb nl : Nat) (fk : Int) : Prop :=
  (k = 1) ∧ (bn = false) ∧ True ∧ True ∧ True ∧ True ∧ True ∧ True ∧ True ∧ True ∨
  (k = 1) ∧ (bn = true) ∧ True ∧ True ∧ True ∧ (tn = 0) ∧ True ∧ True ∧ True ∧ True ∨
  (k = 1) ∧ (bn = true) ∧ True ∧ True ∧ True ∧ (0 < tn) ∧ (¬ nx = 1) ∧ True ∧ True ∧ True ∨
  (k = 1) ∧ (bn = true) ∧ True ∧ True ∧ True ∧ (0 < tn) ∧ (nx = 1) ∧ (0 < nb) ∧ True ∧ True ∨
  (k = 1) ∧ (bn = true) ∧ True ∧ True ∧ True ∧ (0 < tn) ∧ (nx = 1) ∧ (nb = 0) ∧ (0 < nl) ∧ True ∨
  (k = 2) ∧ (bn = true) ∧ True ∧ True ∧ True ∧ True ∧ True ∧ True ∧ True ∧ True ∨
  (k = 2) ∧ (bn = false) ∧ (bz = false) ∧ True ∧ True ∧ True ∧ True ∧ True ∧ True ∧ True ∨
  (k = 2) ∧ (bn = false) ∧ (bz = true) ∧ (em = false) ∧ True ∧ True ∧ True ∧ True ∧ True ∧ True ∨
  (k = 2) ∧ (bn = false) ∧ (bz = true) ∧ (em = true) ∧ True ∧ True ∧ (¬ nx = 2) ∧ True ∧ True ∧ True ∨
  (k = 2) ∧ (bn = false) ∧ (bz = true) ∧ (em = true) ∧ True ∧ True ∧ (nx = 2) ∧ (0 < nb) ∧ True ∧ True ∨
  (k = 2) ∧ (bn = false) ∧ (bz = true) ∧ (em = true) ∧ True ∧ True ∧ (nx = 2) ∧ (nb = 0) ∧ (0 < nl) ∧ True ∨
  (k = 2) ∧ (bn = false) ∧ (bz = true) ∧ (em = true) ∧ True ∧ True ∧ (nx = 2) ∧ (nb = 0) ∧ (nl = 0) ∧ (¬ fk = 4 ∧ ¬ fk = 5 ∧ ¬ fk = 6) ∨
  (k = 3) ∧ (bn = true) ∧ True ∧ True ∧ True ∧ True ∧ True ∧ True ∧ True ∧ True ∨
  (k = 3) ∧ (bn = false) ∧ (bz = false) ∧ True ∧ True ∧ True ∧ True ∧ True ∧ True ∧ True ∨
  (k = 3) ∧ (bn = false) ∧ (bz = true) ∧ (em = false) ∧ True ∧ True ∧ True ∧ True ∧ True ∧ True ∨
  (k = 3) ∧ (bn = false) ∧ (bz = true) ∧ (em = true) ∧ True ∧ True ∧ (¬ nx = 1) ∧ True ∧ True ∧ True ∨
  (k = 4) ∧ (bn = true) ∧ True ∧ True ∧ True ∧ True ∧ True ∧ True ∧ True ∧ True ∨
  (k = 4) ∧ (bn = false) ∧ (bz = false) ∧ True ∧ True ∧ True ∧ True ∧ True ∧ True ∧ True ∨
  (k = 4) ∧ (bn = false) ∧ (bz = true) ∧ (em = false) ∧ True ∧ True ∧ True ∧ True ∧ True ∧ True ∨
  (k = 4) ∧ (bn = false) ∧ (bz = true) ∧ (em = true) ∧ True ∧ True ∧ (¬ nx = 1) ∧ True ∧ True ∧ True ∨
  (k = 4) ∧ (bn = false) ∧ (bz = true) ∧ (em = true) ∧ True ∧ True ∧ (nx = 1) ∧ True ∧ (0 < nl) ∧ True ∨
  (k = 5) ∧ (bn = false) ∧ True ∧ True ∧ True ∧ True ∧ True ∧ True ∧ True ∧ True ∨
  (k = 5) ∧ (bn = true) ∧ True ∧ (em = false) ∧ True ∧ True ∧ True ∧ True ∧ True ∧ True ∨
  (k = 5) ∧ (bn = true) ∧ True ∧ (em = true) ∧ True ∧ True ∧ (¬ nx = 0) ∧ True ∧ True ∧ True ∨
  (k = 5) ∧ (bn = true) ∧ True ∧ (em = true) ∧ True ∧ True ∧ (nx = 0) ∧ (0 < nb) ∧ True ∧ True ∨
  (k = 5) ∧ (bn = true) ∧ True ∧ (em = true) ∧ True ∧ True ∧ (nx = 0) ∧ (nb = 0) ∧ (0 < nl) ∧ True ∨
  (k = 6) ∧ (bn = false) ∧ True ∧ True ∧ True ∧ True ∧ True ∧ True ∧ True ∧ True ∨
  (k = 6) ∧ (bn = true) ∧ True ∧ (em = false) ∧ True ∧ True ∧ True ∧ True ∧ True ∧ True ∨
  (k = 6) ∧ (bn = true) ∧ True ∧ (em = true) ∧ True ∧ True ∧ (¬ nx = 0) ∧ True ∧ True ∧ True ∨
  (k = 6) ∧ (bn = true) ∧ True ∧ (em = true) ∧ True ∧ True ∧ (nx = 0) ∧ (0 < nb) ∧ True ∧ True ∨
  (k = 6) ∧ (bn = true) ∧ True ∧ (em = true) ∧ True ∧ True ∧ (nx = 0) ∧ (nb = 0) ∧ (0 < nl) ∧ True ∨
  (k = 7) ∧ (bn = false) ∧ True ∧ True ∧ True ∧ True ∧ True ∧ True ∧ True ∧ True ∨
  (k = 7) ∧ (bn = true) ∧ True ∧ (em = false) ∧ True ∧ True ∧ True ∧ True ∧ True ∧ True ∨
  (k = 7) ∧ (bn = true) ∧ True ∧ (em = true) ∧ True ∧ True ∧ (¬ nx = 1) ∧ True ∧ True ∧ True ∨
  (k = 7) ∧ (bn = true) ∧ True ∧ (em = true) ∧ True ∧ True ∧ (nx = 1) ∧ (0 < nb) ∧ True ∧ True ∨
  (k = 7) ∧ (bn = true) ∧ True ∧ (em = true) ∧ True ∧ True ∧ (nx = 1) ∧ (nb = 0) ∧ (0 < nl) ∧ True ∨
  (k = 8) ∧ (bn = false) ∧ True ∧ True ∧ True ∧ True ∧ True ∧ True ∧ True ∧ True ∨
  (k = 8) ∧ (bn = true) ∧ True ∧ True ∧ (bt = false) ∧ True ∧ True ∧ True ∧ True ∧ True ∨
  (k = 8) ∧ (bn = true) ∧ True ∧ True ∧ (bt = true) ∧ True ∧ (¬ nx = 0) ∧ True ∧ True ∧ True ∨
  (k = 8) ∧ (bn = true) ∧ True ∧ True ∧ (bt = true) ∧ True ∧ (nx = 0) ∧ (0 < nb) ∧ True ∧ True ∨
  (k = 8) ∧ (bn = true) ∧ True ∧ True ∧ (bt = true) ∧ True ∧ (nx = 0) ∧ (nb = 0) ∧ (0 < nl) ∧ True ∨
  (k = 9) ∧ (bn = false) ∧ True ∧ True ∧ True ∧ True ∧ True ∧ True ∧ True ∧ True ∨
  (k = 9) ∧ (bn = true) ∧ True ∧ (em = false) ∧ True ∧ True ∧ True ∧ True ∧ True ∧ True ∨
  (k = 9) ∧ (bn = true) ∧ True ∧ (em = true) ∧ True ∧ True ∧ (¬ nx = 1) ∧ True ∧ True ∧ True ∨
  (k = 9) ∧ (bn = true) ∧ True ∧ (em = true) ∧ True ∧ True ∧ (nx = 1) ∧ (0 < nb) ∧ True ∧ True ∨
  (k = 9) ∧ (bn = true) ∧ True ∧ (em = true) ∧ True ∧ True ∧ (nx = 1) ∧ (nb = 0) ∧ (0 < nl) ∧ True ∨
  (k = 10) ∧ (bn = false) ∧ True ∧ True ∧ True ∧ True ∧ True ∧ True ∧ True ∧ True ∨
  (k = 10) ∧ (bn = true) ∧ True ∧ (em = false) ∧ (bt = false) ∧ True ∧ True ∧ True ∧ True ∧ True ∨
  (k = 10) ∧ (bn = true) ∧ True ∧ (em = true) ∧ True ∧ True ∧ (4 < nx) ∧ True ∧ True ∧ True ∨
  (k = 10) ∧ (bn = true) ∧ True ∧ (em = false) ∧ (bt = true) ∧ True ∧ (4 < nx) ∧ True ∧ True ∧ True ∨
  (k = 10) ∧ (bn = true) ∧ True ∧ (em = true) ∧ True ∧ True ∧ (nx ≤ 4) ∧ (0 < nb) ∧ True ∧ True ∨
  (k = 10) ∧ (bn = true) ∧ True ∧ (em = false) ∧ (bt = true) ∧ True ∧ (nx ≤ 4) ∧ (0 < nb) ∧ True ∧ True ∨
  (k = 10) ∧ (bn = true) ∧ True ∧ (em = true) ∧ True ∧ True ∧ (nx ≤ 4) ∧ (nb = 0) ∧ (0 < nl) ∧ True ∨
  (k = 10) ∧ (bn = true) ∧ True ∧ (em = false) ∧ (bt = true) ∧ True ∧ (nx ≤ 4) ∧ (nb = 0) ∧ (0 < nl) ∧ True ∨
  (k = 11) ∧ (bn = true) ∧ True ∧ True ∧ True ∧ True ∧ True ∧ True ∧ True ∧ True ∨
  (k = 11) ∧ (bn = false) ∧ (bz = false) ∧ True ∧ True ∧ True ∧ True ∧ True ∧ True ∧ True ∨
  (k = 11) ∧ (bn = false) ∧ (bz = true) ∧ (em = false) ∧ True ∧ True ∧ True ∧ True ∧ True ∧ True ∨
  (k = 11) ∧ (bn = false) ∧ (bz = true) ∧ (em = true) ∧ True ∧ True ∧ (1 < nx) ∧ True ∧ True ∧ True ∨
  (k = 11) ∧ (bn = false) ∧ (bz = true) ∧ (em = true) ∧ True ∧ True ∧ (nx ≤ 1) ∧ (0 < nb) ∧ True ∧ True ∨
  (k = 11) ∧ (bn = false) ∧ (bz = true) ∧ (em = true) ∧ True ∧ True ∧ (nx ≤ 1) ∧ (nb = 0) ∧ (0 < nl) ∧ True
def fkOf : List Ex → Int
 | [] => 0
 | e :: _ => e.kind
set_option maxHeartbeats 4000000 in
theorem Xlh {k : Int} (k1 : 1 ≤ k) (k2 : k ≤ 11) (nm ty : List UInt8) (ex : List Ex) (nb nl : Nat) :
  (Xay k nm ty ex nb nl = true ∧ okS k (Xam nm) nm.isEmpty ty.isEmpty (Xam ty) (tyN ty) ex.length nb nl (fkOf ex) ((ownS k ty ex.length : Nat) : Int)) ∨
  (Xay k nm ty ex nb nl = true ∧ okS34 k (Xam nm) nm.isEmpty ty.isEmpty (Xam ty) (tyN ty) ex.length nb nl (fkOf ex) ((ownS k ty ex.length : Nat) : Int)) ∨
  (Xay k nm ty ex nb nl = false ∧ badS k (Xam nm) nm.isEmpty ty.isEmpty (Xam ty) (tyN ty) ex.length nb nl (fkOf ex)) := by
 have hp := Xpz (t := ty)
 have hn0 : nm.isEmpty = true → Xam nm = false := fun h => by rw [List.isEmpty_iff.1 h]; decide
 have hnm : nm = [] ↔ nm.isEmpty = true := List.isEmpty_iff.symm
 have hty : ty = [] ↔ ty.isEmpty = true := List.isEmpty_iff.symm
 generalize nm.isEmpty = bz at *
 generalize ty.isEmpty = em at *
 rw [Bool.eq_false_iff]
 unfold Xay okS okS34 badS ownS
 simp only [hnm, hty, ← hp]
 clear hnm hty hp
 generalize Xam nm = bn at *
 generalize Xam ty = bt at *
 generalize tyN ty = tn at *
 rcases Xod k1 k2 with rfl | rfl | rfl | rfl | rfl | rfl | rfl | rfl | rfl | rfl | rfl
 · cases bn <;> by_cases b3 : 0 < tn <;> by_cases b4x : ex.length = 1 <;> by_cases b5 : nb = 0 <;> by_cases b6 : nl = 0 <;> first | (simp_all [fkOf]; done) | (simp_all [fkOf]; omega)
 · cases bn <;> cases bz <;> cases em <;> rcases ex with _ | ⟨e1, _ | ⟨e2, _ | ⟨e3, r⟩⟩⟩ <;> by_cases b5 : nb = 0 <;> by_cases b6 : nl = 0 <;> first | (simp_all [fkOf]; done) | (simp_all [fkOf]; omega)
 · cases bn <;> cases bz <;> cases em <;> by_cases b4x : ex.length = 1 <;> first | (simp_all [fkOf]; done) | (simp_all [fkOf]; omega)
 · cases bn <;> cases bz <;> cases em <;> by_cases b4x : ex.length = 1 <;> by_cases b6 : nl = 0 <;> first | (simp_all [fkOf]; done) | (simp_all [fkOf]; omega)
 · cases bn <;> cases em <;> by_cases b4x : ex.length = 0 <;> by_cases b5 : nb = 0 <;> by_cases b6 : nl = 0 <;> first | (simp_all [fkOf]; done) | (simp_all [fkOf]; omega)
 · cases bn <;> cases em <;> by_cases b4x : ex.length = 0 <;> by_cases b5 : nb = 0 <;> by_cases b6 : nl = 0 <;> first | (simp_all [fkOf]; done) | (simp_all [fkOf]; omega)
 · cases bn <;> cases em <;> by_cases b4x : ex.length = 1 <;> by_cases b5 : nb = 0 <;> by_cases b6 : nl = 0 <;> first | (simp_all [fkOf]; done) | (simp_all [fkOf]; omega)
 · cases bn <;> cases bt <;> by_cases b4x : ex.length = 0 <;> by_cases b5 : nb = 0 <;> by_cases b6 : nl = 0 <;> first | (simp_all [fkOf]; done) | (simp_all [fkOf]; omega)
 · cases bn <;> cases em <;> by_cases b4x : ex.length = 1 <;> by_cases b5 : nb = 0 <;> by_cases b6 : nl = 0 <;> first | (simp_all [fkOf]; done) | (simp_all [fkOf]; omega)
 · cases bn <;> cases em <;> cases bt <;> by_cases b4x : ex.length ≤ 4 <;> by_cases b4y : ex.length ≤ 1 <;> by_cases b5 : nb = 0 <;> by_cases b6 : nl = 0 <;> first | (simp_all [fkOf]; done) | (simp_all [fkOf]; omega)
 · cases bn <;> cases bz <;> cases em <;> by_cases b4x : ex.length ≤ 1 <;> by_cases b5 : nb = 0 <;> by_cases b6 : nl = 0 <;> first | (simp_all [fkOf]; done) | (simp_all [fkOf]; omega)
end Go.Proofs.YtodociiaobjfgaaGreatDoor
