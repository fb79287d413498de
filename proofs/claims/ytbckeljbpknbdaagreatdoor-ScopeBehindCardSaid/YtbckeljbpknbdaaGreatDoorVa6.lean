/- Fb An Ao Ap As -/
import Derived.Test.YtbckeljbpknbdaaGreatDoorVa1
set_option linter.unusedVariables false
set_option linter.unusedSimpArgs false
namespace Go.Proofs.YtbckeljbpknbdaaGreatDoor
open Go.RowKit
section
structure FrOk (w : World) (B R L lo G0 G1 : Nat) (AV : Addr) (D : Int) (Fr : World → Value → List Tok → Prop) : Prop where
 rd : ∀ {Z v us}, Fr Z v us → RdAt Z B R L us
 size : ∀ {Z v us}, Fr Z v us → lo ≤ Z.heap.size
 chg : ∀ {Z v us}, Fr Z v us → Chg (fun b => b = R) w Z
 c0 : ∀ {Z v us}, Fr Z v us → Z.cell? ⟨G0, 0, none⟩ = some (.pointer (some ⟨R, 0, none⟩))
 c1 : ∀ {Z v us}, Fr Z v us → Z.cell? ⟨G1, 0, none⟩ = some (.int .i64 D)
 cv : ∀ {Z v us}, Fr Z v us → Z.cell? AV = some v
 fz : ∀ {Z v us}, Fr Z v us → Z.frozen? AV = false
 keep : ∀ {Z v us Z' us'}, Fr Z v us → (∀ b, b < lo → b ≠ R → Z'.heap[b]? = Z.heap[b]?) → Z.heap.size ≤ Z'.heap.size → RdAt Z' B R L us' → Chg (fun b => b = R) w Z' → Fr Z' v us'
 put : ∀ {Z v us} (v' : Value), Fr Z v us → Fr (Z.setCell AV v') v' us
 l0 : G0 < lo
 l1 : G1 < lo
 lv : AV.block < lo
 lB : B ≤ lo
 lw : w.heap.size ≤ lo
 n0 : AV.block ≠ G0
 n1 : AV.block ≠ G1
section
variable {w : World} {B R L lo G0 G1 : Nat} {AV : Addr} {D : Int} {Fr : World → Value → List Tok → Prop} {Z Z' : World} {v : Value} {us us' : List Tok}
theorem FrOk.step (hF : FrOk w B R L lo G0 G1 AV D Fr) (h : Fr Z v us) (hr : RdAt Z' B R L us') (hc : Chg (fun b => b = R) Z Z') : Fr Z' v us' :=
 hF.keep h (fun b hb hn => hc.block b (by have := hF.size h; omega) hn) hc.size hr ((hF.chg h).up hc)
theorem Xaq {P : Nat → Prop} {xs : List Ex} (hRl : ∀ b, P b → b ≠ R) (hR : R < lo) (h : Xaf Z P lo v xs) (hc : Chg (fun b => b = R) Z Z') : Xaf Z' P lo v xs :=
 Xaf.keep h hc.size fun b hb hP => hc.block b hb (by
  rcases hP with hP | hP
  · exact hRl b hP
  · have := (h.lt hP).1; omega)
end
theorem Xaf.slice {w : World} {P : Nat → Prop} {base : Nat} {v : Value} {es : List Ex} (h : Xaf w P base v es) : ∃ A c, v = .slice A es.length c := by
 obtain ⟨fs, hl, hown, hin⟩ := h
 rcases hown.2 with ⟨rfl, h2⟩ | ⟨g, cap, cur, rfl, hbg, hg, hc1, hc2, _⟩
 · exact ⟨none, 0, by rw [h2]⟩
 · exact ⟨_, cap, rfl⟩
def Xgv (w : World) (R lo : Nat) (Fr : World → Value → List Tok → Prop) (xs : List Ex) (x : Rd Ex) (e : Ending) (w' : World) : Prop := match x with
 | .bad p c => e = Xag p c ∧ Chg (fun b => b = R) w w'
 | .ok a r => e = .returned (.tuple #[]) ∧ ∃ A n c, Fr w' (.slice A n c) r ∧ Xaf w' (fun b => lo ≤ b) lo (.slice A n c) (xs ++ [a])
theorem Xkz {w : World} {B R L lo G0 G1 : Nat} {AV : Addr} {D : Int} {Fr : World → Value → List Tok → Prop} (hF : FrOk w B R L lo G0 G1 AV D Fr) {W : World} {v u : Value} {r : List Tok} {g k c : Nat} {xs : List Ex} {z a : Ex} (hk : k = xs.length)
  (h : Fr W v r) (hown : Xaf W (fun b => lo ≤ b) lo (.slice (some ⟨g, 0, none⟩) (k + 1) c) (xs ++ [z])) (hu : Xbb W (fun b => lo ≤ b ∧ b < W.heap.size ∧ b ≠ g) a.args u) (hn : a.name.length ≤ 16384) :
  (Fr ((five W g (k * 5) a u).setCell AV (.slice (some ⟨g, 0, none⟩) (k + 1) c)) (.slice (some ⟨g, 0, none⟩) (k + 1) c) r ∧ Xaf ((five W g (k * 5) a u).setCell AV (.slice (some ⟨g, 0, none⟩) (k + 1) c)) (fun b => lo ≤ b) lo (.slice (some ⟨g, 0, none⟩) (k + 1) c) (xs ++ [a])) ∧
  (Fr (five (W.setCell AV (.slice (some ⟨g, 0, none⟩) (k + 1) c)) g (k * 5) a u) (.slice (some ⟨g, 0, none⟩) (k + 1) c) r ∧ Xaf (five (W.setCell AV (.slice (some ⟨g, 0, none⟩) (k + 1) c)) g (k * 5) a u) (fun b => lo ≤ b) lo (.slice (some ⟨g, 0, none⟩) (k + 1) c) (xs ++ [a])) := by
 have hg := hown.lt (b := g) rfl
 have hlv := hF.lv
 have hlB := hF.lB
 have hlw := hF.lw
 have hfar : ∀ (W : World), (∀ b, b < lo → (five W g (k * 5) a u).heap[b]? = W.heap[b]?) := fun W b hb => by
  unfold five
  rw [Below.heap_setCell _ _ _ _ (by show b ≠ g; omega), Below.heap_setCell _ _ _ _ (by show b ≠ g; omega), Below.heap_setCell _ _ _ _ (by show b ≠ g; omega), Below.heap_setCell _ _ _ _ (by show b ≠ g; omega), Below.heap_setCell _ _ _ _ (by show b ≠ g; omega)]
 have hch : ∀ W : World, Chg (fun b => b = R) w W → Chg (fun b => b = R) w (five W g (k * 5) a u) := fun W h => h.trans (Xax W g (k * 5) a u) fun x hx e => by omega
 have hsz : ∀ W : World, (five W g (k * 5) a u).heap.size = W.heap.size := fun W => by simp [five, World.setCell]
 have hset : ∀ (W : World) (P : Nat → Prop) (v : Value) (xs : List Ex), (∀ b, P b → lo ≤ b) → Xaf W P lo v xs → Xaf (W.setCell AV (.slice (some ⟨g, 0, none⟩) (k + 1) c)) P lo v xs := fun W P v xs hP h => Xaf.keep h (by simp [World.setCell]) fun b hb hx => Below.heap_setCell _ _ _ _ (by
  rcases hx with hx | hx
  · have := hP b hx; omega
  · have := (h.lt hx).1; omega)
 refine ⟨⟨hF.put _ (hF.keep h (fun b hb _ => hfar W b hb) (by rw [hsz]; exact Nat.le_refl _) ((hF.rd h).keep fun b hb => hfar W b (by omega)) (hch W (hF.chg h))), hset _ _ _ _ (fun b hb => hb) (Xug hk hown hu hn)⟩, ?_, ?_⟩
 · have h2 := hF.put (.slice (some ⟨g, 0, none⟩) (k + 1) c) h
   exact hF.keep h2 (fun b hb _ => hfar _ b hb) (by rw [hsz]; exact Nat.le_refl _) ((hF.rd h2).keep fun b hb => hfar _ b (by omega)) (hch _ (hF.chg h2))
 · refine Xug hk (hset _ _ _ _ (fun b hb => hb) hown) (hu.keep (fun b hb => Below.heap_setCell _ _ _ _ (by have := hb.1; omega)) fun b hb => ⟨hb.1, by simpa [World.setCell] using hb.2.1, hb.2.2⟩) hn
theorem Xwb {W : World} {g : Nat} (h : W.heap[g]? = some (.cells #[.int .i64 0, .int .i64 0, .int .i64 0, .string ⟨#[]⟩, .slice none 0 0] 152 (0, 0))) : ∀ q y, (Xbd noEx (.slice none 0 0))[q]? = some y → W.cell? ((⟨g, 0, none⟩ : Addr).add q) = some y := fun q y hq => by
 rw [Xdo, Nat.zero_add, cell_of_row _ _ q _ _ (0, 0) h]
 simpa [Xbd, noEx, Ex.kind, Ex.pl, Ex.num, Ex.name, Xab] using hq
theorem Xla {w : World} {B R L lo G0 G1 : Nat} {AV : Addr} {D : Int} {Fr : World → Value → List Tok → Prop} (hF : FrOk w B R L lo G0 G1 AV D Fr) (hR : R < lo) {Z w2 w3 : World} {v v0 u : Value} {r : List Tok} {g base : Nat} {xs es : List Ex} (hown : Xaf Z (fun b => lo ≤ b) lo v xs) (hc : Chg (fun b => b = R) Z w2)
  (h : Fr w2 v0 r) (hu : Xbb w2 (fun b => base ≤ b ∧ b < w2.heap.size) es u) (hbase : Z.heap.size ≤ base) (hlo : lo ≤ Z.heap.size) (hk : ∀ b, b < w2.heap.size → v.ownBlock ≠ some b → w3.heap[b]? = w2.heap[b]?) (hs : w2.heap.size ≤ w3.heap.size) (hat : v.ownBlock = some g ∨ w2.heap.size ≤ g)
  (ho : w3.os = w2.os ∧ w3.tape = w2.tape ∧ w3.output = w2.output) :
  Fr w3 v0 r ∧ Xbb w3 (fun b => lo ≤ b ∧ b < w3.heap.size ∧ b ≠ g) es u := by
 have hlt := fun b (e : v.ownBlock = some b) => hown.lt e
 have hsz := hF.size h
 have hlB := hF.lB
 have hlw := hF.lw
 have hnv : ∀ b, b < lo → v.ownBlock ≠ some b := fun b hb e => by have := (hlt b e).1; omega
 refine ⟨hF.keep h (fun b hb _ => hk b (by omega) (hnv b hb)) hs ((hF.rd h).keep fun b hb => hk b (by omega) (hnv b (by omega))) ?_, hu.keep (fun b hb => hk b hb.2 fun e => by have := (hlt b e).2; have := hb.1; omega) fun b hb => ⟨by have := hb.1; omega, by have := hb.2; omega, fun e => ?_⟩⟩
 · have hcw := hF.chg h
   refine ⟨ho.1.trans hcw.os, ho.2.1.trans hcw.tape, ho.2.2.trans hcw.output, Nat.le_trans hcw.size hs, fun b hb hn => ?_⟩
   exact (hk b (by have := hcw.size; omega) (hnv b (by omega))).trans (hcw.block b hb hn)
 · subst e
   rcases hat with e | e
   · have := (hlt b e).2; have := hb.1; omega
   · have := hb.2; omega
end
set_option maxRecDepth 100000 in
set_option maxHeartbeats 2000000 in
theorem Yaa {w : World} {B R L n : Nat} {t : Tok} {r : List Tok} (h : RdAt w B R L (t :: r)) (hB : B ≤ w.heap.size) {base : Nat} (hbase : B ≤ base) (hbw : base ≤ w.heap.size) {Q : Nat → Prop} (HQ : Hid ((∀ b, Q b → B ≤ b) ∧ ∀ b, base ≤ b → Q b)) (o : Ex) (A : Option Addr) (z c : Nat) (hio : Xbb w (fun b => Q b ∧ b < w.heap.size) o.args (.slice A z c)) (hon : o.name.length ≤ 16384)
  (T : ByteArray) (hT : T.toList = [91]) (hT2 : T = Xab t.text) (D : Int) (hD0 : 0 ≤ D) (hD1 : D ≤ 24)
  (hE : ∀ (w : World) (us : List Tok), RdAt w B R L us → B ≤ w.heap.size → Calls Tryz.prog 110 #[.pointer (some ⟨R, 0, none⟩), .int .i64 (D + 1)] w (Xaj (ExB w.heap.size) w B R L (Xah L n us)))
  {a : Ex} {r2 r5 : List Tok} {t5 : Tok} (hx : Xah L n r = .ok a r2) (hnc : tx r2 ≠ [58]) (htx : Xal L [[93]] r2 = .ok t5 r5) (hM : Xdh L (Xah L n) o (t :: r) = .ok (.mk 6 t.pl 0 [] [o, a]) r5) :
  Calls Tryz.prog 126 #[.pointer (some ⟨R, 0, none⟩), .agg #[.int .i64 o.kind, .int .i64 o.pl, .int .i64 o.num, .string (Xab o.name), .slice A z c], .int .i64 D] w (Xaj (ExQ Q) w B R L (Xdh L (Xah L n) o (t :: r))) := by
 have HXE := lh hx
 have HNC := lh hnc
 have HTX := lh htx
 have HM := lh hM
 clear hx hnc htx hM
 obtain ⟨k, hk⟩ : ∃ x, x = o.kind := ⟨_, rfl⟩
 obtain ⟨p, hp⟩ : ∃ x, x = o.pl := ⟨_, rfl⟩
 obtain ⟨m, hm⟩ : ∃ x, x = o.num := ⟨_, rfl⟩
 obtain ⟨s, hs⟩ : ∃ x, x = Xab o.name := ⟨_, rfl⟩
 rw [← hk, ← hp, ← hm, ← hs]
 obtain ⟨X, hX⟩ : ∃ X : World, X = (w.alloc (.cells #[.int .i64 k, .int .i64 p, .int .i64 m, .string s, .slice A z c] 152)).alloc (.cells #[.int .i64 0, .int .i64 0, .int .i64 0, .string ⟨#[]⟩, .slice none 0 0] 152) := ⟨_, rfl⟩
 have hbx : Below w.heap.size w X := by rw [hX]; exact (Xae _ _).alloc (by simp) _
 have hx0 : X.heap[w.heap.size]? = some (.cells #[.int .i64 k, .int .i64 p, .int .i64 m, .string s, .slice A z c] 152 (0, 0)) := by
  rw [hX, Below.heap_alloc _ _ _ (by simp)]; exact heap_alloc_new _ _
 have hx1 : X.heap[w.heap.size + 1]? = some (.cells #[.int .i64 0, .int .i64 0, .int .i64 0, .string ⟨#[]⟩, .slice none 0 0] 152 (0, 0)) := by
  rw [hX]
  have := heap_alloc_new (w.alloc (.cells #[.int .i64 k, .int .i64 p, .int .i64 m, .string s, .slice A z c] 152)) (.cells #[.int .i64 0, .int .i64 0, .int .i64 0, .string ⟨#[]⟩, .slice none 0 0] 152)
  simpa using this
 have hxs : X.heap.size = w.heap.size + 2 := by rw [hX]; simp
 have hRw : R < w.heap.size := by have := h.lt; omega
 have HR0 := lh (h.below' hB hbx)
 have HS0 := lh (Nat.le_trans hB hbx.size)
 have HRW := lh hRw
 have HX := lh hX
 have H0 := lh hx0
 have H1 := lh hx1
 have HXS := lh hxs
 have HBX := lh hbx
 have HIO := lh hio
 have HON := lh hon
 have HOC : Hid (∀ u, Xbd o u = [.int .i64 k, .int .i64 p, .int .i64 m, .string s, u]) := lh fun u => by rw [hk, hp, hm, hs]; rfl
 have HOK : Hid (k = o.kind ∧ p = o.pl ∧ m = o.num ∧ s = Xab o.name) := lh ⟨hk, hp, hm, hs⟩
 have HBS := lh hbase
 have HBW := lh hbw
 have hf1 := Xdn
 have hf2 := Xrq
 have HE := lh hE
 obtain ⟨K, hK⟩ : ∃ K : Int, K = (t.kind : Nat) := ⟨_, rfl⟩
 obtain ⟨U, hU⟩ : ∃ U : Int, U = (t.pl : Nat) := ⟨_, rfl⟩
 have HUP := lh hU
 have HP := lh (Xbn HR0.out HS0.out)
 rw [← hK, ← hU, ← hT2] at HP
 clear hX hx0 hx1 hbx h hB hK hU hT2 hxs hRw hio hon hk hp hm hs hbase hbw hE
 go_enter Tryz.func126, Tryz.ntmps126
 go_wp2_with fail
 rw [← HX.out]
 refine HP.out.mono ?_
 rintro e w1 ⟨rfl, hr, hc⟩
 obtain ⟨a0, a1, a2, a3, a4, -⟩ := row5 (hc.row H0.out (by have := HRW.out; omega))
 have u0 := Xaa a0
 have u1 := Xaa a1
 have u2 := Xaa a2
 have u3 := Xaa a3
 have u4 := Xaa a4
 have HR1 := lh hr
 have HC1 := lh hc
 clear hr hc a0 a1 a2 a3 a4
 go_wp2_with fail
 obtain ⟨Y, hY⟩ : ∃ Y : World, Y = ((w1.alloc (.cells #[.int .i64 K, .string T, .int .i64 U] 76)).alloc (.cells #[.int .i64 k, .int .i64 p, .int .i64 m, .string s, .slice A z c] 152)).alloc (.cells #[.int .i64 6, .int .i64 U, .int .i64 0, .string ⟨#[]⟩, .slice (some ⟨w1.heap.size + 1, 0, none⟩) 1 1] 152) := ⟨_, rfl⟩
 rw [← hY]
 have hby : Below w1.heap.size w1 Y := by rw [hY]; exact ((Xae _ _).alloc (by simp) _).alloc (by simp; omega) _
 have hye : Y.heap[w1.heap.size + 1 + 1]? = some (.cells #[.int .i64 6, .int .i64 U, .int .i64 0, .string ⟨#[]⟩, .slice (some ⟨w1.heap.size + 1, 0, none⟩) 1 1] 152 (0, 0)) := by
  rw [hY]
  have := heap_alloc_new ((w1.alloc (.cells #[.int .i64 K, .string T, .int .i64 U] 76)).alloc (.cells #[.int .i64 k, .int .i64 p, .int .i64 m, .string s, .slice A z c] 152)) (.cells #[.int .i64 6, .int .i64 U, .int .i64 0, .string ⟨#[]⟩, .slice (some ⟨w1.heap.size + 1, 0, none⟩) 1 1] 152)
  simpa using this
 have hyo : Y.heap[w1.heap.size + 1]? = some (.cells #[.int .i64 k, .int .i64 p, .int .i64 m, .string s, .slice A z c] 152 (0, 0)) := by
  rw [hY, Below.heap_alloc _ _ _ (by simp)]
  have := heap_alloc_new (w1.alloc (.cells #[.int .i64 K, .string T, .int .i64 U] 76)) (.cells #[.int .i64 k, .int .i64 p, .int .i64 m, .string s, .slice A z c] 152)
  simpa using this
 have hys : Y.heap.size = w1.heap.size + 3 := by rw [hY]; simp
 have HYB := lh hby
 have HYE := lh hye
 have HYO := lh hyo
 have HYS := lh hys
 have hyw : B ≤ Y.heap.size := by have := HC1.out.size; have := HS0.out; have := hby.size; omega
 have hRd : RdAt Y B R L r := HR1.out.below' (by have := HC1.out.size; have := HS0.out; omega) hby
 have HCY : Hid (Chg (fun b => b = R) w Y) := lh (Xbf HBX.out (HC1.out.up (Chg.of_below hby)))
 have HRD := lh hRd
 have HYW := lh hyw
 have q4 : Y.cell? ⟨w1.heap.size + 1 + 1, 4, none⟩ = some (.slice (some ⟨w1.heap.size + 1, 0, none⟩) 1 1) := by rw [cell_of_row Y _ 4 _ _ (0, 0) hye]; rfl
 have HNR : Hid (w1.heap.size + 1 + 1 ≠ R ∧ w.heap.size + 1 ≠ R ∧ w.heap.size + 2 ≤ w1.heap.size) := lh (by have := HRW.out; have := HC1.out.size; have := HXS.out; omega)
 have HOW : Hid (Xaf Y (fun b => Q b ∧ (b < w.heap.size ∨ w1.heap.size + 1 + 1 < b)) base (.slice (some ⟨w1.heap.size + 1, 0, none⟩) 1 1) [o]) := lh (Xgo (by have := HNR.out; have := HBW.out; omega) (by rw [← HOK.out.1, ← HOK.out.2.1, ← HOK.out.2.2.1, ← HOK.out.2.2.2]; exact hyo) (by have := HON.out; omega)
  ((HIO.out.keep (fun b hb => (hby.block b (by have := HNR.out; omega)).trans ((HC1.out.block b (by have := HXS.out; omega) (by have := HQ.out.1 b hb.1; have h9 := hRd.lt; omega)).trans (HBX.out.block b hb.2))) fun b hb => ⟨⟨hb.1, by have := HNR.out; omega⟩, by have := HNR.out; have := hby.size; omega, by have := HNR.out; omega⟩)))
 have HWR : Hid (IntKind.i64.wrap (D + 1) = D + 1) := lh (IntWalk.i64_in _ ⟨by omega, by omega⟩)
 have HRES : Hid (Y.heap[w.heap.size + 1]? = some (.cells #[.int .i64 0, .int .i64 0, .int .i64 0, .string ⟨#[]⟩, .slice none 0 0] 152 (0, 0))) := lh ((hby.block _ (by have := HNR.out; omega)).trans (HC1.out.row H1.out (by have := HNR.out; omega)))
 obtain ⟨ak, hak⟩ : ∃ x, x = a.kind := ⟨_, rfl⟩
 obtain ⟨ap, hap⟩ : ∃ x, x = a.pl := ⟨_, rfl⟩
 obtain ⟨am, ham⟩ : ∃ x, x = a.num := ⟨_, rfl⟩
 obtain ⟨sa, has⟩ : ∃ x, x = Xab a.name := ⟨_, rfl⟩
 have HAK : Hid (∀ u, Xbd a u = [.int .i64 ak, .int .i64 ap, .int .i64 am, .string sa, u]) := lh fun u => by rw [hak, hap, ham, has]; rfl
 have HC : Hid (Calls Tryz.prog 110 #[.pointer (some ⟨R, 0, none⟩), .int .i64 (D + 1)] Y.drew fun e w2 => ∃ u2, e = .returned (.agg #[.int .i64 ak, .int .i64 ap, .int .i64 am, .string sa, u2]) ∧ a.name.length ≤ 16384 ∧ Xbb w2 (fun b => Y.heap.size ≤ b ∧ b < w2.heap.size) a.args u2 ∧ RdAt w2 B R L r2 ∧ Chg (fun b => b = R) Y w2) := lh (by
  have h1 := HE.out Y.drew r HRD.out.drew HYW.out
  rw [HXE.out] at h1
  refine h1.mono fun e w2 => ?_
  rintro ⟨⟨v, rfl, u2, rfl, hn2, hi2⟩, hr2, hc2⟩
  exact ⟨u2, by rw [hak, hap, ham, has], hn2, hi2, hr2, ⟨hc2.os, hc2.tape, hc2.output, hc2.size, hc2.block⟩⟩)
 clear hak hap ham has
 clear hY hby hye hyo hys hyw hRd u0 u1 u2 u3 u4
 have q5 : Y.drew.cell? ⟨w1.heap.size + 1 + 1, 4, none⟩ = some (.slice (some ⟨w1.heap.size + 1, 0, none⟩) 1 1) := q4
 go_region_law (first
  | (go_simp
     go_at_call 110
     rw [HWR.out]
     refine HC.out.mono ?_
     rintro e w2 ⟨u2, rfl, hn2, hi2, hr2, hc2⟩
     have p4 : w2.cell? ⟨w1.heap.size + 1 + 1, 4, none⟩ = some (.slice (some ⟨w1.heap.size + 1, 0, none⟩) 1 1) := hc2.cell q4 HNR.out.1
     have p5 := Xaa p4
     obtain ⟨HO2, HN2, HU2, HE2, HL2, HZ2⟩ := Xhe HQ HOW HAK HYE HNR HYS HBW HBS hn2 hi2 hr2 hc2
     have HR2 := lh hr2
     have HC2 := lh hc2
     clear hn2 hi2 hr2 hc2)
  | (refine Xbh rfl _ _ (by rfl) base (.slice (some ⟨w1.heap.size + 1, 0, none⟩) 1 1) [o] (by rfl) HO2.out ⟨w2.heap.size, 0, none⟩ 1 a u2 (by rfl) HN2.out HU2.out HL2.out (by simp) HZ2.out ?_
     intro g3 c3 w3 hown3 hgr hat
     obtain ⟨-, -, -, -, q6, -, -, -, -, z6⟩ := row5 ((hgr.block _ (Xac HE2.out) (by simp [Value.ownBlock])).trans HE2.out)
     have HZ3 := Xgd HE2 HR2 HC2 HCY HNR HRES HBW HBS HYW hown3 hgr hat
     have HGN : Hid ((Value.slice (some ⟨g3, 0, none⟩) 2 c3).ownBlock ≠ some (w.heap.size + 1)) := lh (Xlk hat (by have := HNR.out; omega) (by have := HNR.out; have := HC2.out.size; have := HYS.out; simp; omega))
     clear hown3 hgr hat))
 all_goals clear q4 q5 q6 z6 p4 p5 HO2 HN2 HU2 HE2 HL2 HZ2
 all_goals
  obtain ⟨Z, hZ⟩ : ∃ Z : World, Z = w3.setCell ⟨w1.heap.size + 1 + 1, 4, none⟩ (.slice (some ⟨g3, 0, none⟩) 2 c3) := ⟨_, rfl⟩
  rw [← hZ] at HZ3 ⊢
  clear hZ
  have HGG : Hid ((Value.slice (some ⟨g3, 0, none⟩) 2 c3).ownBlock ≠ some (w.heap.size + 1)) := HGN
  have HBZ : Hid (B ≤ Z.heap.size) := lh (by have := HZ3.out.chg.size; have := HBS.out; have := HBW.out; omega)
  have HSK : Hid (Calls Tryz.prog 111 #[.pointer (some ⟨R, 0, none⟩), .string ⟨#[58]⟩] Z fun e w' => e = .returned (.bool false) ∧ RdAt w' B R L r2 ∧ Chg (fun b => b = R) Z w') := lh (by
   have h1 := Xfw HZ3.out.rd HBZ.out [58] (by simp)
   rw [decide_eq_false HNC.out, if_neg HNC.out] at h1
   exact h1)
  go_wp2_with fail
  refine HSK.out.mono ?_
  rintro e w4 ⟨rfl, hr4, hc4⟩
  have HZ4 := lh (HZ3.out.step HQ HBS.out HBW.out (by have := HNR.out; omega) hr4 hc4)
  have HTK := lh (Xan hr4 (Nat.le_trans HBZ.out hc4.size) [[93]] (by simp) (by decide))
  clear hr4 hc4
  go_wp2_with fail
  refine HTK.out.mono ?_
  rintro e w5 hp
  rw [HTX.out] at hp
  obtain ⟨⟨v5, rfl, hv5⟩, hr5, hc5⟩ := hp
  have HZ5 := lh (HZ4.out.step HQ HBS.out HBW.out (by have := HNR.out; omega) hr5 hc5)
  clear hv5 hr5 hc5
  obtain ⟨a0, a1, a2, a3, a4, b0, b1, b2, b3, b4, f0, f1, f2, f3, f4⟩ := HZ5.out.rows
  go_wp2
  refine bodyPost_ret (v := .agg #[.int .i64 6, .int .i64 U, .int .i64 0, .string ⟨#[]⟩, (.slice (some ⟨g3, 0, none⟩) 2 c3)]) ?_ rfl ?_
  · clear HZ3 HZ4 HZ5 HM HUP HRES HOW HWR HC HAK HRD HYW HCY HNR
    simp [results, Tryz.results126, go_sem, b0, b1, b2, b3, b4]
  · rw [HM.out]
    exact HZ5.out.done HQ HBS.out HBW.out (by have := HNR.out; omega) HGG.out HUP.out
section
section
variable {Q : Nat → Prop} {w Y w6 w7 : World} {B R L base E : Nat} {kd U : Int} {v : Value} {xs : List Ex} {us r6 : List Tok} {b : Ex} {bk bp bm : Int} {sb : ByteArray} {u6 : Value}
theorem Xcq.after (h : Xcq Q w Y B R L base E kd U v xs us) (HQ : Hid ((∀ b, Q b → B ≤ b) ∧ ∀ b, base ≤ b → Q b)) (hB : B ≤ base) (hb : base ≤ w.heap.size) (hE : w.heap.size + 1 < E) (HBK : Hid (∀ u, Xbd b u = [.int .i64 bk, .int .i64 bp, .int .i64 bm, .string sb, u]))
  (hn : b.name.length ≤ 16384) (hi : Xbb w6 (fun x => Y.heap.size ≤ x ∧ x < w6.heap.size) b.args u6) (hr : RdAt w6 B R L r6) (hc : Chg (fun x => x = R) Y w6) :
  Hid (Xaf (w6.alloc (.cells #[.int .i64 bk, .int .i64 bp, .int .i64 bm, .string sb, u6] 152)) (fun x => Q x ∧ (x < w.heap.size ∨ E < x)) base v xs) ∧ Hid (∀ q y, (Xbd b u6)[q]? = some y → (w6.alloc (.cells #[.int .i64 bk, .int .i64 bp, .int .i64 bm, .string sb, u6] 152)).cell? ((⟨w6.heap.size, 0, none⟩ : Addr).add q) = some y) ∧
  Hid (Xbb (w6.alloc (.cells #[.int .i64 bk, .int .i64 bp, .int .i64 bm, .string sb, u6] 152)) (fun x => (Q x ∧ (x < w.heap.size ∨ E < x)) ∧ x < (w6.alloc (.cells #[.int .i64 bk, .int .i64 bp, .int .i64 bm, .string sb, u6] 152)).heap.size ∧ v.ownBlock ≠ some x) b.args u6) ∧ Hid (Xcq Q w (w6.alloc (.cells #[.int .i64 bk, .int .i64 bp, .int .i64 bm, .string sb, u6] 152)) B R L base E kd U v xs r6) ∧ Hid (b.name.length ≤ 140737488355328) ∧ Hid (base ≤ (w6.alloc (.cells #[.int .i64 bk, .int .i64 bp, .int .i64 bm, .string sb, u6] 152)).heap.size) := by
 have h5 := hr.lt
 have h6 := hc.size
 have h7 := h.chg.size
 have hl := Xac h.row
 have h8 := h.step HQ hB hb (by omega) hr hc
 have h9 : Xcq Q w (w6.alloc (.cells #[.int .i64 bk, .int .i64 bp, .int .i64 bm, .string sb, u6] 152)) B R L base E kd U v xs r6 := ⟨by rw [Below.heap_alloc _ _ _ (Xac h8.row)]; exact h8.row, by rw [Below.heap_alloc _ _ _ (Xac h8.res)]; exact h8.res, h8.rd.alloc (by omega) _, h8.chg.alloc _,
  Xaf.keep h8.own (by simp) fun x hx _ => Below.heap_alloc _ _ _ hx, h8.nown⟩
 refine ⟨lh h9.own, lh (Xnx (w := w6) bk bp bm sb (HBK.out u6)), lh ?_, lh h9, lh (by omega), lh (by simp; omega)⟩
 refine hi.keep (fun x hx => (Xae _ _).block x hx.2) fun x hx => ⟨⟨HQ.out.2 x (by omega), by omega⟩, by simp; omega, fun e => ?_⟩
 have := (h.own.lt e).2
 omega
theorem Xcq.stored {g c : Nat} (h : Xcq Q w (w6.alloc (.cells #[.int .i64 bk, .int .i64 bp, .int .i64 bm, .string sb, u6] 152)) B R L base E kd U v xs r6) (hB : B ≤ base) (hb : base ≤ w.heap.size) (hE : w.heap.size + 1 < E) (hE2 : E < w6.heap.size) (hgW : v.ownBlock ≠ some (w.heap.size + 1)) (hgN : ∀ k, v.ownBlock = some k → w.heap.size ≤ k)
  (hown : Xaf w7 (fun x => Q x ∧ (x < w.heap.size ∨ E < x)) base (.slice (some ⟨g, 0, none⟩) (xs.length + 1) c) (xs ++ [b])) (hgr : (w6.alloc (.cells #[.int .i64 bk, .int .i64 bp, .int .i64 bm, .string sb, u6] 152)).grownBy w7 v.ownBlock) (hat : v.ownBlock = some g ∨ g = (w6.alloc (.cells #[.int .i64 bk, .int .i64 bp, .int .i64 bm, .string sb, u6] 152)).heap.size) :
  Hid (Xcq Q w (w7.setCell ⟨E, 4, none⟩ (.slice (some ⟨g, 0, none⟩) (xs.length + 1) c)) B R L base E kd U (.slice (some ⟨g, 0, none⟩) (xs.length + 1) c) (xs ++ [b]) r6) := by
 have h8 : (w6.alloc (.cells #[.int .i64 bk, .int .i64 bp, .int .i64 bm, .string sb, u6] 152)).heap.size = w6.heap.size + 1 := by simp
 have hgE : g ≠ E := by
  rcases hat with hat | hat
  · intro e; rw [e] at hat; exact h.nown hat
  · omega
 have hR := h.rd.lt
 refine lh ⟨Xyk ((hgr.block _ (Xac h.row) (fun e => h.nown e.symm)).trans h.row) _, ?_, ?_, ?_, ?_, ?_⟩
 · rw [Below.heap_setCell _ _ _ _ (by simp; omega)]
   exact (hgr.block _ (Xac h.res) (fun e => hgW e.symm)).trans h.res
 · refine (h.rd.keep fun x hx => hgr.block x (by omega) (fun e => ?_)).setCell _ _ (by simp; omega)
   have := hgN x e.symm; omega
 · refine (h.chg.grown hgr (fun k hk e => ?_)).setCell _ _ fun e => ?_
   · have := hgN k e; omega
   · have : E < w.heap.size := e
     omega
 · refine Xaf.keep hown (by simp [World.setCell]) fun x hx hP => Below.heap_setCell _ _ _ _ ?_
   rcases hP with hP | hP
   · show x ≠ E
     have := hP.2; omega
   · have : g = x := by simpa [Value.ownBlock] using hP
     show x ≠ E
     omega
 · intro e
   have : g = E := by simpa [Value.ownBlock] using e
   exact hgE this
theorem Xcq.kind (h : Xcq Q w Y B R L base E kd U v xs us) (hB : B ≤ base) (hb : base ≤ w.heap.size) (hE : w.heap.size + 1 < E) (kd' : Int) : Xcq Q w (Y.setCell ⟨E, 0, none⟩ (.int .i64 kd')) B R L base E kd' U v xs us := by
 refine ⟨Yfk h.row _, ?_, h.rd.setCell _ _ (by simp; omega), h.chg.setCell _ _ (fun e => ?_), Xaf.keep h.own (by simp [World.setCell]) fun x hx hP => Below.heap_setCell _ _ _ _ ?_, h.nown⟩
 · rw [Below.heap_setCell _ _ _ _ (by simp; omega)]; exact h.res
 · have : E < w.heap.size := e
   omega
 · rcases hP with hP | hP
   · show x ≠ E
     have := hP.2; omega
   · show x ≠ E
     intro e; rw [e] at hP; exact h.nown hP
theorem Xcq.four (h : Xcq Q w Y B R L base E kd U v xs us) : Y.cell? ⟨E, 0, none⟩ = some (.int .i64 kd) ∧ Y.frozen? ⟨E, 0, none⟩ = false ∧ Y.cell? ⟨E, 4, none⟩ = some v ∧ Y.frozen? ⟨E, 4, none⟩ = false := by
 obtain ⟨a0, -, -, -, a4, f0, -, -, -, f4⟩ := row5 h.row
 exact ⟨a0, f0, a4, f4⟩
end
set_option maxRecDepth 100000 in
set_option maxHeartbeats 2000000 in
theorem Xox {w : World} {B R L n : Nat} {t : Tok} {r : List Tok} (h : RdAt w B R L (t :: r)) (hB : B ≤ w.heap.size) {base : Nat} (hbase : B ≤ base) (hbw : base ≤ w.heap.size) {Q : Nat → Prop} (HQ : Hid ((∀ b, Q b → B ≤ b) ∧ ∀ b, base ≤ b → Q b)) (o : Ex) (A : Option Addr) (z c : Nat) (hio : Xbb w (fun b => Q b ∧ b < w.heap.size) o.args (.slice A z c)) (hon : o.name.length ≤ 16384)
  (T : ByteArray) (hT : T.toList = [91]) (hT2 : T = Xab t.text) (D : Int) (hD0 : 0 ≤ D) (hD1 : D ≤ 24)
  (hE : ∀ (w : World) (us : List Tok), RdAt w B R L us → B ≤ w.heap.size → Calls Tryz.prog 110 #[.pointer (some ⟨R, 0, none⟩), .int .i64 (D + 1)] w (Xaj (ExB w.heap.size) w B R L (Xah L n us)))
  {a : Ex} {r2 : List Tok} {p5 c5 : Nat} (hx : Xah L n r = .ok a r2) (hnc : tx r2 ≠ [58]) (htx : Xal L [[93]] r2 = .bad p5 c5) (hM : Xdh L (Xah L n) o (t :: r) = .bad p5 c5) :
  Calls Tryz.prog 126 #[.pointer (some ⟨R, 0, none⟩), .agg #[.int .i64 o.kind, .int .i64 o.pl, .int .i64 o.num, .string (Xab o.name), .slice A z c], .int .i64 D] w (Xaj (ExQ Q) w B R L (Xdh L (Xah L n) o (t :: r))) := by
 have HXE := lh hx
 have HNC := lh hnc
 have HTX := lh htx
 have HM := lh hM
 clear hx hnc htx hM
 obtain ⟨k, hk⟩ : ∃ x, x = o.kind := ⟨_, rfl⟩
 obtain ⟨p, hp⟩ : ∃ x, x = o.pl := ⟨_, rfl⟩
 obtain ⟨m, hm⟩ : ∃ x, x = o.num := ⟨_, rfl⟩
 obtain ⟨s, hs⟩ : ∃ x, x = Xab o.name := ⟨_, rfl⟩
 rw [← hk, ← hp, ← hm, ← hs]
 obtain ⟨X, hX⟩ : ∃ X : World, X = (w.alloc (.cells #[.int .i64 k, .int .i64 p, .int .i64 m, .string s, .slice A z c] 152)).alloc (.cells #[.int .i64 0, .int .i64 0, .int .i64 0, .string ⟨#[]⟩, .slice none 0 0] 152) := ⟨_, rfl⟩
 have hbx : Below w.heap.size w X := by rw [hX]; exact (Xae _ _).alloc (by simp) _
 have hx0 : X.heap[w.heap.size]? = some (.cells #[.int .i64 k, .int .i64 p, .int .i64 m, .string s, .slice A z c] 152 (0, 0)) := by
  rw [hX, Below.heap_alloc _ _ _ (by simp)]; exact heap_alloc_new _ _
 have hx1 : X.heap[w.heap.size + 1]? = some (.cells #[.int .i64 0, .int .i64 0, .int .i64 0, .string ⟨#[]⟩, .slice none 0 0] 152 (0, 0)) := by
  rw [hX]
  have := heap_alloc_new (w.alloc (.cells #[.int .i64 k, .int .i64 p, .int .i64 m, .string s, .slice A z c] 152)) (.cells #[.int .i64 0, .int .i64 0, .int .i64 0, .string ⟨#[]⟩, .slice none 0 0] 152)
  simpa using this
 have hxs : X.heap.size = w.heap.size + 2 := by rw [hX]; simp
 have hRw : R < w.heap.size := by have := h.lt; omega
 have HR0 := lh (h.below' hB hbx)
 have HS0 := lh (Nat.le_trans hB hbx.size)
 have HRW := lh hRw
 have HX := lh hX
 have H0 := lh hx0
 have H1 := lh hx1
 have HXS := lh hxs
 have HBX := lh hbx
 have HIO := lh hio
 have HON := lh hon
 have HOC : Hid (∀ u, Xbd o u = [.int .i64 k, .int .i64 p, .int .i64 m, .string s, u]) := lh fun u => by rw [hk, hp, hm, hs]; rfl
 have HOK : Hid (k = o.kind ∧ p = o.pl ∧ m = o.num ∧ s = Xab o.name) := lh ⟨hk, hp, hm, hs⟩
 have HBS := lh hbase
 have HBW := lh hbw
 have hf1 := Xdn
 have hf2 := Xrq
 have HE := lh hE
 obtain ⟨K, hK⟩ : ∃ K : Int, K = (t.kind : Nat) := ⟨_, rfl⟩
 obtain ⟨U, hU⟩ : ∃ U : Int, U = (t.pl : Nat) := ⟨_, rfl⟩
 have HUP := lh hU
 have HP := lh (Xbn HR0.out HS0.out)
 rw [← hK, ← hU, ← hT2] at HP
 clear hX hx0 hx1 hbx h hB hK hU hT2 hxs hRw hio hon hk hp hm hs hbase hbw hE
 go_enter Tryz.func126, Tryz.ntmps126
 go_wp2_with fail
 rw [← HX.out]
 refine HP.out.mono ?_
 rintro e w1 ⟨rfl, hr, hc⟩
 obtain ⟨a0, a1, a2, a3, a4, -⟩ := row5 (hc.row H0.out (by have := HRW.out; omega))
 have u0 := Xaa a0
 have u1 := Xaa a1
 have u2 := Xaa a2
 have u3 := Xaa a3
 have u4 := Xaa a4
 have HR1 := lh hr
 have HC1 := lh hc
 clear hr hc a0 a1 a2 a3 a4
 go_wp2_with fail
 obtain ⟨Y, hY⟩ : ∃ Y : World, Y = ((w1.alloc (.cells #[.int .i64 K, .string T, .int .i64 U] 76)).alloc (.cells #[.int .i64 k, .int .i64 p, .int .i64 m, .string s, .slice A z c] 152)).alloc (.cells #[.int .i64 6, .int .i64 U, .int .i64 0, .string ⟨#[]⟩, .slice (some ⟨w1.heap.size + 1, 0, none⟩) 1 1] 152) := ⟨_, rfl⟩
 rw [← hY]
 have hby : Below w1.heap.size w1 Y := by rw [hY]; exact ((Xae _ _).alloc (by simp) _).alloc (by simp; omega) _
 have hye : Y.heap[w1.heap.size + 1 + 1]? = some (.cells #[.int .i64 6, .int .i64 U, .int .i64 0, .string ⟨#[]⟩, .slice (some ⟨w1.heap.size + 1, 0, none⟩) 1 1] 152 (0, 0)) := by
  rw [hY]
  have := heap_alloc_new ((w1.alloc (.cells #[.int .i64 K, .string T, .int .i64 U] 76)).alloc (.cells #[.int .i64 k, .int .i64 p, .int .i64 m, .string s, .slice A z c] 152)) (.cells #[.int .i64 6, .int .i64 U, .int .i64 0, .string ⟨#[]⟩, .slice (some ⟨w1.heap.size + 1, 0, none⟩) 1 1] 152)
  simpa using this
 have hyo : Y.heap[w1.heap.size + 1]? = some (.cells #[.int .i64 k, .int .i64 p, .int .i64 m, .string s, .slice A z c] 152 (0, 0)) := by
  rw [hY, Below.heap_alloc _ _ _ (by simp)]
  have := heap_alloc_new (w1.alloc (.cells #[.int .i64 K, .string T, .int .i64 U] 76)) (.cells #[.int .i64 k, .int .i64 p, .int .i64 m, .string s, .slice A z c] 152)
  simpa using this
 have hys : Y.heap.size = w1.heap.size + 3 := by rw [hY]; simp
 have HYB := lh hby
 have HYE := lh hye
 have HYO := lh hyo
 have HYS := lh hys
 have hyw : B ≤ Y.heap.size := by have := HC1.out.size; have := HS0.out; have := hby.size; omega
 have hRd : RdAt Y B R L r := HR1.out.below' (by have := HC1.out.size; have := HS0.out; omega) hby
 have HCY : Hid (Chg (fun b => b = R) w Y) := lh (Xbf HBX.out (HC1.out.up (Chg.of_below hby)))
 have HRD := lh hRd
 have HYW := lh hyw
 have q4 : Y.cell? ⟨w1.heap.size + 1 + 1, 4, none⟩ = some (.slice (some ⟨w1.heap.size + 1, 0, none⟩) 1 1) := by rw [cell_of_row Y _ 4 _ _ (0, 0) hye]; rfl
 have HNR : Hid (w1.heap.size + 1 + 1 ≠ R ∧ w.heap.size + 1 ≠ R ∧ w.heap.size + 2 ≤ w1.heap.size) := lh (by have := HRW.out; have := HC1.out.size; have := HXS.out; omega)
 have HOW : Hid (Xaf Y (fun b => Q b ∧ (b < w.heap.size ∨ w1.heap.size + 1 + 1 < b)) base (.slice (some ⟨w1.heap.size + 1, 0, none⟩) 1 1) [o]) := lh (Xgo (by have := HNR.out; have := HBW.out; omega) (by rw [← HOK.out.1, ← HOK.out.2.1, ← HOK.out.2.2.1, ← HOK.out.2.2.2]; exact hyo) (by have := HON.out; omega)
  ((HIO.out.keep (fun b hb => (hby.block b (by have := HNR.out; omega)).trans ((HC1.out.block b (by have := HXS.out; omega) (by have := HQ.out.1 b hb.1; have h9 := hRd.lt; omega)).trans (HBX.out.block b hb.2))) fun b hb => ⟨⟨hb.1, by have := HNR.out; omega⟩, by have := HNR.out; have := hby.size; omega, by have := HNR.out; omega⟩)))
 have HWR : Hid (IntKind.i64.wrap (D + 1) = D + 1) := lh (IntWalk.i64_in _ ⟨by omega, by omega⟩)
 have HRES : Hid (Y.heap[w.heap.size + 1]? = some (.cells #[.int .i64 0, .int .i64 0, .int .i64 0, .string ⟨#[]⟩, .slice none 0 0] 152 (0, 0))) := lh ((hby.block _ (by have := HNR.out; omega)).trans (HC1.out.row H1.out (by have := HNR.out; omega)))
 obtain ⟨ak, hak⟩ : ∃ x, x = a.kind := ⟨_, rfl⟩
 obtain ⟨ap, hap⟩ : ∃ x, x = a.pl := ⟨_, rfl⟩
 obtain ⟨am, ham⟩ : ∃ x, x = a.num := ⟨_, rfl⟩
 obtain ⟨sa, has⟩ : ∃ x, x = Xab a.name := ⟨_, rfl⟩
 have HAK : Hid (∀ u, Xbd a u = [.int .i64 ak, .int .i64 ap, .int .i64 am, .string sa, u]) := lh fun u => by rw [hak, hap, ham, has]; rfl
 have HC : Hid (Calls Tryz.prog 110 #[.pointer (some ⟨R, 0, none⟩), .int .i64 (D + 1)] Y.drew fun e w2 => ∃ u2, e = .returned (.agg #[.int .i64 ak, .int .i64 ap, .int .i64 am, .string sa, u2]) ∧ a.name.length ≤ 16384 ∧ Xbb w2 (fun b => Y.heap.size ≤ b ∧ b < w2.heap.size) a.args u2 ∧ RdAt w2 B R L r2 ∧ Chg (fun b => b = R) Y w2) := lh (by
  have h1 := HE.out Y.drew r HRD.out.drew HYW.out
  rw [HXE.out] at h1
  refine h1.mono fun e w2 => ?_
  rintro ⟨⟨v, rfl, u2, rfl, hn2, hi2⟩, hr2, hc2⟩
  exact ⟨u2, by rw [hak, hap, ham, has], hn2, hi2, hr2, ⟨hc2.os, hc2.tape, hc2.output, hc2.size, hc2.block⟩⟩)
 clear hak hap ham has
 clear hY hby hye hyo hys hyw hRd u0 u1 u2 u3 u4
 have q5 : Y.drew.cell? ⟨w1.heap.size + 1 + 1, 4, none⟩ = some (.slice (some ⟨w1.heap.size + 1, 0, none⟩) 1 1) := q4
 go_region_law (first
  | (go_simp
     go_at_call 110
     rw [HWR.out]
     refine HC.out.mono ?_
     rintro e w2 ⟨u2, rfl, hn2, hi2, hr2, hc2⟩
     have p4 : w2.cell? ⟨w1.heap.size + 1 + 1, 4, none⟩ = some (.slice (some ⟨w1.heap.size + 1, 0, none⟩) 1 1) := hc2.cell q4 HNR.out.1
     have p5 := Xaa p4
     obtain ⟨HO2, HN2, HU2, HE2, HL2, HZ2⟩ := Xhe HQ HOW HAK HYE HNR HYS HBW HBS hn2 hi2 hr2 hc2
     have HR2 := lh hr2
     have HC2 := lh hc2
     clear hn2 hi2 hr2 hc2)
  | (refine Xbh rfl _ _ (by rfl) base (.slice (some ⟨w1.heap.size + 1, 0, none⟩) 1 1) [o] (by rfl) HO2.out ⟨w2.heap.size, 0, none⟩ 1 a u2 (by rfl) HN2.out HU2.out HL2.out (by simp) HZ2.out ?_
     intro g3 c3 w3 hown3 hgr hat
     obtain ⟨-, -, -, -, q6, -, -, -, -, z6⟩ := row5 ((hgr.block _ (Xac HE2.out) (by simp [Value.ownBlock])).trans HE2.out)
     have HZ3 := Xgd HE2 HR2 HC2 HCY HNR HRES HBW HBS HYW hown3 hgr hat
     have HGN : Hid ((Value.slice (some ⟨g3, 0, none⟩) 2 c3).ownBlock ≠ some (w.heap.size + 1)) := lh (Xlk hat (by have := HNR.out; omega) (by have := HNR.out; have := HC2.out.size; have := HYS.out; simp; omega))
     clear hown3 hgr hat))
 all_goals clear q4 q5 q6 z6 p4 p5 HO2 HN2 HU2 HE2 HL2 HZ2
 all_goals
  obtain ⟨Z, hZ⟩ : ∃ Z : World, Z = w3.setCell ⟨w1.heap.size + 1 + 1, 4, none⟩ (.slice (some ⟨g3, 0, none⟩) 2 c3) := ⟨_, rfl⟩
  rw [← hZ] at HZ3 ⊢
  clear hZ
  have HGG : Hid ((Value.slice (some ⟨g3, 0, none⟩) 2 c3).ownBlock ≠ some (w.heap.size + 1)) := HGN
  have HBZ : Hid (B ≤ Z.heap.size) := lh (by have := HZ3.out.chg.size; have := HBS.out; have := HBW.out; omega)
  have HSK : Hid (Calls Tryz.prog 111 #[.pointer (some ⟨R, 0, none⟩), .string ⟨#[58]⟩] Z fun e w' => e = .returned (.bool false) ∧ RdAt w' B R L r2 ∧ Chg (fun b => b = R) Z w') := lh (by
   have h1 := Xfw HZ3.out.rd HBZ.out [58] (by simp)
   rw [decide_eq_false HNC.out, if_neg HNC.out] at h1
   exact h1)
  go_wp2_with fail
  refine HSK.out.mono ?_
  rintro e w4 ⟨rfl, hr4, hc4⟩
  have HZ4 := lh (HZ3.out.step HQ HBS.out HBW.out (by have := HNR.out; omega) hr4 hc4)
  have HTK := lh (Xan hr4 (Nat.le_trans HBZ.out hc4.size) [[93]] (by simp) (by decide))
  clear hr4 hc4
  go_wp2_with fail
  refine HTK.out.mono ?_
  rintro e w5 hp
  rw [HTX.out] at hp
  obtain ⟨rfl, hc5⟩ := hp
  have HC5 := lh (HZ4.out.chg.up hc5)
  clear hc5
  unfold Xag
  go_wp2
  rw [HM.out]
  exact ⟨rfl, rfl, HC5.out⟩
end
theorem Xob {g0 c0 n0 g3 n3 c3 N m : Nat} (hat : (Value.slice (some ⟨g0, 0, none⟩) n0 c0).ownBlock = some g3 ∨ g3 = N) (h1 : m ≤ g0) (h2 : m ≤ N) : ∀ k, (Value.slice (some ⟨g3, 0, none⟩) n3 c3).ownBlock = some k → m ≤ k := by
 intro k e
 have e : g3 = k := by simpa [Value.ownBlock] using e
 rcases hat with hat | hat
 · have : g0 = g3 := by simpa [Value.ownBlock] using hat
   omega
 · omega
theorem Xxz {v : Value} {g3 n3 c3 N k : Nat} (hat : v.ownBlock = some g3 ∨ g3 = N) (h1 : v.ownBlock ≠ some k) (h2 : N ≠ k) : (Value.slice (some ⟨g3, 0, none⟩) n3 c3).ownBlock ≠ some k := by
 intro e
 have e : g3 = k := by simpa [Value.ownBlock] using e
 subst e
 rcases hat with hat | hat
 · exact h1 hat
 · omega
set_option maxRecDepth 100000 in
set_option maxHeartbeats 2000000 in
theorem Xnv {w : World} {B R L n : Nat} {t : Tok} {r : List Tok} (h : RdAt w B R L (t :: r)) (hB : B ≤ w.heap.size) {base : Nat} (hbase : B ≤ base) (hbw : base ≤ w.heap.size) {Q : Nat → Prop} (HQ : Hid ((∀ b, Q b → B ≤ b) ∧ ∀ b, base ≤ b → Q b)) (o : Ex) (A : Option Addr) (z c : Nat) (hio : Xbb w (fun b => Q b ∧ b < w.heap.size) o.args (.slice A z c)) (hon : o.name.length ≤ 16384)
  (T : ByteArray) (hT : T.toList = [91]) (hT2 : T = Xab t.text) (D : Int) (hD0 : 0 ≤ D) (hD1 : D ≤ 24)
  (hE : ∀ (w : World) (us : List Tok), RdAt w B R L us → B ≤ w.heap.size → Calls Tryz.prog 110 #[.pointer (some ⟨R, 0, none⟩), .int .i64 (D + 1)] w (Xaj (ExB w.heap.size) w B R L (Xah L n us)))
  {a : Ex} {r2 : List Tok} {p9 c9 : Nat} (hx : Xah L n r = .ok a r2) (hnc : tx r2 = [58]) (hx2 : Xah L n r2.tail = .bad p9 c9) (hM : Xdh L (Xah L n) o (t :: r) = .bad p9 c9) :
  Calls Tryz.prog 126 #[.pointer (some ⟨R, 0, none⟩), .agg #[.int .i64 o.kind, .int .i64 o.pl, .int .i64 o.num, .string (Xab o.name), .slice A z c], .int .i64 D] w (Xaj (ExQ Q) w B R L (Xdh L (Xah L n) o (t :: r))) := by
 have HXE := lh hx
 have HNC := lh hnc
 have HX2 := lh hx2
 have HM := lh hM
 clear hx hnc hx2 hM
 obtain ⟨k, hk⟩ : ∃ x, x = o.kind := ⟨_, rfl⟩
 obtain ⟨p, hp⟩ : ∃ x, x = o.pl := ⟨_, rfl⟩
 obtain ⟨m, hm⟩ : ∃ x, x = o.num := ⟨_, rfl⟩
 obtain ⟨s, hs⟩ : ∃ x, x = Xab o.name := ⟨_, rfl⟩
 rw [← hk, ← hp, ← hm, ← hs]
 obtain ⟨X, hX⟩ : ∃ X : World, X = (w.alloc (.cells #[.int .i64 k, .int .i64 p, .int .i64 m, .string s, .slice A z c] 152)).alloc (.cells #[.int .i64 0, .int .i64 0, .int .i64 0, .string ⟨#[]⟩, .slice none 0 0] 152) := ⟨_, rfl⟩
 have hbx : Below w.heap.size w X := by rw [hX]; exact (Xae _ _).alloc (by simp) _
 have hx0 : X.heap[w.heap.size]? = some (.cells #[.int .i64 k, .int .i64 p, .int .i64 m, .string s, .slice A z c] 152 (0, 0)) := by
  rw [hX, Below.heap_alloc _ _ _ (by simp)]; exact heap_alloc_new _ _
 have hx1 : X.heap[w.heap.size + 1]? = some (.cells #[.int .i64 0, .int .i64 0, .int .i64 0, .string ⟨#[]⟩, .slice none 0 0] 152 (0, 0)) := by
  rw [hX]
  have := heap_alloc_new (w.alloc (.cells #[.int .i64 k, .int .i64 p, .int .i64 m, .string s, .slice A z c] 152)) (.cells #[.int .i64 0, .int .i64 0, .int .i64 0, .string ⟨#[]⟩, .slice none 0 0] 152)
  simpa using this
 have hxs : X.heap.size = w.heap.size + 2 := by rw [hX]; simp
 have hRw : R < w.heap.size := by have := h.lt; omega
 have HR0 := lh (h.below' hB hbx)
 have HS0 := lh (Nat.le_trans hB hbx.size)
 have HRW := lh hRw
 have HX := lh hX
 have H0 := lh hx0
 have H1 := lh hx1
 have HXS := lh hxs
 have HBX := lh hbx
 have HIO := lh hio
 have HON := lh hon
 have HOC : Hid (∀ u, Xbd o u = [.int .i64 k, .int .i64 p, .int .i64 m, .string s, u]) := lh fun u => by rw [hk, hp, hm, hs]; rfl
 have HOK : Hid (k = o.kind ∧ p = o.pl ∧ m = o.num ∧ s = Xab o.name) := lh ⟨hk, hp, hm, hs⟩
 have HBS := lh hbase
 have HBW := lh hbw
 have hf1 := Xdn
 have hf2 := Xrq
 have HE := lh hE
 obtain ⟨K, hK⟩ : ∃ K : Int, K = (t.kind : Nat) := ⟨_, rfl⟩
 obtain ⟨U, hU⟩ : ∃ U : Int, U = (t.pl : Nat) := ⟨_, rfl⟩
 have HUP := lh hU
 have HP := lh (Xbn HR0.out HS0.out)
 rw [← hK, ← hU, ← hT2] at HP
 clear hX hx0 hx1 hbx h hB hK hU hT2 hxs hRw hio hon hk hp hm hs hbase hbw hE
 go_enter Tryz.func126, Tryz.ntmps126
 go_wp2_with fail
 rw [← HX.out]
 refine HP.out.mono ?_
 rintro e w1 ⟨rfl, hr, hc⟩
 obtain ⟨a0, a1, a2, a3, a4, -⟩ := row5 (hc.row H0.out (by have := HRW.out; omega))
 have u0 := Xaa a0
 have u1 := Xaa a1
 have u2 := Xaa a2
 have u3 := Xaa a3
 have u4 := Xaa a4
 have HR1 := lh hr
 have HC1 := lh hc
 clear hr hc a0 a1 a2 a3 a4
 go_wp2_with fail
 obtain ⟨Y, hY⟩ : ∃ Y : World, Y = ((w1.alloc (.cells #[.int .i64 K, .string T, .int .i64 U] 76)).alloc (.cells #[.int .i64 k, .int .i64 p, .int .i64 m, .string s, .slice A z c] 152)).alloc (.cells #[.int .i64 6, .int .i64 U, .int .i64 0, .string ⟨#[]⟩, .slice (some ⟨w1.heap.size + 1, 0, none⟩) 1 1] 152) := ⟨_, rfl⟩
 rw [← hY]
 have hby : Below w1.heap.size w1 Y := by rw [hY]; exact ((Xae _ _).alloc (by simp) _).alloc (by simp; omega) _
 have hye : Y.heap[w1.heap.size + 1 + 1]? = some (.cells #[.int .i64 6, .int .i64 U, .int .i64 0, .string ⟨#[]⟩, .slice (some ⟨w1.heap.size + 1, 0, none⟩) 1 1] 152 (0, 0)) := by
  rw [hY]
  have := heap_alloc_new ((w1.alloc (.cells #[.int .i64 K, .string T, .int .i64 U] 76)).alloc (.cells #[.int .i64 k, .int .i64 p, .int .i64 m, .string s, .slice A z c] 152)) (.cells #[.int .i64 6, .int .i64 U, .int .i64 0, .string ⟨#[]⟩, .slice (some ⟨w1.heap.size + 1, 0, none⟩) 1 1] 152)
  simpa using this
 have hyo : Y.heap[w1.heap.size + 1]? = some (.cells #[.int .i64 k, .int .i64 p, .int .i64 m, .string s, .slice A z c] 152 (0, 0)) := by
  rw [hY, Below.heap_alloc _ _ _ (by simp)]
  have := heap_alloc_new (w1.alloc (.cells #[.int .i64 K, .string T, .int .i64 U] 76)) (.cells #[.int .i64 k, .int .i64 p, .int .i64 m, .string s, .slice A z c] 152)
  simpa using this
 have hys : Y.heap.size = w1.heap.size + 3 := by rw [hY]; simp
 have HYB := lh hby
 have HYE := lh hye
 have HYO := lh hyo
 have HYS := lh hys
 have hyw : B ≤ Y.heap.size := by have := HC1.out.size; have := HS0.out; have := hby.size; omega
 have hRd : RdAt Y B R L r := HR1.out.below' (by have := HC1.out.size; have := HS0.out; omega) hby
 have HCY : Hid (Chg (fun b => b = R) w Y) := lh (Xbf HBX.out (HC1.out.up (Chg.of_below hby)))
 have HRD := lh hRd
 have HYW := lh hyw
 have q4 : Y.cell? ⟨w1.heap.size + 1 + 1, 4, none⟩ = some (.slice (some ⟨w1.heap.size + 1, 0, none⟩) 1 1) := by rw [cell_of_row Y _ 4 _ _ (0, 0) hye]; rfl
 have HNR : Hid (w1.heap.size + 1 + 1 ≠ R ∧ w.heap.size + 1 ≠ R ∧ w.heap.size + 2 ≤ w1.heap.size) := lh (by have := HRW.out; have := HC1.out.size; have := HXS.out; omega)
 have HOW : Hid (Xaf Y (fun b => Q b ∧ (b < w.heap.size ∨ w1.heap.size + 1 + 1 < b)) base (.slice (some ⟨w1.heap.size + 1, 0, none⟩) 1 1) [o]) := lh (Xgo (by have := HNR.out; have := HBW.out; omega) (by rw [← HOK.out.1, ← HOK.out.2.1, ← HOK.out.2.2.1, ← HOK.out.2.2.2]; exact hyo) (by have := HON.out; omega)
  ((HIO.out.keep (fun b hb => (hby.block b (by have := HNR.out; omega)).trans ((HC1.out.block b (by have := HXS.out; omega) (by have := HQ.out.1 b hb.1; have h9 := hRd.lt; omega)).trans (HBX.out.block b hb.2))) fun b hb => ⟨⟨hb.1, by have := HNR.out; omega⟩, by have := HNR.out; have := hby.size; omega, by have := HNR.out; omega⟩)))
 have HWR : Hid (IntKind.i64.wrap (D + 1) = D + 1) := lh (IntWalk.i64_in _ ⟨by omega, by omega⟩)
 have HRES : Hid (Y.heap[w.heap.size + 1]? = some (.cells #[.int .i64 0, .int .i64 0, .int .i64 0, .string ⟨#[]⟩, .slice none 0 0] 152 (0, 0))) := lh ((hby.block _ (by have := HNR.out; omega)).trans (HC1.out.row H1.out (by have := HNR.out; omega)))
 obtain ⟨ak, hak⟩ : ∃ x, x = a.kind := ⟨_, rfl⟩
 obtain ⟨ap, hap⟩ : ∃ x, x = a.pl := ⟨_, rfl⟩
 obtain ⟨am, ham⟩ : ∃ x, x = a.num := ⟨_, rfl⟩
 obtain ⟨sa, has⟩ : ∃ x, x = Xab a.name := ⟨_, rfl⟩
 have HAK : Hid (∀ u, Xbd a u = [.int .i64 ak, .int .i64 ap, .int .i64 am, .string sa, u]) := lh fun u => by rw [hak, hap, ham, has]; rfl
 have HC : Hid (Calls Tryz.prog 110 #[.pointer (some ⟨R, 0, none⟩), .int .i64 (D + 1)] Y.drew fun e w2 => ∃ u2, e = .returned (.agg #[.int .i64 ak, .int .i64 ap, .int .i64 am, .string sa, u2]) ∧ a.name.length ≤ 16384 ∧ Xbb w2 (fun b => Y.heap.size ≤ b ∧ b < w2.heap.size) a.args u2 ∧ RdAt w2 B R L r2 ∧ Chg (fun b => b = R) Y w2) := lh (by
  have h1 := HE.out Y.drew r HRD.out.drew HYW.out
  rw [HXE.out] at h1
  refine h1.mono fun e w2 => ?_
  rintro ⟨⟨v, rfl, u2, rfl, hn2, hi2⟩, hr2, hc2⟩
  exact ⟨u2, by rw [hak, hap, ham, has], hn2, hi2, hr2, ⟨hc2.os, hc2.tape, hc2.output, hc2.size, hc2.block⟩⟩)
 clear hak hap ham has
 clear hY hby hye hyo hys hyw hRd u0 u1 u2 u3 u4
 have q5 : Y.drew.cell? ⟨w1.heap.size + 1 + 1, 4, none⟩ = some (.slice (some ⟨w1.heap.size + 1, 0, none⟩) 1 1) := q4
 go_region_law (first
  | (go_simp
     go_at_call 110
     rw [HWR.out]
     refine HC.out.mono ?_
     rintro e w2 ⟨u2, rfl, hn2, hi2, hr2, hc2⟩
     have p4 : w2.cell? ⟨w1.heap.size + 1 + 1, 4, none⟩ = some (.slice (some ⟨w1.heap.size + 1, 0, none⟩) 1 1) := hc2.cell q4 HNR.out.1
     have p5 := Xaa p4
     obtain ⟨HO2, HN2, HU2, HE2, HL2, HZ2⟩ := Xhe HQ HOW HAK HYE HNR HYS HBW HBS hn2 hi2 hr2 hc2
     have HR2 := lh hr2
     have HC2 := lh hc2
     clear hn2 hi2 hr2 hc2)
  | (refine Xbh rfl _ _ (by rfl) base (.slice (some ⟨w1.heap.size + 1, 0, none⟩) 1 1) [o] (by rfl) HO2.out ⟨w2.heap.size, 0, none⟩ 1 a u2 (by rfl) HN2.out HU2.out HL2.out (by simp) HZ2.out ?_
     intro g3 c3 w3 hown3 hgr hat
     obtain ⟨-, -, -, -, q6, -, -, -, -, z6⟩ := row5 ((hgr.block _ (Xac HE2.out) (by simp [Value.ownBlock])).trans HE2.out)
     have HZ3 := Xgd HE2 HR2 HC2 HCY HNR HRES HBW HBS HYW hown3 hgr hat
     have HGN : Hid ((Value.slice (some ⟨g3, 0, none⟩) 2 c3).ownBlock ≠ some (w.heap.size + 1)) := lh (Xlk hat (by have := HNR.out; omega) (by have := HNR.out; have := HC2.out.size; have := HYS.out; simp; omega))
     have HGW : Hid (∀ k, (Value.slice (some ⟨g3, 0, none⟩) 2 c3).ownBlock = some k → w.heap.size ≤ k) := lh (Xob hat (by have := HNR.out; omega) (by have := HNR.out; have := HC2.out.size; have := HYS.out; simp; omega))
     clear hown3 hgr hat))
 all_goals clear q4 q5 q6 z6 p4 p5 HO2 HN2 HU2 HE2 HL2 HZ2
 all_goals
  obtain ⟨Z, hZ⟩ : ∃ Z : World, Z = w3.setCell ⟨w1.heap.size + 1 + 1, 4, none⟩ (.slice (some ⟨g3, 0, none⟩) 2 c3) := ⟨_, rfl⟩
  rw [← hZ] at HZ3 ⊢
  clear hZ
  have HGG : Hid ((Value.slice (some ⟨g3, 0, none⟩) 2 c3).ownBlock ≠ some (w.heap.size + 1)) := HGN
  have HBZ : Hid (B ≤ Z.heap.size) := lh (by have := HZ3.out.chg.size; have := HBS.out; have := HBW.out; omega)
  have HSK : Hid (Calls Tryz.prog 111 #[.pointer (some ⟨R, 0, none⟩), .string ⟨#[58]⟩] Z fun e w' => e = .returned (.bool true) ∧ RdAt w' B R L r2.tail ∧ Chg (fun b => b = R) Z w') := lh (by
   have h1 := Xfw HZ3.out.rd HBZ.out [58] (by simp)
   rw [decide_eq_true HNC.out, if_pos HNC.out] at h1
   exact h1)
  have HGE : Hid (w.heap.size + 1 < w1.heap.size + 1 + 1) := lh (by have := HNR.out; omega)
  have HGN2 : Hid (∀ k, (Value.slice (some ⟨g3, 0, none⟩) 2 c3).ownBlock = some k → w.heap.size ≤ k) := HGW
  go_wp2_with fail
  refine HSK.out.mono ?_
  rintro e w4 ⟨rfl, hr4, hc4⟩
  have HZ4 := lh (HZ3.out.step HQ HBS.out HBW.out (by have := HNR.out; omega) hr4 hc4)
  clear hr4 hc4
  obtain ⟨e0, z0, -, -⟩ := HZ4.out.four
  go_wp2_with fail
  obtain ⟨Y2, hY2⟩ : ∃ Y2 : World, Y2 = w4.setCell ⟨w1.heap.size + 1 + 1, 0, none⟩ (.int .i64 7) := ⟨_, rfl⟩
  rw [← hY2]
  have HZ5 : Hid (Xcq Q w Y2 B R L base (w1.heap.size + 1 + 1) 7 U (.slice (some ⟨g3, 0, none⟩) 2 c3) [o, a] r2.tail) := lh (by rw [hY2]; exact HZ4.out.kind HBS.out HBW.out HGE.out 7)
  have HBY : Hid (B ≤ Y2.heap.size) := lh (by have := HZ5.out.chg.size; have := HBS.out; have := HBW.out; omega)
  clear hY2 e0 z0
  obtain ⟨-, -, q8, -⟩ := HZ5.out.four
  have q9 : Y2.drew.cell? ⟨w1.heap.size + 1 + 1, 4, none⟩ = some (.slice (some ⟨g3, 0, none⟩) 2 c3) := q8
  have HD : Hid (Calls Tryz.prog 110 #[.pointer (some ⟨R, 0, none⟩), .int .i64 (D + 1)] Y2.drew fun e w6 => e = Xag p9 c9 ∧ Chg (fun b => b = R) Y2 w6) := lh (by
   have h1 := HE.out Y2.drew r2.tail HZ5.out.rd.drew HBY.out
   rw [HX2.out] at h1
   exact h1.mono fun e w2 ⟨h3, hc2⟩ => ⟨h3, ⟨hc2.os, hc2.tape, hc2.output, hc2.size, hc2.block⟩⟩)
  refine wp_region_held_drew (S := fun w' => w'.cell? ⟨w1.heap.size + 1 + 1, 4, none⟩ = some (.slice (some ⟨g3, 0, none⟩) 2 c3)) (by kernel_rfl) q8 (fun hHeld => ?_)
  refine wpAnyH_take (i := 0) (oi := _) (v := .pointer (some ⟨w1.heap.size + 1 + 1, 4, none⟩)) rfl (by kernel_rfl) (by kernel_rfl) (by kernel_rfl) (fun _ _ _ h => h) (Or.inl ⟨by rfl, fun w hS => ?_⟩) hHeld ?_
  · go_simp
    try rw [HWR.out]
  simp only [Act.put]
  refine wpAnyH_take (i := 1) (oi := _) (v := .slice (some ⟨g3, 0, none⟩) 2 c3) rfl (by kernel_rfl) (by kernel_rfl) (by kernel_rfl) (fun _ _ _ h => h) (Or.inl ⟨by rfl, fun w hS => ?_⟩) hHeld ?_
  · go_simp
    try rw [HWR.out]
  simp only [Act.put]
  refine wpAnyH_take (i := 2) (oi := _) (v := .pointer (some ⟨R, 0, none⟩)) rfl (by kernel_rfl) (by kernel_rfl) (by kernel_rfl) (fun _ _ _ h => h) (Or.inl ⟨by rfl, fun w hS => ?_⟩) hHeld ?_
  · go_simp
    try rw [HWR.out]
  simp only [Act.put]
  refine wpAnyH_take (i := 3) (oi := _) (v := .int .i64 D) rfl (by kernel_rfl) (by kernel_rfl) (by kernel_rfl) (fun _ _ _ h => h) (Or.inl ⟨by rfl, fun w hS => ?_⟩) hHeld ?_
  · go_simp
    try rw [HWR.out]
  simp only [Act.put]
  refine wpAnyH_take (i := 4) (oi := _) (v := .int .i64 (D + 1)) rfl (by kernel_rfl) (by kernel_rfl) (by kernel_rfl) (fun _ _ _ h => h) (Or.inl ⟨by rfl, fun w hS => ?_⟩) hHeld ?_
  · go_simp
    try rw [HWR.out]
  simp only [Act.put]
  refine wpAnyH_ready (rs := [5]) (by kernel_rfl) (by simp) ?_
  refine AllReadyH.cons rfl (fun K hK => ?_) AllReadyH.nil
  go_simp
  refine HD.out.mono ?_
  rintro e w6 ⟨rfl, hc6⟩
  have HC6 := lh (HZ5.out.chg.up hc6)
  clear hc6
  unfold Xag
  go_wp2
  rw [HM.out]
  exact ⟨rfl, rfl, HC6.out⟩
theorem Yfl {w : World} {g : Nat} {a b c d e : Value} {t : TypeId} (h : w.heap[g]? = some (.cells #[a, b, c, d, e] t (0, 0))) (u : Value) : (w.setCell ⟨g, 3, none⟩ u).heap[g]? = some (.cells #[a, b, c, u, e] t (0, 0)) := by
 simp [World.setCell, Array.getElem?_modify, h]
theorem Xcq.dot {Q : Nat → Prop} {w Z : World} {B R L base E : Nat} {U : Int} {v : Value} {xs : List Ex} {us : List Tok} {t : Tok} (h : Xcq Q w Z B R L base E 5 U v xs us) (HQ : Hid ((∀ b, Q b → B ≤ b) ∧ ∀ b, base ≤ b → Q b)) (hB : B ≤ base) (hb : base ≤ w.heap.size) (hE : w.heap.size + 1 < E) (hg : v.ownBlock ≠ some (w.heap.size + 1)) (hU : U = (t.pl : Nat)) (s9 : List UInt8) (hl : s9.length ≤ 16384) (S9 : ByteArray) (hS : S9 = Xab s9) (Z1 : World) (hZ : Z1 = Z.setCell ⟨E, 3, none⟩ (.string S9)) :
  Z1.heap[E]? = some (.cells #[.int .i64 5, .int .i64 U, .int .i64 0, .string S9, v] 152 (0, 0)) ∧ Z1.heap[w.heap.size + 1]? = some (.cells #[.int .i64 0, .int .i64 0, .int .i64 0, .string ⟨#[]⟩, .slice none 0 0] 152 (0, 0)) ∧
  Xaj (ExQ Q) w B R L (.ok (.mk 5 t.pl 0 s9 xs) us) (.returned (.agg #[.int .i64 5, .int .i64 U, .int .i64 0, .string S9, v]))
   (((((Z1.setCell ⟨w.heap.size + 1, 0, none⟩ (.int .i64 5)).setCell ⟨w.heap.size + 1, 1, none⟩ (.int .i64 U)).setCell ⟨w.heap.size + 1, 2, none⟩ (.int .i64 0)).setCell ⟨w.heap.size + 1, 3, none⟩ (.string S9)).setCell ⟨w.heap.size + 1, 4, none⟩ v) := by
 have r1 : Z1.heap[E]? = some (.cells #[.int .i64 5, .int .i64 U, .int .i64 0, .string S9, v] 152 (0, 0)) := by rw [hZ]; exact Yfl h.row _
 have r2 : Z1.heap[w.heap.size + 1]? = some (.cells #[.int .i64 0, .int .i64 0, .int .i64 0, .string ⟨#[]⟩, .slice none 0 0] 152 (0, 0)) := by rw [hZ, Below.heap_setCell _ _ _ _ (by simp; omega)]; exact h.res
 have r3 : RdAt Z1 B R L us := by rw [hZ]; exact h.rd.setCell _ _ (by simp; omega)
 have r4 : Chg (fun b => b = R) w Z1 := by
  rw [hZ]
  refine h.chg.setCell _ _ fun e => ?_
  have : E < w.heap.size := e
  omega
 have r5 : Xaf Z1 (fun b => Q b ∧ (b < w.heap.size ∨ E < b)) base v xs := by
  rw [hZ]
  refine Xaf.keep h.own (by simp [World.setCell]) fun x hx hP => Below.heap_setCell _ _ _ _ ?_
  rcases hP with hP | hP
  · show x ≠ E
    have := hP.2; omega
  · show x ≠ E
    intro e; rw [e] at hP; exact h.nown hP
 refine ⟨r1, r2, ?_⟩
 have hc : Chg (fun b => b = w.heap.size + 1) Z1 (((((Z1.setCell ⟨w.heap.size + 1, 0, none⟩ (.int .i64 5)).setCell ⟨w.heap.size + 1, 1, none⟩ (.int .i64 U)).setCell ⟨w.heap.size + 1, 2, none⟩ (.int .i64 0)).setCell ⟨w.heap.size + 1, 3, none⟩ (.string S9)).setCell ⟨w.heap.size + 1, 4, none⟩ v) :=
  (((((Chg.refl (fun b => b = w.heap.size + 1) Z1).setCell _ _ fun _ => rfl).setCell _ _ fun _ => rfl).setCell _ _ fun _ => rfl).setCell _ _ fun _ => rfl).setCell _ _ fun _ => rfl
 have h1 := Xaf.keep r5 hc.size fun b hb2 hP => hc.block b hb2 (by
  rcases hP with hP | hP
  · have := hP.2; omega
  · intro e; rw [e] at hP; exact hg hP)
 have hi := h1.exsQ (fun b hb => hb.1) HQ.out.2
 subst hU
 rw [hS] at hi hc ⊢
 exact ⟨⟨_, rfl, v, rfl, hl, hi⟩, r3.keep fun b hlt => hc.block b (by have := r4.size; omega) (by omega), r4.trans hc fun x hx e => by omega⟩
set_option maxRecDepth 100000 in
set_option maxHeartbeats 2000000 in
theorem link_dot {w : World} {B R L n : Nat} {t : Tok} {r : List Tok} (h : RdAt w B R L (t :: r)) (hB : B ≤ w.heap.size) {base : Nat} (hbase : B ≤ base) (hbw : base ≤ w.heap.size) {Q : Nat → Prop} (HQ : Hid ((∀ b, Q b → B ≤ b) ∧ ∀ b, base ≤ b → Q b)) (o : Ex) (A : Option Addr) (z c : Nat) (hio : Xbb w (fun b => Q b ∧ b < w.heap.size) o.args (.slice A z c)) (hon : o.name.length ≤ 16384)
  (T : ByteArray) (hT : T.toList = [46]) (hT2 : T = Xab t.text) (D : Int) (hD0 : 0 ≤ D) (hD1 : D ≤ 24)
  (hE : ∀ (w : World) (us : List Tok), RdAt w B R L us → B ≤ w.heap.size → Calls Tryz.prog 110 #[.pointer (some ⟨R, 0, none⟩), .int .i64 (D + 1)] w (Xaj (ExB w.heap.size) w B R L (Xah L n us)))
  {s9 : List UInt8} {r9 : List Tok} (hx : Xbo L r = .ok s9 r9) (hM : Xdh L (Xah L n) o (t :: r) = .ok (.mk 5 t.pl 0 s9 [o]) r9) :
  Calls Tryz.prog 126 #[.pointer (some ⟨R, 0, none⟩), .agg #[.int .i64 o.kind, .int .i64 o.pl, .int .i64 o.num, .string (Xab o.name), .slice A z c], .int .i64 D] w (Xaj (ExQ Q) w B R L (Xdh L (Xah L n) o (t :: r))) := by
 have HXE := lh hx
 have HM := lh hM
 clear hx hM
 obtain ⟨k, hk⟩ : ∃ x, x = o.kind := ⟨_, rfl⟩
 obtain ⟨p, hp⟩ : ∃ x, x = o.pl := ⟨_, rfl⟩
 obtain ⟨m, hm⟩ : ∃ x, x = o.num := ⟨_, rfl⟩
 obtain ⟨s, hs⟩ : ∃ x, x = Xab o.name := ⟨_, rfl⟩
 rw [← hk, ← hp, ← hm, ← hs]
 obtain ⟨X, hX⟩ : ∃ X : World, X = (w.alloc (.cells #[.int .i64 k, .int .i64 p, .int .i64 m, .string s, .slice A z c] 152)).alloc (.cells #[.int .i64 0, .int .i64 0, .int .i64 0, .string ⟨#[]⟩, .slice none 0 0] 152) := ⟨_, rfl⟩
 have hbx : Below w.heap.size w X := by rw [hX]; exact (Xae _ _).alloc (by simp) _
 have hx0 : X.heap[w.heap.size]? = some (.cells #[.int .i64 k, .int .i64 p, .int .i64 m, .string s, .slice A z c] 152 (0, 0)) := by
  rw [hX, Below.heap_alloc _ _ _ (by simp)]; exact heap_alloc_new _ _
 have hx1 : X.heap[w.heap.size + 1]? = some (.cells #[.int .i64 0, .int .i64 0, .int .i64 0, .string ⟨#[]⟩, .slice none 0 0] 152 (0, 0)) := by
  rw [hX]
  have := heap_alloc_new (w.alloc (.cells #[.int .i64 k, .int .i64 p, .int .i64 m, .string s, .slice A z c] 152)) (.cells #[.int .i64 0, .int .i64 0, .int .i64 0, .string ⟨#[]⟩, .slice none 0 0] 152)
  simpa using this
 have hxs : X.heap.size = w.heap.size + 2 := by rw [hX]; simp
 have hRw : R < w.heap.size := by have := h.lt; omega
 have HR0 := lh (h.below' hB hbx)
 have HS0 := lh (Nat.le_trans hB hbx.size)
 have HRW := lh hRw
 have HX := lh hX
 have H0 := lh hx0
 have H1 := lh hx1
 have HXS := lh hxs
 have HBX := lh hbx
 have HIO := lh hio
 have HON := lh hon
 have HOC : Hid (∀ u, Xbd o u = [.int .i64 k, .int .i64 p, .int .i64 m, .string s, u]) := lh fun u => by rw [hk, hp, hm, hs]; rfl
 have HOK : Hid (k = o.kind ∧ p = o.pl ∧ m = o.num ∧ s = Xab o.name) := lh ⟨hk, hp, hm, hs⟩
 have HBS := lh hbase
 have HBW := lh hbw
 have hf1 := Xdn
 have hf2 := Xrq
 have HE := lh hE
 obtain ⟨K, hK⟩ : ∃ K : Int, K = (t.kind : Nat) := ⟨_, rfl⟩
 obtain ⟨U, hU⟩ : ∃ U : Int, U = (t.pl : Nat) := ⟨_, rfl⟩
 have HUP := lh hU
 have HP := lh (Xbn HR0.out HS0.out)
 rw [← hK, ← hU, ← hT2] at HP
 clear hX hx0 hx1 hbx h hB hK hU hT2 hxs hRw hio hon hk hp hm hs hbase hbw hE
 go_enter Tryz.func126, Tryz.ntmps126
 go_wp2_with fail
 rw [← HX.out]
 refine HP.out.mono ?_
 rintro e w1 ⟨rfl, hr, hc⟩
 obtain ⟨a0, a1, a2, a3, a4, -⟩ := row5 (hc.row H0.out (by have := HRW.out; omega))
 have u0 := Xaa a0
 have u1 := Xaa a1
 have u2 := Xaa a2
 have u3 := Xaa a3
 have u4 := Xaa a4
 have HR1 := lh hr
 have HC1 := lh hc
 clear hr hc a0 a1 a2 a3 a4
 go_wp2_with fail
 obtain ⟨Y, hY⟩ : ∃ Y : World, Y = ((w1.alloc (.cells #[.int .i64 K, .string T, .int .i64 U] 76)).alloc (.cells #[.int .i64 k, .int .i64 p, .int .i64 m, .string s, .slice A z c] 152)).alloc (.cells #[.int .i64 5, .int .i64 U, .int .i64 0, .string ⟨#[]⟩, .slice (some ⟨w1.heap.size + 1, 0, none⟩) 1 1] 152) := ⟨_, rfl⟩
 rw [← hY]
 have hby : Below w1.heap.size w1 Y := by rw [hY]; exact ((Xae _ _).alloc (by simp) _).alloc (by simp; omega) _
 have hye : Y.heap[w1.heap.size + 1 + 1]? = some (.cells #[.int .i64 5, .int .i64 U, .int .i64 0, .string ⟨#[]⟩, .slice (some ⟨w1.heap.size + 1, 0, none⟩) 1 1] 152 (0, 0)) := by
  rw [hY]
  have := heap_alloc_new ((w1.alloc (.cells #[.int .i64 K, .string T, .int .i64 U] 76)).alloc (.cells #[.int .i64 k, .int .i64 p, .int .i64 m, .string s, .slice A z c] 152)) (.cells #[.int .i64 5, .int .i64 U, .int .i64 0, .string ⟨#[]⟩, .slice (some ⟨w1.heap.size + 1, 0, none⟩) 1 1] 152)
  simpa using this
 have hyo : Y.heap[w1.heap.size + 1]? = some (.cells #[.int .i64 k, .int .i64 p, .int .i64 m, .string s, .slice A z c] 152 (0, 0)) := by
  rw [hY, Below.heap_alloc _ _ _ (by simp)]
  have := heap_alloc_new (w1.alloc (.cells #[.int .i64 K, .string T, .int .i64 U] 76)) (.cells #[.int .i64 k, .int .i64 p, .int .i64 m, .string s, .slice A z c] 152)
  simpa using this
 have hys : Y.heap.size = w1.heap.size + 3 := by rw [hY]; simp
 have HYB := lh hby
 have HYE := lh hye
 have HYO := lh hyo
 have HYS := lh hys
 have hyw : B ≤ Y.heap.size := by have := HC1.out.size; have := HS0.out; have := hby.size; omega
 have hRd : RdAt Y B R L r := HR1.out.below' (by have := HC1.out.size; have := HS0.out; omega) hby
 have HCY : Hid (Chg (fun b => b = R) w Y) := lh (Xbf HBX.out (HC1.out.up (Chg.of_below hby)))
 have HRD := lh hRd
 have HYW := lh hyw
 have q4 : Y.cell? ⟨w1.heap.size + 1 + 1, 4, none⟩ = some (.slice (some ⟨w1.heap.size + 1, 0, none⟩) 1 1) := by rw [cell_of_row Y _ 4 _ _ (0, 0) hye]; rfl
 have HNR : Hid (w1.heap.size + 1 + 1 ≠ R ∧ w.heap.size + 1 ≠ R ∧ w.heap.size + 2 ≤ w1.heap.size) := lh (by have := HRW.out; have := HC1.out.size; have := HXS.out; omega)
 have HOW : Hid (Xaf Y (fun b => Q b ∧ (b < w.heap.size ∨ w1.heap.size + 1 + 1 < b)) base (.slice (some ⟨w1.heap.size + 1, 0, none⟩) 1 1) [o]) := lh (Xgo (by have := HNR.out; have := HBW.out; omega) (by rw [← HOK.out.1, ← HOK.out.2.1, ← HOK.out.2.2.1, ← HOK.out.2.2.2]; exact hyo) (by have := HON.out; omega)
  ((HIO.out.keep (fun b hb => (hby.block b (by have := HNR.out; omega)).trans ((HC1.out.block b (by have := HXS.out; omega) (by have := HQ.out.1 b hb.1; have h9 := hRd.lt; omega)).trans (HBX.out.block b hb.2))) fun b hb => ⟨⟨hb.1, by have := HNR.out; omega⟩, by have := HNR.out; have := hby.size; omega, by have := HNR.out; omega⟩)))
 have HWR : Hid (IntKind.i64.wrap (D + 1) = D + 1) := lh (IntWalk.i64_in _ ⟨by omega, by omega⟩)
 have HRES : Hid (Y.heap[w.heap.size + 1]? = some (.cells #[.int .i64 0, .int .i64 0, .int .i64 0, .string ⟨#[]⟩, .slice none 0 0] 152 (0, 0))) := lh ((hby.block _ (by have := HNR.out; omega)).trans (HC1.out.row H1.out (by have := HNR.out; omega)))
 clear hY hby hye hyo hys hyw hRd u0 u1 u2 u3 u4
 have HZ0 : Hid (Xcq Q w Y B R L base (w1.heap.size + 1 + 1) 5 U (.slice (some ⟨w1.heap.size + 1, 0, none⟩) 1 1) [o] r) := lh ⟨HYE.out, HRES.out, HRD.out, HCY.out, HOW.out, fun e => Xoc e (by omega)⟩
 have HNM : Hid (Calls Tryz.prog 82 #[.pointer (some ⟨R, 0, none⟩)] Y (Xaj StrV Y B R L (Xbo L r))) := lh (Xcr HRD.out HYW.out)
 rw [HXE.out] at HNM
 have HGG : Hid ((Value.slice (some ⟨w1.heap.size + 1, 0, none⟩) 1 1).ownBlock ≠ some (w.heap.size + 1)) := lh (Xlk (.inr rfl) (by have := HNR.out; omega) (by have := HNR.out; omega) (g0 := w1.heap.size + 1) (c0 := 1) (n0 := 1) (N := w1.heap.size + 1))
 refine HNM.out.mono ?_
 rintro e w2 hp
 obtain ⟨⟨v9, rfl, hv9, hl9⟩, hr9, hc9⟩ := hp
 obtain ⟨S9, hS9⟩ : ∃ S, S = Xab s9 := ⟨_, rfl⟩
 rw [hv9, ← hS9]
 clear hv9
 have HZ2 := lh (HZ0.out.step HQ HBS.out HBW.out (by have := HNR.out; omega) hr9 hc9)
 obtain ⟨-, -, -, c3, -, -, -, -, z3, -⟩ := row5 HZ2.out.row
 obtain ⟨Z1, hZ1⟩ : ∃ Z1 : World, Z1 = w2.setCell ⟨w1.heap.size + 1 + 1, 3, none⟩ (.string S9) := ⟨_, rfl⟩
 obtain ⟨j1, j2, j3⟩ := HZ2.out.dot HQ HBS.out HBW.out (by have := HNR.out; omega) HGG.out HUP.out s9 hl9 S9 hS9 Z1 hZ1
 obtain ⟨a0, a1, a2, a3, a4, -⟩ := row5 j1
 obtain ⟨b0, b1, b2, b3, b4, f0, f1, f2, f3, f4⟩ := row5 j2
 have HJ := lh j3
 clear j1 j2 j3 hr9 hc9 hl9 hS9
 subst hZ1
 go_wp2
 refine bodyPost_ret (v := .agg #[.int .i64 5, .int .i64 U, .int .i64 0, .string S9, .slice (some ⟨w1.heap.size + 1, 0, none⟩) 1 1]) ?_ rfl ?_
 · clear HZ0 HZ2 HJ HM HUP HRES HOW HWR HRD HYW HCY HNR
   simp [results, Tryz.results126, go_sem, b0, b1, b2, b3, b4]
 · rw [HM.out]
   exact HJ.out
set_option maxRecDepth 100000 in
set_option maxHeartbeats 2000000 in
theorem Xtp {w : World} {B R L n : Nat} {t : Tok} {r : List Tok} (h : RdAt w B R L (t :: r)) (hB : B ≤ w.heap.size) {base : Nat} (hbase : B ≤ base) (hbw : base ≤ w.heap.size) {Q : Nat → Prop} (HQ : Hid ((∀ b, Q b → B ≤ b) ∧ ∀ b, base ≤ b → Q b)) (o : Ex) (A : Option Addr) (z c : Nat) (hio : Xbb w (fun b => Q b ∧ b < w.heap.size) o.args (.slice A z c)) (hon : o.name.length ≤ 16384)
  (T : ByteArray) (hT : T.toList = [46]) (hT2 : T = Xab t.text) (D : Int) (hD0 : 0 ≤ D) (hD1 : D ≤ 24)
  (hE : ∀ (w : World) (us : List Tok), RdAt w B R L us → B ≤ w.heap.size → Calls Tryz.prog 110 #[.pointer (some ⟨R, 0, none⟩), .int .i64 (D + 1)] w (Xaj (ExB w.heap.size) w B R L (Xah L n us)))
  {p9 c9 : Nat} (hx : Xbo L r = .bad p9 c9) (hM : Xdh L (Xah L n) o (t :: r) = .bad p9 c9) :
  Calls Tryz.prog 126 #[.pointer (some ⟨R, 0, none⟩), .agg #[.int .i64 o.kind, .int .i64 o.pl, .int .i64 o.num, .string (Xab o.name), .slice A z c], .int .i64 D] w (Xaj (ExQ Q) w B R L (Xdh L (Xah L n) o (t :: r))) := by
 have HXE := lh hx
 have HM := lh hM
 clear hx hM
 obtain ⟨k, hk⟩ : ∃ x, x = o.kind := ⟨_, rfl⟩
 obtain ⟨p, hp⟩ : ∃ x, x = o.pl := ⟨_, rfl⟩
 obtain ⟨m, hm⟩ : ∃ x, x = o.num := ⟨_, rfl⟩
 obtain ⟨s, hs⟩ : ∃ x, x = Xab o.name := ⟨_, rfl⟩
 rw [← hk, ← hp, ← hm, ← hs]
 obtain ⟨X, hX⟩ : ∃ X : World, X = (w.alloc (.cells #[.int .i64 k, .int .i64 p, .int .i64 m, .string s, .slice A z c] 152)).alloc (.cells #[.int .i64 0, .int .i64 0, .int .i64 0, .string ⟨#[]⟩, .slice none 0 0] 152) := ⟨_, rfl⟩
 have hbx : Below w.heap.size w X := by rw [hX]; exact (Xae _ _).alloc (by simp) _
 have hx0 : X.heap[w.heap.size]? = some (.cells #[.int .i64 k, .int .i64 p, .int .i64 m, .string s, .slice A z c] 152 (0, 0)) := by
  rw [hX, Below.heap_alloc _ _ _ (by simp)]; exact heap_alloc_new _ _
 have hx1 : X.heap[w.heap.size + 1]? = some (.cells #[.int .i64 0, .int .i64 0, .int .i64 0, .string ⟨#[]⟩, .slice none 0 0] 152 (0, 0)) := by
  rw [hX]
  have := heap_alloc_new (w.alloc (.cells #[.int .i64 k, .int .i64 p, .int .i64 m, .string s, .slice A z c] 152)) (.cells #[.int .i64 0, .int .i64 0, .int .i64 0, .string ⟨#[]⟩, .slice none 0 0] 152)
  simpa using this
 have hxs : X.heap.size = w.heap.size + 2 := by rw [hX]; simp
 have hRw : R < w.heap.size := by have := h.lt; omega
 have HR0 := lh (h.below' hB hbx)
 have HS0 := lh (Nat.le_trans hB hbx.size)
 have HRW := lh hRw
 have HX := lh hX
 have H0 := lh hx0
 have H1 := lh hx1
 have HXS := lh hxs
 have HBX := lh hbx
 have HIO := lh hio
 have HON := lh hon
 have HOC : Hid (∀ u, Xbd o u = [.int .i64 k, .int .i64 p, .int .i64 m, .string s, u]) := lh fun u => by rw [hk, hp, hm, hs]; rfl
 have HOK : Hid (k = o.kind ∧ p = o.pl ∧ m = o.num ∧ s = Xab o.name) := lh ⟨hk, hp, hm, hs⟩
 have HBS := lh hbase
 have HBW := lh hbw
 have hf1 := Xdn
 have hf2 := Xrq
 have HE := lh hE
 obtain ⟨K, hK⟩ : ∃ K : Int, K = (t.kind : Nat) := ⟨_, rfl⟩
 obtain ⟨U, hU⟩ : ∃ U : Int, U = (t.pl : Nat) := ⟨_, rfl⟩
 have HUP := lh hU
 have HP := lh (Xbn HR0.out HS0.out)
 rw [← hK, ← hU, ← hT2] at HP
 clear hX hx0 hx1 hbx h hB hK hU hT2 hxs hRw hio hon hk hp hm hs hbase hbw hE
 go_enter Tryz.func126, Tryz.ntmps126
 go_wp2_with fail
 rw [← HX.out]
 refine HP.out.mono ?_
 rintro e w1 ⟨rfl, hr, hc⟩
 obtain ⟨a0, a1, a2, a3, a4, -⟩ := row5 (hc.row H0.out (by have := HRW.out; omega))
 have u0 := Xaa a0
 have u1 := Xaa a1
 have u2 := Xaa a2
 have u3 := Xaa a3
 have u4 := Xaa a4
 have HR1 := lh hr
 have HC1 := lh hc
 clear hr hc a0 a1 a2 a3 a4
 go_wp2_with fail
 obtain ⟨Y, hY⟩ : ∃ Y : World, Y = ((w1.alloc (.cells #[.int .i64 K, .string T, .int .i64 U] 76)).alloc (.cells #[.int .i64 k, .int .i64 p, .int .i64 m, .string s, .slice A z c] 152)).alloc (.cells #[.int .i64 5, .int .i64 U, .int .i64 0, .string ⟨#[]⟩, .slice (some ⟨w1.heap.size + 1, 0, none⟩) 1 1] 152) := ⟨_, rfl⟩
 rw [← hY]
 have hby : Below w1.heap.size w1 Y := by rw [hY]; exact ((Xae _ _).alloc (by simp) _).alloc (by simp; omega) _
 have hye : Y.heap[w1.heap.size + 1 + 1]? = some (.cells #[.int .i64 5, .int .i64 U, .int .i64 0, .string ⟨#[]⟩, .slice (some ⟨w1.heap.size + 1, 0, none⟩) 1 1] 152 (0, 0)) := by
  rw [hY]
  have := heap_alloc_new ((w1.alloc (.cells #[.int .i64 K, .string T, .int .i64 U] 76)).alloc (.cells #[.int .i64 k, .int .i64 p, .int .i64 m, .string s, .slice A z c] 152)) (.cells #[.int .i64 5, .int .i64 U, .int .i64 0, .string ⟨#[]⟩, .slice (some ⟨w1.heap.size + 1, 0, none⟩) 1 1] 152)
  simpa using this
 have hyo : Y.heap[w1.heap.size + 1]? = some (.cells #[.int .i64 k, .int .i64 p, .int .i64 m, .string s, .slice A z c] 152 (0, 0)) := by
  rw [hY, Below.heap_alloc _ _ _ (by simp)]
  have := heap_alloc_new (w1.alloc (.cells #[.int .i64 K, .string T, .int .i64 U] 76)) (.cells #[.int .i64 k, .int .i64 p, .int .i64 m, .string s, .slice A z c] 152)
  simpa using this
 have hys : Y.heap.size = w1.heap.size + 3 := by rw [hY]; simp
 have HYB := lh hby
 have HYE := lh hye
 have HYO := lh hyo
 have HYS := lh hys
 have hyw : B ≤ Y.heap.size := by have := HC1.out.size; have := HS0.out; have := hby.size; omega
 have hRd : RdAt Y B R L r := HR1.out.below' (by have := HC1.out.size; have := HS0.out; omega) hby
 have HCY : Hid (Chg (fun b => b = R) w Y) := lh (Xbf HBX.out (HC1.out.up (Chg.of_below hby)))
 have HRD := lh hRd
 have HYW := lh hyw
 have q4 : Y.cell? ⟨w1.heap.size + 1 + 1, 4, none⟩ = some (.slice (some ⟨w1.heap.size + 1, 0, none⟩) 1 1) := by rw [cell_of_row Y _ 4 _ _ (0, 0) hye]; rfl
 have HNR : Hid (w1.heap.size + 1 + 1 ≠ R ∧ w.heap.size + 1 ≠ R ∧ w.heap.size + 2 ≤ w1.heap.size) := lh (by have := HRW.out; have := HC1.out.size; have := HXS.out; omega)
 have HOW : Hid (Xaf Y (fun b => Q b ∧ (b < w.heap.size ∨ w1.heap.size + 1 + 1 < b)) base (.slice (some ⟨w1.heap.size + 1, 0, none⟩) 1 1) [o]) := lh (Xgo (by have := HNR.out; have := HBW.out; omega) (by rw [← HOK.out.1, ← HOK.out.2.1, ← HOK.out.2.2.1, ← HOK.out.2.2.2]; exact hyo) (by have := HON.out; omega)
  ((HIO.out.keep (fun b hb => (hby.block b (by have := HNR.out; omega)).trans ((HC1.out.block b (by have := HXS.out; omega) (by have := HQ.out.1 b hb.1; have h9 := hRd.lt; omega)).trans (HBX.out.block b hb.2))) fun b hb => ⟨⟨hb.1, by have := HNR.out; omega⟩, by have := HNR.out; have := hby.size; omega, by have := HNR.out; omega⟩)))
 have HWR : Hid (IntKind.i64.wrap (D + 1) = D + 1) := lh (IntWalk.i64_in _ ⟨by omega, by omega⟩)
 have HRES : Hid (Y.heap[w.heap.size + 1]? = some (.cells #[.int .i64 0, .int .i64 0, .int .i64 0, .string ⟨#[]⟩, .slice none 0 0] 152 (0, 0))) := lh ((hby.block _ (by have := HNR.out; omega)).trans (HC1.out.row H1.out (by have := HNR.out; omega)))
 clear hY hby hye hyo hys hyw hRd u0 u1 u2 u3 u4
 have HZ0 : Hid (Xcq Q w Y B R L base (w1.heap.size + 1 + 1) 5 U (.slice (some ⟨w1.heap.size + 1, 0, none⟩) 1 1) [o] r) := lh ⟨HYE.out, HRES.out, HRD.out, HCY.out, HOW.out, fun e => Xoc e (by omega)⟩
 have HNM : Hid (Calls Tryz.prog 82 #[.pointer (some ⟨R, 0, none⟩)] Y (Xaj StrV Y B R L (Xbo L r))) := lh (Xcr HRD.out HYW.out)
 rw [HXE.out] at HNM
 refine HNM.out.mono ?_
 rintro e w2 ⟨rfl, hc9⟩
 have HC9 := lh (HCY.out.up hc9)
 clear hc9
 unfold Xag
 go_wp2
 rw [HM.out]
 exact ⟨rfl, rfl, HC9.out⟩
end Go.Proofs.YtbckeljbpknbdaaGreatDoor
