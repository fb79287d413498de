/- Fb An -/
import Derived.Test.YtkmpnlbppdekaaaDoorZa3
import Derived.StillTailTactics
import Derived.IntWalk
section
set_option linter.unusedVariables false
set_option linter.unusedSimpArgs false
namespace Go.Proofs.YtkmpnlbppdekaaaDoor
open Go.RowKit
structure FrOk (w : World) (B R L lo G0 G1 : Nat) (AV : Addr) (D : Int) (Fr : World → Value → List Tok → Prop) : Prop where
  rd : ∀ {Z v us}, Fr Z v us → RdAt Z B R L us
  size : ∀ {Z v us}, Fr Z v us → lo ≤ Z.heap.size
  chg : ∀ {Z v us}, Fr Z v us → Chg (fun b => b = R) w Z
  c0 : ∀ {Z v us}, Fr Z v us → Z.cell? ⟨G0, 0, none⟩ = some (.pointer (some ⟨R, 0, none⟩))
  c1 : ∀ {Z v us}, Fr Z v us → Z.cell? ⟨G1, 0, none⟩ = some (.int .i64 D)
  cv : ∀ {Z v us}, Fr Z v us → Z.cell? AV = some v
  fz : ∀ {Z v us}, Fr Z v us → Z.frozen? AV = false
  keep : ∀ {Z v us Z' us'}, Fr Z v us → (∀ b, b < lo → b ≠ R → Z'.heap[b]? = Z.heap[b]?) → Z.heap.size ≤ Z'.heap.size → RdAt Z' B R L us' → Chg (fun b => b = R) w Z' → Fr Z' v us'
  put : ∀ {Z v us} (v' : Value), Fr Z v us → Fr (Z.setCell AV v') v' us
  l0 : G0 < lo
  l1 : G1 < lo
  lv : AV.block < lo
  lB : B ≤ lo
  lw : w.heap.size ≤ lo
  n0 : AV.block ≠ G0
  n1 : AV.block ≠ G1
section
variable {w : World} {B R L lo G0 G1 : Nat} {AV : Addr} {D : Int} {Fr : World → Value → List Tok → Prop} {Z Z' : World} {v : Value} {us us' : List Tok}
theorem FrOk.step (hF : FrOk w B R L lo G0 G1 AV D Fr) (h : Fr Z v us) (hr : RdAt Z' B R L us') (hc : Chg (fun b => b = R) Z Z') : Fr Z' v us' :=
  hF.keep h (fun b hb hn => hc.block b (by have := hF.size h; omega) hn) hc.size hr ((hF.chg h).up hc)
theorem own_step {P : Nat → Prop} {xs : List Ex} (hRl : ∀ b, P b → b ≠ R) (hR : R < lo) (h : OwnExP Z P lo v xs) (hc : Chg (fun b => b = R) Z Z') : OwnExP Z' P lo v xs :=
  OwnExP.keep h hc.size fun b hb hP => hc.block b hb (by
    rcases hP with hP | hP
    · exact hRl b hP
    · have := (h.lt hP).1; omega)
end
theorem OwnExP.slice {w : World} {P : Nat → Prop} {base : Nat} {v : Value} {es : List Ex} (h : OwnExP w P base v es) : ∃ A c, v = .slice A es.length c := by
  obtain ⟨fs, hl, hown, hin⟩ := h
  rcases hown.2 with ⟨rfl, h2⟩ | ⟨g, cap, cur, rfl, hbg, hg, hc1, hc2, _⟩
  · exact ⟨none, 0, by rw [h2]⟩
  · exact ⟨_, cap, rfl⟩
def AppPost (w : World) (R lo : Nat) (Fr : World → Value → List Tok → Prop) (xs : List Ex) (x : Rd Ex) (e : Ending) (w' : World) : Prop := match x with
  | .bad p c => e = thrown p c ∧ Chg (fun b => b = R) w w'
  | .ok a r => e = .returned (.tuple #[]) ∧ ∃ A n c, Fr w' (.slice A n c) r ∧ OwnExP w' (fun b => lo ≤ b) lo (.slice A n c) (xs ++ [a])
theorem app_fin {w : World} {B R L lo G0 G1 : Nat} {AV : Addr} {D : Int} {Fr : World → Value → List Tok → Prop} (hF : FrOk w B R L lo G0 G1 AV D Fr) {W : World} {v u : Value} {r : List Tok} {g k c : Nat} {xs : List Ex} {z a : Ex} (hk : k = xs.length)
    (h : Fr W v r) (hown : OwnExP W (fun b => lo ≤ b) lo (.slice (some ⟨g, 0, none⟩) (k + 1) c) (xs ++ [z])) (hu : IsExs W (fun b => lo ≤ b ∧ b < W.heap.size ∧ b ≠ g) a.args u) (hn : a.name.length ≤ 16384) :
    (Fr ((five W g (k * 5) a u).setCell AV (.slice (some ⟨g, 0, none⟩) (k + 1) c)) (.slice (some ⟨g, 0, none⟩) (k + 1) c) r ∧ OwnExP ((five W g (k * 5) a u).setCell AV (.slice (some ⟨g, 0, none⟩) (k + 1) c)) (fun b => lo ≤ b) lo (.slice (some ⟨g, 0, none⟩) (k + 1) c) (xs ++ [a])) ∧
    (Fr (five (W.setCell AV (.slice (some ⟨g, 0, none⟩) (k + 1) c)) g (k * 5) a u) (.slice (some ⟨g, 0, none⟩) (k + 1) c) r ∧ OwnExP (five (W.setCell AV (.slice (some ⟨g, 0, none⟩) (k + 1) c)) g (k * 5) a u) (fun b => lo ≤ b) lo (.slice (some ⟨g, 0, none⟩) (k + 1) c) (xs ++ [a])) := by
  have hg := hown.lt (b := g) rfl
  have hlv := hF.lv
  have hlB := hF.lB
  have hlw := hF.lw
  have hfar : ∀ (W : World), (∀ b, b < lo → (five W g (k * 5) a u).heap[b]? = W.heap[b]?) := fun W b hb => by
    unfold five
    rw [Below.heap_setCell _ _ _ _ (by show b ≠ g; omega), Below.heap_setCell _ _ _ _ (by show b ≠ g; omega), Below.heap_setCell _ _ _ _ (by show b ≠ g; omega), Below.heap_setCell _ _ _ _ (by show b ≠ g; omega), Below.heap_setCell _ _ _ _ (by show b ≠ g; omega)]
  have hch : ∀ W : World, Chg (fun b => b = R) w W → Chg (fun b => b = R) w (five W g (k * 5) a u) := fun W h => h.trans (five_chg W g (k * 5) a u) fun x hx e => by omega
  have hsz : ∀ W : World, (five W g (k * 5) a u).heap.size = W.heap.size := fun W => by simp [five, World.setCell]
  have hset : ∀ (W : World) (P : Nat → Prop) (v : Value) (xs : List Ex), (∀ b, P b → lo ≤ b) → OwnExP W P lo v xs → OwnExP (W.setCell AV (.slice (some ⟨g, 0, none⟩) (k + 1) c)) P lo v xs := fun W P v xs hP h => OwnExP.keep h (by simp [World.setCell]) fun b hb hx => Below.heap_setCell _ _ _ _ (by
    rcases hx with hx | hx
    · have := hP b hx; omega
    · have := (h.lt hx).1; omega)
  refine ⟨⟨hF.put _ (hF.keep h (fun b hb _ => hfar W b hb) (by rw [hsz]; exact Nat.le_refl _) ((hF.rd h).keep fun b hb => hfar W b (by omega)) (hch W (hF.chg h))), hset _ _ _ _ (fun b hb => hb) (slot_done hk hown hu hn)⟩, ?_, ?_⟩
  · have h2 := hF.put (.slice (some ⟨g, 0, none⟩) (k + 1) c) h
    exact hF.keep h2 (fun b hb _ => hfar _ b hb) (by rw [hsz]; exact Nat.le_refl _) ((hF.rd h2).keep fun b hb => hfar _ b (by omega)) (hch _ (hF.chg h2))
  · refine slot_done hk (hset _ _ _ _ (fun b hb => hb) hown) (hu.keep (fun b hb => Below.heap_setCell _ _ _ _ (by have := hb.1; omega)) fun b hb => ⟨hb.1, by simpa [World.setCell] using hb.2.1, hb.2.2⟩) hn
theorem news_at {W : World} {g : Nat} (h : W.heap[g]? = some (.cells #[.int .i64 0, .int .i64 0, .int .i64 0, .string ⟨#[]⟩, .slice none 0 0] 32 (0, 0))) : ∀ q y, (exCells noEx (.slice none 0 0))[q]? = some y → W.cell? ((⟨g, 0, none⟩ : Addr).add q) = some y := fun q y hq => by
  rw [add_pl, Nat.zero_add, cell_of_row _ _ q _ _ (0, 0) h]
  simpa [exCells, noEx, Ex.kind, Ex.pl, Ex.num, Ex.name, strOf] using hq
theorem app_mid {w : World} {B R L lo G0 G1 : Nat} {AV : Addr} {D : Int} {Fr : World → Value → List Tok → Prop} (hF : FrOk w B R L lo G0 G1 AV D Fr) (hR : R < lo) {Z w2 w3 : World} {v v0 u : Value} {r : List Tok} {g base : Nat} {xs es : List Ex} (hown : OwnExP Z (fun b => lo ≤ b) lo v xs) (hc : Chg (fun b => b = R) Z w2)
    (h : Fr w2 v0 r) (hu : IsExs w2 (fun b => base ≤ b ∧ b < w2.heap.size) es u) (hbase : Z.heap.size ≤ base) (hlo : lo ≤ Z.heap.size) (hk : ∀ b, b < w2.heap.size → v.ownBlock ≠ some b → w3.heap[b]? = w2.heap[b]?) (hs : w2.heap.size ≤ w3.heap.size) (hat : v.ownBlock = some g ∨ w2.heap.size ≤ g)
    (ho : w3.os = w2.os ∧ w3.tape = w2.tape ∧ w3.output = w2.output) :
    Fr w3 v0 r ∧ IsExs w3 (fun b => lo ≤ b ∧ b < w3.heap.size ∧ b ≠ g) es u := by
  have hlt := fun b (e : v.ownBlock = some b) => hown.lt e
  have hsz := hF.size h
  have hlB := hF.lB
  have hlw := hF.lw
  have hnv : ∀ b, b < lo → v.ownBlock ≠ some b := fun b hb e => by have := (hlt b e).1; omega
  refine ⟨hF.keep h (fun b hb _ => hk b (by omega) (hnv b hb)) hs ((hF.rd h).keep fun b hb => hk b (by omega) (hnv b (by omega))) ?_, hu.keep (fun b hb => hk b hb.2 fun e => by have := (hlt b e).2; have := hb.1; omega) fun b hb => ⟨by have := hb.1; omega, by have := hb.2; omega, fun e => ?_⟩⟩
  · have hcw := hF.chg h
    refine ⟨ho.1.trans hcw.os, ho.2.1.trans hcw.tape, ho.2.2.trans hcw.output, Nat.le_trans hcw.size hs, fun b hb hn => ?_⟩
    exact (hk b (by have := hcw.size; omega) (hnv b (by omega))).trans (hcw.block b hb hn)
  · subst e
    rcases hat with e | e
    · have := (hlt b e).2; have := hb.1; omega
    · have := hb.2; omega
end Go.Proofs.YtkmpnlbppdekaaaDoor
end
section
set_option linter.unusedVariables false
set_option linter.unusedSimpArgs false
namespace Go.Proofs.YtkmpnlbppdekaaaDoor
open Go.RowKit
set_option maxRecDepth 100000 in
set_option maxHeartbeats 2000000 in
theorem link_index {w : World} {B R L n : Nat} {t : Tok} {r : List Tok} (h : RdAt w B R L (t :: r)) (hB : B ≤ w.heap.size) {base : Nat} (hbase : B ≤ base) (hbw : base ≤ w.heap.size) {Q : Nat → Prop} (HQ : Hid ((∀ b, Q b → B ≤ b) ∧ ∀ b, base ≤ b → Q b)) (o : Ex) (A : Option Addr) (z c : Nat) (hio : IsExs w (fun b => Q b ∧ b < w.heap.size) o.args (.slice A z c)) (hon : o.name.length ≤ 16384)
    (T : ByteArray) (hT : T.toList = [91]) (hT2 : T = strOf t.text) (D : Int) (hD0 : 0 ≤ D) (hD1 : D ≤ 24)
    (hE : ∀ (w : World) (us : List Tok), RdAt w B R L us → B ≤ w.heap.size → Calls Tryd.prog 16 #[.pointer (some ⟨R, 0, none⟩), .int .i64 (D + 1)] w (RdPost (ExB w.heap.size) w B R L (exprM L n us)))
    {a : Ex} {r2 r5 : List Tok} {t5 : Tok} (hx : exprM L n r = .ok a r2) (hnc : tx r2 ≠ [58]) (htx : takeM L [[93]] r2 = .ok t5 r5) (hM : linkM L (exprM L n) o (t :: r) = .ok (.mk 6 t.pl 0 [] [o, a]) r5) :
    Calls Tryd.prog 30 #[.pointer (some ⟨R, 0, none⟩), .agg #[.int .i64 o.kind, .int .i64 o.pl, .int .i64 o.num, .string (strOf o.name), .slice A z c], .int .i64 D] w (RdPost (ExQ Q) w B R L (linkM L (exprM L n) o (t :: r))) := by
  have HXE := Lib.hid hx
  have HNC := Lib.hid hnc
  have HTX := Lib.hid htx
  have HM := Lib.hid hM
  clear hx hnc htx hM
  obtain ⟨k, hk⟩ : ∃ x, x = o.kind := ⟨_, rfl⟩
  obtain ⟨p, hp⟩ : ∃ x, x = o.pl := ⟨_, rfl⟩
  obtain ⟨m, hm⟩ : ∃ x, x = o.num := ⟨_, rfl⟩
  obtain ⟨s, hs⟩ : ∃ x, x = strOf o.name := ⟨_, rfl⟩
  rw [← hk, ← hp, ← hm, ← hs]
  obtain ⟨X, hX⟩ : ∃ X : World, X = (w.alloc (.cells #[.int .i64 k, .int .i64 p, .int .i64 m, .string s, .slice A z c] 32)).alloc (.cells #[.int .i64 0, .int .i64 0, .int .i64 0, .string ⟨#[]⟩, .slice none 0 0] 32) := ⟨_, rfl⟩
  have hbx : Below w.heap.size w X := by rw [hX]; exact (below_new _ _).alloc (by simp) _
  have hx0 : X.heap[w.heap.size]? = some (.cells #[.int .i64 k, .int .i64 p, .int .i64 m, .string s, .slice A z c] 32 (0, 0)) := by
    rw [hX, Below.heap_alloc _ _ _ (by simp)]; exact heap_alloc_new _ _
  have hx1 : X.heap[w.heap.size + 1]? = some (.cells #[.int .i64 0, .int .i64 0, .int .i64 0, .string ⟨#[]⟩, .slice none 0 0] 32 (0, 0)) := by
    rw [hX]
    have := heap_alloc_new (w.alloc (.cells #[.int .i64 k, .int .i64 p, .int .i64 m, .string s, .slice A z c] 32)) (.cells #[.int .i64 0, .int .i64 0, .int .i64 0, .string ⟨#[]⟩, .slice none 0 0] 32)
    simpa using this
  have hxs : X.heap.size = w.heap.size + 2 := by rw [hX]; simp
  have hRw : R < w.heap.size := by have := h.lt; omega
  have HR0 := Lib.hid (h.below' hB hbx)
  have HS0 := Lib.hid (Nat.le_trans hB hbx.size)
  have HRW := Lib.hid hRw
  have HX := Lib.hid hX
  have H0 := Lib.hid hx0
  have H1 := Lib.hid hx1
  have HXS := Lib.hid hxs
  have HBX := Lib.hid hbx
  have HIO := Lib.hid hio
  have HON := Lib.hid hon
  have HOC : Hid (∀ u, exCells o u = [.int .i64 k, .int .i64 p, .int .i64 m, .string s, u]) := Lib.hid fun u => by rw [hk, hp, hm, hs]; rfl
  have HOK : Hid (k = o.kind ∧ p = o.pl ∧ m = o.num ∧ s = strOf o.name) := Lib.hid ⟨hk, hp, hm, hs⟩
  have HBS := Lib.hid hbase
  have HBW := Lib.hid hbw
  have hf1 := tokF1
  have hf2 := tokF2
  have HE := Lib.hid hE
  obtain ⟨K, hK⟩ : ∃ K : Int, K = (t.kind : Nat) := ⟨_, rfl⟩
  obtain ⟨U, hU⟩ : ∃ U : Int, U = (t.pl : Nat) := ⟨_, rfl⟩
  have HUP := Lib.hid hU
  have HP := Lib.hid (pop_any HR0.out HS0.out)
  rw [← hK, ← hU, ← hT2] at HP
  clear hX hx0 hx1 hbx h hB hK hU hT2 hxs hRw hio hon hk hp hm hs hbase hbw hE
  go_enter Tryd.func30, Tryd.ntmps30
  go_wp2_with fail
  rw [← HX.out]
  refine HP.out.mono ?_
  rintro e w1 ⟨rfl, hr, hc⟩
  obtain ⟨a0, a1, a2, a3, a4, -⟩ := row5 (hc.row H0.out (by have := HRW.out; omega))
  have u0 := alloc_cell a0
  have u1 := alloc_cell a1
  have u2 := alloc_cell a2
  have u3 := alloc_cell a3
  have u4 := alloc_cell a4
  have HR1 := Lib.hid hr
  have HC1 := Lib.hid hc
  clear hr hc a0 a1 a2 a3 a4
  go_wp2_with fail
  obtain ⟨Y, hY⟩ : ∃ Y : World, Y = ((w1.alloc (.cells #[.int .i64 K, .string T, .int .i64 U] 51)).alloc (.cells #[.int .i64 k, .int .i64 p, .int .i64 m, .string s, .slice A z c] 32)).alloc (.cells #[.int .i64 6, .int .i64 U, .int .i64 0, .string ⟨#[]⟩, .slice (some ⟨w1.heap.size + 1, 0, none⟩) 1 1] 32) := ⟨_, rfl⟩
  rw [← hY]
  have hby : Below w1.heap.size w1 Y := by rw [hY]; exact ((below_new _ _).alloc (by simp) _).alloc (by simp; omega) _
  have hye : Y.heap[w1.heap.size + 1 + 1]? = some (.cells #[.int .i64 6, .int .i64 U, .int .i64 0, .string ⟨#[]⟩, .slice (some ⟨w1.heap.size + 1, 0, none⟩) 1 1] 32 (0, 0)) := by
    rw [hY]
    have := heap_alloc_new ((w1.alloc (.cells #[.int .i64 K, .string T, .int .i64 U] 51)).alloc (.cells #[.int .i64 k, .int .i64 p, .int .i64 m, .string s, .slice A z c] 32)) (.cells #[.int .i64 6, .int .i64 U, .int .i64 0, .string ⟨#[]⟩, .slice (some ⟨w1.heap.size + 1, 0, none⟩) 1 1] 32)
    simpa using this
  have hyo : Y.heap[w1.heap.size + 1]? = some (.cells #[.int .i64 k, .int .i64 p, .int .i64 m, .string s, .slice A z c] 32 (0, 0)) := by
    rw [hY, Below.heap_alloc _ _ _ (by simp)]
    have := heap_alloc_new (w1.alloc (.cells #[.int .i64 K, .string T, .int .i64 U] 51)) (.cells #[.int .i64 k, .int .i64 p, .int .i64 m, .string s, .slice A z c] 32)
    simpa using this
  have hys : Y.heap.size = w1.heap.size + 3 := by rw [hY]; simp
  have HYB := Lib.hid hby
  have HYE := Lib.hid hye
  have HYO := Lib.hid hyo
  have HYS := Lib.hid hys
  have hyw : B ≤ Y.heap.size := by have := HC1.out.size; have := HS0.out; have := hby.size; omega
  have hRd : RdAt Y B R L r := HR1.out.below' (by have := HC1.out.size; have := HS0.out; omega) hby
  have HCY : Hid (Chg (fun b => b = R) w Y) := Lib.hid (chg_below HBX.out (HC1.out.up (Chg.of_below hby)))
  have HRD := Lib.hid hRd
  have HYW := Lib.hid hyw
  have q4 : Y.cell? ⟨w1.heap.size + 1 + 1, 4, none⟩ = some (.slice (some ⟨w1.heap.size + 1, 0, none⟩) 1 1) := by rw [cell_of_row Y _ 4 _ _ (0, 0) hye]; rfl
  have HNR : Hid (w1.heap.size + 1 + 1 ≠ R ∧ w.heap.size + 1 ≠ R ∧ w.heap.size + 2 ≤ w1.heap.size) := Lib.hid (by have := HRW.out; have := HC1.out.size; have := HXS.out; omega)
  have HOW : Hid (OwnExP Y (fun b => Q b ∧ (b < w.heap.size ∨ w1.heap.size + 1 + 1 < b)) base (.slice (some ⟨w1.heap.size + 1, 0, none⟩) 1 1) [o]) := Lib.hid (own_oneP (by have := HNR.out; have := HBW.out; omega) (by rw [← HOK.out.1, ← HOK.out.2.1, ← HOK.out.2.2.1, ← HOK.out.2.2.2]; exact hyo) (by have := HON.out; omega)
    ((HIO.out.keep (fun b hb => (hby.block b (by have := HNR.out; omega)).trans ((HC1.out.block b (by have := HXS.out; omega) (by have := HQ.out.1 b hb.1; have h9 := hRd.lt; omega)).trans (HBX.out.block b hb.2))) fun b hb => ⟨⟨hb.1, by have := HNR.out; omega⟩, by have := HNR.out; have := hby.size; omega, by have := HNR.out; omega⟩)))
  have HWR : Hid (IntKind.i64.wrap (D + 1) = D + 1) := Lib.hid (IntWalk.i64_in _ ⟨by omega, by omega⟩)
  have HRES : Hid (Y.heap[w.heap.size + 1]? = some (.cells #[.int .i64 0, .int .i64 0, .int .i64 0, .string ⟨#[]⟩, .slice none 0 0] 32 (0, 0))) := Lib.hid ((hby.block _ (by have := HNR.out; omega)).trans (HC1.out.row H1.out (by have := HNR.out; omega)))
  obtain ⟨ak, hak⟩ : ∃ x, x = a.kind := ⟨_, rfl⟩
  obtain ⟨ap, hap⟩ : ∃ x, x = a.pl := ⟨_, rfl⟩
  obtain ⟨am, ham⟩ : ∃ x, x = a.num := ⟨_, rfl⟩
  obtain ⟨sa, has⟩ : ∃ x, x = strOf a.name := ⟨_, rfl⟩
  have HAK : Hid (∀ u, exCells a u = [.int .i64 ak, .int .i64 ap, .int .i64 am, .string sa, u]) := Lib.hid fun u => by rw [hak, hap, ham, has]; rfl
  have HC : Hid (Calls Tryd.prog 16 #[.pointer (some ⟨R, 0, none⟩), .int .i64 (D + 1)] Y.drew fun e w2 => ∃ u2, e = .returned (.agg #[.int .i64 ak, .int .i64 ap, .int .i64 am, .string sa, u2]) ∧ a.name.length ≤ 16384 ∧ IsExs w2 (fun b => Y.heap.size ≤ b ∧ b < w2.heap.size) a.args u2 ∧ RdAt w2 B R L r2 ∧ Chg (fun b => b = R) Y w2) := Lib.hid (by
    have h1 := HE.out Y.drew r HRD.out.drew HYW.out
    rw [HXE.out] at h1
    refine h1.mono fun e w2 => ?_
    rintro ⟨⟨v, rfl, u2, rfl, hn2, hi2⟩, hr2, hc2⟩
    exact ⟨u2, by rw [hak, hap, ham, has], hn2, hi2, hr2, ⟨hc2.os, hc2.tape, hc2.output, hc2.size, hc2.block⟩⟩)
  clear hak hap ham has
  clear hY hby hye hyo hys hyw hRd u0 u1 u2 u3 u4
  have q5 : Y.drew.cell? ⟨w1.heap.size + 1 + 1, 4, none⟩ = some (.slice (some ⟨w1.heap.size + 1, 0, none⟩) 1 1) := q4
  go_region_law (first
    | (go_simp
       go_at_call 16
       rw [HWR.out]
       refine HC.out.mono ?_
       rintro e w2 ⟨u2, rfl, hn2, hi2, hr2, hc2⟩
       have p4 : w2.cell? ⟨w1.heap.size + 1 + 1, 4, none⟩ = some (.slice (some ⟨w1.heap.size + 1, 0, none⟩) 1 1) := hc2.cell q4 HNR.out.1
       have p5 := alloc_cell p4
       obtain ⟨HO2, HN2, HU2, HE2, HL2, HZ2⟩ := link_after HQ HOW HAK HYE HNR HYS HBW HBS hn2 hi2 hr2 hc2
       have HR2 := Lib.hid hr2
       have HC2 := Lib.hid hc2
       clear hn2 hi2 hr2 hc2)
    | (refine step_append_exP rfl _ _ (by rfl) base (.slice (some ⟨w1.heap.size + 1, 0, none⟩) 1 1) [o] (by rfl) HO2.out ⟨w2.heap.size, 0, none⟩ 1 a u2 (by rfl) HN2.out HU2.out HL2.out (by simp) HZ2.out ?_
       intro g3 c3 w3 hown3 hgr hat
       obtain ⟨-, -, -, -, q6, -, -, -, -, z6⟩ := row5 ((hgr.block _ (lt_of_heap HE2.out) (by simp [Value.ownBlock])).trans HE2.out)
       have HZ3 := link_stored HE2 HR2 HC2 HCY HNR HRES HBW HBS HYW hown3 hgr hat
       have HGN : Hid ((Value.slice (some ⟨g3, 0, none⟩) 2 c3).ownBlock ≠ some (w.heap.size + 1)) := Lib.hid (own_far hat (by have := HNR.out; omega) (by have := HNR.out; have := HC2.out.size; have := HYS.out; simp; omega))
       clear hown3 hgr hat))
  all_goals clear q4 q5 q6 z6 p4 p5 HO2 HN2 HU2 HE2 HL2 HZ2
  all_goals
    obtain ⟨Z, hZ⟩ : ∃ Z : World, Z = w3.setCell ⟨w1.heap.size + 1 + 1, 4, none⟩ (.slice (some ⟨g3, 0, none⟩) 2 c3) := ⟨_, rfl⟩
    rw [← hZ] at HZ3 ⊢
    clear hZ
    have HGG : Hid ((Value.slice (some ⟨g3, 0, none⟩) 2 c3).ownBlock ≠ some (w.heap.size + 1)) := HGN
    have HBZ : Hid (B ≤ Z.heap.size) := Lib.hid (by have := HZ3.out.chg.size; have := HBS.out; have := HBW.out; omega)
    have HSK : Hid (Calls Tryd.prog 49 #[.pointer (some ⟨R, 0, none⟩), .string ⟨#[58]⟩] Z fun e w' => e = .returned (.bool false) ∧ RdAt w' B R L r2 ∧ Chg (fun b => b = R) Z w') := Lib.hid (by
      have h1 := skip_any HZ3.out.rd HBZ.out [58] (by simp)
      rw [decide_eq_false HNC.out, if_neg HNC.out] at h1
      exact h1)
    go_wp2_with fail
    refine HSK.out.mono ?_
    rintro e w4 ⟨rfl, hr4, hc4⟩
    have HZ4 := Lib.hid (HZ3.out.step HQ HBS.out HBW.out (by have := HNR.out; omega) hr4 hc4)
    have HTK := Lib.hid (take_new hr4 (Nat.le_trans HBZ.out hc4.size) [[93]] (by simp) (by decide))
    clear hr4 hc4
    go_wp2_with fail
    refine HTK.out.mono ?_
    rintro e w5 hp
    rw [HTX.out] at hp
    obtain ⟨⟨v5, rfl, hv5⟩, hr5, hc5⟩ := hp
    have HZ5 := Lib.hid (HZ4.out.step HQ HBS.out HBW.out (by have := HNR.out; omega) hr5 hc5)
    clear hv5 hr5 hc5
    obtain ⟨a0, a1, a2, a3, a4, b0, b1, b2, b3, b4, f0, f1, f2, f3, f4⟩ := HZ5.out.rows
    go_wp2
    refine bodyPost_ret (v := .agg #[.int .i64 6, .int .i64 U, .int .i64 0, .string ⟨#[]⟩, (.slice (some ⟨g3, 0, none⟩) 2 c3)]) ?_ rfl ?_
    · clear HZ3 HZ4 HZ5 HM HUP HRES HOW HWR HC HAK HRD HYW HCY HNR
      simp [results, Tryd.results30, go_sem, b0, b1, b2, b3, b4]
    · rw [HM.out]
      exact HZ5.out.done HQ HBS.out HBW.out (by have := HNR.out; omega) HGG.out HUP.out
end Go.Proofs.YtkmpnlbppdekaaaDoor
end
