/- As -/
import Derived.Test.YtkmpnlbppdekaaaDoorZa7
import Derived.StillTailTactics
import Derived.IntWalk
set_option linter.unusedVariables false
set_option linter.unusedSimpArgs false
namespace Go.Proofs.YtkmpnlbppdekaaaDoor
open Go.RowKit
theorem set_row53 {w : World} {g : Nat} {a b c d e : Value} {t : TypeId} (h : w.heap[g]? = some (.cells #[a, b, c, d, e] t (0, 0))) (u : Value) : (w.setCell ⟨g, 3, none⟩ u).heap[g]? = some (.cells #[a, b, c, u, e] t (0, 0)) := by
  simp [World.setCell, Array.getElem?_modify, h]
theorem LinkAt.dot {Q : Nat → Prop} {w Z : World} {B R L base E : Nat} {U : Int} {v : Value} {xs : List Ex} {us : List Tok} {t : Tok} (h : LinkAt Q w Z B R L base E 5 U v xs us) (HQ : Hid ((∀ b, Q b → B ≤ b) ∧ ∀ b, base ≤ b → Q b)) (hB : B ≤ base) (hb : base ≤ w.heap.size) (hE : w.heap.size + 1 < E) (hg : v.ownBlock ≠ some (w.heap.size + 1)) (hU : U = (t.pl : Nat)) (s9 : List UInt8) (hl : s9.length ≤ 16384) (S9 : ByteArray) (hS : S9 = strOf s9) (Z1 : World) (hZ : Z1 = Z.setCell ⟨E, 3, none⟩ (.string S9)) :
    Z1.heap[E]? = some (.cells #[.int .i64 5, .int .i64 U, .int .i64 0, .string S9, v] 32 (0, 0)) ∧ Z1.heap[w.heap.size + 1]? = some (.cells #[.int .i64 0, .int .i64 0, .int .i64 0, .string ⟨#[]⟩, .slice none 0 0] 32 (0, 0)) ∧
    RdPost (ExQ Q) w B R L (.ok (.mk 5 t.pl 0 s9 xs) us) (.returned (.agg #[.int .i64 5, .int .i64 U, .int .i64 0, .string S9, v]))
      (((((Z1.setCell ⟨w.heap.size + 1, 0, none⟩ (.int .i64 5)).setCell ⟨w.heap.size + 1, 1, none⟩ (.int .i64 U)).setCell ⟨w.heap.size + 1, 2, none⟩ (.int .i64 0)).setCell ⟨w.heap.size + 1, 3, none⟩ (.string S9)).setCell ⟨w.heap.size + 1, 4, none⟩ v) := by
  have r1 : Z1.heap[E]? = some (.cells #[.int .i64 5, .int .i64 U, .int .i64 0, .string S9, v] 32 (0, 0)) := by rw [hZ]; exact set_row53 h.row _
  have r2 : Z1.heap[w.heap.size + 1]? = some (.cells #[.int .i64 0, .int .i64 0, .int .i64 0, .string ⟨#[]⟩, .slice none 0 0] 32 (0, 0)) := by rw [hZ, Below.heap_setCell _ _ _ _ (by simp; omega)]; exact h.res
  have r3 : RdAt Z1 B R L us := by rw [hZ]; exact h.rd.setCell _ _ (by simp; omega)
  have r4 : Chg (fun b => b = R) w Z1 := by
    rw [hZ]
    refine h.chg.setCell _ _ fun e => ?_
    have : E < w.heap.size := e
    omega
  have r5 : OwnExP Z1 (fun b => Q b ∧ (b < w.heap.size ∨ E < b)) base v xs := by
    rw [hZ]
    refine OwnExP.keep h.own (by simp [World.setCell]) fun x hx hP => Below.heap_setCell _ _ _ _ ?_
    rcases hP with hP | hP
    · show x ≠ E
      have := hP.2; omega
    · show x ≠ E
      intro e; rw [e] at hP; exact h.nown hP
  refine ⟨r1, r2, ?_⟩
  have hc : Chg (fun b => b = w.heap.size + 1) Z1 (((((Z1.setCell ⟨w.heap.size + 1, 0, none⟩ (.int .i64 5)).setCell ⟨w.heap.size + 1, 1, none⟩ (.int .i64 U)).setCell ⟨w.heap.size + 1, 2, none⟩ (.int .i64 0)).setCell ⟨w.heap.size + 1, 3, none⟩ (.string S9)).setCell ⟨w.heap.size + 1, 4, none⟩ v) :=
    (((((Chg.refl (fun b => b = w.heap.size + 1) Z1).setCell _ _ fun _ => rfl).setCell _ _ fun _ => rfl).setCell _ _ fun _ => rfl).setCell _ _ fun _ => rfl).setCell _ _ fun _ => rfl
  have h1 := OwnExP.keep r5 hc.size fun b hb2 hP => hc.block b hb2 (by
    rcases hP with hP | hP
    · have := hP.2; omega
    · intro e; rw [e] at hP; exact hg hP)
  have hi := h1.exsQ (fun b hb => hb.1) HQ.out.2
  subst hU
  rw [hS] at hi hc ⊢
  exact ⟨⟨_, rfl, v, rfl, hl, hi⟩, r3.keep fun b hlt => hc.block b (by have := r4.size; omega) (by omega), r4.trans hc fun x hx e => by omega⟩
set_option maxRecDepth 100000 in
set_option maxHeartbeats 2000000 in
theorem link_dot {w : World} {B R L n : Nat} {t : Tok} {r : List Tok} (h : RdAt w B R L (t :: r)) (hB : B ≤ w.heap.size) {base : Nat} (hbase : B ≤ base) (hbw : base ≤ w.heap.size) {Q : Nat → Prop} (HQ : Hid ((∀ b, Q b → B ≤ b) ∧ ∀ b, base ≤ b → Q b)) (o : Ex) (A : Option Addr) (z c : Nat) (hio : IsExs w (fun b => Q b ∧ b < w.heap.size) o.args (.slice A z c)) (hon : o.name.length ≤ 16384)
    (T : ByteArray) (hT : T.toList = [46]) (hT2 : T = strOf t.text) (D : Int) (hD0 : 0 ≤ D) (hD1 : D ≤ 24)
    (hE : ∀ (w : World) (us : List Tok), RdAt w B R L us → B ≤ w.heap.size → Calls Tryd.prog 16 #[.pointer (some ⟨R, 0, none⟩), .int .i64 (D + 1)] w (RdPost (ExB w.heap.size) w B R L (exprM L n us)))
    {s9 : List UInt8} {r9 : List Tok} (hx : nameM L r = .ok s9 r9) (hM : linkM L (exprM L n) o (t :: r) = .ok (.mk 5 t.pl 0 s9 [o]) r9) :
    Calls Tryd.prog 30 #[.pointer (some ⟨R, 0, none⟩), .agg #[.int .i64 o.kind, .int .i64 o.pl, .int .i64 o.num, .string (strOf o.name), .slice A z c], .int .i64 D] w (RdPost (ExQ Q) w B R L (linkM L (exprM L n) o (t :: r))) := by
  have HXE := Lib.hid hx
  have HM := Lib.hid hM
  clear hx hM
  obtain ⟨k, hk⟩ : ∃ x, x = o.kind := ⟨_, rfl⟩
  obtain ⟨p, hp⟩ : ∃ x, x = o.pl := ⟨_, rfl⟩
  obtain ⟨m, hm⟩ : ∃ x, x = o.num := ⟨_, rfl⟩
  obtain ⟨s, hs⟩ : ∃ x, x = strOf o.name := ⟨_, rfl⟩
  rw [← hk, ← hp, ← hm, ← hs]
  obtain ⟨X, hX⟩ : ∃ X : World, X = (w.alloc (.cells #[.int .i64 k, .int .i64 p, .int .i64 m, .string s, .slice A z c] 32)).alloc (.cells #[.int .i64 0, .int .i64 0, .int .i64 0, .string ⟨#[]⟩, .slice none 0 0] 32) := ⟨_, rfl⟩
  have hbx : Below w.heap.size w X := by rw [hX]; exact (below_new _ _).alloc (by simp) _
  have hx0 : X.heap[w.heap.size]? = some (.cells #[.int .i64 k, .int .i64 p, .int .i64 m, .string s, .slice A z c] 32 (0, 0)) := by
    rw [hX, Below.heap_alloc _ _ _ (by simp)]; exact heap_alloc_new _ _
  have hx1 : X.heap[w.heap.size + 1]? = some (.cells #[.int .i64 0, .int .i64 0, .int .i64 0, .string ⟨#[]⟩, .slice none 0 0] 32 (0, 0)) := by
    rw [hX]
    have := heap_alloc_new (w.alloc (.cells #[.int .i64 k, .int .i64 p, .int .i64 m, .string s, .slice A z c] 32)) (.cells #[.int .i64 0, .int .i64 0, .int .i64 0, .string ⟨#[]⟩, .slice none 0 0] 32)
    simpa using this
  have hxs : X.heap.size = w.heap.size + 2 := by rw [hX]; simp
  have hRw : R < w.heap.size := by have := h.lt; omega
  have HR0 := Lib.hid (h.below' hB hbx)
  have HS0 := Lib.hid (Nat.le_trans hB hbx.size)
  have HRW := Lib.hid hRw
  have HX := Lib.hid hX
  have H0 := Lib.hid hx0
  have H1 := Lib.hid hx1
  have HXS := Lib.hid hxs
  have HBX := Lib.hid hbx
  have HIO := Lib.hid hio
  have HON := Lib.hid hon
  have HOC : Hid (∀ u, exCells o u = [.int .i64 k, .int .i64 p, .int .i64 m, .string s, u]) := Lib.hid fun u => by rw [hk, hp, hm, hs]; rfl
  have HOK : Hid (k = o.kind ∧ p = o.pl ∧ m = o.num ∧ s = strOf o.name) := Lib.hid ⟨hk, hp, hm, hs⟩
  have HBS := Lib.hid hbase
  have HBW := Lib.hid hbw
  have hf1 := tokF1
  have hf2 := tokF2
  have HE := Lib.hid hE
  obtain ⟨K, hK⟩ : ∃ K : Int, K = (t.kind : Nat) := ⟨_, rfl⟩
  obtain ⟨U, hU⟩ : ∃ U : Int, U = (t.pl : Nat) := ⟨_, rfl⟩
  have HUP := Lib.hid hU
  have HP := Lib.hid (pop_any HR0.out HS0.out)
  rw [← hK, ← hU, ← hT2] at HP
  clear hX hx0 hx1 hbx h hB hK hU hT2 hxs hRw hio hon hk hp hm hs hbase hbw hE
  go_enter Tryd.func30, Tryd.ntmps30
  go_wp2_with fail
  rw [← HX.out]
  refine HP.out.mono ?_
  rintro e w1 ⟨rfl, hr, hc⟩
  obtain ⟨a0, a1, a2, a3, a4, -⟩ := row5 (hc.row H0.out (by have := HRW.out; omega))
  have u0 := alloc_cell a0
  have u1 := alloc_cell a1
  have u2 := alloc_cell a2
  have u3 := alloc_cell a3
  have u4 := alloc_cell a4
  have HR1 := Lib.hid hr
  have HC1 := Lib.hid hc
  clear hr hc a0 a1 a2 a3 a4
  go_wp2_with fail
  obtain ⟨Y, hY⟩ : ∃ Y : World, Y = ((w1.alloc (.cells #[.int .i64 K, .string T, .int .i64 U] 51)).alloc (.cells #[.int .i64 k, .int .i64 p, .int .i64 m, .string s, .slice A z c] 32)).alloc (.cells #[.int .i64 5, .int .i64 U, .int .i64 0, .string ⟨#[]⟩, .slice (some ⟨w1.heap.size + 1, 0, none⟩) 1 1] 32) := ⟨_, rfl⟩
  rw [← hY]
  have hby : Below w1.heap.size w1 Y := by rw [hY]; exact ((below_new _ _).alloc (by simp) _).alloc (by simp; omega) _
  have hye : Y.heap[w1.heap.size + 1 + 1]? = some (.cells #[.int .i64 5, .int .i64 U, .int .i64 0, .string ⟨#[]⟩, .slice (some ⟨w1.heap.size + 1, 0, none⟩) 1 1] 32 (0, 0)) := by
    rw [hY]
    have := heap_alloc_new ((w1.alloc (.cells #[.int .i64 K, .string T, .int .i64 U] 51)).alloc (.cells #[.int .i64 k, .int .i64 p, .int .i64 m, .string s, .slice A z c] 32)) (.cells #[.int .i64 5, .int .i64 U, .int .i64 0, .string ⟨#[]⟩, .slice (some ⟨w1.heap.size + 1, 0, none⟩) 1 1] 32)
    simpa using this
  have hyo : Y.heap[w1.heap.size + 1]? = some (.cells #[.int .i64 k, .int .i64 p, .int .i64 m, .string s, .slice A z c] 32 (0, 0)) := by
    rw [hY, Below.heap_alloc _ _ _ (by simp)]
    have := heap_alloc_new (w1.alloc (.cells #[.int .i64 K, .string T, .int .i64 U] 51)) (.cells #[.int .i64 k, .int .i64 p, .int .i64 m, .string s, .slice A z c] 32)
    simpa using this
  have hys : Y.heap.size = w1.heap.size + 3 := by rw [hY]; simp
  have HYB := Lib.hid hby
  have HYE := Lib.hid hye
  have HYO := Lib.hid hyo
  have HYS := Lib.hid hys
  have hyw : B ≤ Y.heap.size := by have := HC1.out.size; have := HS0.out; have := hby.size; omega
  have hRd : RdAt Y B R L r := HR1.out.below' (by have := HC1.out.size; have := HS0.out; omega) hby
  have HCY : Hid (Chg (fun b => b = R) w Y) := Lib.hid (chg_below HBX.out (HC1.out.up (Chg.of_below hby)))
  have HRD := Lib.hid hRd
  have HYW := Lib.hid hyw
  have q4 : Y.cell? ⟨w1.heap.size + 1 + 1, 4, none⟩ = some (.slice (some ⟨w1.heap.size + 1, 0, none⟩) 1 1) := by rw [cell_of_row Y _ 4 _ _ (0, 0) hye]; rfl
  have HNR : Hid (w1.heap.size + 1 + 1 ≠ R ∧ w.heap.size + 1 ≠ R ∧ w.heap.size + 2 ≤ w1.heap.size) := Lib.hid (by have := HRW.out; have := HC1.out.size; have := HXS.out; omega)
  have HOW : Hid (OwnExP Y (fun b => Q b ∧ (b < w.heap.size ∨ w1.heap.size + 1 + 1 < b)) base (.slice (some ⟨w1.heap.size + 1, 0, none⟩) 1 1) [o]) := Lib.hid (own_oneP (by have := HNR.out; have := HBW.out; omega) (by rw [← HOK.out.1, ← HOK.out.2.1, ← HOK.out.2.2.1, ← HOK.out.2.2.2]; exact hyo) (by have := HON.out; omega)
    ((HIO.out.keep (fun b hb => (hby.block b (by have := HNR.out; omega)).trans ((HC1.out.block b (by have := HXS.out; omega) (by have := HQ.out.1 b hb.1; have h9 := hRd.lt; omega)).trans (HBX.out.block b hb.2))) fun b hb => ⟨⟨hb.1, by have := HNR.out; omega⟩, by have := HNR.out; have := hby.size; omega, by have := HNR.out; omega⟩)))
  have HWR : Hid (IntKind.i64.wrap (D + 1) = D + 1) := Lib.hid (IntWalk.i64_in _ ⟨by omega, by omega⟩)
  have HRES : Hid (Y.heap[w.heap.size + 1]? = some (.cells #[.int .i64 0, .int .i64 0, .int .i64 0, .string ⟨#[]⟩, .slice none 0 0] 32 (0, 0))) := Lib.hid ((hby.block _ (by have := HNR.out; omega)).trans (HC1.out.row H1.out (by have := HNR.out; omega)))
  clear hY hby hye hyo hys hyw hRd u0 u1 u2 u3 u4
  have HZ0 : Hid (LinkAt Q w Y B R L base (w1.heap.size + 1 + 1) 5 U (.slice (some ⟨w1.heap.size + 1, 0, none⟩) 1 1) [o] r) := Lib.hid ⟨HYE.out, HRES.out, HRD.out, HCY.out, HOW.out, fun e => own_apart e (by omega)⟩
  have HNM : Hid (Calls Tryd.prog 47 #[.pointer (some ⟨R, 0, none⟩)] Y (RdPost StrV Y B R L (nameM L r))) := Lib.hid (nameR_any HRD.out HYW.out)
  rw [HXE.out] at HNM
  have HGG : Hid ((Value.slice (some ⟨w1.heap.size + 1, 0, none⟩) 1 1).ownBlock ≠ some (w.heap.size + 1)) := Lib.hid (own_far (.inr rfl) (by have := HNR.out; omega) (by have := HNR.out; omega) (g0 := w1.heap.size + 1) (c0 := 1) (n0 := 1) (N := w1.heap.size + 1))
  refine HNM.out.mono ?_
  rintro e w2 hp
  obtain ⟨⟨v9, rfl, hv9, hl9⟩, hr9, hc9⟩ := hp
  obtain ⟨S9, hS9⟩ : ∃ S, S = strOf s9 := ⟨_, rfl⟩
  rw [hv9, ← hS9]
  clear hv9
  have HZ2 := Lib.hid (HZ0.out.step HQ HBS.out HBW.out (by have := HNR.out; omega) hr9 hc9)
  obtain ⟨-, -, -, c3, -, -, -, -, z3, -⟩ := row5 HZ2.out.row
  obtain ⟨Z1, hZ1⟩ : ∃ Z1 : World, Z1 = w2.setCell ⟨w1.heap.size + 1 + 1, 3, none⟩ (.string S9) := ⟨_, rfl⟩
  obtain ⟨j1, j2, j3⟩ := HZ2.out.dot HQ HBS.out HBW.out (by have := HNR.out; omega) HGG.out HUP.out s9 hl9 S9 hS9 Z1 hZ1
  obtain ⟨a0, a1, a2, a3, a4, -⟩ := row5 j1
  obtain ⟨b0, b1, b2, b3, b4, f0, f1, f2, f3, f4⟩ := row5 j2
  have HJ := Lib.hid j3
  clear j1 j2 j3 hr9 hc9 hl9 hS9
  subst hZ1
  go_wp2
  refine bodyPost_ret (v := .agg #[.int .i64 5, .int .i64 U, .int .i64 0, .string S9, .slice (some ⟨w1.heap.size + 1, 0, none⟩) 1 1]) ?_ rfl ?_
  · clear HZ0 HZ2 HJ HM HUP HRES HOW HWR HRD HYW HCY HNR
    simp [results, Tryd.results30, go_sem, b0, b1, b2, b3, b4]
  · rw [HM.out]
    exact HJ.out
set_option maxRecDepth 100000 in
set_option maxHeartbeats 2000000 in
theorem link_dot_bad {w : World} {B R L n : Nat} {t : Tok} {r : List Tok} (h : RdAt w B R L (t :: r)) (hB : B ≤ w.heap.size) {base : Nat} (hbase : B ≤ base) (hbw : base ≤ w.heap.size) {Q : Nat → Prop} (HQ : Hid ((∀ b, Q b → B ≤ b) ∧ ∀ b, base ≤ b → Q b)) (o : Ex) (A : Option Addr) (z c : Nat) (hio : IsExs w (fun b => Q b ∧ b < w.heap.size) o.args (.slice A z c)) (hon : o.name.length ≤ 16384)
    (T : ByteArray) (hT : T.toList = [46]) (hT2 : T = strOf t.text) (D : Int) (hD0 : 0 ≤ D) (hD1 : D ≤ 24)
    (hE : ∀ (w : World) (us : List Tok), RdAt w B R L us → B ≤ w.heap.size → Calls Tryd.prog 16 #[.pointer (some ⟨R, 0, none⟩), .int .i64 (D + 1)] w (RdPost (ExB w.heap.size) w B R L (exprM L n us)))
    {p9 c9 : Nat} (hx : nameM L r = .bad p9 c9) (hM : linkM L (exprM L n) o (t :: r) = .bad p9 c9) :
    Calls Tryd.prog 30 #[.pointer (some ⟨R, 0, none⟩), .agg #[.int .i64 o.kind, .int .i64 o.pl, .int .i64 o.num, .string (strOf o.name), .slice A z c], .int .i64 D] w (RdPost (ExQ Q) w B R L (linkM L (exprM L n) o (t :: r))) := by
  have HXE := Lib.hid hx
  have HM := Lib.hid hM
  clear hx hM
  obtain ⟨k, hk⟩ : ∃ x, x = o.kind := ⟨_, rfl⟩
  obtain ⟨p, hp⟩ : ∃ x, x = o.pl := ⟨_, rfl⟩
  obtain ⟨m, hm⟩ : ∃ x, x = o.num := ⟨_, rfl⟩
  obtain ⟨s, hs⟩ : ∃ x, x = strOf o.name := ⟨_, rfl⟩
  rw [← hk, ← hp, ← hm, ← hs]
  obtain ⟨X, hX⟩ : ∃ X : World, X = (w.alloc (.cells #[.int .i64 k, .int .i64 p, .int .i64 m, .string s, .slice A z c] 32)).alloc (.cells #[.int .i64 0, .int .i64 0, .int .i64 0, .string ⟨#[]⟩, .slice none 0 0] 32) := ⟨_, rfl⟩
  have hbx : Below w.heap.size w X := by rw [hX]; exact (below_new _ _).alloc (by simp) _
  have hx0 : X.heap[w.heap.size]? = some (.cells #[.int .i64 k, .int .i64 p, .int .i64 m, .string s, .slice A z c] 32 (0, 0)) := by
    rw [hX, Below.heap_alloc _ _ _ (by simp)]; exact heap_alloc_new _ _
  have hx1 : X.heap[w.heap.size + 1]? = some (.cells #[.int .i64 0, .int .i64 0, .int .i64 0, .string ⟨#[]⟩, .slice none 0 0] 32 (0, 0)) := by
    rw [hX]
    have := heap_alloc_new (w.alloc (.cells #[.int .i64 k, .int .i64 p, .int .i64 m, .string s, .slice A z c] 32)) (.cells #[.int .i64 0, .int .i64 0, .int .i64 0, .string ⟨#[]⟩, .slice none 0 0] 32)
    simpa using this
  have hxs : X.heap.size = w.heap.size + 2 := by rw [hX]; simp
  have hRw : R < w.heap.size := by have := h.lt; omega
  have HR0 := Lib.hid (h.below' hB hbx)
  have HS0 := Lib.hid (Nat.le_trans hB hbx.size)
  have HRW := Lib.hid hRw
  have HX := Lib.hid hX
  have H0 := Lib.hid hx0
  have H1 := Lib.hid hx1
  have HXS := Lib.hid hxs
  have HBX := Lib.hid hbx
  have HIO := Lib.hid hio
  have HON := Lib.hid hon
  have HOC : Hid (∀ u, exCells o u = [.int .i64 k, .int .i64 p, .int .i64 m, .string s, u]) := Lib.hid fun u => by rw [hk, hp, hm, hs]; rfl
  have HOK : Hid (k = o.kind ∧ p = o.pl ∧ m = o.num ∧ s = strOf o.name) := Lib.hid ⟨hk, hp, hm, hs⟩
  have HBS := Lib.hid hbase
  have HBW := Lib.hid hbw
  have hf1 := tokF1
  have hf2 := tokF2
  have HE := Lib.hid hE
  obtain ⟨K, hK⟩ : ∃ K : Int, K = (t.kind : Nat) := ⟨_, rfl⟩
  obtain ⟨U, hU⟩ : ∃ U : Int, U = (t.pl : Nat) := ⟨_, rfl⟩
  have HUP := Lib.hid hU
  have HP := Lib.hid (pop_any HR0.out HS0.out)
  rw [← hK, ← hU, ← hT2] at HP
  clear hX hx0 hx1 hbx h hB hK hU hT2 hxs hRw hio hon hk hp hm hs hbase hbw hE
  go_enter Tryd.func30, Tryd.ntmps30
  go_wp2_with fail
  rw [← HX.out]
  refine HP.out.mono ?_
  rintro e w1 ⟨rfl, hr, hc⟩
  obtain ⟨a0, a1, a2, a3, a4, -⟩ := row5 (hc.row H0.out (by have := HRW.out; omega))
  have u0 := alloc_cell a0
  have u1 := alloc_cell a1
  have u2 := alloc_cell a2
  have u3 := alloc_cell a3
  have u4 := alloc_cell a4
  have HR1 := Lib.hid hr
  have HC1 := Lib.hid hc
  clear hr hc a0 a1 a2 a3 a4
  go_wp2_with fail
  obtain ⟨Y, hY⟩ : ∃ Y : World, Y = ((w1.alloc (.cells #[.int .i64 K, .string T, .int .i64 U] 51)).alloc (.cells #[.int .i64 k, .int .i64 p, .int .i64 m, .string s, .slice A z c] 32)).alloc (.cells #[.int .i64 5, .int .i64 U, .int .i64 0, .string ⟨#[]⟩, .slice (some ⟨w1.heap.size + 1, 0, none⟩) 1 1] 32) := ⟨_, rfl⟩
  rw [← hY]
  have hby : Below w1.heap.size w1 Y := by rw [hY]; exact ((below_new _ _).alloc (by simp) _).alloc (by simp; omega) _
  have hye : Y.heap[w1.heap.size + 1 + 1]? = some (.cells #[.int .i64 5, .int .i64 U, .int .i64 0, .string ⟨#[]⟩, .slice (some ⟨w1.heap.size + 1, 0, none⟩) 1 1] 32 (0, 0)) := by
    rw [hY]
    have := heap_alloc_new ((w1.alloc (.cells #[.int .i64 K, .string T, .int .i64 U] 51)).alloc (.cells #[.int .i64 k, .int .i64 p, .int .i64 m, .string s, .slice A z c] 32)) (.cells #[.int .i64 5, .int .i64 U, .int .i64 0, .string ⟨#[]⟩, .slice (some ⟨w1.heap.size + 1, 0, none⟩) 1 1] 32)
    simpa using this
  have hyo : Y.heap[w1.heap.size + 1]? = some (.cells #[.int .i64 k, .int .i64 p, .int .i64 m, .string s, .slice A z c] 32 (0, 0)) := by
    rw [hY, Below.heap_alloc _ _ _ (by simp)]
    have := heap_alloc_new (w1.alloc (.cells #[.int .i64 K, .string T, .int .i64 U] 51)) (.cells #[.int .i64 k, .int .i64 p, .int .i64 m, .string s, .slice A z c] 32)
    simpa using this
  have hys : Y.heap.size = w1.heap.size + 3 := by rw [hY]; simp
  have HYB := Lib.hid hby
  have HYE := Lib.hid hye
  have HYO := Lib.hid hyo
  have HYS := Lib.hid hys
  have hyw : B ≤ Y.heap.size := by have := HC1.out.size; have := HS0.out; have := hby.size; omega
  have hRd : RdAt Y B R L r := HR1.out.below' (by have := HC1.out.size; have := HS0.out; omega) hby
  have HCY : Hid (Chg (fun b => b = R) w Y) := Lib.hid (chg_below HBX.out (HC1.out.up (Chg.of_below hby)))
  have HRD := Lib.hid hRd
  have HYW := Lib.hid hyw
  have q4 : Y.cell? ⟨w1.heap.size + 1 + 1, 4, none⟩ = some (.slice (some ⟨w1.heap.size + 1, 0, none⟩) 1 1) := by rw [cell_of_row Y _ 4 _ _ (0, 0) hye]; rfl
  have HNR : Hid (w1.heap.size + 1 + 1 ≠ R ∧ w.heap.size + 1 ≠ R ∧ w.heap.size + 2 ≤ w1.heap.size) := Lib.hid (by have := HRW.out; have := HC1.out.size; have := HXS.out; omega)
  have HOW : Hid (OwnExP Y (fun b => Q b ∧ (b < w.heap.size ∨ w1.heap.size + 1 + 1 < b)) base (.slice (some ⟨w1.heap.size + 1, 0, none⟩) 1 1) [o]) := Lib.hid (own_oneP (by have := HNR.out; have := HBW.out; omega) (by rw [← HOK.out.1, ← HOK.out.2.1, ← HOK.out.2.2.1, ← HOK.out.2.2.2]; exact hyo) (by have := HON.out; omega)
    ((HIO.out.keep (fun b hb => (hby.block b (by have := HNR.out; omega)).trans ((HC1.out.block b (by have := HXS.out; omega) (by have := HQ.out.1 b hb.1; have h9 := hRd.lt; omega)).trans (HBX.out.block b hb.2))) fun b hb => ⟨⟨hb.1, by have := HNR.out; omega⟩, by have := HNR.out; have := hby.size; omega, by have := HNR.out; omega⟩)))
  have HWR : Hid (IntKind.i64.wrap (D + 1) = D + 1) := Lib.hid (IntWalk.i64_in _ ⟨by omega, by omega⟩)
  have HRES : Hid (Y.heap[w.heap.size + 1]? = some (.cells #[.int .i64 0, .int .i64 0, .int .i64 0, .string ⟨#[]⟩, .slice none 0 0] 32 (0, 0))) := Lib.hid ((hby.block _ (by have := HNR.out; omega)).trans (HC1.out.row H1.out (by have := HNR.out; omega)))
  clear hY hby hye hyo hys hyw hRd u0 u1 u2 u3 u4
  have HZ0 : Hid (LinkAt Q w Y B R L base (w1.heap.size + 1 + 1) 5 U (.slice (some ⟨w1.heap.size + 1, 0, none⟩) 1 1) [o] r) := Lib.hid ⟨HYE.out, HRES.out, HRD.out, HCY.out, HOW.out, fun e => own_apart e (by omega)⟩
  have HNM : Hid (Calls Tryd.prog 47 #[.pointer (some ⟨R, 0, none⟩)] Y (RdPost StrV Y B R L (nameM L r))) := Lib.hid (nameR_any HRD.out HYW.out)
  rw [HXE.out] at HNM
  refine HNM.out.mono ?_
  rintro e w2 ⟨rfl, hc9⟩
  have HC9 := Lib.hid (HCY.out.up hc9)
  clear hc9
  unfold thrown
  go_wp2
  rw [HM.out]
  exact ⟨rfl, rfl, HC9.out⟩
end Go.Proofs.YtkmpnlbppdekaaaDoor
