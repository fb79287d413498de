/- Am -/
import Derived.Test.YtbckeljbpknbdaaGreatDoorVa2
set_option linter.unusedVariables false
set_option linter.unusedSimpArgs false
namespace Go.Proofs.YtbckeljbpknbdaaGreatDoor
open Go.RowKit
section
def ExQ (Q : Nat → Prop) (w' : World) (x : Ex) (v : Value) : Prop := ∃ u, v = .agg #[.int .i64 x.kind, .int .i64 x.pl, .int .i64 x.num, .string (Xab x.name), u] ∧ x.name.length ≤ 16384 ∧ Xbb w' (fun b => Q b ∧ b < w'.heap.size) x.args u
theorem Xaf.exsQ {w : World} {P Q : Nat → Prop} {base : Nat} {v : Value} {es : List Ex} (h : Xaf w P base v es) (hP : ∀ b, P b → Q b) (hQ : ∀ b, base ≤ b → Q b) : Xbb w (fun b => Q b ∧ b < w.heap.size) es v := by
 obtain ⟨fs, hl, hown, hin⟩ := h
 have hlt := hown.lt
 have hcell : ∀ (g : Nat), v.ownBlock = some g → ∀ (j : Nat) (u : Value), (exsV es fs)[j]? = some u → w.cell? ⟨g, 0 + j, none⟩ = some u := fun g hg j u hu => by
  have := hown.cells hg j u hu
  rw [Xdo] at this
  exact this
 rcases hown.2 with ⟨rfl, h2⟩ | ⟨g, cap, cur, rfl, hbg, hg, hc1, hc2, _⟩
 · have he : es = [] := List.eq_nil_of_length_eq_zero h2
   subst he
   exact .mk [] none 0 (fun _ => undef) (Nat.le_refl _) (by omega) (fun k hk => absurd hk (by simp)) (fun k hk => absurd hk (by simp))
 · refine .mk es _ cap (fun k => fs.getD k undef) hc1 (by unfold maxLen at hc2; omega) (fun k hk => ?_) (fun k hk => ?_)
   · have hk' : k < fs.length := by omega
     have hgd : fs.getD k undef = fs[k] := by rw [List.getD_eq_getElem?_getD, List.getElem?_eq_getElem hk']; rfl
     refine ⟨g, 0, rfl, ⟨hQ g hbg, (hlt g rfl).2⟩, (hin k hk hk').1, ?_, ?_, ?_, ?_, ?_⟩
     · exact hcell g rfl (k * 5) _ (by have := Xez hl k hk 0 (by omega); rw [Nat.add_zero] at this; rw [this]; rfl)
     · exact hcell g rfl (k * 5 + 1) _ (by rw [Xez hl k hk 1 (by omega)]; rfl)
     · exact hcell g rfl (k * 5 + 2) _ (by rw [Xez hl k hk 2 (by omega)]; rfl)
     · exact hcell g rfl (k * 5 + 3) _ (by rw [Xez hl k hk 3 (by omega)]; rfl)
     · rw [hgd]
       exact hcell g rfl (k * 5 + 4) _ (by rw [Xez hl k hk 4 (by omega)]; rfl)
   · have hk' : k < fs.length := by omega
     have hgd : fs.getD k undef = fs[k] := by rw [List.getD_eq_getElem?_getD, List.getElem?_eq_getElem hk']; rfl
     show Xbb w _ es[k].args (fs.getD k undef)
     rw [hgd]
     exact (hin k hk hk').2.keep (fun _ _ => rfl) (fun b hb => ⟨hP b hb.1, hb.2.1⟩)
theorem Xhe {w w1 Y w2 : World} {B R L base : Nat} {Q : Nat → Prop} (HQ : Hid ((∀ b, Q b → B ≤ b) ∧ ∀ b, base ≤ b → Q b)) {o a : Ex} {r2 : List Tok} {U ak ap am : Int} {sa : ByteArray} {u2 : Value}
  (HOW : Hid (Xaf Y (fun b => Q b ∧ (b < w.heap.size ∨ w1.heap.size + 1 + 1 < b)) base (.slice (some ⟨w1.heap.size + 1, 0, none⟩) 1 1) [o])) (HAK : Hid (∀ u, Xbd a u = [.int .i64 ak, .int .i64 ap, .int .i64 am, .string sa, u]))
  (HYE : Hid (Y.heap[w1.heap.size + 1 + 1]? = some (.cells #[.int .i64 6, .int .i64 U, .int .i64 0, .string ⟨#[]⟩, .slice (some ⟨w1.heap.size + 1, 0, none⟩) 1 1] 152 (0, 0))))
  (HNR : Hid (w1.heap.size + 1 + 1 ≠ R ∧ w.heap.size + 1 ≠ R ∧ w.heap.size + 2 ≤ w1.heap.size)) (HYS : Hid (Y.heap.size = w1.heap.size + 3)) (HBW : Hid (base ≤ w.heap.size)) (HBS : Hid (B ≤ base))
  (hn2 : a.name.length ≤ 16384) (hi2 : Xbb w2 (fun b => Y.heap.size ≤ b ∧ b < w2.heap.size) a.args u2) (hr2 : RdAt w2 B R L r2) (hc2 : Chg (fun b => b = R) Y w2) :
  Hid (Xaf (w2.alloc (.cells #[.int .i64 ak, .int .i64 ap, .int .i64 am, .string sa, u2] 152)) (fun b => Q b ∧ (b < w.heap.size ∨ w1.heap.size + 1 + 1 < b)) base (.slice (some ⟨w1.heap.size + 1, 0, none⟩) 1 1) [o]) ∧
  Hid (∀ q y, (Xbd a u2)[q]? = some y → (w2.alloc (.cells #[.int .i64 ak, .int .i64 ap, .int .i64 am, .string sa, u2] 152)).cell? ((⟨w2.heap.size, 0, none⟩ : Addr).add q) = some y) ∧
  Hid (Xbb (w2.alloc (.cells #[.int .i64 ak, .int .i64 ap, .int .i64 am, .string sa, u2] 152)) (fun b => (Q b ∧ (b < w.heap.size ∨ w1.heap.size + 1 + 1 < b)) ∧ b < (w2.alloc (.cells #[.int .i64 ak, .int .i64 ap, .int .i64 am, .string sa, u2] 152)).heap.size ∧ (Value.slice (some ⟨w1.heap.size + 1, 0, none⟩) 1 1).ownBlock ≠ some b) a.args u2) ∧
  Hid ((w2.alloc (.cells #[.int .i64 ak, .int .i64 ap, .int .i64 am, .string sa, u2] 152)).heap[w1.heap.size + 1 + 1]? = some (.cells #[.int .i64 6, .int .i64 U, .int .i64 0, .string ⟨#[]⟩, .slice (some ⟨w1.heap.size + 1, 0, none⟩) 1 1] 152 (0, 0))) ∧
  Hid (a.name.length ≤ 140737488355328) ∧ Hid (base ≤ (w2.alloc (.cells #[.int .i64 ak, .int .i64 ap, .int .i64 am, .string sa, u2] 152)).heap.size) := by
 have h1 := HNR.out
 have h2 := HYS.out
 have h3 := HBW.out
 have h4 := HBS.out
 have h5 := hr2.lt
 have h6 := hc2.size
 refine ⟨lh ?_, lh (Xnx (w := w2) ak ap am sa (HAK.out u2)), lh ?_, lh ?_, lh (by omega), lh (by simp; omega)⟩
 · refine HOW.out.keep (by simp; omega) fun b hb hP => ?_
   rw [Below.heap_alloc _ _ _ (by omega)]
   refine hc2.block b hb ?_
   rcases hP with hP | hP
   · have := HQ.out.1 b hP.1; omega
   · have : w1.heap.size + 1 = b := by simpa [Value.ownBlock] using hP
     omega
 · refine hi2.keep (fun b hb => (Xae _ _).block b hb.2) fun b hb => ⟨⟨HQ.out.2 b (by omega), by omega⟩, by simp; omega, fun e => Xoc e (by omega)⟩
 · rw [Below.heap_alloc _ _ _ (Xac (hc2.row HYE.out h1.1))]; exact hc2.row HYE.out h1.1
theorem Xyk {w : World} {g : Nat} {a b c d e : Value} {t : TypeId} (h : w.heap[g]? = some (.cells #[a, b, c, d, e] t (0, 0))) (u : Value) : (w.setCell ⟨g, 4, none⟩ u).heap[g]? = some (.cells #[a, b, c, d, u] t (0, 0)) := by
 simp [World.setCell, Array.getElem?_modify, h]
theorem Yfk {w : World} {g : Nat} {a b c d e : Value} {t : TypeId} (h : w.heap[g]? = some (.cells #[a, b, c, d, e] t (0, 0))) (u : Value) : (w.setCell ⟨g, 0, none⟩ u).heap[g]? = some (.cells #[u, b, c, d, e] t (0, 0)) := by
 simp [World.setCell, Array.getElem?_modify, h]
structure Xcq (Q : Nat → Prop) (w Z : World) (B R L base E : Nat) (kd U : Int) (v : Value) (xs : List Ex) (us : List Tok) : Prop where
 row : Z.heap[E]? = some (.cells #[.int .i64 kd, .int .i64 U, .int .i64 0, .string ⟨#[]⟩, v] 152 (0, 0))
 res : Z.heap[w.heap.size + 1]? = some (.cells #[.int .i64 0, .int .i64 0, .int .i64 0, .string ⟨#[]⟩, .slice none 0 0] 152 (0, 0))
 rd : RdAt Z B R L us
 chg : Chg (fun b => b = R) w Z
 own : Xaf Z (fun b => Q b ∧ (b < w.heap.size ∨ E < b)) base v xs
 nown : v.ownBlock ≠ some E
theorem Xlk {g0 c0 n0 g3 n3 c3 N k : Nat} (hat : (Value.slice (some ⟨g0, 0, none⟩) n0 c0).ownBlock = some g3 ∨ g3 = N) (h1 : g0 ≠ k) (h2 : N ≠ k) : (Value.slice (some ⟨g3, 0, none⟩) n3 c3).ownBlock ≠ some k := by
 intro e
 have e : g3 = k := by simpa [Value.ownBlock] using e
 rcases hat with hat | hat
 · have : g0 = g3 := by simpa [Value.ownBlock] using hat
   omega
 · omega
theorem Xgd {w w1 Y w2 w3 : World} {B R L base : Nat} {Q : Nat → Prop} {o a : Ex} {r2 : List Tok} {U ak ap am : Int} {sa : ByteArray} {u2 : Value} {g3 c3 : Nat}
  (HE2 : Hid ((w2.alloc (.cells #[.int .i64 ak, .int .i64 ap, .int .i64 am, .string sa, u2] 152)).heap[w1.heap.size + 1 + 1]? = some (.cells #[.int .i64 6, .int .i64 U, .int .i64 0, .string ⟨#[]⟩, .slice (some ⟨w1.heap.size + 1, 0, none⟩) 1 1] 152 (0, 0))))
  (HR2 : Hid (RdAt w2 B R L r2)) (HC2 : Hid (Chg (fun b => b = R) Y w2)) (HCY : Hid (Chg (fun b => b = R) w Y)) (HNR : Hid (w1.heap.size + 1 + 1 ≠ R ∧ w.heap.size + 1 ≠ R ∧ w.heap.size + 2 ≤ w1.heap.size))
  (HRES : Hid (Y.heap[w.heap.size + 1]? = some (.cells #[.int .i64 0, .int .i64 0, .int .i64 0, .string ⟨#[]⟩, .slice none 0 0] 152 (0, 0)))) (HBW : Hid (base ≤ w.heap.size)) (HBS : Hid (B ≤ base)) (HYW : Hid (B ≤ Y.heap.size))
  (hown : Xaf w3 (fun b => Q b ∧ (b < w.heap.size ∨ w1.heap.size + 1 + 1 < b)) base (.slice (some ⟨g3, 0, none⟩) ([o].length + 1) c3) ([o] ++ [a])) (hgr : (w2.alloc (.cells #[.int .i64 ak, .int .i64 ap, .int .i64 am, .string sa, u2] 152)).grownBy w3 (Value.slice (some ⟨w1.heap.size + 1, 0, none⟩) 1 1).ownBlock)
  (hat : (Value.slice (some ⟨w1.heap.size + 1, 0, none⟩) 1 1).ownBlock = some g3 ∨ g3 = (w2.alloc (.cells #[.int .i64 ak, .int .i64 ap, .int .i64 am, .string sa, u2] 152)).heap.size) :
  Hid (Xcq Q w (w3.setCell ⟨w1.heap.size + 1 + 1, 4, none⟩ (.slice (some ⟨g3, 0, none⟩) 2 c3)) B R L base (w1.heap.size + 1 + 1) 6 U (.slice (some ⟨g3, 0, none⟩) 2 c3) [o, a] r2) := by
 have h1 := HNR.out
 have h3 := HBW.out
 have h4 := HBS.out
 have h6 := HC2.out.size
 have h7 := HCY.out.size
 have hl := Xac HE2.out
 have h8 : (w2.alloc (.cells #[.int .i64 ak, .int .i64 ap, .int .i64 am, .string sa, u2] 152)).heap.size = w2.heap.size + 1 := by simp
 have hne : ¬ some (w1.heap.size + 1) = some g3 → w2.heap.size < g3 := fun e => by
  rcases hat with hat | hat
  · exact absurd (by simpa [Value.ownBlock] using hat) e
  · omega
 have hgE : g3 ≠ w1.heap.size + 1 + 1 := by
  rcases hat with hat | hat
  · have : w1.heap.size + 1 = g3 := by simpa [Value.ownBlock] using hat
    omega
  · omega
 have hw3 : ∀ b, b < w2.heap.size → b ≠ w1.heap.size + 1 → w3.heap[b]? = w2.heap[b]? := fun b hb hn => (hgr.block b (by omega) (by simp [Value.ownBlock]; omega)).trans (Below.heap_alloc _ _ _ hb)
 have hY2 := Xac HRES.out
 refine lh ⟨?_, ?_, ?_, ?_, ?_, ?_⟩
 · exact Xyk ((hgr.block _ hl (by simp [Value.ownBlock])).trans HE2.out) _
 · rw [Below.heap_setCell _ _ _ _ (by simp; omega), hw3 _ (by omega) (by omega)]
   exact HC2.out.row HRES.out h1.2.1
 · refine (HR2.out.keep fun b hb => hw3 b (by omega) (by omega)).setCell _ _ (by simp; omega)
 · refine ((HCY.out.up (HC2.out.up (Chg.of_below (Xae _ _)))).grown hgr (fun k hk e => ?_)).setCell _ _ fun e => ?_
   · have : w1.heap.size + 1 = k := by simpa [Value.ownBlock] using e
     omega
   · have : w1.heap.size + 1 + 1 < w.heap.size := e
     omega
 · refine Xaf.keep hown (by simp [World.setCell]) fun b hb hP => Below.heap_setCell _ _ _ _ ?_
   rcases hP with hP | hP
   · show b ≠ w1.heap.size + 1 + 1
     have := hP.2; omega
   · have : g3 = b := by simpa [Value.ownBlock] using hP
     show b ≠ w1.heap.size + 1 + 1
     omega
 · intro e
   have : g3 = w1.heap.size + 1 + 1 := by simpa [Value.ownBlock] using e
   exact hgE this
section
variable {Q : Nat → Prop} {w Z Z' : World} {B R L base E : Nat} {kd U : Int} {v : Value} {xs : List Ex} {us us' : List Tok}
theorem Xcq.step (h : Xcq Q w Z B R L base E kd U v xs us) (HQ : Hid ((∀ b, Q b → B ≤ b) ∧ ∀ b, base ≤ b → Q b)) (hB : B ≤ base) (hb : base ≤ w.heap.size) (hE : w.heap.size ≤ E) (hr : RdAt Z' B R L us') (hc : Chg (fun b => b = R) Z Z') : Xcq Q w Z' B R L base E kd U v xs us' := by
 have hR := hr.lt
 refine ⟨hc.row h.row (by omega), hc.row h.res (by omega), hr, h.chg.up hc, Xaf.keep h.own hc.size fun b hb hP => hc.block b hb ?_, h.nown⟩
 rcases hP with hP | hP
 · have := HQ.out.1 b hP.1; omega
 · have := (h.own.lt hP).1; omega
theorem Xcq.rows (h : Xcq Q w Z B R L base E kd U v xs us) : Z.cell? ⟨E, 0, none⟩ = some (.int .i64 kd) ∧ Z.cell? ⟨E, 1, none⟩ = some (.int .i64 U) ∧ Z.cell? ⟨E, 2, none⟩ = some (.int .i64 0) ∧ Z.cell? ⟨E, 3, none⟩ = some (.string ⟨#[]⟩) ∧ Z.cell? ⟨E, 4, none⟩ = some v ∧
  Z.cell? ⟨w.heap.size + 1, 0, none⟩ = some (.int .i64 0) ∧ Z.cell? ⟨w.heap.size + 1, 1, none⟩ = some (.int .i64 0) ∧ Z.cell? ⟨w.heap.size + 1, 2, none⟩ = some (.int .i64 0) ∧ Z.cell? ⟨w.heap.size + 1, 3, none⟩ = some (.string ⟨#[]⟩) ∧ Z.cell? ⟨w.heap.size + 1, 4, none⟩ = some (.slice none 0 0) ∧
  Z.frozen? ⟨w.heap.size + 1, 0, none⟩ = false ∧ Z.frozen? ⟨w.heap.size + 1, 1, none⟩ = false ∧ Z.frozen? ⟨w.heap.size + 1, 2, none⟩ = false ∧ Z.frozen? ⟨w.heap.size + 1, 3, none⟩ = false ∧ Z.frozen? ⟨w.heap.size + 1, 4, none⟩ = false := by
 obtain ⟨a0, a1, a2, a3, a4, -⟩ := row5 h.row
 obtain ⟨b0, b1, b2, b3, b4, f0, f1, f2, f3, f4⟩ := row5 h.res
 exact ⟨a0, a1, a2, a3, a4, b0, b1, b2, b3, b4, f0, f1, f2, f3, f4⟩
theorem Xcq.fin (h : Xcq Q w Z B R L base E kd U v xs us) (HQ : Hid ((∀ b, Q b → B ≤ b) ∧ ∀ b, base ≤ b → Q b)) (hB : B ≤ base) (hb : base ≤ w.heap.size) (hE : w.heap.size + 1 < E) (hc : Chg (fun b => b = w.heap.size + 1) Z Z') (hg : v.ownBlock ≠ some (w.heap.size + 1)) :
  Xbb Z' (fun b => Q b ∧ b < Z'.heap.size) xs v ∧ RdAt Z' B R L us ∧ Chg (fun b => b = R) w Z' := by
 refine ⟨?_, h.rd.keep fun b hlt => hc.block b (by have := h.chg.size; omega) (by omega), h.chg.trans hc fun x hx e => by omega⟩
 have h1 := Xaf.keep (w' := Z') h.own hc.size fun b hb2 hP => hc.block b hb2 (by
  rcases hP with hP | hP
  · have := hP.2; omega
  · intro e; rw [e] at hP; exact hg hP)
 exact h1.exsQ (fun b hb => hb.1) HQ.out.2
theorem Xcq.done {t : Tok} (h : Xcq Q w Z B R L base E kd U v xs us) (HQ : Hid ((∀ b, Q b → B ≤ b) ∧ ∀ b, base ≤ b → Q b)) (hB : B ≤ base) (hb : base ≤ w.heap.size) (hE : w.heap.size + 1 < E) (hg : v.ownBlock ≠ some (w.heap.size + 1)) (hU : U = (t.pl : Nat)) :
  Xaj (ExQ Q) w B R L (.ok (.mk kd t.pl 0 [] xs) us) (.returned (.agg #[.int .i64 kd, .int .i64 U, .int .i64 0, .string ⟨#[]⟩, v]))
   (((((Z.setCell ⟨w.heap.size + 1, 0, none⟩ (.int .i64 kd)).setCell ⟨w.heap.size + 1, 1, none⟩ (.int .i64 U)).setCell ⟨w.heap.size + 1, 2, none⟩ (.int .i64 0)).setCell ⟨w.heap.size + 1, 3, none⟩ (.string ⟨#[]⟩)).setCell ⟨w.heap.size + 1, 4, none⟩ v) := by
 have hc : Chg (fun b => b = w.heap.size + 1) Z (((((Z.setCell ⟨w.heap.size + 1, 0, none⟩ (.int .i64 kd)).setCell ⟨w.heap.size + 1, 1, none⟩ (.int .i64 U)).setCell ⟨w.heap.size + 1, 2, none⟩ (.int .i64 0)).setCell ⟨w.heap.size + 1, 3, none⟩ (.string ⟨#[]⟩)).setCell ⟨w.heap.size + 1, 4, none⟩ v) :=
  (((((Chg.refl (fun b => b = w.heap.size + 1) Z).setCell _ _ fun _ => rfl).setCell _ _ fun _ => rfl).setCell _ _ fun _ => rfl).setCell _ _ fun _ => rfl).setCell _ _ fun _ => rfl
 obtain ⟨hi, hr, hc⟩ := h.fin HQ hB hb hE hc hg
 subst hU
 exact ⟨⟨_, rfl, v, rfl, Nat.zero_le _, hi⟩, hr, hc⟩
end
set_option maxRecDepth 100000 in
set_option maxHeartbeats 2000000 in
theorem Ydq {w : World} {B R L n : Nat} {t : Tok} {r : List Tok} (h : RdAt w B R L (t :: r)) (hB : B ≤ w.heap.size) {base : Nat} (hbase : B ≤ base) (hbw : base ≤ w.heap.size) {Q : Nat → Prop} (HQ : Hid ((∀ b, Q b → B ≤ b) ∧ ∀ b, base ≤ b → Q b)) (o : Ex) (A : Option Addr) (z c : Nat) (hio : Xbb w (fun b => Q b ∧ b < w.heap.size) o.args (.slice A z c)) (hon : o.name.length ≤ 16384)
  (T : ByteArray) (hT : T.toList = [91]) (hT2 : T = Xab t.text) (D : Int) (hD0 : 0 ≤ D) (hD1 : D ≤ 24)
  (hE : ∀ (w : World) (us : List Tok), RdAt w B R L us → B ≤ w.heap.size → Calls Tryz.prog 110 #[.pointer (some ⟨R, 0, none⟩), .int .i64 (D + 1)] w (Xaj (ExB w.heap.size) w B R L (Xah L n us)))
  {p9 c9 : Nat} (hx : Xah L n r = .bad p9 c9) (hM : Xdh L (Xah L n) o (t :: r) = .bad p9 c9) :
  Calls Tryz.prog 126 #[.pointer (some ⟨R, 0, none⟩), .agg #[.int .i64 o.kind, .int .i64 o.pl, .int .i64 o.num, .string (Xab o.name), .slice A z c], .int .i64 D] w (Xaj (ExQ Q) w B R L (Xdh L (Xah L n) o (t :: r))) := by
 have HM := lh hM
 have HXE := lh hx
 clear hM hx
 obtain ⟨k, hk⟩ : ∃ x, x = o.kind := ⟨_, rfl⟩
 obtain ⟨p, hp⟩ : ∃ x, x = o.pl := ⟨_, rfl⟩
 obtain ⟨m, hm⟩ : ∃ x, x = o.num := ⟨_, rfl⟩
 obtain ⟨s, hs⟩ : ∃ x, x = Xab o.name := ⟨_, rfl⟩
 rw [← hk, ← hp, ← hm, ← hs]
 obtain ⟨X, hX⟩ : ∃ X : World, X = (w.alloc (.cells #[.int .i64 k, .int .i64 p, .int .i64 m, .string s, .slice A z c] 152)).alloc (.cells #[.int .i64 0, .int .i64 0, .int .i64 0, .string ⟨#[]⟩, .slice none 0 0] 152) := ⟨_, rfl⟩
 have hbx : Below w.heap.size w X := by rw [hX]; exact (Xae _ _).alloc (by simp) _
 have hx0 : X.heap[w.heap.size]? = some (.cells #[.int .i64 k, .int .i64 p, .int .i64 m, .string s, .slice A z c] 152 (0, 0)) := by
  rw [hX, Below.heap_alloc _ _ _ (by simp)]; exact heap_alloc_new _ _
 have hx1 : X.heap[w.heap.size + 1]? = some (.cells #[.int .i64 0, .int .i64 0, .int .i64 0, .string ⟨#[]⟩, .slice none 0 0] 152 (0, 0)) := by
  rw [hX]
  have := heap_alloc_new (w.alloc (.cells #[.int .i64 k, .int .i64 p, .int .i64 m, .string s, .slice A z c] 152)) (.cells #[.int .i64 0, .int .i64 0, .int .i64 0, .string ⟨#[]⟩, .slice none 0 0] 152)
  simpa using this
 have hxs : X.heap.size = w.heap.size + 2 := by rw [hX]; simp
 have hRw : R < w.heap.size := by have := h.lt; omega
 have HR0 := lh (h.below' hB hbx)
 have HS0 := lh (Nat.le_trans hB hbx.size)
 have HRW := lh hRw
 have HX := lh hX
 have H0 := lh hx0
 have H1 := lh hx1
 have HXS := lh hxs
 have HBX := lh hbx
 have HIO := lh hio
 have HON := lh hon
 have HOC : Hid (∀ u, Xbd o u = [.int .i64 k, .int .i64 p, .int .i64 m, .string s, u]) := lh fun u => by rw [hk, hp, hm, hs]; rfl
 have HOK : Hid (k = o.kind ∧ p = o.pl ∧ m = o.num ∧ s = Xab o.name) := lh ⟨hk, hp, hm, hs⟩
 have HBS := lh hbase
 have HBW := lh hbw
 have hf1 := Xdn
 have hf2 := Xrq
 have HE := lh hE
 obtain ⟨K, hK⟩ : ∃ K : Int, K = (t.kind : Nat) := ⟨_, rfl⟩
 obtain ⟨U, hU⟩ : ∃ U : Int, U = (t.pl : Nat) := ⟨_, rfl⟩
 have HUP := lh hU
 have HP := lh (Xbn HR0.out HS0.out)
 rw [← hK, ← hU, ← hT2] at HP
 clear hX hx0 hx1 hbx h hB hK hU hT2 hxs hRw hio hon hk hp hm hs hbase hbw hE
 go_enter Tryz.func126, Tryz.ntmps126
 go_wp2_with fail
 rw [← HX.out]
 refine HP.out.mono ?_
 rintro e w1 ⟨rfl, hr, hc⟩
 obtain ⟨a0, a1, a2, a3, a4, -⟩ := row5 (hc.row H0.out (by have := HRW.out; omega))
 have u0 := Xaa a0
 have u1 := Xaa a1
 have u2 := Xaa a2
 have u3 := Xaa a3
 have u4 := Xaa a4
 have HR1 := lh hr
 have HC1 := lh hc
 clear hr hc a0 a1 a2 a3 a4
 go_wp2_with fail
 obtain ⟨Y, hY⟩ : ∃ Y : World, Y = ((w1.alloc (.cells #[.int .i64 K, .string T, .int .i64 U] 76)).alloc (.cells #[.int .i64 k, .int .i64 p, .int .i64 m, .string s, .slice A z c] 152)).alloc (.cells #[.int .i64 6, .int .i64 U, .int .i64 0, .string ⟨#[]⟩, .slice (some ⟨w1.heap.size + 1, 0, none⟩) 1 1] 152) := ⟨_, rfl⟩
 rw [← hY]
 have hby : Below w1.heap.size w1 Y := by rw [hY]; exact ((Xae _ _).alloc (by simp) _).alloc (by simp; omega) _
 have hye : Y.heap[w1.heap.size + 1 + 1]? = some (.cells #[.int .i64 6, .int .i64 U, .int .i64 0, .string ⟨#[]⟩, .slice (some ⟨w1.heap.size + 1, 0, none⟩) 1 1] 152 (0, 0)) := by
  rw [hY]
  have := heap_alloc_new ((w1.alloc (.cells #[.int .i64 K, .string T, .int .i64 U] 76)).alloc (.cells #[.int .i64 k, .int .i64 p, .int .i64 m, .string s, .slice A z c] 152)) (.cells #[.int .i64 6, .int .i64 U, .int .i64 0, .string ⟨#[]⟩, .slice (some ⟨w1.heap.size + 1, 0, none⟩) 1 1] 152)
  simpa using this
 have hyo : Y.heap[w1.heap.size + 1]? = some (.cells #[.int .i64 k, .int .i64 p, .int .i64 m, .string s, .slice A z c] 152 (0, 0)) := by
  rw [hY, Below.heap_alloc _ _ _ (by simp)]
  have := heap_alloc_new (w1.alloc (.cells #[.int .i64 K, .string T, .int .i64 U] 76)) (.cells #[.int .i64 k, .int .i64 p, .int .i64 m, .string s, .slice A z c] 152)
  simpa using this
 have hys : Y.heap.size = w1.heap.size + 3 := by rw [hY]; simp
 have HYB := lh hby
 have HYE := lh hye
 have HYO := lh hyo
 have HYS := lh hys
 have hyw : B ≤ Y.heap.size := by have := HC1.out.size; have := HS0.out; have := hby.size; omega
 have hRd : RdAt Y B R L r := HR1.out.below' (by have := HC1.out.size; have := HS0.out; omega) hby
 have HCY : Hid (Chg (fun b => b = R) w Y) := lh (Xbf HBX.out (HC1.out.up (Chg.of_below hby)))
 have HRD := lh hRd
 have HYW := lh hyw
 have q4 : Y.cell? ⟨w1.heap.size + 1 + 1, 4, none⟩ = some (.slice (some ⟨w1.heap.size + 1, 0, none⟩) 1 1) := by rw [cell_of_row Y _ 4 _ _ (0, 0) hye]; rfl
 have HNR : Hid (w1.heap.size + 1 + 1 ≠ R ∧ w.heap.size + 1 ≠ R ∧ w.heap.size + 2 ≤ w1.heap.size) := lh (by have := HRW.out; have := HC1.out.size; have := HXS.out; omega)
 have HOW : Hid (Xaf Y (fun b => Q b ∧ (b < w.heap.size ∨ w1.heap.size + 1 + 1 < b)) base (.slice (some ⟨w1.heap.size + 1, 0, none⟩) 1 1) [o]) := lh (Xgo (by have := HNR.out; have := HBW.out; omega) (by rw [← HOK.out.1, ← HOK.out.2.1, ← HOK.out.2.2.1, ← HOK.out.2.2.2]; exact hyo) (by have := HON.out; omega)
  ((HIO.out.keep (fun b hb => (hby.block b (by have := HNR.out; omega)).trans ((HC1.out.block b (by have := HXS.out; omega) (by have := HQ.out.1 b hb.1; have h9 := hRd.lt; omega)).trans (HBX.out.block b hb.2))) fun b hb => ⟨⟨hb.1, by have := HNR.out; omega⟩, by have := HNR.out; have := hby.size; omega, by have := HNR.out; omega⟩)))
 have HWR : Hid (IntKind.i64.wrap (D + 1) = D + 1) := lh (IntWalk.i64_in _ ⟨by omega, by omega⟩)
 have HRES : Hid (Y.heap[w.heap.size + 1]? = some (.cells #[.int .i64 0, .int .i64 0, .int .i64 0, .string ⟨#[]⟩, .slice none 0 0] 152 (0, 0))) := lh ((hby.block _ (by have := HNR.out; omega)).trans (HC1.out.row H1.out (by have := HNR.out; omega)))
 have HC : Hid (Calls Tryz.prog 110 #[.pointer (some ⟨R, 0, none⟩), .int .i64 (D + 1)] Y.drew fun e w2 => e = Xag p9 c9 ∧ Chg (fun b => b = R) Y w2) := lh (by
  have h1 := HE.out Y.drew r hRd.drew hyw
  rw [HXE.out] at h1
  exact h1.mono fun e w2 ⟨h3, hc2⟩ => ⟨h3, ⟨hc2.os, hc2.tape, hc2.output, hc2.size, hc2.block⟩⟩)
 clear hY hby hye hyo hys hyw hRd u0 u1 u2 u3 u4
 refine wp_region_held_drew (S := fun w' => w'.cell? ⟨w1.heap.size + 1 + 1, 4, none⟩ = some (.slice (some ⟨w1.heap.size + 1, 0, none⟩) 1 1)) (by kernel_rfl) q4 (fun hHeld => ?_)
 refine wpAnyH_take (i := 0) (oi := _) (v := .pointer (some ⟨w1.heap.size + 1 + 1, 4, none⟩)) rfl (by kernel_rfl) (by kernel_rfl) (by kernel_rfl) (fun _ _ _ h => h) (Or.inl ⟨by rfl, fun w hS => ?_⟩) hHeld ?_
 · go_simp
   try rw [HWR.out]
 simp only [Act.put]
 refine wpAnyH_take (i := 1) (oi := _) (v := .slice (some ⟨w1.heap.size + 1, 0, none⟩) 1 1) rfl (by kernel_rfl) (by kernel_rfl) (by kernel_rfl) (fun _ _ _ h => h) (Or.inl ⟨by rfl, fun w hS => ?_⟩) hHeld ?_
 · go_simp
   try rw [HWR.out]
 simp only [Act.put]
 refine wpAnyH_take (i := 2) (oi := _) (v := .pointer (some ⟨R, 0, none⟩)) rfl (by kernel_rfl) (by kernel_rfl) (by kernel_rfl) (fun _ _ _ h => h) (Or.inl ⟨by rfl, fun w hS => ?_⟩) hHeld ?_
 · go_simp
   try rw [HWR.out]
 simp only [Act.put]
 refine wpAnyH_take (i := 3) (oi := _) (v := .int .i64 D) rfl (by kernel_rfl) (by kernel_rfl) (by kernel_rfl) (fun _ _ _ h => h) (Or.inl ⟨by rfl, fun w hS => ?_⟩) hHeld ?_
 · go_simp
   try rw [HWR.out]
 simp only [Act.put]
 refine wpAnyH_take (i := 4) (oi := _) (v := .int .i64 (D + 1)) rfl (by kernel_rfl) (by kernel_rfl) (by kernel_rfl) (fun _ _ _ h => h) (Or.inl ⟨by rfl, fun w hS => ?_⟩) hHeld ?_
 · go_simp
   try rw [HWR.out]
 simp only [Act.put]
 refine wpAnyH_ready (rs := [5]) (by kernel_rfl) (by simp) ?_
 refine AllReadyH.cons rfl (fun K hK => ?_) AllReadyH.nil
 go_simp
 refine HC.out.mono ?_
 rintro e w2 ⟨rfl, hc2⟩
 have HC2 := lh (HCY.out.up hc2)
 clear hc2
 unfold Xag
 go_wp2
 rw [HM.out]
 exact ⟨rfl, rfl, HC2.out⟩
end
end Go.Proofs.YtbckeljbpknbdaaGreatDoor
