/- Fx -/
import Derived.Test.YtbckeljbpknbdaaGreatDoorVb5
import Derived.Test.YtbckeljbpknbdaaGreatDoorVb6
set_option linter.unusedVariables false
set_option linter.unusedSimpArgs false
namespace Go.Proofs.YtbckeljbpknbdaaGreatDoor
open Go.RowKit
section
structure LRow (T : TypeId) (w Y : World) (B R lo G C : Nat) (Z : World) (v : Value) : Prop where
 hB : B ≤ w.heap.size
 hR : R < B
 hG : w.heap.size ≤ G ∧ G < lo ∧ G ≠ C
 hC : w.heap.size ≤ C ∧ C < lo
 g0 : Y.heap[G]? = some (.cells #[.pointer (some ⟨R, 0, none⟩)] 52 (0, 0))
 rl : Z.heap[C]? = some (.cells #[v] T (0, 0))
 low : ∀ b, w.heap.size ≤ b → b < lo → b ≠ C → Z.heap[b]? = Y.heap[b]?
 sz : lo ≤ Z.heap.size
 chg : Chg (fun b => b = R) w Z
section
variable {T : TypeId} {w Y Z Z' : World} {B R L lo G C : Nat} {v : Value} {us : List Tok}
theorem LRow.keep (h : LRow T w Y B R lo G C Z v) (hk : ∀ b, w.heap.size ≤ b → b < lo → Z'.heap[b]? = Z.heap[b]?) (hs : Z.heap.size ≤ Z'.heap.size) (hc : Chg (fun b => b = R) w Z') : LRow T w Y B R lo G C Z' v :=
 ⟨h.hB, h.hR, h.hG, h.hC, h.g0, (hk _ h.hC.1 h.hC.2).trans h.rl, fun b h1 h2 h3 => (hk b h1 h2).trans (h.low b h1 h2 h3), Nat.le_trans h.sz hs, hc⟩
theorem LRow.step (h : LRow T w Y B R lo G C Z v) (hc : Chg (fun b => b = R) Z Z') : LRow T w Y B R lo G C Z' v :=
 h.keep (fun b h1 h2 => hc.block b (by have := h.sz; omega) (by have := h.hB; have := h.hR; omega)) hc.size (h.chg.up hc)
theorem LRow.cells (h : LRow T w Y B R lo G C Z v) : Z.cell? ⟨G, 0, none⟩ = some (.pointer (some ⟨R, 0, none⟩)) ∧ Z.cell? ⟨C, 0, none⟩ = some v ∧ Z.frozen? ⟨C, 0, none⟩ = false :=
 ⟨by rw [cell_of_row Z _ 0 _ _ (0, 0) ((h.low G h.hG.1 h.hG.2.1 h.hG.2.2).trans h.g0)]; rfl, by rw [cell_of_row Z _ 0 _ _ (0, 0) h.rl]; rfl, frozen_of_row Z _ 0 _ _ h.rl⟩
theorem LRow.put (h : LRow T w Y B R lo G C Z v) (v' : Value) : LRow T w Y B R lo G C (Z.setCell ⟨C, 0, none⟩ v') v' := by
 refine ⟨h.hB, h.hR, h.hG, h.hC, h.g0, Xrn h.rl _, fun b h1 h2 h3 => (Below.heap_setCell _ _ _ _ h3).trans (h.low b h1 h2 h3), by have := h.sz; simpa [World.setCell] using this, h.chg.setCell _ _ fun e => ?_⟩
 have : C < w.heap.size := e
 have := h.hC.1
 omega
end
def Xci (w : World) (base : Nat) (v : Value) (ps : List Pr) : Prop := w.ownsRow base 49 2 v ps.length (prsV ps) ∧ ∀ (k : Nat) (hk : k < ps.length), ps[k].name.length ≤ 140737488355328 ∧ ps[k].type.length ≤ 140737488355328
section
variable {w w' : World} {base : Nat} {v : Value}
theorem Xci.nil (w : World) (base : Nat) : Xci w base (.slice none 0 0) [] := ⟨⟨rfl, .inl ⟨rfl, rfl⟩⟩, fun k hk => absurd hk (by simp)⟩
theorem Xlw {e : TypeId} {size n : Nat} {xs : List Value} (h : w.ownsRow base e size v n xs) (hk : ∀ b, b < w.heap.size → base ≤ b → w'.heap[b]? = w.heap[b]?) : w'.ownsRow base e size v n xs := by
 rcases h with ⟨h1, h2 | ⟨g, cap, cur, hv, hbg, hg, h3⟩⟩
 · exact ⟨h1, .inl h2⟩
 · exact ⟨h1, .inr ⟨g, cap, cur, hv, hbg, (hk g (Xac hg) hbg).trans hg, h3⟩⟩
theorem Xci.keep {ps : List Pr} (h : Xci w base v ps) (hs : w.heap.size ≤ w'.heap.size) (hk : ∀ b, b < w.heap.size → base ≤ b → w'.heap[b]? = w.heap[b]?) : Xci w' base v ps := ⟨Xlw h.1 hk, h.2⟩
theorem Xci.lt {ps : List Pr} (h : Xci w base v ps) {b : Nat} (hb : v.ownBlock = some b) : base ≤ b ∧ b < w.heap.size := h.1.lt b hb
theorem Xci.slice {ps : List Pr} (h : Xci w base v ps) : ∃ A c, v = .slice A ps.length c := by
 rcases h.1.2 with ⟨rfl, h2⟩ | ⟨g, cap, cur, rfl, hbg, hg, hc1, hc2, _⟩
 · exact ⟨none, 0, by rw [h2]⟩
 · exact ⟨_, cap, rfl⟩
theorem Xci.prs {ps : List Pr} (h : Xci w base v ps) : Xca w (fun b => base ≤ b ∧ b < w.heap.size) ps v := (Xlm h.2 h.1).keep (fun _ _ => rfl) fun b hb => ⟨hb.1, hb.2.1⟩
theorem Xbu.keep {ps : List Dc} (h : Xbu w base v ps) (hs : w.heap.size ≤ w'.heap.size) (hk : ∀ b, b < w.heap.size → base ≤ b → w'.heap[b]? = w.heap[b]?) : Xbu w' base v ps := by
 obtain ⟨fs, hl, hown, hin⟩ := h
 exact ⟨fs, hl, Xlw hown hk, fun k hk1 hk' => (hin k hk1 hk').keep (fun b hb => hk b hb.2.1 hb.1) fun b hb => ⟨hb.1, by omega, hb.2.2⟩⟩
theorem Xbu.slice {ps : List Dc} (h : Xbu w base v ps) : ∃ A c, v = .slice A ps.length c := by
 obtain ⟨fs, hl, hown, hin⟩ := h
 rcases hown.2 with ⟨rfl, h2⟩ | ⟨g, cap, cur, rfl, hbg, hg, hc1, hc2, _⟩
 · exact ⟨.none, 0, by rw [h2]⟩
 · exact ⟨_, cap, rfl⟩
end
theorem prsV_app (ps : List Pr) (p : Pr) : prsV (ps ++ [p]) = prsV ps ++ [.string (Xab p.name), .string (Xab p.type)] := by
 induction ps with
 | nil => rfl
 | cons q ps ih => show _ :: _ :: prsV (ps ++ [p]) = _; rw [ih]; rfl
theorem Xdu {ops : Array Oper} {o : Oper} {a : Act} {w : World} {K : Act → World → Prop} {Q : Exit → Act → World → Prop} {E : Prop} (hgd : o.guard = none) (s x : Operand)
  (ho : o.op = .call { callee := .builtin .append, args := #[s, x], argTypes := #[43, 43] })
  (base : Nat) (v : Value) (ss : List Pr) (hs : a.eval s = v) (hown : Xci w base v ss) (ad : Addr) (c : Nat) (e : Pr) (hx : a.eval x = .slice (some ad) 1 c)
  (hnews : ∀ j y, ([.string (Xab e.name), .string (Xab e.type)] : List Value)[j]? = some y → w.cell? (ad.add j) = some y) (hen : e.name.length ≤ 140737488355328 ∧ e.type.length ≤ 140737488355328) (hb : ss.length ≤ 1000000) (hbase : base ≤ w.heap.size)
  (h : ∀ g' c' w', Xci w' base (.slice (some ⟨g', 0, none⟩) (ss.length + 1) c') (ss ++ [e]) → w.grownBy w' v.ownBlock → (v.ownBlock = some g' ∨ g' = w.heap.size) → K (a.put o.dst (.slice (some ⟨g', 0, none⟩) (ss.length + 1) c')) w') :
  if Region.wanted o (yielded ops a.tmps) = true then Oper.wp Tryz.prog o a w K Q else E := by
 obtain ⟨i0, hi, hz0, hz1, hz2⟩ := info_parts Xvr
 refine step_append_lies _ hgd s x 43 ho base 49 i0 _ 2 32 Tryz.underlying43 hi hz0 hz1 hz2 rfl (by decide) v ss.length (prsV ss) hs hown.1 ad 1 c [.string (Xab e.name), .string (Xab e.type)] hx rfl hnews (by
   intro u hu
   simp at hu
   rcases hu with rfl | rfl <;> rfl)
  (by omega) (by unfold maxLen; omega) (by omega) hbase w.heap.size rfl fun g cap w' hown' hgr hat hlt => h g cap w' ⟨?_, fun k hk => ?_⟩ hgr hat
 · rw [List.length_append, List.length_singleton, prsV_app]; exact hown'
 · by_cases hke : k < ss.length
   · rw [List.getElem_append_left hke]; exact hown.2 k hke
   · have hk0 : k = ss.length := by simp at hk; omega
     subst hk0
     have e1 : (ss ++ [e])[ss.length] = e := by simp
     rw [e1]; exact hen
theorem Xgg {ops : Array Oper} {o : Oper} {a : Act} {w : World} {K : Act → World → Prop} {Q : Exit → Act → World → Prop} {E : Prop} (hgd : o.guard = none) (s x : Operand)
  (ho : o.op = .call { callee := .builtin .append, args := #[s, x], argTypes := #[23, 23] })
  (base : Nat) (v : Value) (ss : List Dc) (hs : a.eval s = v) (hown : Xbu w base v ss) (ad : Addr) (c : Nat) (e : Dc) (u : Vd) (hx : a.eval x = .slice (some ad) 1 c)
  (hnews : ∀ j y, (Xdq e u)[j]? = some y → w.cell? (ad.add j) = some y) (hu : DcIn w (fun b => base ≤ b ∧ b < w.heap.size ∧ v.ownBlock ≠ some b) e u) (hb : ss.length ≤ 1000000) (hbase : base ≤ w.heap.size)
  (h : ∀ g' c' w', Xbu w' base (.slice (some ⟨g', 0, none⟩) (ss.length + 1) c') (ss ++ [e]) → w.grownBy w' v.ownBlock → (v.ownBlock = some g' ∨ g' = w.heap.size) → K (a.put o.dst (.slice (some ⟨g', 0, none⟩) (ss.length + 1) c')) w') :
  if Region.wanted o (yielded ops a.tmps) = true then Oper.wp Tryz.prog o a w K Q else E := by
 obtain ⟨i0, hi, hz0, hz1, hz2⟩ := info_parts Ydm
 obtain ⟨fs, hl, hrow, hin⟩ := hown
 refine step_append_lies _ hgd s x 23 ho base 46 i0 _ 7 104 Tryz.underlying23 hi hz0 hz1 hz2 rfl (by decide) v ss.length (dcsV ss fs) hs hrow ad 1 c (Xdq e u) hx rfl hnews (Xnd e u hu.2.2.1.one hu.2.2.2.one)
  (by omega) (by unfold maxLen; omega) (by omega) hbase w.heap.size rfl fun g cap w' hown' hgr hat hlt => h g cap w' ?_ hgr hat
 have hkeep : ∀ b, (base ≤ b ∧ b < w.heap.size ∧ v.ownBlock ≠ some b) → w'.heap[b]? = w.heap[b]? := fun b hb => hgr.block b hb.2.1 (fun e => hb.2.2 e.symm)
 have hS : ∀ b, (base ≤ b ∧ b < w.heap.size ∧ v.ownBlock ≠ some b) → (base ≤ b ∧ b < w'.heap.size ∧ (Value.slice (some ⟨g, 0, .none⟩) (ss.length + 1) cap).ownBlock ≠ some b) := fun b hb => by
  have hsz := hgr.size
  refine ⟨hb.1, by omega, fun e => ?_⟩
  have e' : g = b := by simpa [Value.ownBlock] using e
  rcases hat with hat | hat
  · exact hb.2.2 (by rw [hat, e'])
  · omega
 refine ⟨fs ++ [u], by simp [hl], ?_, fun k hk hk' => ?_⟩
 · rw [List.length_append, Xqw e u hl]
   exact hown'
 · by_cases hke : k < ss.length
   · have hkf : k < fs.length := by omega
     rw [List.getElem_append_left hke, List.getElem_append_left hkf]
     exact (hin k hke hkf).keep hkeep hS
   · have hk0 : k = ss.length := by simp at hk; omega
     subst hk0
     have e1 : (ss ++ [e])[ss.length] = e := by simp
     have e2 : (fs ++ [u])[ss.length]'hk' = u := by
      rw [List.getElem_append_right (by omega)]
      simp [hl]
     rw [e1, e2]
     exact hu.keep hkeep hS
def DcB (base : Nat) (w' : World) (x : Dc) (v : Value) : Prop := ∃ f : Vd, v = .agg #[.int .i64 x.kind, .int .i64 x.pl, .int .i64 x.num, .string (Xab x.name), .string (Xab x.type), f.p, f.b] ∧ DcIn w' (fun b => base ≤ b ∧ b < w'.heap.size) x f
def PrsB (base : Nat) (w' : World) (xs : List Pr) (v : Value) : Prop := Xca w' (fun b => base ≤ b ∧ b < w'.heap.size) xs v
theorem Xfv {W : World} {g : Nat} {l : List Value} {t : TypeId} (h : W.heap[g]? = some (.cells l.toArray t (0, 0))) : ∀ j y, l[j]? = some y → W.cell? ((⟨g, 0, none⟩ : Addr).add j) = some y := fun j y hj => by
 rw [Xdo, Nat.zero_add, cell_of_row _ _ j _ _ (0, 0) h]
 simpa using hj
end
end Go.Proofs.YtbckeljbpknbdaaGreatDoor
