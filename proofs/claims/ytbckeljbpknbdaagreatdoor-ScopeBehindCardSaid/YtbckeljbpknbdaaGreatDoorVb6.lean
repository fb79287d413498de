/- Un Uo -/
import Derived.Test.YtbckeljbpknbdaaGreatDoorVa0
import Derived.Maps.AppendAt
set_option linter.unusedVariables false
set_option linter.unusedSimpArgs false
namespace Go.Proofs.YtbckeljbpknbdaaGreatDoor
open Go.RowKit
def prsV : List Pr → List Value
 | p :: ps => .string (Xab p.name) :: .string (Xab p.type) :: prsV ps
 | [] => []
theorem Xoh : ∀ (ps : List Pr) (k : Nat) (hk : k < ps.length), (prsV ps)[k * 2]? = some (.string (Xab ps[k].name))
 | p :: ps, 0, _ => rfl
 | p :: ps, k + 1, hk => by
   rw [show (k + 1) * 2 = k * 2 + 1 + 1 from by omega]
   exact Xoh ps k (by simpa using hk)
theorem Xoi : ∀ (ps : List Pr) (k : Nat) (hk : k < ps.length), (prsV ps)[k * 2 + 1]? = some (.string (Xab ps[k].type))
 | p :: ps, 0, _ => rfl
 | p :: ps, k + 1, hk => by
   rw [show (k + 1) * 2 + 1 = k * 2 + 1 + 1 + 1 from by omega]
   exact Xoi ps k (by simpa using hk)
theorem Xvr : (Tryz.prog.info? 49).map (fun i => (i.zero, i.size, i.bytes)) = some (some (.agg #[.string ⟨#[]⟩, .string ⟨#[]⟩]), 2, 32) := by kernel_rfl
theorem Xlm {w : World} {base : Nat} {v : Value} {ps : List Pr} (hs : ∀ (k : Nat) (hk : k < ps.length), ps[k].name.length ≤ 140737488355328 ∧ ps[k].type.length ≤ 140737488355328)
  (h : w.ownsRow base 49 2 v ps.length (prsV ps)) : Xca w (fun b => base ≤ b ∧ b < w.heap.size ∧ v.ownBlock = some b) ps v := by
 have hlt := h.lt
 have hcell : ∀ (g : Nat), v.ownBlock = some g → ∀ (j : Nat) (u : Value), (prsV ps)[j]? = some u → w.cell? ⟨g, 0 + j, none⟩ = some u := fun g hg j u hu => by
  have := h.cells hg j u hu
  rw [Xdo] at this
  exact this
 rcases h.2 with ⟨rfl, h2⟩ | ⟨g, cap, cur, rfl, hbg, hg, hc1, hc2, _⟩
 · exact ⟨none, 0, by rw [h2], by omega, by omega, fun k hk => absurd hk (by omega)⟩
 · refine ⟨_, cap, rfl, hc1, by unfold maxLen at hc2; omega, fun k hk => ⟨g, 0, rfl, ⟨hbg, (hlt g rfl).2, rfl⟩, (hs k hk).1, (hs k hk).2, ?_, ?_⟩⟩
   · exact hcell g rfl (k * 2) _ (Xoh ps k hk)
   · exact hcell g rfl (k * 2 + 1) _ (Xoi ps k hk)
structure Vd where
 p : Value
 b : Value
def Xdq (s : Dc) (f : Vd) : List Value := [.int .i64 s.kind, .int .i64 s.pl, .int .i64 s.num, .string (Xab s.name), .string (Xab s.type), f.p, f.b]
def dcsV : List Dc → List Vd → List Value
 | s :: ss, f :: fs => Xdq s f ++ dcsV ss fs
 | _, _ => []
theorem Xqw : ∀ {ss : List Dc} {fs : List Vd} (s : Dc) (u : Vd), ss.length = fs.length → dcsV (ss ++ [s]) (fs ++ [u]) = dcsV ss fs ++ Xdq s u
 | [], [], s, u, _ => by simp [dcsV]
 | d :: ss, f :: fs, s, u, h => by
   show Xdq d f ++ dcsV (ss ++ [s]) (fs ++ [u]) = _
   rw [Xqw s u (by simpa using h)]
   simp [dcsV]
theorem Xgn : ∀ {ss : List Dc} {fs : List Vd} (h : ss.length = fs.length) (k : Nat) (hk : k < ss.length) (i : Nat) (hi : i < 7), (dcsV ss fs)[k * 7 + i]? = (Xdq ss[k] (fs[k]'(by omega)))[i]?
 | s :: ss, f :: fs, h, 0, hk, i, hi => by
   show (Xdq s f ++ dcsV ss fs)[0 * 7 + i]? = _
   rw [Nat.zero_mul, Nat.zero_add, List.getElem?_append_left (by simpa [Xdq] using hi)]
   rfl
 | s :: ss, f :: fs, h, k + 1, hk, i, hi => by
   show (Xdq s f ++ dcsV ss fs)[(k + 1) * 7 + i]? = _
   rw [show (k + 1) * 7 + i = 7 + (k * 7 + i) from by omega, List.getElem?_append_right (by simp [Xdq])]
   rw [show 7 + (k * 7 + i) - (Xdq s f).length = k * 7 + i from by simp [Xdq]]
   exact Xgn (by simpa using h) k (by simpa using hk) i hi
theorem Xnd (s : Dc) (u : Vd) (h1 : u.p.oneCell' = true) (h2 : u.b.oneCell' = true) : ∀ x ∈ Xdq s u, x.oneCell' = true := by
 intro x hx
 simp [Xdq] at hx
 rcases hx with rfl | rfl | rfl | rfl | rfl | rfl | rfl
 · rfl
 · rfl
 · rfl
 · rfl
 · rfl
 · exact h1
 · exact h2
theorem Xca.one {w : World} {S : Nat → Prop} {ps : List Pr} {v : Value} (h : Xca w S ps v) : v.oneCell' = true := by
 obtain ⟨A, c, rfl, _⟩ := h; rfl
def DcIn (w : World) (S : Nat → Prop) (s : Dc) (f : Vd) : Prop := s.name.length ≤ 140737488355328 ∧ s.type.length ≤ 140737488355328 ∧ Xca w S s.pairs f.p ∧ Xay w S s.body f.b
theorem DcIn.keep {w w' : World} {S S' : Nat → Prop} {s : Dc} {f : Vd} (h : DcIn w S s f) (hw : ∀ b, S b → w'.heap[b]? = w.heap[b]?) (hS : ∀ b, S b → S' b) : DcIn w' S' s f :=
 ⟨h.1, h.2.1, h.2.2.1.keep hw hS, h.2.2.2.keep hw hS⟩
def Xbu (w : World) (base : Nat) (v : Value) (ss : List Dc) : Prop :=
 ∃ fs : List Vd, ss.length = fs.length ∧ w.ownsRow base 46 7 v ss.length (dcsV ss fs) ∧
  ∀ (k : Nat) (hk : k < ss.length) (hk' : k < fs.length), DcIn w (fun b => base ≤ b ∧ b < w.heap.size ∧ v.ownBlock ≠ some b) ss[k] fs[k]
theorem Xbu.lt {w : World} {base : Nat} {v : Value} {ss : List Dc} (h : Xbu w base v ss) {b : Nat} (hb : v.ownBlock = some b) : base ≤ b ∧ b < w.heap.size := by
 obtain ⟨fs, _, hown, _⟩ := h
 exact hown.lt b hb
theorem Xbu.dcs {w : World} {base : Nat} {v : Value} {ss : List Dc} (h : Xbu w base v ss) : Xfs w (fun b => base ≤ b ∧ b < w.heap.size) ss v := by
 obtain ⟨fs, hl, hown, hin⟩ := h
 have hlt := hown.lt
 have hcell : ∀ (g : Nat), v.ownBlock = some g → ∀ (j : Nat) (u : Value), (dcsV ss fs)[j]? = some u → w.cell? ⟨g, 0 + j, none⟩ = some u := fun g hg j u hu => by
  have := hown.cells hg j u hu
  rw [Xdo] at this
  exact this
 rcases hown.2 with ⟨rfl, h2⟩ | ⟨g, cap, cur, rfl, hbg, hg, hc1, hc2, _⟩
 · have he : ss = [] := List.eq_nil_of_length_eq_zero h2
   subst he
   exact ⟨none, 0, (fun _ => undef), (fun _ => undef), rfl, Nat.le_refl _, by omega, (fun k hk => absurd hk (by simp)), (fun k hk => absurd hk (by simp)), (fun k hk => absurd hk (by simp))⟩
 · have hgd : ∀ (k : Nat) (hk' : k < fs.length), (fs[k]?.getD ⟨undef, undef⟩) = fs[k] := fun k hk' => by rw [List.getElem?_eq_getElem hk']; rfl
   refine ⟨_, cap, (fun k => (fs[k]?.getD ⟨undef, undef⟩).p), (fun k => (fs[k]?.getD ⟨undef, undef⟩).b), rfl, hc1, by unfold maxLen at hc2; omega, (fun k hk => ?_), (fun k hk => ?_), (fun k hk => ?_)⟩
   · have hk' : k < fs.length := by omega
     obtain ⟨a1, a2, _⟩ := hin k hk hk'
     refine ⟨g, 0, rfl, ⟨hbg, (hlt g rfl).2⟩, a1, a2, ?_, ?_, ?_, ?_, ?_, ?_, ?_⟩
     · exact hcell g rfl (k * 7) _ (by have := Xgn hl k hk 0 (by omega); rw [Nat.add_zero] at this; rw [this]; rfl)
     · exact hcell g rfl (k * 7 + 1) _ (by rw [Xgn hl k hk 1 (by omega)]; rfl)
     · exact hcell g rfl (k * 7 + 2) _ (by rw [Xgn hl k hk 2 (by omega)]; rfl)
     · exact hcell g rfl (k * 7 + 3) _ (by rw [Xgn hl k hk 3 (by omega)]; rfl)
     · exact hcell g rfl (k * 7 + 4) _ (by rw [Xgn hl k hk 4 (by omega)]; rfl)
     · dsimp only; rw [hgd k hk']; exact hcell g rfl (k * 7 + 5) _ (by rw [Xgn hl k hk 5 (by omega)]; rfl)
     · dsimp only; rw [hgd k hk']; exact hcell g rfl (k * 7 + 6) _ (by rw [Xgn hl k hk 6 (by omega)]; rfl)
   · have hk' : k < fs.length := by omega
     show Xca w _ ss[k].pairs (fs[k]?.getD ⟨undef, undef⟩).p
     rw [hgd k hk']
     exact (hin k hk hk').2.2.1.keep (fun _ _ => rfl) (fun b hb => ⟨hb.1, hb.2.1⟩)
   · have hk' : k < fs.length := by omega
     show Xay w _ ss[k].body (fs[k]?.getD ⟨undef, undef⟩).b
     rw [hgd k hk']
     exact (hin k hk hk').2.2.2.keep (fun _ _ => rfl) (fun b hb => ⟨hb.1, hb.2.1⟩)
theorem Xbu.below {w w' : World} {base : Nat} {v : Value} {ss : List Dc} (h : Xbu w base v ss) (hb : Below w.heap.size w w') : Xbu w' base v ss := by
 obtain ⟨fs, hl, hown, hin⟩ := h
 refine ⟨fs, hl, ?_, fun k hk hk' => (hin k hk hk').keep (fun b hb2 => hb.block b hb2.2.1) (fun b hb2 => ⟨hb2.1, Nat.lt_of_lt_of_le hb2.2.1 hb.size, hb2.2.2⟩)⟩
 rcases hown with ⟨h1, h2 | ⟨g, cap, cur, hv, hbg, hg, h3⟩⟩
 · exact ⟨h1, .inl h2⟩
 · refine ⟨h1, .inr ⟨g, cap, cur, hv, hbg, ?_, h3⟩⟩
   have hlt : g < w.heap.size := by
    rcases Nat.lt_or_ge g w.heap.size with hlt | hge
    · exact hlt
    · rw [Array.getElem?_eq_none hge] at hg; cases hg
   exact (hb.block g hlt).trans hg
theorem Xbu.none (w : World) (base : Nat) : Xbu w base (.slice none 0 0) [] :=
 ⟨[], rfl, World.ownsRow_nil _ _ _ _, fun k hk => absurd hk (by simp)⟩
theorem Ydm : (Tryz.prog.info? 46).map (fun i => (i.zero, i.size, i.bytes)) = some (some (.agg #[.int .i64 0, .int .i64 0, .int .i64 0, .string ⟨#[]⟩, .string ⟨#[]⟩, .slice none 0 0, .slice none 0 0]), 7, 104) := by kernel_rfl
end Go.Proofs.YtbckeljbpknbdaaGreatDoor
