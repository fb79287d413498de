/- Jb -/
import Derived.Test.YtjpphbjnakalhaaDoorZe5
import Derived.Test.YtjpphbjnakalhaaDoorZe8
import Derived.StillTailTactics
import Derived.IntWalk
set_option linter.unusedVariables false
set_option linter.unusedSimpArgs false
namespace Go.Proofs.YtjpphbjnakalhaaDoor
open Go.RowKit
theorem row_set {w : World} {base : Nat} {e : TypeId} {size g n cap i : Nat} {xs : List Value} (h : w.ownsRow base e size (.slice (some ⟨g, 0, none⟩) n cap) n xs) (u : Value) :
    (w.setCell ⟨g, i, none⟩ u).ownsRow base e size (.slice (some ⟨g, 0, none⟩) n cap) n (xs.set i u) := by
  rcases h with ⟨h1, ⟨h2, _⟩ | ⟨g', cap', cur, hv, hb, hg, h3, h4, h5, h6⟩⟩
  · cases h2
  · simp only [Value.slice.injEq, Option.some.injEq, Addr.mk.injEq, true_and, and_true] at hv
    obtain ⟨rfl, rfl⟩ := hv
    refine ⟨by simpa using h1, .inr ⟨g, cap, cur.setIfInBounds i u, rfl, hb, ?_, h3, h4, by simpa using h5, ?_⟩⟩
    · simp [World.setCell, Array.getElem?_modify, hg]
    · rw [← h6]
      simp only [Array.toList_setIfInBounds]
      rw [List.take_set]
theorem row_keep {w w' : World} {base : Nat} {e : TypeId} {size n : Nat} {v : Value} {xs : List Value} (h : w.ownsRow base e size v n xs) (hk : ∀ b, v.ownBlock = some b → w'.heap[b]? = w.heap[b]?) : w'.ownsRow base e size v n xs := by
  rcases h with ⟨h1, h2 | ⟨g, cap, cur, hv, hbg, hg, h3⟩⟩
  · exact ⟨h1, .inl h2⟩
  · exact ⟨h1, .inr ⟨g, cap, cur, hv, hbg, (hk g (by rw [hv]; rfl)).trans hg, h3⟩⟩
theorem row_frozen {w : World} {base : Nat} {e : TypeId} {size n cap g j : Nat} {xs : List Value} (h : w.ownsRow base e size (.slice (some ⟨g, 0, none⟩) n cap) n xs) : w.frozen? ⟨g, j, none⟩ = false := by
  rcases h with ⟨h1, ⟨h2, _⟩ | ⟨g', cap', cur, hv, hb, hg, h3⟩⟩
  · cases h2
  · cases hv
    exact frozen_of_row w g j _ _ hg
theorem row_cell {w : World} {base : Nat} {e : TypeId} {size n cap g j : Nat} {xs : List Value} {u : Value} (h : w.ownsRow base e size (.slice (some ⟨g, 0, none⟩) n cap) n xs) (hj : xs[j]? = some u) : w.cell? ⟨g, j, none⟩ = some u := by
  have := h.cells (g := g) rfl j u hj
  rw [add_pl, Nat.zero_add] at this
  exact this
def OwnSmH (w : World) (lo hi : Nat) (v : Value) (ss : List Sm) : Prop :=
  ∃ fs : List Vs, ss.length = fs.length ∧ w.ownsRow lo 34 7 v ss.length (smsV ss fs) ∧ (∀ b, v.ownBlock = some b → b < hi) ∧
    ∀ (k : Nat) (hk : k < ss.length) (hk' : k < fs.length), SmIn w (fun b => (lo ≤ b ∧ b < hi) ∧ v.ownBlock ≠ some b) ss[k] fs[k]
theorem OwnSm.toH {w : World} {base : Nat} {v : Value} {ss : List Sm} (h : OwnSm w base v ss) : OwnSmH w base w.heap.size v ss := by
  have hlt := fun b hb => OwnSm.lt h (b := b) hb
  obtain ⟨fs, hl, hown, hin⟩ := h
  exact ⟨fs, hl, hown, fun b hb => (hlt b hb).2, fun k hk hk' => (hin k hk hk').keep (fun _ _ => rfl) fun b hb => ⟨⟨hb.1, hb.2.1⟩, hb.2.2⟩⟩
section
variable {w w' : World} {lo hi : Nat} {v : Value} {ss : List Sm}
theorem OwnSmH.keep (h : OwnSmH w lo hi v ss) (hk : ∀ b, lo ≤ b → b < hi → w'.heap[b]? = w.heap[b]?) : OwnSmH w' lo hi v ss := by
  obtain ⟨fs, hl, hown, hb, hin⟩ := h
  exact ⟨fs, hl, row_keep hown fun b e => hk b (hown.lt b e).1 (hb b e), hb, fun k h1 h2 => (hin k h1 h2).keep (fun b e => hk b e.1.1 e.1.2) fun _ e => e⟩
theorem OwnSmH.sms (h : OwnSmH w lo hi v ss) : IsSms w (fun b => lo ≤ b ∧ b < hi) ss v := by
  obtain ⟨fs, hl, hown, hb, hin⟩ := h
  have hlt := hown.lt
  rcases hown.2 with ⟨rfl, h2⟩ | ⟨g, cap, cur, rfl, hbg, hg, hc1, hc2, _⟩
  · have he : ss = [] := List.eq_nil_of_length_eq_zero h2
    subst he
    exact .mk [] none 0 (fun _ => undef) (fun _ => undef) (fun _ => undef) (Nat.le_refl _) (by omega) (fun k hk => absurd hk (by simp)) (fun k hk => absurd hk (by simp)) (fun k hk => absurd hk (by simp)) (fun k hk => absurd hk (by simp))
  · have hcell : ∀ (j : Nat) (u : Value), (smsV ss fs)[j]? = some u → w.cell? ⟨g, 0 + j, none⟩ = some u := fun j u hu => by rw [Nat.zero_add]; exact row_cell hown hu
    have hgd : ∀ (k : Nat) (hk' : k < fs.length), (fs[k]?.getD ⟨undef, undef, undef⟩) = fs[k] := fun k hk' => by rw [List.getElem?_eq_getElem hk']; rfl
    refine .mk ss _ cap (fun k => (fs[k]?.getD ⟨undef, undef, undef⟩).e) (fun k => (fs[k]?.getD ⟨undef, undef, undef⟩).b) (fun k => (fs[k]?.getD ⟨undef, undef, undef⟩).l) hc1 (by unfold maxLen at hc2; omega) (fun k hk => ?_) (fun k hk => ?_) (fun k hk => ?_) (fun k hk => ?_)
    · have hk' : k < fs.length := by omega
      obtain ⟨a1, a2, _⟩ := hin k hk hk'
      refine ⟨g, 0, rfl, ⟨hbg, hb g rfl⟩, a1, a2, ?_, ?_, ?_, ?_, ?_, ?_, ?_⟩
      · exact hcell (k * 7) _ (by have := smsV_get hl k hk 0 (by omega); rw [Nat.add_zero] at this; rw [this]; rfl)
      · exact hcell (k * 7 + 1) _ (by rw [smsV_get hl k hk 1 (by omega)]; rfl)
      · exact hcell (k * 7 + 2) _ (by rw [smsV_get hl k hk 2 (by omega)]; rfl)
      · exact hcell (k * 7 + 3) _ (by rw [smsV_get hl k hk 3 (by omega)]; rfl)
      · rw [hgd k hk']; exact hcell (k * 7 + 4) _ (by rw [smsV_get hl k hk 4 (by omega)]; rfl)
      · rw [hgd k hk']; exact hcell (k * 7 + 5) _ (by rw [smsV_get hl k hk 5 (by omega)]; rfl)
      · rw [hgd k hk']; exact hcell (k * 7 + 6) _ (by rw [smsV_get hl k hk 6 (by omega)]; rfl)
    · have hk' : k < fs.length := by omega
      show IsExs w _ ss[k].exprs (fs[k]?.getD ⟨undef, undef, undef⟩).e
      rw [hgd k hk']
      exact (hin k hk hk').2.2.1.keep (fun _ _ => rfl) (fun b hb => hb.1)
    · have hk' : k < fs.length := by omega
      show IsSms w _ ss[k].body (fs[k]?.getD ⟨undef, undef, undef⟩).b
      rw [hgd k hk']
      exact (hin k hk hk').2.2.2.1.keep (fun _ _ => rfl) (fun b hb => hb.1)
    · have hk' : k < fs.length := by omega
      show IsSms w _ ss[k].els (fs[k]?.getD ⟨undef, undef, undef⟩).l
      rw [hgd k hk']
      exact (hin k hk hk').2.2.2.2.keep (fun _ _ => rfl) (fun b hb => hb.1)
def setS (s : Sm) (p : Int) : Sm := .mk s.kind p s.name s.type s.exprs s.body s.els
theorem smsV_set : ∀ {ss : List Sm} {fs : List Vs} (h : ss.length = fs.length) (k : Nat) (hk : k < ss.length) (p : Int), smsV (ss.set k (setS ss[k] p)) fs = (smsV ss fs).set (k * 7 + 1) (.int .i64 p)
  | s :: ss, f :: fs, h, 0, hk, p => by cases s; rfl
  | s :: ss, f :: fs, h, k + 1, hk, p => by
    have hk' : k < ss.length := by simpa using hk
    show smCells s f ++ smsV (ss.set k (setS ss[k] p)) fs = (smCells s f ++ smsV ss fs).set ((k + 1) * 7 + 1) _
    rw [smsV_set (by simpa using h) k hk' p, List.set_append_right _ _ (by simp [smCells]; omega)]
    rw [show (k + 1) * 7 + 1 - (smCells s f).length = k * 7 + 1 from by simp [smCells]; omega]
  | [], _, h, k, hk, p => absurd hk (by simp)
  | _ :: _, [], h, k, hk, p => absurd h (by simp)
theorem OwnSmH.form (h : OwnSmH w lo hi v ss) : ∃ A c, v = .slice A ss.length c ∧ ∀ k, k < ss.length → ∃ b, A = some ⟨b, 0, none⟩ ∧ lo ≤ b ∧ b < hi ∧ w.frozen? ⟨b, k * 7 + 1, none⟩ = false ∧ (∃ u, w.cell? ⟨b, k * 7 + 1, none⟩ = some u) ∧ ss.length ≤ c := by
  obtain ⟨fs, hl, hown, hb, hin⟩ := h
  rcases hown.2 with ⟨rfl, h2⟩ | ⟨g, cap, cur, rfl, hbg, hg, hc1, hc2, _⟩
  · exact ⟨none, 0, by rw [h2], fun k hk => absurd hk (by omega)⟩
  · exact ⟨_, cap, rfl, fun k hk => ⟨g, rfl, hbg, hb g rfl, row_frozen hown, ⟨_, row_cell hown (by rw [smsV_get hl k hk 1 (by omega)]; rfl)⟩, hc1⟩⟩
theorem OwnSmH.set_ {b c k : Nat} (h : OwnSmH w lo hi (.slice (some ⟨b, 0, none⟩) ss.length c) ss) (hk : k < ss.length) (p : Int) : OwnSmH (w.setCell ⟨b, k * 7 + 1, none⟩ (.int .i64 p)) lo hi (.slice (some ⟨b, 0, none⟩) ss.length c) (ss.set k (setS ss[k] p)) := by
  obtain ⟨fs, hl, hown, hb, hin⟩ := h
  refine ⟨fs, by simpa using hl, ?_, hb, fun j hj hj' => ?_⟩
  · rw [smsV_set hl k hk p, List.length_set]
    exact row_set hown _
  · have hj2 : j < ss.length := by simpa using hj
    have h0 := (hin j hj2 hj').keep (w' := w.setCell ⟨b, k * 7 + 1, none⟩ (.int .i64 p)) (fun b' e => Below.heap_setCell _ _ _ b' (fun e2 => e.2 (by rw [e2]; rfl))) (fun _ e => e)
    rw [List.getElem_set]
    split
    · subst_vars
      exact h0
    · exact h0
end
def Apart (w : World) (base top : Nat) (v : Value) (ss : List Dc) : Prop :=
  ∃ (fs : List Vd) (at_ lo hi : Nat → Nat), ss.length = fs.length ∧ w.ownsRow base 31 7 v ss.length (dcsV ss fs) ∧ (∀ b, v.ownBlock = some b → b < top) ∧
    (∀ (k : Nat) (hk : k < ss.length) (hk' : k < fs.length), (ss[k].name.length ≤ 140737488355328 ∧ ss[k].type.length ≤ 140737488355328) ∧ PrsIn w (fun b => at_ k ≤ b ∧ b < lo k) ss[k].pairs fs[k].p ∧ OwnSmH w (lo k) (hi k) fs[k].b ss[k].body ∧
      (base ≤ at_ k ∧ at_ k ≤ lo k ∧ lo k ≤ hi k ∧ hi k ≤ top) ∧ ∀ b, v.ownBlock = some b → ¬ (at_ k ≤ b ∧ b < hi k)) ∧
    ∀ j k, j < k → k < ss.length → hi j ≤ at_ k
section
variable {w w' : World} {base top : Nat} {v : Value} {ss : List Dc}
theorem Apart.nil_ (w : World) (base top : Nat) : Apart w base top (.slice none 0 0) [] :=
  ⟨[], fun _ => 0, fun _ => 0, fun _ => 0, rfl, World.ownsRow_nil _ _ _ _, fun b h => by simp [Value.ownBlock] at h, fun k hk => absurd hk (by simp), fun j k _ hk => absurd hk (by simp)⟩
theorem Apart.keep {top' : Nat} (h : Apart w base top v ss) (ht : top ≤ top') (hk : ∀ b, base ≤ b → b < top → w'.heap[b]? = w.heap[b]?) : Apart w' base top' v ss := by
  obtain ⟨fs, at_, lo, hi, hl, hown, hb, hin, hd⟩ := h
  refine ⟨fs, at_, lo, hi, hl, row_keep hown fun b e => hk b (hown.lt b e).1 (hb b e), fun b e => Nat.lt_of_lt_of_le (hb b e) ht, fun k h1 h2 => ?_, hd⟩
  obtain ⟨a1, a2, a3, a4, a5⟩ := hin k h1 h2
  exact ⟨a1, a2.keep (fun b e => hk b (by omega) (by omega)) (fun _ e => e), a3.keep (fun b e1 e2 => hk b (by omega) (by omega)), by omega, a5⟩
theorem Apart.lt (h : Apart w base top v ss) {b : Nat} (hb : v.ownBlock = some b) : base ≤ b ∧ b < top ∧ b < w.heap.size := by
  obtain ⟨fs, at_, lo, hi, hl, hown, hb2, -⟩ := h
  have := hown.lt b hb
  exact ⟨this.1, hb2 b hb, this.2⟩
theorem Apart.dcs (h : Apart w base top v ss) : DcsIn w (fun b => base ≤ b ∧ b < top) ss v := by
  obtain ⟨fs, at_, lo, hi, hl, hown, hb, hin, hd⟩ := h
  rcases hown.2 with ⟨rfl, h2⟩ | ⟨g, cap, cur, rfl, hbg, hg, hc1, hc2, _⟩
  · have he : ss = [] := List.eq_nil_of_length_eq_zero h2
    subst he
    exact ⟨.none, 0, (fun _ => undef), (fun _ => undef), rfl, Nat.le_refl _, by omega, (fun k hk => absurd hk (by simp)), (fun k hk => absurd hk (by simp)), (fun k hk => absurd hk (by simp))⟩
  · have hcell : ∀ (j : Nat) (u : Value), (dcsV ss fs)[j]? = some u → w.cell? ⟨g, 0 + j, none⟩ = some u := fun j u hu => by rw [Nat.zero_add]; exact row_cell hown hu
    have hgd : ∀ (k : Nat) (hk' : k < fs.length), (fs[k]?.getD ⟨undef, undef⟩) = fs[k] := fun k hk' => by rw [List.getElem?_eq_getElem hk']; rfl
    refine ⟨_, cap, (fun k => (fs[k]?.getD ⟨undef, undef⟩).p), (fun k => (fs[k]?.getD ⟨undef, undef⟩).b), rfl, hc1, by unfold maxLen at hc2; omega, (fun k hk => ?_), (fun k hk => ?_), (fun k hk => ?_)⟩
    · have hk' : k < fs.length := by omega
      obtain ⟨⟨a1, a2⟩, _⟩ := hin k hk hk'
      refine ⟨g, 0, rfl, ⟨hbg, hb g rfl⟩, a1, a2, ?_, ?_, ?_, ?_, ?_, ?_, ?_⟩
      · exact hcell (k * 7) _ (by have := dcsV_get hl k hk 0 (by omega); rw [Nat.add_zero] at this; rw [this]; rfl)
      · exact hcell (k * 7 + 1) _ (by rw [dcsV_get hl k hk 1 (by omega)]; rfl)
      · exact hcell (k * 7 + 2) _ (by rw [dcsV_get hl k hk 2 (by omega)]; rfl)
      · exact hcell (k * 7 + 3) _ (by rw [dcsV_get hl k hk 3 (by omega)]; rfl)
      · exact hcell (k * 7 + 4) _ (by rw [dcsV_get hl k hk 4 (by omega)]; rfl)
      · dsimp only; rw [hgd k hk']; exact hcell (k * 7 + 5) _ (by rw [dcsV_get hl k hk 5 (by omega)]; rfl)
      · dsimp only; rw [hgd k hk']; exact hcell (k * 7 + 6) _ (by rw [dcsV_get hl k hk 6 (by omega)]; rfl)
    · have hk' : k < fs.length := by omega
      obtain ⟨a1, a2, a3, a4, a5⟩ := hin k hk hk'
      show PrsIn w _ ss[k].pairs (fs[k]?.getD ⟨undef, undef⟩).p
      rw [hgd k hk']
      exact a2.keep (fun _ _ => rfl) (fun b hb => ⟨by omega, by omega⟩)
    · have hk' : k < fs.length := by omega
      obtain ⟨a1, a2, a3, a4, a5⟩ := hin k hk hk'
      show IsSms w _ ss[k].body (fs[k]?.getD ⟨undef, undef⟩).b
      rw [hgd k hk']
      exact a3.sms.keep (fun _ _ => rfl) (fun b hb => ⟨by omega, by omega⟩)
def setD (d : Dc) (p : Int) : Dc := ⟨d.kind, p, d.num, d.name, d.type, d.pairs, d.body⟩
def setDB (d : Dc) (k : Nat) (p : Int) : Dc := ⟨d.kind, d.pl, d.num, d.name, d.type, d.pairs, if h : k < d.body.length then d.body.set k (setS d.body[k] p) else d.body⟩
theorem dcsV_set : ∀ {ss : List Dc} {fs : List Vd} (h : ss.length = fs.length) (k : Nat) (hk : k < ss.length) (p : Int), dcsV (ss.set k (setD ss[k] p)) fs = (dcsV ss fs).set (k * 7 + 1) (.int .i64 p)
  | s :: ss, f :: fs, h, 0, hk, p => by cases s; rfl
  | s :: ss, f :: fs, h, k + 1, hk, p => by
    have hk' : k < ss.length := by simpa using hk
    show dcCells s f ++ dcsV (ss.set k (setD ss[k] p)) fs = (dcCells s f ++ dcsV ss fs).set ((k + 1) * 7 + 1) _
    rw [dcsV_set (by simpa using h) k hk' p, List.set_append_right _ _ (by simp [dcCells]; omega)]
    rw [show (k + 1) * 7 + 1 - (dcCells s f).length = k * 7 + 1 from by simp [dcCells]; omega]
  | [], _, h, k, hk, p => absurd hk (by simp)
  | _ :: _, [], h, k, hk, p => absurd h (by simp)
theorem dcsV_setB : ∀ {ss : List Dc} {fs : List Vd} (h : ss.length = fs.length) (k : Nat) (hk : k < ss.length) (j : Nat) (p : Int), dcsV (ss.set k (setDB ss[k] j p)) fs = dcsV ss fs
  | s :: ss, f :: fs, h, 0, hk, j, p => rfl
  | s :: ss, f :: fs, h, k + 1, hk, j, p => by
    have hk' : k < ss.length := by simpa using hk
    show dcCells s f ++ dcsV (ss.set k (setDB ss[k] j p)) fs = dcCells s f ++ dcsV ss fs
    rw [dcsV_setB (by simpa using h) k hk' j p]
  | [], _, h, k, hk, j, p => absurd hk (by simp)
  | _ :: _, [], h, k, hk, j, p => absurd h (by simp)
theorem Apart.form (h : Apart w base top v ss) : ∃ A c, v = .slice A ss.length c ∧ ss.length ≤ c ∧ ∀ i (hi : i < ss.length), ∃ D, A = some ⟨D, 0, .none⟩ ∧ base ≤ D ∧ D < top ∧ w.frozen? ⟨D, i * 7 + 1, .none⟩ = false ∧ (∃ u, w.cell? ⟨D, i * 7 + 1, .none⟩ = some u) ∧
    ∃ B m, w.cell? ⟨D, i * 7 + 6, .none⟩ = some (.slice B ss[i].body.length m) ∧ ∀ k, k < ss[i].body.length → ∃ b, B = some ⟨b, 0, .none⟩ ∧ base ≤ b ∧ b < top ∧ b ≠ D ∧ w.frozen? ⟨b, k * 7 + 1, .none⟩ = false ∧ (∃ u, w.cell? ⟨b, k * 7 + 1, .none⟩ = some u) ∧ ss[i].body.length ≤ m := by
  obtain ⟨fs, at_, lo, hi, hl, hown, hb, hin, hd⟩ := h
  rcases hown.2 with ⟨rfl, h2⟩ | ⟨g, cap, cur, rfl, hbg, hg, hc1, hc2, _⟩
  · exact ⟨.none, 0, by rw [h2], by omega, fun k hk => absurd hk (by omega)⟩
  · refine ⟨_, cap, rfl, hc1, fun i hi' => ⟨g, rfl, hbg, hb g rfl, row_frozen hown, ⟨_, row_cell hown (by rw [dcsV_get hl i hi' 1 (by omega)]; rfl)⟩, ?_⟩⟩
    obtain ⟨a1, a2, a3, a4, a5⟩ := hin i hi' (by omega)
    obtain ⟨B, m, e, hB⟩ := a3.form
    refine ⟨B, m, row_cell hown (by rw [dcsV_get hl i hi' 6 (by omega)]; show some fs[i].b = _; rw [e]), fun k hk => ?_⟩
    obtain ⟨b, h1, h2, h3, h4, h5, h6⟩ := hB k hk
    exact ⟨b, h1, by omega, by omega, fun e => a5 g rfl (by omega), h4, h5, h6⟩
theorem Apart.setDc {D c i : Nat} (h : Apart w base top (.slice (some ⟨D, 0, .none⟩) ss.length c) ss) (hi' : i < ss.length) (p : Int) : Apart (w.setCell ⟨D, i * 7 + 1, .none⟩ (.int .i64 p)) base top (.slice (some ⟨D, 0, .none⟩) ss.length c) (ss.set i (setD ss[i] p)) := by
  obtain ⟨fs, at_, lo, hi, hl, hown, hb, hin, hd⟩ := h
  refine ⟨fs, at_, lo, hi, by simpa using hl, ?_, hb, fun k hk hk' => ?_, fun j k hj hk => hd j k hj (by simpa using hk)⟩
  · rw [dcsV_set hl i hi' p, List.length_set]
    exact row_set hown _
  · have hk2 : k < ss.length := by simpa using hk
    obtain ⟨a1, a2, a3, a4, a5⟩ := hin k hk2 hk'
    have hkb : ∀ b, at_ k ≤ b → b < hi k → (w.setCell ⟨D, i * 7 + 1, .none⟩ (.int .i64 p)).heap[b]? = w.heap[b]? := fun b e1 e2 => Below.heap_setCell _ _ _ b (fun e => a5 D rfl (by subst e; exact ⟨e1, e2⟩))
    have b2 := a2.keep (w' := w.setCell ⟨D, i * 7 + 1, .none⟩ (.int .i64 p)) (fun b e => hkb b e.1 (by omega)) (fun _ e => e)
    have b3 := a3.keep (w' := w.setCell ⟨D, i * 7 + 1, .none⟩ (.int .i64 p)) (fun b e1 e2 => hkb b (by omega) e2)
    rw [List.getElem_set]
    split
    · subst_vars
      exact ⟨a1, b2, b3, a4, a5⟩
    · exact ⟨a1, b2, b3, a4, a5⟩
theorem Apart.setSm {D c i b m k : Nat} {A : Option Addr} {n : Nat} (h : Apart w base top (.slice (some ⟨D, 0, .none⟩) ss.length c) ss) (hi' : i < ss.length) (hc : w.cell? ⟨D, i * 7 + 6, .none⟩ = some (.slice (some ⟨b, 0, .none⟩) n m)) (hk0 : k < ss[i].body.length) (p : Int) : Apart (w.setCell ⟨b, k * 7 + 1, .none⟩ (.int .i64 p)) base top (.slice (some ⟨D, 0, .none⟩) ss.length c) (ss.set i (setDB ss[i] k p)) := by
  obtain ⟨fs, at_, lo, hi, hl, hown, hb, hin, hd⟩ := h
  have hv : fs[i].b = .slice (some ⟨b, 0, .none⟩) n m := by
    have := row_cell hown (j := i * 7 + 6) (u := fs[i].b) (by rw [dcsV_get hl i hi' 6 (by omega)]; rfl)
    rw [hc] at this
    exact (Option.some.inj this).symm
  obtain ⟨-, -, c3, c4, c5⟩ := hin i hi' (by omega)
  obtain ⟨B, m', e, hB⟩ := c3.form
  rw [hv] at e
  have hn : n = ss[i].body.length := by cases e; rfl
  subst hn
  obtain ⟨gs, gl, gown, gb, gin⟩ := c3
  rw [hv] at gb gown
  have hbr := gown.lt b rfl
  have hbh := gb b rfl
  refine ⟨fs, at_, lo, hi, by simpa using hl, ?_, hb, fun j hj hj' => ?_, fun j k hj hk => hd j k hj (by simpa using hk)⟩
  · rw [dcsV_setB hl i hi' k p, List.length_set]
    exact row_keep hown fun b' e => Below.heap_setCell _ _ _ b' (fun e2 => c5 D rfl (by
      have e3 : D = b' := by simpa [Value.ownBlock] using e
      have e4 : b' = b := e2
      omega))
  · have hj2 : j < ss.length := by simpa using hj
    obtain ⟨a1, a2, a3, a4, a5⟩ := hin j hj2 hj'
    by_cases hij : i = j
    · subst hij
      have b2 := a2.keep (w' := w.setCell ⟨b, k * 7 + 1, .none⟩ (.int .i64 p)) (fun b' e => Below.heap_setCell _ _ _ b' (fun e2 => by have e4 : b' = b := e2; omega)) (fun _ e => e)
      rw [List.getElem_set_self]
      rw [hv] at a3
      have b3 := a3.set_ hk0 p
      refine ⟨a1, b2, ?_, a4, a5⟩
      show OwnSmH _ _ _ fs[i].b (setDB ss[i] k p).body
      unfold setDB
      rw [hv]
      simp only [hk0, dif_pos]
      exact b3
    · have hdj : hi j ≤ at_ i ∨ hi i ≤ at_ j := by
        rcases Nat.lt_or_ge i j with h | h
        · exact .inr (hd i j h hj2)
        · exact .inl (hd j i (by omega) hi')
      have hkb : ∀ b', at_ j ≤ b' → b' < hi j → (w.setCell ⟨b, k * 7 + 1, .none⟩ (.int .i64 p)).heap[b']? = w.heap[b']? := fun b' e1 e2 => Below.heap_setCell _ _ _ b' (fun e => by have e4 : b' = b := e; omega)
      have b2 := a2.keep (w' := w.setCell ⟨b, k * 7 + 1, .none⟩ (.int .i64 p)) (fun b e => hkb b e.1 (by omega)) (fun _ e => e)
      have b3 := a3.keep (w' := w.setCell ⟨b, k * 7 + 1, .none⟩ (.int .i64 p)) (fun b e1 e2 => hkb b (by omega) e2)
      rw [List.getElem_set_ne hij]
      exact ⟨a1, b2, b3, a4, a5⟩
end
theorem wpList_append_ap {ops : Array Oper} {rest : List Oper} {o : Oper} {a : Act} {w : World} {Q : Exit → Act → World → Prop} (hgd : o.guard = none) (s x : Operand)
    (ho : o.op = .call { callee := .builtin .append, args := #[s, x], argTypes := #[22, 22] })
    (base top : Nat) (v : Value) (ss : List Dc) (hs : a.eval s = v) (hown : Apart w base top v ss) (ad : Addr) (c : Nat) (e : Dc) (u : Vd) (hx : a.eval x = .slice (some ad) 1 c)
    (hnews : ∀ j y, (dcCells e u)[j]? = some y → w.cell? (ad.add j) = some y) (at0 lo0 hi0 : Nat) (hn : e.name.length ≤ 140737488355328 ∧ e.type.length ≤ 140737488355328) (hu : PrsIn w (fun b => at0 ≤ b ∧ b < lo0) e.pairs u.p) (hu2 : OwnSmH w lo0 hi0 u.b e.body)
    (hr : base ≤ at0 ∧ top ≤ at0 ∧ at0 ≤ lo0 ∧ lo0 ≤ hi0 ∧ hi0 ≤ w.heap.size) (hb : ss.length ≤ 1000000)
    (h : ∀ v' w', Apart w' base w'.heap.size v' (ss ++ [e]) → w.grownBy w' v.ownBlock → wpList Tryd.prog ops Q rest (a.put o.dst v') w') : wpList Tryd.prog ops Q (o :: rest) a w := by
  obtain ⟨i0, hi, hz0, hz1, hz2⟩ := info_parts info_dc
  have hlt := fun b hb => Apart.lt hown (b := b) hb
  obtain ⟨fs, at_, lo, hi', hl, hrow, hbt, hin, hd⟩ := hown
  refine wpList_append_lies _ hgd s x 22 ho base 31 i0 _ 7 104 Tryd.underlying22 hi hz0 hz1 hz2 rfl (by decide) v ss.length (dcsV ss fs) hs hrow ad 1 c (dcCells e u) hx rfl hnews (dcCells_one e u hu.one hu2.sms.one)
    (by omega) (by unfold maxLen; omega) (by omega) (by omega) w.heap.size rfl fun g cap w' hown' hgr hat hgt => h _ w' ?_ hgr
  have hsz := hgr.size
  have hkeep : ∀ b, b < w.heap.size → v.ownBlock ≠ some b → w'.heap[b]? = w.heap[b]? := fun b h1 h2 => hgr.block b h1 (fun e => h2 e.symm)
  refine ⟨fs ++ [u], fun k => if k < ss.length then at_ k else at0, fun k => if k < ss.length then lo k else lo0, fun k => if k < ss.length then hi' k else hi0, by simp [hl], ?_, fun b e => ?_, fun k hk hk' => ?_, fun j k hj hk => ?_⟩
  · rw [List.length_append, dcsV_app e u hl]
    exact hown'
  · have e' : g = b := by simpa [Value.ownBlock] using e
    omega
  · have hgo : ∀ b, (Value.slice (some ⟨g, 0, none⟩) (ss.length + 1) cap).ownBlock = some b → v.ownBlock = some b ∨ b = w.heap.size := fun b e => by
      have e' : g = b := by simpa [Value.ownBlock] using e
      rcases hat with hat | hat
      · exact .inl (by rw [hat, e'])
      · exact .inr (by omega)
    by_cases hke : k < ss.length
    · have hkf : k < fs.length := by omega
      obtain ⟨a1, a2, a3, a4, a5⟩ := hin k hke hkf
      rw [List.getElem_append_left hke, List.getElem_append_left hkf]
      simp only [if_pos hke]
      refine ⟨a1, a2.keep (fun b e => hkeep b (by omega) (fun e2 => a5 b e2 (by omega))) (fun _ e => e), a3.keep (fun b e1 e2 => hkeep b (by omega) (fun e3 => a5 b e3 (by omega))), by omega, fun b e => ?_⟩
      rcases hgo b e with h1 | h1
      · exact a5 b h1
      · omega
    · have hk0 : k = ss.length := by simp at hk; omega
      subst hk0
      have e1 : (ss ++ [e])[ss.length] = e := by simp
      have e2 : (fs ++ [u])[ss.length]'hk' = u := by
        rw [List.getElem_append_right (by omega)]
        simp [hl]
      rw [e1, e2]
      simp only [if_neg (Nat.lt_irrefl _)]
      have hno : ∀ b, at0 ≤ b → v.ownBlock ≠ some b := fun b h1 h2 => by have := (hlt b h2).2.1; omega
      refine ⟨hn, hu.keep (fun b e => hkeep b (by omega) (hno b e.1)) (fun _ e => e), hu2.keep (fun b e1 e2 => hkeep b (by omega) (hno b (by omega))), by omega, fun b e => ?_⟩
      rcases hgo b e with h1 | h1
      · have := (hlt b h1).2.1
        omega
      · omega
  · have hk2 : k < ss.length + 1 := by simpa using hk
    have hjl : j < ss.length := by omega
    show (if j < ss.length then hi' j else hi0) ≤ (if k < ss.length then at_ k else at0)
    rw [if_pos hjl]
    by_cases hke : k < ss.length
    · rw [if_pos hke]; exact hd j k hj hke
    · rw [if_neg hke]
      obtain ⟨a1, a2, a3, a4, a5⟩ := hin j hjl (by omega)
      omega
end Go.Proofs.YtjpphbjnakalhaaDoor
