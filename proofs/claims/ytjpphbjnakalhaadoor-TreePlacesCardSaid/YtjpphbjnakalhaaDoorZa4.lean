/- Uj -/
import Derived.Test.YtjpphbjnakalhaaDoorZa1
import Derived.StillTailTactics
import Derived.IntWalk
set_option linter.unusedVariables false
namespace Go.Proofs.YtjpphbjnakalhaaDoor
open Go.RowKit
structure Vs where
  e : Value
  b : Value
  l : Value
def smCells (s : Sm) (f : Vs) : List Value := [.int .i64 s.kind, .int .i64 s.pl, .string (strOf s.name), .string (strOf s.type), f.e, f.b, f.l]
def smsV : List Sm → List Vs → List Value
  | s :: ss, f :: fs => smCells s f ++ smsV ss fs
  | _, _ => []
theorem smsV_app : ∀ {ss : List Sm} {fs : List Vs} (s : Sm) (u : Vs), ss.length = fs.length → smsV (ss ++ [s]) (fs ++ [u]) = smsV ss fs ++ smCells s u
  | [], [], s, u, _ => by simp [smsV]
  | d :: ss, f :: fs, s, u, h => by
    show smCells d f ++ smsV (ss ++ [s]) (fs ++ [u]) = _
    rw [smsV_app s u (by simpa using h)]
    simp [smsV]
theorem smsV_get : ∀ {ss : List Sm} {fs : List Vs} (h : ss.length = fs.length) (k : Nat) (hk : k < ss.length) (i : Nat) (hi : i < 7), (smsV ss fs)[k * 7 + i]? = (smCells ss[k] (fs[k]'(by omega)))[i]?
  | s :: ss, f :: fs, h, 0, hk, i, hi => by
    show (smCells s f ++ smsV ss fs)[0 * 7 + i]? = _
    rw [Nat.zero_mul, Nat.zero_add, List.getElem?_append_left (by simpa [smCells] using hi)]
    rfl
  | s :: ss, f :: fs, h, k + 1, hk, i, hi => by
    show (smCells s f ++ smsV ss fs)[(k + 1) * 7 + i]? = _
    rw [show (k + 1) * 7 + i = 7 + (k * 7 + i) from by omega, List.getElem?_append_right (by simp [smCells])]
    rw [show 7 + (k * 7 + i) - (smCells s f).length = k * 7 + i from by simp [smCells]]
    exact smsV_get (by simpa using h) k (by simpa using hk) i hi
theorem smCells_one (s : Sm) (u : Vs) (h1 : u.e.oneCell' = true) (h2 : u.b.oneCell' = true) (h3 : u.l.oneCell' = true) : ∀ x ∈ smCells s u, x.oneCell' = true := by
  intro x hx
  simp [smCells] at hx
  rcases hx with rfl | rfl | rfl | rfl | rfl | rfl | rfl
  · rfl
  · rfl
  · rfl
  · rfl
  · exact h1
  · exact h2
  · exact h3
theorem IsSms.one {w : World} {S : Nat → Prop} {ss : List Sm} {v : Value} (h : IsSms w S ss v) : v.oneCell' = true := by
  cases h; rfl
def SmIn (w : World) (S : Nat → Prop) (s : Sm) (f : Vs) : Prop := s.name.length ≤ 140737488355328 ∧ s.type.length ≤ 140737488355328 ∧ IsExs w S s.exprs f.e ∧ IsSms w S s.body f.b ∧ IsSms w S s.els f.l
theorem SmIn.keep {w w' : World} {S S' : Nat → Prop} {s : Sm} {f : Vs} (h : SmIn w S s f) (hw : ∀ b, S b → w'.heap[b]? = w.heap[b]?) (hS : ∀ b, S b → S' b) : SmIn w' S' s f :=
  ⟨h.1, h.2.1, h.2.2.1.keep hw hS, h.2.2.2.1.keep hw hS, h.2.2.2.2.keep hw hS⟩
def OwnSm (w : World) (base : Nat) (v : Value) (ss : List Sm) : Prop :=
  ∃ fs : List Vs, ss.length = fs.length ∧ w.ownsRow base 34 7 v ss.length (smsV ss fs) ∧
    ∀ (k : Nat) (hk : k < ss.length) (hk' : k < fs.length), SmIn w (fun b => base ≤ b ∧ b < w.heap.size ∧ v.ownBlock ≠ some b) ss[k] fs[k]
theorem OwnSm.lt {w : World} {base : Nat} {v : Value} {ss : List Sm} (h : OwnSm w base v ss) {b : Nat} (hb : v.ownBlock = some b) : base ≤ b ∧ b < w.heap.size := by
  obtain ⟨fs, _, hown, _⟩ := h
  exact hown.lt b hb
theorem OwnSm.sms {w : World} {base : Nat} {v : Value} {ss : List Sm} (h : OwnSm w base v ss) : IsSms w (fun b => base ≤ b ∧ b < w.heap.size) ss v := by
  obtain ⟨fs, hl, hown, hin⟩ := h
  have hlt := hown.lt
  have hcell : ∀ (g : Nat), v.ownBlock = some g → ∀ (j : Nat) (u : Value), (smsV ss fs)[j]? = some u → w.cell? ⟨g, 0 + j, none⟩ = some u := fun g hg j u hu => by
    have := hown.cells hg j u hu
    rw [add_pl] at this
    exact this
  rcases hown.2 with ⟨rfl, h2⟩ | ⟨g, cap, cur, rfl, hbg, hg, hc1, hc2, _⟩
  · have he : ss = [] := List.eq_nil_of_length_eq_zero h2
    subst he
    exact .mk [] none 0 (fun _ => undef) (fun _ => undef) (fun _ => undef) (Nat.le_refl _) (by omega) (fun k hk => absurd hk (by simp)) (fun k hk => absurd hk (by simp)) (fun k hk => absurd hk (by simp)) (fun k hk => absurd hk (by simp))
  · have hgd : ∀ (k : Nat) (hk' : k < fs.length), (fs[k]?.getD ⟨undef, undef, undef⟩) = fs[k] := fun k hk' => by rw [List.getElem?_eq_getElem hk']; rfl
    refine .mk ss _ cap (fun k => (fs[k]?.getD ⟨undef, undef, undef⟩).e) (fun k => (fs[k]?.getD ⟨undef, undef, undef⟩).b) (fun k => (fs[k]?.getD ⟨undef, undef, undef⟩).l) hc1 (by unfold maxLen at hc2; omega) (fun k hk => ?_) (fun k hk => ?_) (fun k hk => ?_) (fun k hk => ?_)
    · have hk' : k < fs.length := by omega
      obtain ⟨a1, a2, _⟩ := hin k hk hk'
      refine ⟨g, 0, rfl, ⟨hbg, (hlt g rfl).2⟩, a1, a2, ?_, ?_, ?_, ?_, ?_, ?_, ?_⟩
      · exact hcell g rfl (k * 7) _ (by have := smsV_get hl k hk 0 (by omega); rw [Nat.add_zero] at this; rw [this]; rfl)
      · exact hcell g rfl (k * 7 + 1) _ (by rw [smsV_get hl k hk 1 (by omega)]; rfl)
      · exact hcell g rfl (k * 7 + 2) _ (by rw [smsV_get hl k hk 2 (by omega)]; rfl)
      · exact hcell g rfl (k * 7 + 3) _ (by rw [smsV_get hl k hk 3 (by omega)]; rfl)
      · rw [hgd k hk']; exact hcell g rfl (k * 7 + 4) _ (by rw [smsV_get hl k hk 4 (by omega)]; rfl)
      · rw [hgd k hk']; exact hcell g rfl (k * 7 + 5) _ (by rw [smsV_get hl k hk 5 (by omega)]; rfl)
      · rw [hgd k hk']; exact hcell g rfl (k * 7 + 6) _ (by rw [smsV_get hl k hk 6 (by omega)]; rfl)
    · have hk' : k < fs.length := by omega
      show IsExs w _ ss[k].exprs (fs[k]?.getD ⟨undef, undef, undef⟩).e
      rw [hgd k hk']
      exact (hin k hk hk').2.2.1.keep (fun _ _ => rfl) (fun b hb => ⟨hb.1, hb.2.1⟩)
    · have hk' : k < fs.length := by omega
      show IsSms w _ ss[k].body (fs[k]?.getD ⟨undef, undef, undef⟩).b
      rw [hgd k hk']
      exact (hin k hk hk').2.2.2.1.keep (fun _ _ => rfl) (fun b hb => ⟨hb.1, hb.2.1⟩)
    · have hk' : k < fs.length := by omega
      show IsSms w _ ss[k].els (fs[k]?.getD ⟨undef, undef, undef⟩).l
      rw [hgd k hk']
      exact (hin k hk hk').2.2.2.2.keep (fun _ _ => rfl) (fun b hb => ⟨hb.1, hb.2.1⟩)
theorem OwnSm.below {w w' : World} {base : Nat} {v : Value} {ss : List Sm} (h : OwnSm w base v ss) (hb : Below w.heap.size w w') : OwnSm w' base v ss := by
  obtain ⟨fs, hl, hown, hin⟩ := h
  refine ⟨fs, hl, ?_, fun k hk hk' => (hin k hk hk').keep (fun b hb2 => hb.block b hb2.2.1) (fun b hb2 => ⟨hb2.1, Nat.lt_of_lt_of_le hb2.2.1 hb.size, hb2.2.2⟩)⟩
  rcases hown with ⟨h1, h2 | ⟨g, cap, cur, hv, hbg, hg, h3⟩⟩
  · exact ⟨h1, .inl h2⟩
  · refine ⟨h1, .inr ⟨g, cap, cur, hv, hbg, ?_, h3⟩⟩
    have hlt : g < w.heap.size := by
      rcases Nat.lt_or_ge g w.heap.size with hlt | hge
      · exact hlt
      · rw [Array.getElem?_eq_none hge] at hg; cases hg
    exact (hb.block g hlt).trans hg
theorem OwnSm.nil (w : World) : OwnSm (w.alloc (.cells #[] 34)) w.heap.size (.slice (some ⟨w.heap.size, 0, none⟩) 0 0) [] :=
  ⟨[], rfl, World.ownsRow_lit (e := 34) (size := 7) w #[] 0 (Nat.le_refl _) (by unfold maxLen; omega) rfl, fun k hk => absurd hk (by simp)⟩
theorem OwnSm.set_ {w : World} {base : Nat} {v : Value} {ss : List Sm} (h : OwnSm w base v ss) {p : Addr} (hp : p.block < base) (u : Value) : OwnSm (w.setCell p u) base v ss := by
  have hbl := h
  obtain ⟨fs, hl, hown, hin⟩ := h
  refine ⟨fs, hl, ?_, fun k hk hk' => (hin k hk hk').keep (fun b hb2 => Below.heap_setCell _ _ _ b (by omega)) (fun b hb2 => ⟨hb2.1, by simpa using hb2.2.1, hb2.2.2⟩)⟩
  rcases hown with ⟨h1, h2 | ⟨g, cap, cur, hv, hbg, hg, h3⟩⟩
  · exact ⟨h1, .inl h2⟩
  · exact ⟨h1, .inr ⟨g, cap, cur, hv, hbg, (Below.heap_setCell _ _ _ g (by omega)).trans hg, h3⟩⟩
theorem info_sm : (Tryd.prog.info? 34).map (fun i => (i.zero, i.size, i.bytes)) = some (some (.agg #[.int .i64 0, .int .i64 0, .string ⟨#[]⟩, .string ⟨#[]⟩, .slice none 0 0, .slice none 0 0, .slice none 0 0]), 7, 120) := by kernel_rfl
theorem wpList_append_sm {ops : Array Oper} {rest : List Oper} {o : Oper} {a : Act} {w : World} {Q : Exit → Act → World → Prop} (hgd : o.guard = none) (s x : Operand)
    (ho : o.op = .call { callee := .builtin .append, args := #[s, x], argTypes := #[29, 29] })
    (base : Nat) (v : Value) (ss : List Sm) (hs : a.eval s = v) (hown : OwnSm w base v ss) (ad : Addr) (c : Nat) (e : Sm) (u : Vs) (hx : a.eval x = .slice (some ad) 1 c)
    (hnews : ∀ j y, (smCells e u)[j]? = some y → w.cell? (ad.add j) = some y) (hu : SmIn w (fun b => base ≤ b ∧ b < w.heap.size ∧ v.ownBlock ≠ some b) e u) (hb : ss.length ≤ 1000000) (hbase : base ≤ w.heap.size)
    (h : ∀ v' w', OwnSm w' base v' (ss ++ [e]) → w.grownBy w' v.ownBlock → wpList Tryd.prog ops Q rest (a.put o.dst v') w') : wpList Tryd.prog ops Q (o :: rest) a w := by
  obtain ⟨i0, hi, hz0, hz1, hz2⟩ := info_parts info_sm
  obtain ⟨fs, hl, hrow, hin⟩ := hown
  refine wpList_append_lies _ hgd s x 29 ho base 34 i0 _ 7 120 Tryd.underlying29 hi hz0 hz1 hz2 rfl (by decide) v ss.length (smsV ss fs) hs hrow ad 1 c (smCells e u) hx rfl hnews (smCells_one e u hu.2.2.1.one hu.2.2.2.1.one hu.2.2.2.2.one)
    (by omega) (by unfold maxLen; omega) (by omega) hbase w.heap.size rfl fun g cap w' hown' hgr hat hlt => h _ w' ?_ hgr
  have hkeep : ∀ b, (base ≤ b ∧ b < w.heap.size ∧ v.ownBlock ≠ some b) → w'.heap[b]? = w.heap[b]? := fun b hb => hgr.block b hb.2.1 (fun e => hb.2.2 e.symm)
  have hS : ∀ b, (base ≤ b ∧ b < w.heap.size ∧ v.ownBlock ≠ some b) → (base ≤ b ∧ b < w'.heap.size ∧ (Value.slice (some ⟨g, 0, none⟩) (ss.length + 1) cap).ownBlock ≠ some b) := fun b hb => by
    have hsz := hgr.size
    refine ⟨hb.1, by omega, fun e => ?_⟩
    have e' : g = b := by simpa [Value.ownBlock] using e
    rcases hat with hat | hat
    · exact hb.2.2 (by rw [hat, e'])
    · omega
  refine ⟨fs ++ [u], by simp [hl], ?_, fun k hk hk' => ?_⟩
  · rw [List.length_append, smsV_app e u hl]
    exact hown'
  · by_cases hke : k < ss.length
    · have hkf : k < fs.length := by omega
      rw [List.getElem_append_left hke, List.getElem_append_left hkf]
      exact (hin k hke hkf).keep hkeep hS
    · have hk0 : k = ss.length := by simp at hk; omega
      subst hk0
      have e1 : (ss ++ [e])[ss.length] = e := by simp
      have e2 : (fs ++ [u])[ss.length]'hk' = u := by
        rw [List.getElem_append_right (by omega)]
        simp [hl]
      rw [e1, e2]
      exact hu.keep hkeep hS
mutual
def smallS (N : Nat) : Sm → Prop
  | .mk _ _ n t ex bd el => n.length ≤ N ∧ t.length ≤ N ∧ ex.length ≤ N ∧ smallEs N ex ∧ bd.length ≤ N ∧ smallSs N bd ∧ el.length ≤ N ∧ smallSs N el
def smallSs (N : Nat) : List Sm → Prop
  | [] => True
  | s :: ss => smallS N s ∧ smallSs N ss
end
theorem smallSs_get {N : Nat} : ∀ {ss : List Sm}, smallSs N ss → ∀ (k : Nat) (hk : k < ss.length), smallS N ss[k]
  | [], _, k, hk => absurd hk (by simp)
  | e :: es, h, 0, _ => by rw [smallSs] at h; exact h.1
  | e :: es, h, k + 1, hk => by rw [smallSs] at h; exact smallSs_get h.2 k (by simpa using hk)
theorem smallS_parts {N : Nat} {s : Sm} (h : smallS N s) : s.name.length ≤ N ∧ s.type.length ≤ N ∧ s.exprs.length ≤ N ∧ smallEs N s.exprs ∧ s.body.length ≤ N ∧ smallSs N s.body ∧ s.els.length ≤ N ∧ smallSs N s.els := by
  cases s
  rw [smallS] at h
  exact h
mutual
def copyS : Sm → Int → Sm
  | .mk k p n t ex bd el, deep => .mk k p n t (ex.map (copyE · deep)) (copyB bd (deep - 1)) (copyB el (deep - 1))
def copyB : List Sm → Int → List Sm
  | [], _ => []
  | s :: ss, deep => if 0 < deep then copyS s deep :: copyB ss deep else []
end
theorem copyB_take (ss : List Sm) (deep : Int) (h : 0 < deep) : ∀ (j : Nat) (hj : j < ss.length), copyB (ss.take (j + 1)) deep = copyB (ss.take j) deep ++ [copyS ss[j] deep] := by
  induction ss with
  | nil => intro j hj; exact absurd hj (by simp)
  | cons s ss ih =>
    intro j hj
    cases j with
    | zero => simp [copyB, h]
    | succ j =>
      have := ih j (by simpa using hj)
      rw [List.take_succ_cons, List.take_succ_cons, copyB, copyB, if_pos h, if_pos h, this]
      rfl
theorem copyB_none (ss : List Sm) (deep : Int) (h : ¬ 0 < deep) : copyB ss deep = [] := by
  cases ss with
  | nil => rw [copyB]
  | cons e es => rw [copyB, if_neg h]
theorem copyS_parts (s : Sm) (deep : Int) : (copyS s deep).kind = s.kind ∧ (copyS s deep).pl = s.pl ∧ (copyS s deep).name = s.name ∧ (copyS s deep).type = s.type ∧ (copyS s deep).exprs = s.exprs.map (copyE · deep) ∧ (copyS s deep).body = copyB s.body (deep - 1) ∧ (copyS s deep).els = copyB s.els (deep - 1) := by
  cases s
  rw [copyS]
  exact ⟨rfl, rfl, rfl, rfl, rfl, rfl, rfl⟩
theorem copyB_len (ss : List Sm) (deep : Int) : (copyB ss deep).length ≤ ss.length := by
  induction ss with
  | nil => rw [copyB]; exact Nat.le_refl _
  | cons e es ih =>
    rw [copyB]
    split
    · simp; omega
    · simp
end Go.Proofs.YtjpphbjnakalhaaDoor
