/- Rows of rows of a call's own, all apart. -/
import Derived.Test.YtnplekfpncjnpaaHbd
set_option linter.unusedVariables false
set_option linter.unusedSimpArgs false
namespace Go.Proofs.Ytnplekfpncjnpaa
open Go.RowKit

structure Own2 {α : Type} (cl : α → List Value) (sz : Nat) (eo ei : TypeId) (w : World) (base : Nat) (L : List (List α)) (v : Value) (X : List Value) : Prop where
  o : w.ownsRow base eo 1 v L.length X
  i : ∀ (t : Nat) (r : List α), L[t]? = some r → ∃ u, X[t]? = some u ∧ w.ownsRow base ei sz u r.length (r.map cl).flatten
  apo : ∀ (t : Nat) (u : Value) (b : Nat), X[t]? = some u → u.ownBlock = some b → v.ownBlock ≠ some b
  api : ∀ (t t' : Nat) (u u' : Value) (b : Nat), X[t]? = some u → X[t']? = some u' → u.ownBlock = some b → u'.ownBlock = some b → t = t'
def Mine (v : Value) (X : List Value) (b : Nat) : Prop := v.ownBlock = some b ∨ ∃ (t : Nat) (u : Value), X[t]? = some u ∧ u.ownBlock = some b
theorem app_get {β : Type} {X : List β} {u x : β} {t : Nat} (h : (X ++ [u])[t]? = some x) : X[t]? = some x ∨ (t = X.length ∧ x = u) := by
  rw [List.getElem?_append] at h
  split at h
  · exact .inl h
  · rename_i hn
    obtain ⟨hlt, rfl⟩ := List.getElem?_eq_some_iff.1 h
    simp at hlt
    exact .inr ⟨by omega, by simp⟩
theorem set_get {β : Type} {X : List β} {u x : β} {t i : Nat} (h : (X.set t u)[i]? = some x) : (i = t ∧ t < X.length ∧ x = u) ∨ (i ≠ t ∧ X[i]? = some x) := by
  rw [List.getElem?_set] at h
  split at h
  · split at h
    · cases h; exact .inl ⟨by omega, by assumption, rfl⟩
    · cases h
  · exact .inr ⟨by omega, h⟩
section
variable {α : Type} {cl : α → List Value} {sz : Nat} {eo ei : TypeId} {w w' : World} {base : Nat} {L : List (List α)} {v : Value} {X : List Value}
theorem Own2.len (h : Own2 cl sz eo ei w base L v X) : X.length = L.length := by have := h.o.1; simpa using this
theorem Own2.at_ (h : Own2 cl sz eo ei w base L v X) {t : Nat} {u : Value} (hu : X[t]? = some u) : ∃ r, L[t]? = some r ∧ w.ownsRow base ei sz u r.length (r.map cl).flatten := by
  have hl := h.len
  have : t < L.length := by
    rcases Nat.lt_or_ge t X.length with h1 | h1
    · omega
    · rw [List.getElem?_eq_none h1] at hu; cases hu
  obtain ⟨u', hu', hr⟩ := h.i t _ (List.getElem?_eq_getElem this)
  rw [hu] at hu'
  cases hu'
  exact ⟨_, List.getElem?_eq_getElem this, hr⟩
theorem Own2.lt (h : Own2 cl sz eo ei w base L v X) {b : Nat} (hb : Mine v X b) : base ≤ b ∧ b < w.heap.size := by
  rcases hb with hb | ⟨t, u, hu, hb⟩
  · exact World.ownsRow.lt h.o b hb
  · obtain ⟨r, -, hr⟩ := h.at_ hu
    exact World.ownsRow.lt hr b hb
theorem Own2.keep (h : Own2 cl sz eo ei w base L v X) (hk : ∀ b, Mine v X b → w'.heap[b]? = w.heap[b]?) : Own2 cl sz eo ei w' base L v X :=
  ⟨ownsRow_keep h.o (fun b hb => hk b (.inl hb)), fun t r hr => by
    obtain ⟨u, hu, ho⟩ := h.i t r hr
    exact ⟨u, hu, ownsRow_keep ho (fun b hb => hk b (.inr ⟨t, u, hu, hb⟩))⟩, h.apo, h.api⟩
theorem Own2.nil (w : World) (base : Nat) : Own2 cl sz eo ei w base [] (.slice none 0 0) [] := ⟨World.ownsRow_nil _ _ _ _, by simp, by simp, by simp⟩
/-- one row more -/
theorem Own2.more (h : Own2 cl sz eo ei w base L v X) {r : List α} {u v' : Value} (hu : w.ownsRow base ei sz u r.length (r.map cl).flatten) (hn : ∀ b, u.ownBlock = some b → ¬ Mine v X b)
    (ho : w'.ownsRow base eo 1 v' (L.length + 1) (X ++ [u])) (hg : w.grownBy w' v.ownBlock) (hb : v'.ownBlock = v.ownBlock ∨ v'.ownBlock = some w.heap.size) : Own2 cl sz eo ei w' base (L ++ [r]) v' (X ++ [u]) ∧ ∀ b, Mine v' (X ++ [u]) b → Mine v X b ∨ u.ownBlock = some b ∨ b = w.heap.size := by
  have hl := h.len
  have hv' : ∀ b, v'.ownBlock = some b → v.ownBlock = some b ∨ b = w.heap.size := fun b e => by
    rcases hb with hb | hb
    · exact .inl (hb ▸ e)
    · rw [hb] at e; cases e; exact .inr rfl
  have hnv : v.ownBlock ≠ u.ownBlock ∨ u.ownBlock = none := by
    cases e : u.ownBlock with
    | none => exact .inr rfl
    | some b => exact .inl (fun e2 => hn b e (.inl e2))
  refine ⟨⟨by rw [List.length_append]; exact ho, fun t r' hr' => ?_, fun t x b hx hxb e => ?_, fun t t' x x' b hx hx' hxb hxb' => ?_⟩, fun b hm => ?_⟩
  · rcases app_get hr' with h1 | ⟨rfl, rfl⟩
    · obtain ⟨x, hx, hr⟩ := h.i t r' h1
      refine ⟨x, ?_, ownsRow_keep hr (fun b hb => hg.block b (World.ownsRow.lt hr b hb).2 (fun e => h.apo t x b hx hb e.symm))⟩
      have : t < X.length := by
        obtain ⟨hlt, -⟩ := List.getElem?_eq_some_iff.1 hx; exact hlt
      rw [List.getElem?_append_left this]; exact hx
    · refine ⟨u, by rw [← hl, List.getElem?_append_right (Nat.le_refl _)]; simp, ownsRow_keep hu (fun b hb => hg.block b (World.ownsRow.lt hu b hb).2 (fun e => hn b hb (.inl e.symm)))⟩
  · rcases app_get hx with h1 | ⟨rfl, rfl⟩
    · rcases hv' b e with h2 | h2
      · exact h.apo t x b h1 hxb h2
      · obtain ⟨r', -, hr'⟩ := h.at_ h1
        have := (World.ownsRow.lt hr' b hxb).2; omega
    · rcases hv' b e with h2 | h2
      · exact hn b hxb (.inl h2)
      · have := (World.ownsRow.lt hu b hxb).2; omega
  · rcases app_get hx with h1 | ⟨e1, e2⟩ <;> rcases app_get hx' with h2 | ⟨e3, e4⟩
    · exact h.api t t' x x' b h1 h2 hxb hxb'
    · subst e4; exact absurd (.inr ⟨t, x, h1, hxb⟩) (hn b hxb')
    · subst e2; exact absurd (.inr ⟨t', x', h2, hxb'⟩) (hn b hxb)
    · omega
  · rcases hm with hm | ⟨t, x, hx, hxb⟩
    · exact (hv' b hm).elim (fun e => .inl (.inl e)) (fun e => .inr (.inr e))
    · rcases app_get hx with h1 | ⟨rfl, rfl⟩
      · exact .inl (.inr ⟨t, x, h1, hxb⟩)
      · exact .inr (.inl hxb)
/-- a row is another one: its old block is written, or it lies in a new one -/
theorem Own2.turn (h : Own2 cl sz eo ei w base L v X) {t : Nat} {u u' : Value} {r' : List α} (hu : X[t]? = some u) (hk : ∀ b, Mine v X b → u.ownBlock ≠ some b → v.ownBlock ≠ some b → w'.heap[b]? = w.heap[b]?)
    (ho : w'.ownsRow base eo 1 v L.length (X.set t u')) (hr : w'.ownsRow base ei sz u' r'.length (r'.map cl).flatten) (hown : u'.ownBlock = u.ownBlock ∨ ∃ b, u'.ownBlock = some b ∧ w.heap.size ≤ b) :
    Own2 cl sz eo ei w' base (L.set t r') v (X.set t u') ∧ ∀ b, Mine v (X.set t u') b → Mine v X b ∨ w.heap.size ≤ b := by
  have hl := h.len
  have hlt : t < X.length := by obtain ⟨hlt, -⟩ := List.getElem?_eq_some_iff.1 hu; exact hlt
  have hv' : ∀ b, u'.ownBlock = some b → u.ownBlock = some b ∨ w.heap.size ≤ b := fun b e => by
    rcases hown with hb | ⟨b', hb, hle⟩
    · exact .inl (hb ▸ e)
    · rw [hb] at e; cases e; exact .inr hle
  refine ⟨⟨by rw [List.length_set]; exact ho, fun i r hr' => ?_, fun i x b hx hxb e => ?_, fun i j x y b hx hy hxb hyb => ?_⟩, fun b hm => ?_⟩
  · rcases set_get hr' with ⟨rfl, -, rfl⟩ | ⟨hne, h1⟩
    · exact ⟨u', by rw [List.getElem?_set_self hlt], hr⟩
    · obtain ⟨x, hx, hrx⟩ := h.i i r h1
      exact ⟨x, by rw [List.getElem?_set_ne (fun e => hne e.symm)]; exact hx, ownsRow_keep hrx (fun b hb => hk b (.inr ⟨i, x, hx, hb⟩) (fun e => hne (h.api i t x u b hx hu hb e)) (h.apo i x b hx hb))⟩
  · rcases set_get hx with ⟨rfl, -, rfl⟩ | ⟨hne, h1⟩
    · rcases hv' b hxb with h2 | h2
      · exact h.apo _ u b hu h2 e
      · have := (World.ownsRow.lt h.o b e).2; omega
    · exact h.apo i x b h1 hxb e
  · rcases set_get hx with ⟨e1, -, e2⟩ | ⟨hne, h1⟩ <;> rcases set_get hy with ⟨e3, -, e4⟩ | ⟨hne2, h2⟩
    · omega
    · subst e2
      rcases hv' b hxb with h3 | h3
      · have := h.api t j u y b hu h2 h3 hyb; omega
      · have := (h.lt (.inr ⟨j, y, h2, hyb⟩)).2; omega
    · subst e4
      rcases hv' b hyb with h3 | h3
      · have := h.api i t x u b h1 hu hxb h3; omega
      · have := (h.lt (.inr ⟨i, x, h1, hxb⟩)).2; omega
    · exact h.api i j x y b h1 h2 hxb hyb
  · rcases hm with hm | ⟨i, x, hx, hxb⟩
    · exact .inl (.inl hm)
    · rcases set_get hx with ⟨rfl, -, rfl⟩ | ⟨hne, h1⟩
      · exact (hv' b hxb).imp (fun e => .inr ⟨_, u, hu, e⟩) id
      · exact .inl (.inr ⟨i, x, h1, hxb⟩)
theorem row_lies {K : Kd α} (hQ : ∀ w S a cs, cs = cl a → K.Q w S a cs) (hc : ∀ a, (cl a).length = K.sz) {e : TypeId} {u : Value} {r : List α} (h : w.ownsRow base e K.sz u r.length (r.map cl).flatten) (hm : r.length ≤ 1000) : Lies K w (fun b => u.ownBlock = some b) r u := by
  rcases h.2 with ⟨rfl, h2⟩ | ⟨g, cap, cur, rfl, hbg, hg, hc1, hc2, _⟩
  · rw [List.eq_nil_of_length_eq_zero h2]; exact Lies.nil _ _
  · refine ⟨_, cap, fun k => ((r[k]?).map cl).getD [], rfl, hc1, by unfold maxLen at hc2; omega, by omega, fun k hk => ⟨g, 0, rfl, rfl, ?_, fun j hj => ?_⟩⟩
    · dsimp only; rw [List.getElem?_eq_getElem hk]; exact hQ _ _ _ _ rfl
    · dsimp only
      rw [List.getElem?_eq_getElem hk]
      have h1 := flat_get (rows := r.map cl) (sz := K.sz) (fun x hx => by
        obtain ⟨a, -, rfl⟩ := List.mem_map.1 hx; exact hc a) k (by simpa using hk) j hj
      show _ = (cl r[k])[j]?
      have hj2 : j < (cl r[k]).length := by rw [hc]; exact hj
      rw [List.getElem?_eq_getElem hj2]
      have := World.ownsRow.cells h (g := g) rfl (k * K.sz + j) (cl r[k])[j] (by rw [h1, List.getElem_map, List.getElem?_eq_getElem hj2])
      rw [add_none, Nat.zero_add] at this
      rw [Nat.zero_add]
      exact this
theorem Own2.lies {K : Kd α} {K2 : Kd (List α)} (h1 : K2.sz = 1) (hQ2 : ∀ w S ws v, Lies K w S ws v → K2.Q w S ws [v]) (hQ : ∀ w S a cs, cs = cl a → K.Q w S a cs) (hc : ∀ a, (cl a).length = K.sz)
    (h : Own2 cl K.sz eo ei w base L v X) (hl : L.length ≤ 1000) (hr : ∀ r ∈ L, r.length ≤ 1000) : Lies K2 w (Mine v X) L v := by
  have hi := h.i
  have ho := h.o
  have hlen := h.len
  rcases h.o.2 with ⟨rfl, h2⟩ | ⟨g, cap, cur, rfl, hbg, hg, hc1, hc2, _⟩
  · rw [List.eq_nil_of_length_eq_zero h2]; exact Lies.nil _ _
  · refine ⟨_, cap, fun k => ((X[k]?).map (fun u => [u])).getD [], rfl, hc1, by unfold maxLen at hc2; omega, by omega, fun k hk => ?_⟩
    obtain ⟨u, hu, hru⟩ := hi k _ (List.getElem?_eq_getElem hk)
    refine ⟨g, 0, rfl, .inl rfl, ?_, fun j hj => ?_⟩
    · dsimp only
      rw [hu]
      exact hQ2 _ _ _ _ ((row_lies hQ hc hru (hr _ (List.getElem_mem hk))).keep (fun _ _ => rfl) (fun b hb => .inr ⟨k, u, hu, hb⟩))
    · have hj0 : j = 0 := by omega
      subst hj0
      dsimp only
      rw [hu]
      have := World.ownsRow.cells ho (g := g) rfl k u hu
      rw [add_none, Nat.zero_add] at this
      rw [h1, show 0 + k * 1 + 0 = k by omega]
      exact this
end
/-- a copy of a row: append([]T{}, row...) -/
theorem run_clone {α : Type} {K : Kd α} {cl : α → List Value} (hQ : ∀ w S a cs, K.Q w S a cs → cs = cl a) (hc : ∀ a, (cl a).length = K.sz) (h1 : ∀ a, ∀ u ∈ cl a, u.oneCell' = true) {w : World} {S : Nat → Prop} {base g0 : Nat} {t ty e : TypeId} {i : TypeInfo} {z : Value} {by_ : Nat} (ht : Try.prog.underlying t = some (.slice e)) (hi : Try.prog.info? e = some i) (hz : i.zero = some z) (hs : i.size = K.sz) (hy : i.bytes = by_) (hzs : z.cells.size = K.sz) (hb1 : by_ ≤ 100)
    (hown : w.ownsRow base e K.sz (.slice (some ⟨g0, 0, none⟩) 0 0) 0 []) (r : List α) (u : Value) (hu : Lies K w S r u) (hr : r.length ≤ 1000) (hbase : base ≤ w.heap.size) :
    ∃ v' w', (Builtin.append_ #[t, t] ty #[.slice (some ⟨g0, 0, none⟩) 0 0, u]).run Try.prog w = .ok v' w' ∧ w'.ownsRow base e K.sz v' r.length (r.map cl).flatten ∧ w.grownBy w' (some g0) ∧ (v'.ownBlock = some g0 ∨ v'.ownBlock = some w.heap.size) := by
  have hfl : ∀ x ∈ r.map cl, x.length = K.sz := fun x hx => by
    obtain ⟨a, -, rfl⟩ := List.mem_map.1 hx; exact hc a
  obtain ⟨A, cu, rfl, hcu, hMu⟩ := hu.form
  cases A with
  | none =>
    have hys : r = [] := by
      cases r with
      | nil => rfl
      | cons y ys =>
        obtain ⟨A', c', row, e, h1, h2, h3, hA⟩ := hu
        obtain ⟨b, off, e2, _⟩ := hA 0 (by simp)
        cases e
        cases e2
    subst hys
    have hr := run_append_room_src (P := Try.prog) w t t ty e i ht hi g0 0 0 0 (.slice none 0 cu) 0 [] (Src.ofNil w ht cu) (by omega) (fun j hj => absurd hj (by simp)) (fun j hj => absurd hj (by simp))
    exact ⟨_, w, by simpa [World.setCells] using hr, by simpa using hown, ⟨rfl, rfl, rfl, Nat.le_refl _, fun _ _ _ => rfl⟩, .inl rfl⟩
  | some ad =>
    have hk : r.length * by_ ≤ 1000 * 100 := Nat.mul_le_mul hr hb1
    obtain ⟨v', w', hrun, h2, h3, -, h5⟩ := run_append_own_at (P := Try.prog) w base t ty e i z K.sz by_ ht hi hz hs hy hzs K.pos (.slice (some ⟨g0, 0, none⟩) 0 0) 0 [] hown ad r.length cu (r.map cl).flatten (by rw [flat_len hfl, List.length_map]) (fun j x hx => by
      have hjl : j < (r.map cl).flatten.length := by
        obtain ⟨hlt, -⟩ := List.getElem?_eq_some_iff.1 hx; exact hlt
      rw [flat_len hfl, List.length_map] at hjl
      have hk2 : j / K.sz < r.length := Nat.div_lt_of_lt_mul (by rw [Nat.mul_comm]; exact hjl)
      have hm := Nat.mod_lt j K.pos
      have hj : j = (j / K.sz) * K.sz + j % K.sz := by rw [Nat.mul_comm]; exact (Nat.div_add_mod j K.sz).symm
      obtain ⟨b, off, row, e1, -, hq, hcell⟩ := hu.get _ hk2
      cases e1
      rw [add_none, hj, ← Nat.add_assoc, hcell _ hm, hQ _ _ _ _ hq]
      rw [hj, flat_get hfl _ (by simpa using hk2) _ hm, List.getElem_map] at hx
      exact hx) (cells_one cl h1 r) (by unfold maxLen; omega) (by rw [Nat.zero_add]; omega) hbase
    exact ⟨v', w', hrun, by simpa using h2, h3, h5⟩
theorem step_append_run {ops : Array Oper} {o : Oper} {a : Act} {w : World} {K : Act → World → Prop} {Q : Exit → Act → World → Prop} {E : Prop} (d : Nat) (hd : o.dst = some d) (hgd : o.guard = none) (s x : Operand) (t : TypeId)
    (ho : o.op = .call { callee := .builtin .append, args := #[s, x], argTypes := #[t, t] }) (v u : Value) (hs : a.eval s = v) (hx : a.eval x = u) (ty : TypeId) (hty : o.type = ty) {v' : Value} {w' : World} (hr : (Builtin.append_ #[t, t] ty #[v, u]).run Try.prog w = .ok v' w')
    (h : K ⟨a.tmps.setIfInBounds d v', a.defers⟩ w') : if Region.wanted o (yielded ops a.tmps) = true then Oper.wp Try.prog o a w K Q else E := by
  have hw : Region.wanted o (yielded ops a.tmps) = true := by simp [Region.wanted, hgd]
  rw [if_pos hw]
  subst hty
  unfold Oper.wp execOp
  simp only [ho, resolve, invoke, builtin, Sem.run_bind, Sem.run_pure, Result.andThen_ok, List.map_toArray, List.map_cons, List.map_nil, hs, hx, hr]
  have h2 : K (a.put o.dst v') w' := by rw [hd]; exact h
  exact h2

end Go.Proofs.Ytnplekfpncjnpaa
