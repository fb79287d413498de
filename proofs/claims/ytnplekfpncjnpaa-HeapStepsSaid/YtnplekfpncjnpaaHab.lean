/- Threads' own memories: the plain model, and where a heap lies. -/
import Derived.Test.YtnplekfpncjnpaaHaa
set_option linter.unusedVariables false
set_option linter.unusedSimpArgs false
namespace Go.Proofs.Ytnplekfpncjnpaa
open Go.RowKit

/-- a word: its number, and the store that it comes from -/
structure Wd where
  v : Int
  s : Int
/-- an object -/
structure Ob where
  at_ : Nat
  size : Nat
  fn : Int
  op : Int
/-- a thread's own memory -/
structure Mm where
  ws : List Wd
  os : List Ob
abbrev Hp := List Mm
def wcells (a : Wd) : List Value := [.int .i64 a.v, .int .i64 a.s]
def ocells (o : Ob) : List Value := [.int .i64 (o.at_ : Nat), .int .i64 (o.size : Nat), .int .i64 o.fn, .int .i64 o.op]
def wagg (a : Wd) : Value := .agg #[.int .i64 a.v, .int .i64 a.s]
def oagg (o : Ob) : Value := .agg #[.int .i64 (o.at_ : Nat), .int .i64 (o.size : Nat), .int .i64 o.fn, .int .i64 o.op]
def noOb : Ob := ⟨0, 0, 0, 0⟩
def noWd : Wd := ⟨0, 0⟩
/-- objects one behind the other, from a on up to e -/
def chained : Nat → List Ob → Nat → Prop
  | a, [], e => a = e
  | a, o :: os, e => o.at_ = a ∧ 0 < o.size ∧ chained (a + o.size) os e
def Good (m : Mm) : Prop := chained 0 m.os m.ws.length ∧ m.ws.length ≤ 64
theorem chained_le : ∀ {os : List Ob} {a e : Nat}, chained a os e → a + os.length ≤ e
  | [], a, e, h => by simp [chained] at h; simp [h]
  | o :: os, a, e, h => by
    have := chained_le h.2.2
    simp
    have := h.2.1
    omega
theorem chained_more : ∀ {os : List Ob} {a e : Nat}, chained a os e → ∀ (size : Nat) (fn op : Int), 0 < size → chained a (os ++ [⟨e, size, fn, op⟩]) (e + size)
  | [], a, e, h, size, fn, op, hs => by simp [chained] at h; subst h; simp [chained, hs]
  | o :: os, a, e, h, size, fn, op, hs => ⟨h.1, h.2.1, chained_more h.2.2 size fn op hs⟩
theorem chained_end : ∀ {os : List Ob} {a e : Nat}, chained a os e → ∀ o ∈ os, a ≤ o.at_ ∧ 0 < o.size ∧ o.at_ + o.size ≤ e
  | [], a, e, h, o, ho => by simp at ho
  | p :: os, a, e, h, o, ho => by
    have h1 := h.1
    have h2 := chained_le h.2.2
    rcases List.mem_cons.1 ho with rfl | ho
    · exact ⟨by omega, h.2.1, by omega⟩
    · have := chained_end h.2.2 o ho
      exact ⟨by omega, this.2.1, this.2.2⟩
/-- of a word in use there is one object -/
theorem chained_find : ∀ {os : List Ob} {a e : Nat}, chained a os e → ∀ k, a ≤ k → k < e → ∃ i, ∃ hi : i < os.length, (∀ j (hj : j < i), (os[j]'(by omega)).at_ + (os[j]'(by omega)).size ≤ k) ∧ os[i].at_ ≤ k ∧ k < os[i].at_ + os[i].size
  | [], a, e, h, k, ha, hk => by simp [chained] at h; omega
  | o :: os, a, e, h, k, ha, hk => by
    by_cases hlt : k < a + o.size
    · exact ⟨0, by simp, fun j hj => absurd hj (Nat.not_lt_zero _), by have := h.1; simp; omega, by have := h.1; simp; omega⟩
    · obtain ⟨i, hi, h1, h2, h3⟩ := chained_find h.2.2 k (by omega) hk
      refine ⟨i + 1, by simpa using hi, fun j hj => ?_, h2, h3⟩
      match j with
      | 0 => have := h.1; simp; omega
      | j + 1 => exact h1 j (by omega)

def getM (H : Hp) (t : Nat) : Mm := H[t]?.getD ⟨[], []⟩
theorem getM_lt {H : Hp} {t : Nat} (h : t < H.length) : getM H t = H[t] := by unfold getM; rw [List.getElem?_eq_getElem h]; rfl
theorem getM_ge {H : Hp} {t : Nat} (h : H.length ≤ t) : getM H t = ⟨[], []⟩ := by unfold getM; rw [List.getElem?_eq_none h]; rfl
theorem getM_in {H : Hp} {t k : Nat} (h : k < (getM H t).ws.length) : t < H.length := by
  rcases Nat.lt_or_ge t H.length with h1 | h1
  · exact h1
  · rw [getM_ge h1] at h; simp at h
/-- the thread of an address, and which one of its words it is, if it is in use -/
def place (H : Hp) (a : Int) : Option (Nat × Nat) :=
  if a < 1 then none else if (a - 1).toNat % 64 < (getM H ((a - 1).toNat / 64)).ws.length then some ((a - 1).toNat / 64, (a - 1).toNat % 64) else none
theorem place_some {H : Hp} {a : Int} {t k : Nat} (h : place H a = some (t, k)) : k < 64 ∧ a = 1 + 64 * (t : Int) + k ∧ t < H.length ∧ k < (getM H t).ws.length := by
  unfold place at h
  split at h
  · cases h
  · split at h
    · rename_i h1 h2
      cases h
      exact ⟨by omega, by omega, getM_in h2, h2⟩
    · cases h
theorem place_of {H : Hp} {t k : Nat} (hk : k < 64) : place H (1 + 64 * (t : Int) + k) = if k < (getM H t).ws.length then some (t, k) else none := by
  unfold place
  rw [if_neg (by omega), show (1 + 64 * (t : Int) + k - 1).toNat % 64 = k from by omega, show (1 + 64 * (t : Int) + k - 1).toNat / 64 = t from by omega]
theorem place_low {H : Hp} {a : Int} (h : a < 1) : place H a = none := by unfold place; rw [if_pos h]
def makeM (H : Hp) (t size fn op : Int) : Hp × Int × Bool :=
  if t < 0 ∨ (H.length : Int) ≤ t then (H, 0, false)
  else if size < 0 ∨ 64 - ((getM H t.toNat).ws.length : Int) < size then (H, 0, false)
  else if size = 0 then (H, 0, true)
  else (H.set t.toNat ⟨(getM H t.toNat).ws ++ List.replicate size.toNat noWd, (getM H t.toNat).os ++ [⟨(getM H t.toNat).ws.length, size.toNat, fn, op⟩]⟩, 1 + t * 64 + (getM H t.toNat).ws.length, true)
def loadM (H : Hp) (a : Int) : Wd × Bool := match place H a with
  | none => (noWd, false)
  | some (t, k) => ((getM H t).ws[k]?.getD noWd, true)
def storeM (H : Hp) (a : Int) (w : Wd) : Hp × Bool := match place H a with
  | none => (H, false)
  | some (t, k) => (H.set t ⟨(getM H t).ws.set k w, (getM H t).os⟩, true)
def holder (os : List Ob) (k : Nat) : Ob := (os.find? (fun o => decide (k < o.at_ + o.size))).getD noOb
def ofM (H : Hp) (a : Int) : Nat × Ob × Bool := match place H a with
  | none => (0, noOb, false)
  | some (t, k) => (t, holder (getM H t).os k, true)
def newM (n : Int) : Hp := List.replicate (min n.toNat 4) ⟨[], []⟩
theorem holder_at {os : List Ob} {k i : Nat} (hi : i < os.length) (h1 : ∀ j (hj : j < i), (os[j]'(by omega)).at_ + (os[j]'(by omega)).size ≤ k) (h2 : k < os[i].at_ + os[i].size) : holder os k = os[i] := by
  unfold holder
  have : os.find? (fun o => decide (k < o.at_ + o.size)) = some os[i] := by
    rw [List.find?_eq_some_iff_getElem]
    exact ⟨by simpa using h2, i, hi, rfl, fun j hj => by have := h1 j hj; simp; omega⟩
  rw [this]; rfl

/-- all threads' memories are as they can be -/
def GoodH (H : Hp) : Prop := H.length ≤ 4 ∧ ∀ m ∈ H, Good m
theorem GoodH.get {H : Hp} (h : GoodH H) (t : Nat) : Good (getM H t) := by
  rcases Nat.lt_or_ge t H.length with h1 | h1
  · rw [getM_lt h1]; exact h.2 _ (List.getElem_mem h1)
  · rw [getM_ge h1]; exact ⟨by simp [chained], by simp⟩
theorem good_set {H : Hp} (h : GoodH H) (t : Nat) {m : Mm} (hm : Good m) : GoodH (H.set t m) := by
  refine ⟨by rw [List.length_set]; exact h.1, fun x hx => ?_⟩
  rcases List.mem_or_eq_of_mem_set hx with h1 | rfl
  · exact h.2 x h1
  · exact hm
theorem good_new (n : Int) : GoodH (newM n) := by
  refine ⟨by unfold newM; rw [List.length_replicate]; omega, fun m hm => ?_⟩
  rw [(List.mem_replicate.1 hm).2]
  exact ⟨by simp [chained], by simp⟩
theorem good_make {H : Hp} (h : GoodH H) (t size fn op : Int) : GoodH (makeM H t size fn op).1 := by
  unfold makeM
  split
  · exact h
  split
  · exact h
  split
  · exact h
  · rename_i h1 h2 h3
    have hg := h.get t.toNat
    refine good_set h _ ⟨?_, ?_⟩
    · have := chained_more hg.1 size.toNat fn op (by omega)
      simpa using this
    · have := hg.2
      simp
      omega
theorem good_store {H : Hp} (h : GoodH H) (a : Int) (w : Wd) : GoodH (storeM H a w).1 := by
  unfold storeM
  split
  · exact h
  · rename_i t k e
    have hg := h.get t
    exact good_set h _ ⟨by simpa using hg.1, by simpa using hg.2⟩

def RowW (w : World) (base : Nat) (ws : List Wd) (v : Value) : Prop := w.ownsRow base 40 2 v ws.length (ws.map wcells).flatten
def RowO (w : World) (base : Nat) (os : List Ob) (v : Value) : Prop := w.ownsRow base 45 4 v os.length (os.map ocells).flatten
theorem wlen : ∀ (ws : List Wd), ∀ r ∈ ws.map wcells, r.length = 2 := fun ws r hr => by
  obtain ⟨a, _, rfl⟩ := List.mem_map.1 hr; rfl
theorem olen : ∀ (os : List Ob), ∀ r ∈ os.map ocells, r.length = 4 := fun ws r hr => by
  obtain ⟨a, _, rfl⟩ := List.mem_map.1 hr; rfl
/-- where a word lies -/
theorem RowW.at_ {w : World} {base : Nat} {ws : List Wd} {v : Value} (h : RowW w base ws v) (k : Nat) (hk : k < ws.length) : ∃ g cap, v = .slice (some ⟨g, 0, none⟩) ws.length cap ∧ ws.length ≤ cap ∧ base ≤ g ∧ g < w.heap.size ∧
    w.cell? ⟨g, k * 2, none⟩ = some (.int .i64 ws[k].v) ∧ w.cell? ⟨g, k * 2 + 1, none⟩ = some (.int .i64 ws[k].s) ∧ ∀ j, w.frozen? ⟨g, j, none⟩ = false := by
  unfold RowW at h
  rcases h.2 with ⟨rfl, h2⟩ | ⟨g, cap, cur, rfl, hbg, hg, hc1, hc2, _⟩
  · omega
  · refine ⟨g, cap, rfl, hc1, hbg, heap_lt hg, ?_, ?_, fun j => frozen_of_row w g j _ _ hg⟩
    · have h1 := flat_get (wlen ws) k (by simpa using hk) 0 (by decide)
      have := h.cells (g := g) rfl (k * 2 + 0) (.int .i64 ws[k].v) (by rw [h1]; simp [wcells])
      rwa [add_none, Nat.zero_add] at this
    · have h1 := flat_get (wlen ws) k (by simpa using hk) 1 (by decide)
      have := h.cells (g := g) rfl (k * 2 + 1) (.int .i64 ws[k].s) (by rw [h1]; simp [wcells])
      rwa [add_none, Nat.zero_add] at this
theorem RowO.at_ {w : World} {base : Nat} {os : List Ob} {v : Value} (h : RowO w base os v) (k : Nat) (hk : k < os.length) : ∃ g cap, v = .slice (some ⟨g, 0, none⟩) os.length cap ∧ os.length ≤ cap ∧ base ≤ g ∧ g < w.heap.size ∧
    w.cell? ⟨g, k * 4, none⟩ = some (.int .i64 (os[k].at_ : Nat)) ∧ w.cell? ⟨g, k * 4 + 1, none⟩ = some (.int .i64 (os[k].size : Nat)) ∧ w.cell? ⟨g, k * 4 + 2, none⟩ = some (.int .i64 os[k].fn) ∧ w.cell? ⟨g, k * 4 + 3, none⟩ = some (.int .i64 os[k].op) := by
  unfold RowO at h
  rcases h.2 with ⟨rfl, h2⟩ | ⟨g, cap, cur, rfl, hbg, hg, hc1, hc2, _⟩
  · omega
  · have hh : ∀ j (u : Value), j < 4 → (ocells os[k])[j]? = some u → w.cell? ⟨g, k * 4 + j, none⟩ = some u := fun j u hj hu => by
      have h1 := flat_get (olen os) k (by simpa using hk) j hj
      have := h.cells (g := g) rfl (k * 4 + j) u (by rw [h1]; simpa using hu)
      rwa [add_none, Nat.zero_add] at this
    exact ⟨g, cap, rfl, hc1, hbg, heap_lt hg, hh 0 _ (by decide) rfl, hh 1 _ (by decide) rfl, hh 2 _ (by decide) rfl, hh 3 _ (by decide) rfl⟩
theorem RowW.form {w : World} {base : Nat} {ws : List Wd} {v : Value} (h : RowW w base ws v) : ∃ A c, v = .slice A ws.length c ∧ ws.length ≤ c := by
  rcases h.2 with ⟨rfl, h2⟩ | ⟨g, cap, cur, rfl, hbg, hg, hc1, hc2, _⟩
  · exact ⟨none, 0, by rw [h2], by omega⟩
  · exact ⟨_, cap, rfl, hc1⟩
theorem RowO.form {w : World} {base : Nat} {os : List Ob} {v : Value} (h : RowO w base os v) : ∃ A c, v = .slice A os.length c ∧ os.length ≤ c := by
  rcases h.2 with ⟨rfl, h2⟩ | ⟨g, cap, cur, rfl, hbg, hg, hc1, hc2, _⟩
  · exact ⟨none, 0, by rw [h2], by omega⟩
  · exact ⟨_, cap, rfl, hc1⟩

/-- the heap H lies at block h: its threads' memories in block g, whose cells are A; all rows apart -/
structure HpRaw (w : World) (base h g c : Nat) (A : List Value) (H : Hp) : Prop where
  hb : base ≤ h
  gb : base ≤ g
  ne : h ≠ g
  cap : H.length ≤ c
  n4 : H.length ≤ 4
  box : w.heap[h]? = some (.cells #[.slice (some ⟨g, 0, none⟩) H.length c] 61 (0, 0))
  row : w.heap[g]? = some (.cells A.toArray 65 (0, 0))
  len : A.length = 2 * H.length
  wr : ∀ t, t < H.length → ∃ v, A[2 * t]? = some v ∧ RowW w base (getM H t).ws v
  or_ : ∀ t, t < H.length → ∃ v, A[2 * t + 1]? = some v ∧ RowO w base (getM H t).os v
  ap : ∀ (i j : Nat) (vi vj : Value) (b : Nat), A[i]? = some vi → A[j]? = some vj → vi.ownBlock = some b → vj.ownBlock = some b → i = j
  far : ∀ (i : Nat) (v : Value) (b : Nat), A[i]? = some v → v.ownBlock = some b → b ≠ h ∧ b ≠ g
/-- and all of it is as it can be -/
structure HpAt (w : World) (base h g c : Nat) (A : List Value) (H : Hp) : Prop extends HpRaw w base h g c A H where
  good : GoodH H
theorem HpRaw.lt {w : World} {base h g c : Nat} {A : List Value} {H : Hp} (X : HpRaw w base h g c A H) {i : Nat} {v : Value} {b : Nat} (hi : A[i]? = some v) (hb : v.ownBlock = some b) : base ≤ b ∧ b < w.heap.size := by
  have hl := X.len
  have : i < A.length := by
    rcases Nat.lt_or_ge i A.length with h1 | h1
    · exact h1
    · rw [List.getElem?_eq_none h1] at hi; cases hi
  rcases Nat.mod_two_eq_zero_or_one i with h0 | h0
  · obtain ⟨u, hu, hr⟩ := X.wr (i / 2) (by omega)
    rw [show 2 * (i / 2) = i from by omega, hi] at hu
    cases hu
    exact World.ownsRow.lt hr b hb
  · obtain ⟨u, hu, hr⟩ := X.or_ (i / 2) (by omega)
    rw [show 2 * (i / 2) + 1 = i from by omega, hi] at hu
    cases hu
    exact World.ownsRow.lt hr b hb
/-- what stays as it was in all blocks from base on that were there -/
theorem HpRaw.keep {w w' : World} {base h g c : Nat} {A : List Value} {H : Hp} (X : HpRaw w base h g c A H) (hk : ∀ b, base ≤ b → b < w.heap.size → w'.heap[b]? = w.heap[b]?) : HpRaw w' base h g c A H := by
  refine ⟨X.hb, X.gb, X.ne, X.cap, X.n4, (hk h X.hb (heap_lt X.box)).trans X.box, (hk g X.gb (heap_lt X.row)).trans X.row, X.len, fun t ht => ?_, fun t ht => ?_, X.ap, X.far⟩
  · obtain ⟨v, hv, hr⟩ := X.wr t ht
    exact ⟨v, hv, ownsRow_keep hr (fun b hb => hk b (X.lt hv hb).1 (X.lt hv hb).2)⟩
  · obtain ⟨v, hv, hr⟩ := X.or_ t ht
    exact ⟨v, hv, ownsRow_keep hr (fun b hb => hk b (X.lt hv hb).1 (X.lt hv hb).2)⟩
theorem HpAt.keep {w w' : World} {base h g c : Nat} {A : List Value} {H : Hp} (X : HpAt w base h g c A H) (hk : ∀ b, base ≤ b → b < w.heap.size → w'.heap[b]? = w.heap[b]?) : HpAt w' base h g c A H := ⟨X.toHpRaw.keep hk, X.good⟩
theorem HpAt.below {w w' : World} {base h g c : Nat} {A : List Value} {H : Hp} (X : HpAt w base h g c A H) (hb : Below w.heap.size w w') : HpAt w' base h g c A H := X.keep fun b _ hlt => hb.block b hlt
/-- what a walk wants to know of a heap -/
theorem HpRaw.seen {w : World} {base h g c : Nat} {A : List Value} {H : Hp} (X : HpRaw w base h g c A H) : w.cell? ⟨h, 0, none⟩ = some (.slice (some ⟨g, 0, none⟩) H.length c) ∧ h < w.heap.size ∧ g < w.heap.size ∧ H.length ≤ 4 :=
  ⟨by rw [cell_of_row _ _ 0 _ _ (0, 0) X.box]; rfl, heap_lt X.box, heap_lt X.row, X.n4⟩
theorem HpRaw.cellW {w : World} {base h g c : Nat} {A : List Value} {H : Hp} (X : HpRaw w base h g c A H) (i : Nat) {v : Value} (hv : A[i]? = some v) : w.cell? ⟨g, i, none⟩ = some v := by
  rw [cell_of_row _ _ i _ _ (0, 0) X.row]
  simpa using hv
theorem getM_set {H : Hp} {t : Nat} (ht : t < H.length) (m : Mm) (u : Nat) : getM (H.set t m) u = if t = u then m else getM H u := by
  unfold getM
  rw [List.getElem?_set]
  by_cases e : t = u
  · rw [if_pos e, if_pos e, if_pos (by omega)]; rfl
  · rw [if_neg e, if_neg e]
/-- a row of the heap is another one: either the old one is written, or it lies in a new block -/
theorem HpRaw.turned {w w' : World} {base h g c : Nat} {A : List Value} {H : Hp} (X : HpRaw w base h g c A H) {t i : Nat} (ht : t < H.length) {v v' : Value} (hv : A[i]? = some v) (m : Mm)
    (hm : (i = 2 * t ∧ m.os = (getM H t).os ∧ RowW w' base m.ws v') ∨ (i = 2 * t + 1 ∧ m.ws = (getM H t).ws ∧ RowO w' base m.os v'))
    (hk : ∀ b, base ≤ b → b < w.heap.size → v.ownBlock ≠ some b → b ≠ g → w'.heap[b]? = w.heap[b]?)
    (hrow : w'.heap[g]? = some (.cells (A.set i v').toArray 65 (0, 0)))
    (hown : v'.ownBlock = v.ownBlock ∨ ∃ b, v'.ownBlock = some b ∧ w.heap.size ≤ b) : HpRaw w' base h g c (A.set i v') (H.set t m) := by
  have hlt : i < A.length := by have := X.len; rcases hm with hm | hm <;> omega
  have hoth : ∀ (j : Nat) (u : Value) (b : Nat), j ≠ i → A[j]? = some u → u.ownBlock = some b → w'.heap[b]? = w.heap[b]? := fun j u b hj hu hb =>
    hk b (X.lt hu hb).1 (X.lt hu hb).2 (fun e => hj (X.ap j i u v b hu hv hb e)) (X.far j u b hu hb).2
  have hnew : ∀ (b : Nat), v'.ownBlock = some b → v.ownBlock = some b ∨ w.heap.size ≤ b := fun b hb => by
    rcases hown with h1 | ⟨b', h1, h2⟩
    · exact .inl (h1 ▸ hb)
    · rw [h1] at hb; cases hb; exact .inr h2
  refine ⟨X.hb, X.gb, X.ne, by rw [List.length_set]; exact X.cap, by rw [List.length_set]; exact X.n4, ?_, hrow, by rw [List.length_set, List.length_set]; exact X.len, fun u hu => ?_, fun u hu => ?_, fun j k vj vk b hj hk2 hbj hbk => ?_, fun j u b hj hb => ?_⟩
  · rw [List.length_set]
    refine (hk h X.hb (heap_lt X.box) (fun e => (X.far i v h hv e).1 rfl) X.ne).trans X.box
  · rw [List.length_set] at hu
    rw [getM_set ht]
    by_cases e : t = u
    · subst e
      rw [if_pos rfl]
      rcases hm with ⟨rfl, -, h3⟩ | ⟨rfl, h2, -⟩
      · exact ⟨v', by rw [List.getElem?_set, if_pos rfl, if_pos hlt], h3⟩
      · obtain ⟨x, hx, hr⟩ := X.wr t ht
        refine ⟨x, by rw [List.getElem?_set, if_neg (by omega)]; exact hx, ?_⟩
        rw [h2]
        exact ownsRow_keep hr (fun b hb => hoth _ _ b (by omega) hx hb)
    · rw [if_neg e]
      obtain ⟨x, hx, hr⟩ := X.wr u hu
      exact ⟨x, by rw [List.getElem?_set, if_neg (by rcases hm with hm | hm <;> omega)]; exact hx, ownsRow_keep hr (fun b hb => hoth _ _ b (by rcases hm with hm | hm <;> omega) hx hb)⟩
  · rw [List.length_set] at hu
    rw [getM_set ht]
    by_cases e : t = u
    · subst e
      rw [if_pos rfl]
      rcases hm with ⟨rfl, h2, -⟩ | ⟨rfl, -, h3⟩
      · obtain ⟨x, hx, hr⟩ := X.or_ t ht
        refine ⟨x, by rw [List.getElem?_set, if_neg (by omega)]; exact hx, ?_⟩
        rw [h2]
        exact ownsRow_keep hr (fun b hb => hoth _ _ b (by omega) hx hb)
      · exact ⟨v', by rw [List.getElem?_set, if_pos rfl, if_pos hlt], h3⟩
    · rw [if_neg e]
      obtain ⟨x, hx, hr⟩ := X.or_ u hu
      exact ⟨x, by rw [List.getElem?_set, if_neg (by rcases hm with hm | hm <;> omega)]; exact hx, ownsRow_keep hr (fun b hb => hoth _ _ b (by rcases hm with hm | hm <;> omega) hx hb)⟩
  · rw [List.getElem?_set] at hj hk2
    by_cases e1 : i = j
    · by_cases e2 : i = k
      · omega
      · rw [if_pos e1, if_pos hlt] at hj
        rw [if_neg e2] at hk2
        cases hj
        exfalso
        rcases hnew b hbj with h1 | h1
        · exact e2 (X.ap i k v vk b hv hk2 h1 hbk)
        · have := (X.lt hk2 hbk).2; omega
    · rw [if_neg e1] at hj
      by_cases e2 : i = k
      · rw [if_pos e2, if_pos hlt] at hk2
        cases hk2
        exfalso
        rcases hnew b hbk with h1 | h1
        · exact e1 (X.ap i j v vj b hv hj h1 hbj)
        · have := (X.lt hj hbj).2; omega
      · rw [if_neg e2] at hk2
        exact X.ap j k vj vk b hj hk2 hbj hbk
  · rw [List.getElem?_set] at hj
    by_cases e1 : i = j
    · rw [if_pos e1, if_pos hlt] at hj
      cases hj
      rcases hnew b hb with h1 | h1
      · exact X.far i v b hv h1
      · have h2 := heap_lt X.box
        have h3 := heap_lt X.row
        exact ⟨by omega, by omega⟩
    · rw [if_neg e1] at hj
      exact X.far j u b hj hb
theorem HpAt.words {w : World} {base h g c : Nat} {A : List Value} {H : Hp} (X : HpAt w base h g c A H) {t : Nat} (ht : t < H.length) : ∃ B d, w.cell? ⟨g, t * 2, none⟩ = some (.slice B (getM H t).ws.length d) ∧ (getM H t).ws.length ≤ d ∧ A[2 * t]? = some (.slice B (getM H t).ws.length d) ∧ RowW w base (getM H t).ws (.slice B (getM H t).ws.length d) ∧ (getM H t).ws.length ≤ 64 := by
  obtain ⟨v, hv, hr⟩ := X.wr t ht
  obtain ⟨B, d, rfl, hd⟩ := hr.form
  refine ⟨B, d, ?_, hd, hv, hr, (X.good.get t).2⟩
  rw [cell_of_row _ _ (t * 2) _ _ (0, 0) X.row, Nat.mul_comm]
  simpa using hv
theorem HpAt.objects {w : World} {base h g c : Nat} {A : List Value} {H : Hp} (X : HpAt w base h g c A H) {t : Nat} (ht : t < H.length) : ∃ B d, w.cell? ⟨g, t * 2 + 1, none⟩ = some (.slice B (getM H t).os.length d) ∧ (getM H t).os.length ≤ d ∧ A[2 * t + 1]? = some (.slice B (getM H t).os.length d) ∧ RowO w base (getM H t).os (.slice B (getM H t).os.length d) ∧ (getM H t).os.length ≤ 64 := by
  obtain ⟨v, hv, hr⟩ := X.or_ t ht
  obtain ⟨B, d, rfl, hd⟩ := hr.form
  refine ⟨B, d, ?_, hd, hv, hr, ?_⟩
  · rw [cell_of_row _ _ (t * 2 + 1) _ _ (0, 0) X.row, Nat.mul_comm]
    simpa using hv
  · have h1 := X.good.get t
    have := chained_le h1.1
    have := h1.2
    omega

end Go.Proofs.Ytnplekfpncjnpaa
