/- The evaluator: EvVal. -/
import Derived.Test.YtfmnoohkllmbmaaGreatDoorEvRel
set_option linter.unusedVariables false
set_option linter.unusedSimpArgs false
namespace Go.Proofs.YtfmnoohkllmbmaaGreatDoor
namespace Ev
open Go.RowKit

/-- where the abstract blocks lie, and what room (in elements) those have whose room hangs on the tape -/
structure Cx where
  ρ : Nat → Option Nat
  κ : Nat → Nat

/-- an abstract value, and a value -/
inductive VR (c : Cx) : AV → Value → Prop
  | bool (b : Bool) : VR c (.bool b) (.bool b)
  | int (k : IntKind) (n : Int) : VR c (.int k n) (.int k n)
  | str {s : ByteArray} : VR c (.str (bytesOfArray s)) (.string s)
  | ptr {b o b' : Nat} (h : c.ρ b = some b') : VR c (.ptr b o) (.pointer (some ⟨b', o, none⟩))
  | nilPtr : VR c .nilPtr (.pointer none)
  | sl {b o n k b' : Nat} (h : c.ρ b = some b') : VR c (.sl b o n k) (.slice (some ⟨b', o, none⟩) n k)
  | gsl {b l n sz b' : Nat} (h : c.ρ b = some b') (hk : l + n ≤ c.κ b) : VR c (.gsl b l n sz) (.slice (some ⟨b', l * sz, none⟩) n (c.κ b - l))
  | esl {a : Addr} {k : Nat} : VR c .esl (.slice (some a) 0 k)
  | nilSl : VR c .nilSl (.slice none 0 0)
  | map {b b' : Nat} (h : c.ρ b = some b') : VR c (.map b) (.map (some b'))
  | nilMap : VR c .nilMap (.map none)
  | chan {b b' : Nat} (h : c.ρ b = some b') : VR c (.chan b) (.chan (some b'))
  | nilChan : VR c .nilChan (.chan none)
  | func {f : Nat} {xs ys : List AV} {xs' ys' : Array Value} (hx : xs.length = xs'.toList.length) (hx' : ∀ (k : Nat) (a : AV) (v : Value), xs[k]? = some a → xs'.toList[k]? = some v → VR c a v)
      (hy : ys.length = ys'.toList.length) (hy' : ∀ (k : Nat) (a : AV) (v : Value), ys[k]? = some a → ys'.toList[k]? = some v → VR c a v) : VR c (.func f xs ys) (.func (.func f) xs' ys')
  | nilFunc : VR c .nilFunc .nilFunc
  | iface {t : Nat} {a : AV} {v : Value} (h : VR c a v) : VR c (.iface t a) (.iface t v)
  | nilIface : VR c .nilIface .nilIface
  | agg {cs : List AV} {arr : Array Value} (hl : cs.length = arr.toList.length) (hp : ∀ (k : Nat) (a : AV) (v : Value), cs[k]? = some a → arr.toList[k]? = some v → VR c a v) : VR c (.agg cs) (.agg arr)
  | tup {cs : List AV} {arr : Array Value} (hl : cs.length = arr.toList.length) (hp : ∀ (k : Nat) (a : AV) (v : Value), cs[k]? = some a → arr.toList[k]? = some v → VR c a v) : VR c (.tup cs) (.tuple arr)

/-- lists of values -/
structure LR (c : Cx) (xs : List AV) (ys : List Value) : Prop where
  len : xs.length = ys.length
  at_ : ∀ (k : Nat) (a : AV) (v : Value), xs[k]? = some a → ys[k]? = some v → VR c a v

structure Cx.le (c c' : Cx) : Prop where
  ρ : ∀ i b, c.ρ i = some b → c'.ρ i = some b
  κ : ∀ i b, c.ρ i = some b → c'.κ i = c.κ i

theorem Cx.le.refl (c : Cx) : c.le c := ⟨fun _ _ h => h, fun _ _ _ => rfl⟩
theorem Cx.le.trans {a b c : Cx} (h : a.le b) (k : b.le c) : a.le c := ⟨fun i x hx => k.ρ i x (h.ρ i x hx), fun i x hx => (k.κ i x (h.ρ i x hx)).trans (h.κ i x hx)⟩

theorem VR.mono {c c' : Cx} (hc : c.le c') {a : AV} {v : Value} (h : VR c a v) : VR c' a v := by
  induction h with
  | bool b => exact .bool b
  | int k n => exact .int k n
  | str => exact .str
  | ptr h => exact .ptr (hc.ρ _ _ h)
  | nilPtr => exact .nilPtr
  | sl h => exact .sl (hc.ρ _ _ h)
  | gsl h hk => rw [← hc.κ _ _ h] at hk ⊢; exact .gsl (hc.ρ _ _ h) hk
  | esl => exact .esl
  | nilSl => exact .nilSl
  | map h => exact .map (hc.ρ _ _ h)
  | nilMap => exact .nilMap
  | chan h => exact .chan (hc.ρ _ _ h)
  | nilChan => exact .nilChan
  | func hx _ hy _ ih ih' => exact .func hx ih hy ih'
  | nilFunc => exact .nilFunc
  | iface _ ih => exact .iface ih
  | nilIface => exact .nilIface
  | agg hl _ ih => exact .agg hl ih
  | tup hl _ ih => exact .tup hl ih

theorem LR.mono {c c' : Cx} (hc : c.le c') {xs : List AV} {ys : List Value} (h : LR c xs ys) : LR c' xs ys := ⟨h.len, fun k a v ha hv => (h.at_ k a v ha hv).mono hc⟩
theorem LR.nil (c : Cx) : LR c [] [] := ⟨rfl, fun k a v h => by simp at h⟩
theorem LR.cons {c : Cx} {a : AV} {v : Value} {xs : List AV} {ys : List Value} (h : VR c a v) (hl : LR c xs ys) : LR c (a :: xs) (v :: ys) := by
  refine ⟨by simp [hl.len], fun k x y hx hy => ?_⟩
  cases k with
  | zero => simp at hx hy; subst hx; subst hy; exact h
  | succ k => simp at hx hy; exact hl.at_ k x y hx hy
theorem LR.head {c : Cx} {a : AV} {v : Value} {xs : List AV} {ys : List Value} (h : LR c (a :: xs) (v :: ys)) : VR c a v := h.at_ 0 a v rfl rfl
theorem LR.tail {c : Cx} {a : AV} {v : Value} {xs : List AV} {ys : List Value} (h : LR c (a :: xs) (v :: ys)) : LR c xs ys :=
  ⟨by have := h.len; simpa using this, fun k x y hx hy => h.at_ (k + 1) x y (by simpa using hx) (by simpa using hy)⟩
theorem LR.append {c : Cx} {xs xs' : List AV} {ys ys' : List Value} (h : LR c xs ys) (h' : LR c xs' ys') : LR c (xs ++ xs') (ys ++ ys') := by
  refine ⟨by simp [h.len, h'.len], fun k a v ha hv => ?_⟩
  have hl := h.len
  by_cases hk : k < xs.length
  · rw [List.getElem?_append_left hk] at ha
    rw [List.getElem?_append_left (by omega)] at hv
    exact h.at_ k a v ha hv
  · rw [List.getElem?_append_right (by omega)] at ha
    rw [List.getElem?_append_right (by omega), ← hl] at hv
    exact h'.at_ _ a v ha hv
theorem LR.get {c : Cx} {xs : List AV} {ys : List Value} (h : LR c xs ys) {k : Nat} {a : AV} (ha : xs[k]? = some a) : ∃ v, ys[k]? = some v ∧ VR c a v := by
  have hk : k < xs.length := (List.getElem?_eq_some_iff.1 ha).1
  have hk' : k < ys.length := h.len ▸ hk
  exact ⟨ys[k], List.getElem?_eq_getElem hk', h.at_ k a _ ha (List.getElem?_eq_getElem hk')⟩
theorem LR.sub {c : Cx} {xs : List AV} {ys : List Value} (h : LR c xs ys) (k n : Nat) : LR c ((xs.drop k).take n) ((ys.drop k).take n) := by
  refine ⟨by simp [h.len], fun j a v ha hv => ?_⟩
  rw [List.getElem?_take] at ha hv
  split at ha
  · rename_i hj
    rw [if_pos hj] at hv
    rw [List.getElem?_drop] at ha hv
    exact h.at_ _ a v ha hv
  · cases ha

theorem VR.aggL {c : Cx} {cs : List AV} {v : Value} (h : VR c (.agg cs) v) : ∃ arr, v = .agg arr ∧ LR c cs arr.toList := by
  cases h with
  | agg hl hp => exact ⟨_, rfl, hl, hp⟩
theorem LR.agg {c : Cx} {cs : List AV} {arr : Array Value} (h : LR c cs arr.toList) : VR c (.agg cs) (.agg arr) := .agg h.len h.at_
theorem VR.tupL {c : Cx} {cs : List AV} {v : Value} (h : VR c (.tup cs) v) : ∃ arr, v = .tuple arr ∧ LR c cs arr.toList := by
  cases h with
  | tup hl hp => exact ⟨_, rfl, hl, hp⟩
theorem LR.tup {c : Cx} {cs : List AV} {arr : Array Value} (h : LR c cs arr.toList) : VR c (.tup cs) (.tuple arr) := .tup h.len h.at_
theorem VR.cells {c : Cx} {a : AV} {v : Value} (h : VR c a v) : LR c a.cells v.cells.toList := by
  cases h with
  | agg hl hp => exact ⟨hl, hp⟩
  | _ => refine LR.cons ?_ (LR.nil c); constructor <;> assumption
theorem VR.isCell {c : Cx} {a : AV} {v : Value} (h : VR c a v) (ha : a.isCell = true) : v.oneCell' = true := by
  cases h <;> first | rfl | cases ha

mutual
/-- what is written as a constant is related wherever the blocks lie -/
theorem cvt_ok (c : Cx) : ∀ (v : Value) (a : AV), cvt v = some a → VR c a v := by
  intro v a h
  unfold cvt at h
  split at h
  case h_11 cs =>
    split at h
    · rename_i l hl
      cases h
      exact (cvtL_ok c cs l hl).agg
    · cases h
  case h_12 cs =>
    split at h
    · rename_i l hl
      cases h
      exact (cvtL_ok c cs l hl).tup
    · cases h
  all_goals cases h
  all_goals constructor
  all_goals first | rfl | (intro k a v h; simp at h)
theorem cvtL_ok (c : Cx) : ∀ (vs : List Value) (l : List AV), cvtL vs = some l → LR c l vs := by
  intro vs l h
  cases vs with
  | nil => simp only [cvtL, Option.some.injEq] at h; subst h; exact LR.nil c
  | cons v vs =>
    simp only [cvtL] at h
    split at h
    · rename_i a ha
      split at h
      · rename_i l' hl
        cases h
        exact LR.cons (cvt_ok c v a ha) (cvtL_ok c vs l' hl)
      · cases h
    · cases h
end

/-- a block -/
def BR (c : Cx) (κ B b : Nat) : ABk → Obj → Prop
  | .cells e sz g ro cs, .cells arr e' fz => e' = e ∧ cs.length ≤ arr.size ∧ (∀ (k : Nat) (a : AV), cs[k]? = some a → ∃ v, arr[k]? = some v ∧ VR c a v) ∧
      (ro = false → fz = (0, 0) ∧ B ≤ b) ∧ (g = false → arr.size = cs.length) ∧ (g = true → arr.size = κ * sz)
  | .map es cl, .map arr cl' => cl' = cl ∧ B ≤ b ∧ ∃ es' : List (AV × AV), es'.Perm es ∧ LR c (es'.map (·.1)) (arr.toList.map (·.key)) ∧ LR c (es'.map (·.2)) (arr.toList.map (·.val))
  | .chan n buf s r, .chan n' buf' cl s' r' t => B ≤ b ∧ n' = n ∧ cl = false ∧ s' = s ∧ r' = r ∧ t = false ∧ LR c buf buf'.toList
  | _, _ => False

structure HR (c : Cx) (B : Nat) (h : T ABk) (w : World) : Prop where
  bk : ∀ i x b, h.get i = some x → c.ρ i = some b → ∃ o, w.heap[b]? = some o ∧ BR c (c.κ i) B b x o
  inj : ∀ i j x y b, h.get i = some x → h.get j = some y → c.ρ i = some b → c.ρ j = some b → i = j

/-- a state of the memory -/
structure SR (w0 : World) (B : Nat) (c : Cx) (h : T ABk) (nx : Nat) (w : World) : Prop where
  below : Below B w0 w
  size : B ≤ w.heap.size
  heap : HR c B h w
  fresh : ∀ i b, c.ρ i = some b → i < nx
  top : ∀ i x, h.get i = some x → i < nx

/-- what was known of the blocks below n is known still, and no more -/
structure Cx.ext (n : Nat) (c c' : Cx) : Prop where
  ρ : ∀ i, i < n → c'.ρ i = c.ρ i
  κ : ∀ i, i < n → c'.κ i = c.κ i

theorem Cx.ext.refl (n : Nat) (c : Cx) : c.ext n c := ⟨fun _ _ => rfl, fun _ _ => rfl⟩
theorem Cx.ext.trans {n n' : Nat} {a b c : Cx} (h : a.ext n b) (hn : n ≤ n') (k : b.ext n' c) : a.ext n c :=
  ⟨fun i hi => (k.ρ i (by omega)).trans (h.ρ i hi), fun i hi => (k.κ i (by omega)).trans (h.κ i hi)⟩
theorem Cx.ext.le {n : Nat} {c c' : Cx} (h : c.ext n c') (hf : ∀ i b, c.ρ i = some b → i < n) : c.le c' :=
  ⟨fun i b hb => (h.ρ i (hf i b hb)).trans hb, fun i b hb => h.κ i (hf i b hb)⟩

theorem BR.mono {c c' : Cx} (hc : c.le c') {κ B b : Nat} {x : ABk} {o : Obj} (h : BR c κ B b x o) : BR c' κ B b x o := by
  cases x <;> cases o <;> simp only [BR] at h ⊢
  · obtain ⟨h1, h2, h3, h4⟩ := h
    refine ⟨h1, h2, fun k a ha => ?_, h4⟩
    obtain ⟨v, hv, hr⟩ := h3 k a ha
    exact ⟨v, hv, hr.mono hc⟩
  · obtain ⟨h1, h2, es', hp, h3, h4⟩ := h
    exact ⟨h1, h2, es', hp, h3.mono hc, h4.mono hc⟩
  · obtain ⟨h1, h2, h3, h4, h5, h6, h7⟩ := h
    exact ⟨h1, h2, h3, h4, h5, h6, h7.mono hc⟩

/-- one block more, under a number that was free -/
def Cx.add (c : Cx) (i b κ : Nat) : Cx := ⟨fun j => if j = i then some b else c.ρ j, fun j => if j = i then κ else c.κ j⟩

theorem Cx.add_ρ (c : Cx) (i b κ : Nat) : (c.add i b κ).ρ i = some b := by simp [Cx.add]
theorem Cx.add_κ (c : Cx) (i b κ : Nat) : (c.add i b κ).κ i = κ := by simp [Cx.add]
theorem Cx.le_add {c : Cx} {i : Nat} (b κ : Nat) (h : c.ρ i = none) : c.le (c.add i b κ) := by
  refine ⟨fun j b' hj => ?_, fun j b' hj => ?_⟩
  · have : j ≠ i := fun e => by subst e; rw [h] at hj; cases hj
    simp [Cx.add, this, hj]
  · have : j ≠ i := fun e => by subst e; rw [h] at hj; cases hj
    simp [Cx.add, this]
theorem Cx.ext_add (c : Cx) (n b κ : Nat) : c.ext n (c.add n b κ) :=
  ⟨fun i hi => by simp [Cx.add, Nat.ne_of_lt hi], fun i hi => by simp [Cx.add, Nat.ne_of_lt hi]⟩

theorem HR.lt {c : Cx} {B : Nat} {h : T ABk} {w : World} (H : HR c B h w) {i b : Nat} {x : ABk} (hi : h.get i = some x) (hb : c.ρ i = some b) : b < w.heap.size := by
  obtain ⟨o, ho, _⟩ := H.bk i x b hi hb
  exact (Array.getElem?_eq_some_iff.1 ho).1

theorem HR.drew {c : Cx} {B : Nat} {h : T ABk} {w : World} (H : HR c B h w) : HR c B h w.drew := ⟨H.bk, H.inj⟩
theorem SR.drew {w0 : World} {B : Nat} {c : Cx} {h : T ABk} {nx : Nat} {w : World} (H : SR w0 B c h nx w) : SR w0 B c h nx w.drew := ⟨H.below.drew, H.size, H.heap.drew, H.fresh, H.top⟩

/-- a new block comes to lie at the end of the memory: its number i is reserved already -/
theorem HR.new {c : Cx} {B : Nat} {h : T ABk} {w : World} (H : HR c B h w) {i κ : Nat} {x : ABk} (hc : c.ρ i = none) (hx : h.get i = some x) (o : Obj)
    (hb : BR (c.add i w.heap.size κ) κ B w.heap.size x o) : HR (c.add i w.heap.size κ) B h (w.alloc o) := by
  refine ⟨fun j y b hj hjb => ?_, fun j k y z b hj hk hjb hkb => ?_⟩
  · by_cases hji : j = i
    · subst hji
      rw [Cx.add_ρ] at hjb
      cases hjb
      rw [hx] at hj
      cases hj
      rw [Cx.add_κ]
      exact ⟨o, heap_alloc_new w o, hb⟩
    · have hjb' : c.ρ j = some b := by simpa [Cx.add, hji] using hjb
      obtain ⟨o', ho', hr⟩ := H.bk j y b hj hjb'
      refine ⟨o', ?_, ?_⟩
      · rw [heap_alloc_old w o b (H.lt hj hjb')]; exact ho'
      · have : (c.add i w.heap.size κ).κ j = c.κ j := by simp [Cx.add, hji]
        rw [this]
        exact hr.mono (Cx.le_add _ _ hc)
  · by_cases hji : j = i
    · by_cases hki : k = i
      · rw [hji, hki]
      · subst hji
        rw [Cx.add_ρ] at hjb
        cases hjb
        have hkb' : c.ρ k = some w.heap.size := by simpa [Cx.add, hki] using hkb
        exact absurd (H.lt hk hkb') (by omega)
    · have hjb' : c.ρ j = some b := by simpa [Cx.add, hji] using hjb
      by_cases hki : k = i
      · subst hki
        rw [Cx.add_ρ] at hkb
        cases hkb
        exact absurd (H.lt hj hjb') (by omega)
      · have hkb' : c.ρ k = some b := by simpa [Cx.add, hki] using hkb
        exact H.inj j k y z b hj hk hjb' hkb'

/-- what is put under a number that no block has yet -/
theorem HR.put_free {c : Cx} {B : Nat} {h : T ABk} {w : World} (H : HR c B h w) {i : Nat} (hc : c.ρ i = none) (x : Option ABk) : HR c B (h.put x i) w := by
  refine ⟨fun j y b hj hjb => ?_, fun j k y z b hj hk hjb hkb => ?_⟩
  · have hji : j ≠ i := fun e => by subst e; rw [hc] at hjb; cases hjb
    rw [T.get_put, if_neg hji] at hj
    exact H.bk j y b hj hjb
  · have hji : j ≠ i := fun e => by subst e; rw [hc] at hjb; cases hjb
    have hki : k ≠ i := fun e => by subst e; rw [hc] at hkb; cases hkb
    rw [T.get_put, if_neg hji] at hj
    rw [T.get_put, if_neg hki] at hk
    exact H.inj j k y z b hj hk hjb hkb

theorem HR.rm {c : Cx} {B : Nat} {h : T ABk} {w : World} (H : HR c B h w) (i : Nat) : HR c B (rm h i) w := by
  unfold Ev.rm
  refine ⟨fun j y b hj hjb => ?_, fun j k y z b hj hk hjb hkb => ?_⟩
  · rw [T.get_put] at hj
    split at hj
    · cases hj
    · exact H.bk j y b hj hjb
  · rw [T.get_put] at hj hk
    split at hj
    · cases hj
    · split at hk
      · cases hk
      · exact H.inj j k y z b hj hk hjb hkb

/-- a block is written -/
theorem HR.write {c : Cx} {B : Nat} {h : T ABk} {w w' : World} (H : HR c B h w) {i b : Nat} {x y : ABk} {o : Obj} (hx : h.get i = some x) (hb : c.ρ i = some b)
    (hw : w'.heap[b]? = some o) (ho : ∀ k, k ≠ b → w'.heap[k]? = w.heap[k]?) (hr : BR c (c.κ i) B b y o) : HR c B (h.put (some y) i) w' := by
  refine ⟨fun j z b' hj hjb => ?_, fun j k z z' b' hj hk hjb hkb => ?_⟩
  · rw [T.get_put] at hj
    split at hj
    · rename_i e
      subst e
      cases hj
      rw [hb] at hjb
      cases hjb
      exact ⟨o, hw, hr⟩
    · rename_i e
      have hne : b' ≠ b := fun e' => e (H.inj j i z x b' hj hx hjb (e' ▸ hb))
      obtain ⟨o', ho', hr'⟩ := H.bk j z b' hj hjb
      exact ⟨o', (ho b' hne).trans ho', hr'⟩
  · have get : ∀ j z, (h.put (some y) i).get j = some z → ∃ z', h.get j = some z' := fun j z hj => by
      rw [T.get_put] at hj
      split at hj
      · rename_i e; subst e; exact ⟨x, hx⟩
      · exact ⟨z, hj⟩
    obtain ⟨u, hu⟩ := get j z hj
    obtain ⟨u', hu'⟩ := get k z' hk
    exact H.inj j k u u' b' hu hu' hjb hkb

end Ev
end Go.Proofs.YtfmnoohkllmbmaaGreatDoor
