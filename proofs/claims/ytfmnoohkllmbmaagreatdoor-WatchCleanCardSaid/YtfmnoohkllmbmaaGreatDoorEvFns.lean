/- The evaluator: EvFns. -/
import Derived.Test.YtfmnoohkllmbmaaGreatDoorEvChunk
import Derived.Lib.Bytealg
set_option linter.unusedVariables false
set_option linter.unusedSimpArgs false
namespace Go.Proofs.YtfmnoohkllmbmaaGreatDoor
namespace Ev
open Go.RowKit

/-! ### Functions of the library -/
def indexFrom (c : Nat) : List Nat → Nat → Int
  | [], _ => -1
  | b :: s, i => match Nat.beq b c with
    | true => .ofNat i
    | false => indexFrom c s (i + 1)

/-- strings.IndexByte -/
def indexA : List AV → Option AV
  | [.str s, .int .u8 (.ofNat n)] => match Nat.blt n 256 with
    | true => some (.int .i64 (indexFrom n s 0))
    | false => none
  | _ => none

/-- stringslite.Clone -/
def cloneA : List AV → Option AV
  | [.str s] => match Nat.ble s.length 281474976710656 with
    | true => some (.str s)
    | false => none
  | _ => none

theorem indexFrom_ok {c : Nat} (hc : c < 256) : ∀ (L : List UInt8) (i : Nat), indexFrom c (L.map (·.toNat)) i = if Lib.indexByte L c.toUInt8 = -1 then -1 else Lib.indexByte L c.toUInt8 + i
  | [], i => rfl
  | b :: L, i => by
    have hb : (b == c.toUInt8) = Nat.beq b.toNat c := by
      have h1 : c.toUInt8.toNat = c := by simp [UInt8.toNat_ofNat', Nat.mod_eq_of_lt hc]
      cases h : Nat.beq b.toNat c with
      | true =>
        have := Nat.eq_of_beq_eq_true h
        rw [beq_iff_eq]
        apply UInt8.toNat_inj.1
        rw [h1, this]
      | false =>
        rw [beq_eq_false_iff_ne]
        intro e
        rw [e, h1, Nat.beq_refl] at h
        cases h
    simp only [List.map_cons, indexFrom, Lib.indexByte, hb]
    cases h : Nat.beq b.toNat c with
    | true => simp
    | false =>
      simp only [Bool.false_eq_true, if_false]
      rw [indexFrom_ok hc L (i + 1)]
      have hge := Lib.indexByte_ge L c.toUInt8
      by_cases e : Lib.indexByte L c.toUInt8 = -1
      · simp [e]
      · have e' : (Lib.indexByte L c.toUInt8 == -1) = false := by simpa using e
        rw [if_neg e, e']
        simp only [Bool.false_eq_true, if_false]
        rw [if_neg (by omega)]
        simp
        omega

theorem LR.one {c : Cx} {a : AV} {l : List Value} (h : LR c [a] l) : ∃ x, l = [x] ∧ VR c a x := by
  have hl := h.len
  match l, hl with
  | [x], _ => exact ⟨x, rfl, h.at_ 0 a x rfl rfl⟩
theorem LR.two {c : Cx} {a b : AV} {l : List Value} (h : LR c [a, b] l) : ∃ x y, l = [x, y] ∧ VR c a x ∧ VR c b y := by
  have hl := h.len
  match l, hl with
  | [x, y], _ => exact ⟨x, y, rfl, h.at_ 0 a x rfl rfl, h.at_ 1 b y rfl rfl⟩

section
variable {P : Program} {f : Nat} (hcall : ∀ (args : Array Value) (w : World), (callFunc f args).run P w = .ok (.enter f args) w)
include hcall

theorem pure_index (h : ∀ (s : ByteArray) (c : Int) (w : World), Calls P f #[.string s, .int .u8 c] w fun e w' => e = .returned (.int .i64 (Lib.indexByte s.data.toList c.toNat.toUInt8)) ∧ w' = w)
    (c : Cx) (args : List AV) (vs : Array Value) (v : AV) (w : World) (hl : LR c args vs.toList) (hg : indexA args = some v) : CallsAny P f vs w fun val w' => VR c v val ∧ Below w.heap.size w w' := by
  unfold indexA at hg
  split at hg
  · rename_i s n
    split at hg
    · rename_i hn
      have hn : n < 256 := Nat.le_of_ble_eq_true hn
      cases hg
      obtain ⟨x, y, hxy, hx, hy⟩ := hl.two
      have hvs : vs = #[x, y] := by rw [← Array.toArray_toList (xs := vs), hxy]
      subst hvs
      cases hx
      cases hy
      rename_i s
      refine .inr ⟨hcall _ w, (h s n w).mono fun e w' he => ?_⟩
      obtain ⟨rfl, rfl⟩ := he
      refine ⟨_, rfl, ?_, Below.refl _ _⟩
      have he : indexFrom n (bytesOfArray s) 0 = Lib.indexByte s.data.toList n.toUInt8 := by
        have := indexFrom_ok hn s.data.toList 0
        unfold bytesOfArray
        rw [this]
        split
        · rename_i e; rw [e]
        · simp
      rw [he]
      exact .int _ _
    · cases hg
  · cases hg

theorem pure_clone (h : ∀ (s : ByteArray) (w : World), s.size ≤ 281474976710656 → Calls P f #[.string s] w fun e w' => e = .returned (.string s) ∧ Below w.heap.size w w')
    (c : Cx) (args : List AV) (vs : Array Value) (v : AV) (w : World) (hl : LR c args vs.toList) (hg : cloneA args = some v) : CallsAny P f vs w fun val w' => VR c v val ∧ Below w.heap.size w w' := by
  unfold cloneA at hg
  split at hg
  · split at hg
    · rename_i hn
      replace hn := Nat.le_of_ble_eq_true hn
      cases hg
      obtain ⟨x, hx1, hx⟩ := hl.one
      have hvs : vs = #[x] := by rw [← Array.toArray_toList (xs := vs), hx1]
      subst hvs
      cases hx
      rename_i s
      refine .inr ⟨hcall _ w, (h s w (by unfold bytesOfArray at hn; simpa using hn)).mono fun e w' he => ?_⟩
      obtain ⟨rfl, hb⟩ := he
      exact ⟨_, rfl, .str, hb⟩
    · cases hg
  · cases hg
end

/-! ### The tables of a seat -/
def PureOk (P : Program) (f : Nat) (g : List AV → Option AV) : Prop :=
  ∀ (c : Cx) (args : List AV) (vs : Array Value) (v : AV) (w : World), LR c args vs.toList → g args = some v → CallsAny P f vs w fun val w' => VR c v val ∧ Below w.heap.size w w'
def IdleOk (P : Program) (f n : Nat) : Prop :=
  ∀ (vs : Array Value) (w : World), vs.size = n → (callFunc f vs).run P w = .ok (.enter f vs) w ∧ CallsD P f vs .returning w fun e u' w' => (∃ v, e = .returned v) ∧ u' = .returning ∧ Below w.heap.size w w'
def PureAll (P : Program) : List (Nat × (List AV → Option AV)) → Prop
  | [] => True
  | x :: l => PureOk P x.1 x.2 ∧ PureAll P l
def IdleAll (P : Program) : List (Nat × Nat) → Prop
  | [] => True
  | x :: l => IdleOk P x.1 x.2 ∧ IdleAll P l
def listOfT {α : Type} : List (Nat × α) → T α
  | [] => .leaf
  | x :: l => (listOfT l).put (some x.2) x.1

theorem listOfT_mem {α : Type} : ∀ (l : List (Nat × α)) (k : Nat) (x : α), (listOfT l).get k = some x → (k, x) ∈ l
  | [], k, x, h => by cases h
  | (a, y) :: l, k, x, h => by
    simp only [listOfT] at h
    rw [T.get_put] at h
    split at h
    · rename_i e
      cases h
      subst e
      exact List.mem_cons_self
    · exact List.mem_cons_of_mem _ (listOfT_mem l k x h)

theorem PureAll.mem {P : Program} : ∀ {l : List (Nat × (List AV → Option AV))} (h : PureAll P l) {f : Nat} {g : List AV → Option AV}, (f, g) ∈ l → PureOk P f g
  | [], _, f, g, hm => by cases hm
  | x :: l, h, f, g, hm => by
    cases hm with
    | head => exact h.1
    | tail _ hm => exact PureAll.mem h.2 hm
theorem IdleAll.mem {P : Program} : ∀ {l : List (Nat × Nat)} (h : IdleAll P l) {f n : Nat}, (f, n) ∈ l → IdleOk P f n
  | [], _, f, n, hm => by cases hm
  | x :: l, h, f, n, hm => by
    cases hm with
    | head => exact h.1
    | tail _ hm => exact IdleAll.mem h.2 hm

/-- the tables of a seat: its types, its functions as they are, functions of the library, deferred closures that recover nothing -/
def envOf (ty : T TI) (pures : List (Nat × (List AV → Option AV))) (idles : List (Nat × Nat)) (P : Program) : Env :=
  { ty, fn := T.tab (fun i => P.funcs[i]?) 9 1 0, gl := .leaf, pure := listOfT pures, idle := listOfT idles }

theorem FnsOk.of {P : Program} {ty : T TI} {pures : List (Nat × (List AV → Option AV))} {idles : List (Nat × Nat)} (hm : P.follows .mixedOrders = true) (hn : T.chk (fun _ fn => !(fn.name == "runtime.NumGoroutine")) (envOf ty pures idles P).fn 1 0 = true)
    (hp : PureAll P pures) (hi : IdleAll P idles) : FnsOk P (envOf ty pures idles P) := by
  refine ⟨hm, fun f fn hf => ?_, fun f g hg => hp.mem (listOfT_mem _ _ _ hg), fun f n hf => hi.mem (listOfT_mem _ _ _ hf)⟩
  have h1 := T.tab_ok _ _ _ _ _ hf
  have h2 := T.chk_ok _ _ _ _ _ hn hf
  simp only [Nat.one_mul, Nat.add_zero] at h1
  exact ⟨h1, by simpa using h2⟩

theorem IdleOk.one {P : Program} {f : Nat} (hc : ∀ (args : Array Value) (w : World), (callFunc f args).run P w = .ok (.enter f args) w)
    (h : ∀ (a : Value) (w : World), CallsD P f #[a] .returning w fun e u' w' => e = .returned (.tuple #[]) ∧ u' = .returning ∧ Below w.heap.size w w') : IdleOk P f 1 := by
  intro vs w hsz
  refine ⟨hc _ _, ?_⟩
  obtain ⟨a, rfl⟩ : ∃ a, vs = #[a] := Array.size_eq_one_iff.1 hsz
  exact (h a w).mono fun e u' w' ⟨h1, h2, h3⟩ => ⟨⟨_, h1⟩, h2, h3⟩
theorem IdleOk.two {P : Program} {f : Nat} (hc : ∀ (args : Array Value) (w : World), (callFunc f args).run P w = .ok (.enter f args) w)
    (h : ∀ (a b : Value) (w : World), CallsD P f #[a, b] .returning w fun e u' w' => e = .returned (.tuple #[]) ∧ u' = .returning ∧ Below w.heap.size w w') : IdleOk P f 2 := by
  intro vs w hsz
  refine ⟨hc _ _, ?_⟩
  obtain ⟨a, b, rfl⟩ : ∃ a b, vs = #[a, b] := by
    have : vs = #[vs[0], vs[1]] := by
      apply Array.ext
      · simp [hsz]
      · intro i h1 h2
        simp at h2
        match i, h2 with
        | 0, _ => rfl
        | 1, _ => rfl
    exact ⟨_, _, this⟩
  exact (h a b w).mono fun e u' w' ⟨h1, h2, h3⟩ => ⟨⟨_, h1⟩, h2, h3⟩

end Ev
end Go.Proofs.YtfmnoohkllmbmaaGreatDoor
