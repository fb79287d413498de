/- The evaluator: EvChunk. -/
import Derived.Test.YtfmnoohkllmbmaaGreatDoorEvInst
set_option linter.unusedVariables false
set_option linter.unusedSimpArgs false
namespace Go.Proofs.YtfmnoohkllmbmaaGreatDoor
namespace Ev
open Go.RowKit

/-! ### A run in parts -/
def beqP : List (AV × AV) → List (AV × AV) → Bool
  | [], [] => true
  | (a, b) :: l, (c, d) :: m => AV.beq a c && AV.beq b d && beqP l m
  | _, _ => false

def ABk.beq : ABk → ABk → Bool
  | .cells e sz g ro cs, .cells e' sz' g' ro' cs' => Nat.beq e e' && Nat.beq sz sz' && (g == g') && (ro == ro') && beqL cs cs'
  | .map es n, .map es' n' => beqP es es' && Nat.beq n n'
  | .chan n b s r, .chan n' b' s' r' => Nat.beq n n' && beqL b b' && Nat.beq s s' && Nat.beq r r'
  | _, _ => false

theorem beqP_eq : ∀ (l m : List (AV × AV)), beqP l m = true → l = m
  | [], [], _ => rfl
  | [], _ :: _, h => by cases h
  | _ :: _, [], h => by cases h
  | (a, b) :: l, (c, d) :: m, h => by
    simp only [beqP, Bool.and_eq_true] at h
    rw [beq_eq a c h.1.1, beq_eq b d h.1.2, beqP_eq l m h.2]

theorem ABk.beq_eq (x y : ABk) (h : ABk.beq x y = true) : x = y := by
  cases x <;> cases y <;> simp only [ABk.beq] at h <;> try (cases h; done)
  · simp only [Bool.and_eq_true] at h
    obtain ⟨⟨⟨⟨h1, h2⟩, h3⟩, h4⟩, h5⟩ := h
    rw [Nat.eq_of_beq_eq_true h1, Nat.eq_of_beq_eq_true h2, eq_of_beq h3, eq_of_beq h4, beqL_eq _ _ h5]
  · simp only [Bool.and_eq_true] at h
    rw [beqP_eq _ _ h.1, Nat.eq_of_beq_eq_true h.2]
  · simp only [Bool.and_eq_true] at h
    obtain ⟨⟨⟨h1, h2⟩, h3⟩, h4⟩ := h
    rw [Nat.eq_of_beq_eq_true h1, beqL_eq _ _ h2, Nat.eq_of_beq_eq_true h3, Nat.eq_of_beq_eq_true h4]

/-- is all that the first state knows known in the second? -/
def leSt (a b : St) : Bool :=
  Nat.beq a.nt b.nt && Nat.ble b.next a.next && beqL a.defers b.defers &&
  T.chk (fun i x => match b.tm.get i with | some y => AV.beq x y | none => false) a.tm 1 0 &&
  T.chk (fun i x => match b.heap.get i with | some y => ABk.beq x y | none => false) a.heap 1 0

section
variable {P : Program} {E : Env}

theorem StR.less {w0 : World} {B : Nat} {c : Cx} {s t : St} {a : Act} {w : World} (h : StR E w0 B c t a w) (hl : leSt s t = true) : StR E w0 B c s a w := by
  simp only [leSt, Bool.and_eq_true] at hl
  obtain ⟨⟨⟨⟨h1, h2⟩, h3⟩, h4⟩, h5⟩ := hl
  have hn : s.nt = t.nt := Nat.eq_of_beq_eq_true h1
  have hx : t.next ≤ s.next := Nat.le_of_ble_eq_true h2
  have ht : ∀ k x, s.tm.get k = some x → t.tm.get k = some x := fun k x hk => by
    have := T.chk_ok _ _ _ _ _ h4 hk
    simp only [Nat.one_mul, Nat.add_zero] at this
    split at this
    · rename_i y hy
      rw [hy, beq_eq _ _ this]
    · cases this
  have hh : ∀ k x, s.heap.get k = some x → t.heap.get k = some x := fun k x hk => by
    have := T.chk_ok _ _ _ _ _ h5 hk
    simp only [Nat.one_mul, Nat.add_zero] at this
    split at this
    · rename_i y hy
      rw [hy, ABk.beq_eq _ _ this]
    · cases this
  refine ⟨⟨h.mem.below, h.mem.size, ⟨fun i x b hi hb => h.mem.heap.bk i x b (hh i x hi) hb, fun i j x y b hi hj => h.mem.heap.inj i j x y b (hh i x hi) (hh j y hj)⟩, fun i b hb => Nat.lt_of_lt_of_le (h.mem.fresh i b hb) hx,
    fun i x hi => Nat.lt_of_lt_of_le (h.mem.top i x (hh i x hi)) hx⟩, ⟨by rw [hn]; exact h.tm.size, fun k x hk => h.tm.at_ k x (ht k x hk)⟩, by rw [beqL_eq _ _ h3]; exact h.defers, h.gl⟩

/-- from a state the code comes to another one -/
def Runs (P : Program) (E : Env) (code : Code) (st : St) (ex : Ex) (st' : St) : Prop :=
  ∀ (w0 : World) (B : Nat) (c : Cx) (a : Act) (w : World), StR E w0 B c st a w → ∀ Q : Exit → Act → World → Prop, (∀ c' a' w', StR E w0 B c' st' a' w' → Q (exOf ex) a' w') → code.wp P Q a w

/-- what the kernel is asked -/
def chunk (E : Env) (n : Nat) (code : Code) (st : St) (ret : Bool) (st' : St) : Bool :=
  match ev E n code st with
  | some (.norm, s) => match ret with
    | true => false
    | false => leSt st' s
  | some (.ret, s) => match ret with
    | true => leSt st' s
    | false => false
  | _ => false

theorem Runs.of (HE : EnvOk P E) (HF : FnsOk P E) {n : Nat} {code : Code} {st st' : St} {ret : Bool} (h : chunk E n code st ret st' = true) : Runs P E code st (match ret with | true => .ret | false => .norm) st' := by
  intro w0 B c a w hr Q hQ
  have HR := ev_ok HE HF (draw_ok HE HF (w0 := w0) (B := B)) n
  unfold chunk at h
  split at h
  · rename_i s hs
    cases ret
    · exact HR _ _ _ _ hs c a w hr Q fun c' a' w' st => hQ c' a' w' (st.rel.less h)
    · cases h
  · rename_i s hs
    cases ret
    · cases h
    · exact HR _ _ _ _ hs c a w hr Q fun c' a' w' st => hQ c' a' w' (st.rel.less h)
  · cases h

def fstC : Code → Code
  | .seq a _ => a
  | c => c
def sndC : Code → Code
  | .seq _ b => b
  | c => c
def isSeq : Code → Bool
  | .seq _ _ => true
  | _ => false

theorem Runs.seq {code : Code} {st st1 st2 : St} {ex : Ex} (hs : isSeq code = true) (h1 : Runs P E (fstC code) st .norm st1) (h2 : Runs P E (sndC code) st1 ex st2) : Runs P E code st ex st2 := by
  cases code <;> first | cases hs | skip
  intro w0 B c a w hr Q hQ
  exact wp_seq (h1 w0 B c a w hr _ fun c' a' w' hr' => h2 w0 B c' a' w' hr' Q hQ)

/-- a sequence's rest that ends early -/
theorem Runs.seq_ret {code : Code} {st st1 : St} (hs : isSeq code = true) (h1 : Runs P E (fstC code) st .ret st1) : Runs P E code st .ret st1 := by
  cases code <;> first | cases hs | skip
  intro w0 B c a w hr Q hQ
  exact wp_seq (h1 w0 B c a w hr _ fun c' a' w' hr' => hQ c' a' w' hr')

/-- a closed call whose body is carried out in parts -/
theorem Runs.closed (HE : EnvOk P E) (HF : FnsOk P E) (hgl : ∀ g b, E.gl.get g = some b → False) {f : Nat} {fn : Func} {code : Code} (hf : P.funcs[f]? = some fn) (hb : fn.body = some code) {st : St} (hnt : fn.ntmps = st.nt)
    {nx : Nat} (h0 : st = ⟨.leaf, st.nt, [], .leaf, nx⟩) {st' : St} (h : Runs P E code st .ret st') (hd : st'.defers = []) (hres : resultsOf E st'.tm st'.heap fn.results.toList = some [.bool true]) (w : World) :
    Calls P f #[] w fun e w' => e = .returned (.bool true) ∧ Below w.heap.size w w' := by
  refine calls_of_wp_defers hf hb ?_
  have S : SR w w.heap.size ⟨fun _ => none, fun _ => 0⟩ .leaf nx w := ⟨Below.refl _ _, Nat.le_refl _, HR_leaf _ _ _, fun i b h => (by cases h), fun i x h => (by cases h)⟩
  have st0 : StR E w w.heap.size ⟨fun _ => none, fun _ => 0⟩ st { tmps := #[] ++ Array.replicate (fn.ntmps - (#[] : Array Value).size) undef, defers := [] } w := by
    rw [h0]
    exact ⟨S, ⟨by simp [hnt], fun t x hx => (by cases hx)⟩, .nil, fun g b h => (hgl g b h).elim⟩
  refine h w w.heap.size _ _ w st0 _ fun c' a' w' hr => ?_
  refine leaves_ok HF hr.defers w' (by rw [hd]; rfl) hr.mem (fun w'' hS'' => ?_)
  obtain ⟨val, h1, h2⟩ := resultsV_ok (P := P) HE hS''.heap hr.tm hres
  exact ⟨val, h1, by rw [VR.boolE (show VR c' (.bool true) val from h2)], hS''.below⟩

end
end Ev
end Go.Proofs.YtfmnoohkllmbmaaGreatDoor
