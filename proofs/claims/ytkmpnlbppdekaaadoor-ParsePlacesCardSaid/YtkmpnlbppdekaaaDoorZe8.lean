/- Ro Tb Cc Cd -/
import Derived.Test.YtkmpnlbppdekaaaDoorZe5
import Derived.Test.YtkmpnlbppdekaaaDoorRows
import Derived.ProofKit
import Derived.Deep.Slices
import Derived.OpenShut
import Derived.ChangeMaps5
import Derived.Shelf.Small.Strs
import Derived.Shelf.LaysM
import Derived.Shelf.Strconv.Clone
import Derived.Shelf.Strings.Search1
import Derived.Shelf.Strings.Prefix
import Derived.WalkKit
import Derived.WalkSpells
import Derived.WalkLawsBesides
import Derived.Lib.Hide
import Derived.Lib.IndexAny
import Derived.OwnWalk
import Derived.Deep.AppendLies
import Derived.Laws.AppendOwnNone
import Derived.Deep.QuietTactic
import Derived.BigQuiet
import Derived.StillTailTactics
import Derived.IntWalk
import Derived.Lib.ItoaNum
import Derived.Recover
import Derived.Lib.AppendStr
import Derived.Lib.BufferRead
import Derived.Shelf.Small.Wraps
import Derived.Shelf.Strconv.Itoa0
import Derived.Shelf.Strconv.Itoa1
import Derived.Shelf.Strconv.Itoa2
import Derived.Shelf.Strconv.Itoa3
import Derived.Shelf.Slices.Turned
import Derived.Lib.AppendIntMem
import Derived.Shelf.Strconv.Atoi
import Derived.Lib.AtoiErrMem
section
namespace Go.Proofs.YtkmpnlbppdekaaaDoor
open Go.ChangeShapes Go.WideShapes Go.ChangeAt Go.RowKit
theorem shut_true {H : Type} {enc : TypeId × Value → H} {W : World} {base : Nat} {sp : Nat → Bool} {held : Bool} (b : Bool) : DataW.Trod enc Tryd.prog W base sp held 4 (.bool b) (.lit (.bool b)) [] :=
  ⟨1, by simp [DataW.trod, Value.cells, Tryd.underlying4]⟩
end Go.Proofs.YtkmpnlbppdekaaaDoor
end
section
set_option linter.unusedVariables false
namespace Go.Proofs.YtkmpnlbppdekaaaDoor
theorem sc_err_at : ∀ (l : List UInt8) (p n q c : Nat), sc l 0 p n = .err q c → q ≤ p + l.length := by
  intro l
  refine sc_ind (P := fun l => ∀ (p n q c : Nat), sc l 0 p n = .err q c → q ≤ p + l.length) ?_ ?_ ?_ ?_ l
  · intro p n q c h
    have e : Res.ok [] = .err q c := h
    cases e
  · intro d r hb ih p n q c h
    rw [sc_blank hb] at h
    have := ih _ _ _ _ h
    rw [List.length_cons]; omega
  · intro d r a b' e f p n q c h
    rw [sc_none p n a b' e f] at h
    simp only [Res.err.injEq] at h
    omega
  · intro k t r hs ih p n q c h
    rw [sc_shape p n hs] at h
    rw [List.length_append]
    by_cases he : wrongOf k t n = 0
    · rw [if_pos he] at h
      have := ih _ _ _ _ (pre_err h)
      omega
    · rw [if_neg he] at h
      simp only [Res.err.injEq] at h
      omega
theorem toks_err_at {l : List UInt8} {q c : Nat} (h : toks l = .err q c) : q ≤ l.length := by
  unfold toks at h
  split at h
  · simp only [Res.err.injEq] at h; omega
  · have := sc_err_at _ _ _ _ _ h
    omega
end Go.Proofs.YtkmpnlbppdekaaaDoor
end
section
set_option linter.unusedVariables false
set_option linter.unusedSimpArgs false
namespace Go.Proofs.YtkmpnlbppdekaaaDoor
open Go.RowKit
section
variable {E : Nat → List Tok → Rd Ex}
end
theorem gd_program : Gd (fun L us => programM L us) := by
  unfold programM
  exact Gd.until (P := fun L => declM L) gd_decl (fun L n us => declM_lt n us) 0
end Go.Proofs.YtkmpnlbppdekaaaDoor
end
section
set_option linter.unusedVariables false
set_option linter.unusedSimpArgs false
namespace Go.Proofs.YtkmpnlbppdekaaaDoor
open Go.RowKit
theorem sc_ahead : ∀ (l : List UInt8) (p n : Nat) (y : List Tok) (j : Nat) (hj : j < y.length), sc l 0 p n = .ok y →
    p ≤ y[j].pl ∧ y[j].pl < p + l.length ∧ sc (l.take (y[j].pl - p)) 0 p n = .ok (y.take j) := by
  intro l
  refine sc_ind (P := fun l => ∀ (p n : Nat) (y : List Tok) (j : Nat) (hj : j < y.length), sc l 0 p n = .ok y →
    p ≤ y[j].pl ∧ y[j].pl < p + l.length ∧ sc (l.take (y[j].pl - p)) 0 p n = .ok (y.take j)) ?_ ?_ ?_ ?_ l
  · intro p n y j hj h
    have e : Res.ok [] = .ok y := h
    simp only [Res.ok.injEq] at e
    subst e
    exact absurd hj (by simp)
  · intro c r hb ih p n y j hj h
    rw [sc_blank hb] at h
    obtain ⟨h1, h2, h4⟩ := ih (p + 1) n y j hj h
    refine ⟨by omega, by simp; omega, ?_⟩
    obtain ⟨m, hm⟩ : ∃ m, y[j].pl - p = m + 1 := ⟨y[j].pl - (p + 1), by omega⟩
    rw [hm, List.take_succ_cons, sc_blank hb, ← h4]
    congr 2
    omega
  · intro c r a b' e f p n y j hj h
    rw [sc_none p n a b' e f] at h
    cases h
  · intro k t r hs ih p n y j hj h
    rw [sc_shape p n hs] at h
    by_cases he : wrongOf k t n = 0
    · rw [if_pos he] at h
      obtain ⟨z, hz, rfl⟩ := pre_ok h
      have hne := (shape_bytes hs).1
      have ht0 : 0 < t.length := List.length_pos_iff.2 hne
      cases j with
      | zero =>
        refine ⟨Nat.le_refl _, by show p < _; simp; omega, ?_⟩
        show sc ((t ++ r).take (p - p)) 0 p n = .ok []
        rw [Nat.sub_self]; rfl
      | succ j =>
        have hj' : j < z.length := by simpa using hj
        obtain ⟨h1, h2, h4⟩ := ih (p + t.length) (n + 1) z j hj' hz
        have e1 : ([⟨k, t, p⟩] ++ z)[j + 1] = z[j] := rfl
        rw [e1]
        refine ⟨by omega, by simp; omega, ?_⟩
        obtain ⟨m, hm⟩ : ∃ m, m = z[j].pl - (p + t.length) := ⟨_, rfl⟩
        rw [← hm] at h4
        rw [show z[j].pl - p = t.length + m from by omega, List.take_length_add_append]
        have hs' : Shape k t (r.take m).head? := by
          cases m with
          | zero => exact shape_soft hs (by simp)
          | succ m =>
            cases r with
            | nil => exact hs
            | cons d r => exact hs
        rw [sc_shape p n hs', if_pos he, h4]
        rfl
    · rw [if_neg he] at h
      cases h
theorem toks_ahead {l : List UInt8} {y : List Tok} (h : toks l = .ok y) {j : Nat} (hj : j < y.length) : y[j].pl < l.length ∧ toks (l.take y[j].pl) = .ok (y.take j) := by
  unfold toks at h
  by_cases hl : 16384 < l.length
  · rw [if_pos hl] at h; cases h
  · rw [if_neg hl] at h
    obtain ⟨h1, h2, h3⟩ := sc_ahead l 0 0 y j hj h
    refine ⟨by omega, ?_⟩
    unfold toks
    rw [if_neg (by rw [List.length_take]; omega)]
    exact h3
theorem toks_up {l : List UInt8} {y : List Tok} (h : toks l = .ok y) {i j : Nat} (hj : j < y.length) (hij : i < j) : y[i].pl < y[j].pl := by
  obtain ⟨h1, h2⟩ := toks_ahead h hj
  have hi : i < (y.take j).length := by rw [List.length_take]; omega
  obtain ⟨h3, -⟩ := toks_ahead h2 hi
  rw [List.getElem_take] at h3
  exact Nat.lt_of_lt_of_le h3 (List.length_take_le _ _)
theorem prog_ahead {s : List UInt8} {ds : List Dc} {p c : Nat} (h : progM s = (ds, p, c)) (hc : c ≠ 0) :
    (∃ q, toks s = .err q c ∧ p = q ∧ p ≤ s.length) ∨ (p ≤ s.length ∧ ∃ us es n f, toks s = .ok us ∧ progM (s.take p) = (es, n, f) ∧ (f = 0 ∨ (n = p ∧ f = 20))) := by
  unfold progM at h
  cases ht : toks s with
  | err q e =>
    rw [ht] at h
    simp only [Prod.mk.injEq] at h
    obtain ⟨-, rfl, rfl⟩ := h
    exact .inl ⟨q, rfl, rfl, toks_err_at ht⟩
  | ok us =>
    rw [ht] at h
    refine .inr ?_
    cases hp : programM s.length us with
    | ok a r =>
      simp only [hp, Prod.mk.injEq] at h
      exact absurd h.2.2.symm hc
    | bad p1 c1 =>
      simp only [hp, Prod.mk.injEq] at h
      obtain ⟨-, rfl, rfl⟩ := h
      rcases gd_program.pl' s.length us hp with ⟨rfl, rfl⟩ | ⟨t, hm, rfl⟩
      · refine ⟨Nat.le_refl _, us, [], s.length, 20, rfl, ?_, .inr ⟨rfl, rfl⟩⟩
        rw [List.take_length]
        unfold progM
        simp only [ht, hp]
      · obtain ⟨j, hj, rfl⟩ := List.getElem_of_mem hm
        obtain ⟨h1, h2⟩ := toks_ahead ht hj
        refine ⟨Nat.le_of_lt h1, us, ?_⟩
        have hlen : (s.take us[j].pl).length = us[j].pl := by rw [List.length_take]; omega
        have e0 : progM (s.take us[j].pl) = (match programM us[j].pl (us.take j) with | .bad p c => ([], p, c) | .ok ds _ => (ds, 0, 0)) := by
          unfold progM
          rw [h2]
          simp only [hlen]
          cases programM us[j].pl (us.take j) <;> rfl
        rw [e0]
        have hcut := gd_program.pf' s.length us[j].pl (us.take j) (us.drop j)
        rw [List.take_append_drop] at hcut
        rcases hcut with ⟨a, r, h3, h4⟩ | ⟨p2, c2, h3, h4⟩ | h3 | ⟨a, h3⟩
        · rw [show programM s.length us = _ from h4] at hp; cases hp
        · rw [show programM s.length us = _ from h4] at hp
          cases hp
          rcases gd_program.pl' us[j].pl (us.take j) h3 with ⟨-, rfl⟩ | ⟨u, hu, h5⟩
          · exact ⟨[], us[j].pl, 20, rfl, by rw [show programM us[j].pl (us.take j) = _ from h3], .inr ⟨rfl, rfl⟩⟩
          · obtain ⟨i, hi, rfl⟩ := List.getElem_of_mem hu
            have hij : i < j := by rw [List.length_take] at hi; omega
            have := toks_up ht hj hij
            rw [List.getElem_take] at h5
            omega
        · exact ⟨[], us[j].pl, 20, rfl, by rw [show programM us[j].pl (us.take j) = _ from h3], .inr ⟨rfl, rfl⟩⟩
        · exact ⟨a, 0, 0, rfl, by rw [show programM us[j].pl (us.take j) = _ from h3], .inl rfl⟩
end Go.Proofs.YtkmpnlbppdekaaaDoor
end
