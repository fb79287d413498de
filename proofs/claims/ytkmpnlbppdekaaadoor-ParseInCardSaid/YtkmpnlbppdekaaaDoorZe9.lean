/- Da Dc Df -/
import Derived.Test.YtkmpnlbppdekaaaDoorZe6
import Derived.OwnWalk
import Derived.Deep.AppendLies
import Derived.Laws.AppendOwnNone
import Derived.StillTailTactics
import Derived.IntWalk
import Derived.Shelf.Small.Strs
import Derived.Shelf.LaysM
import Derived.Shelf.Strconv.Clone
import Derived.Shelf.Strings.Search1
import Derived.Shelf.Strings.Prefix
import Derived.Test.YtkmpnlbppdekaaaDoorRows
import Derived.Lib.IndexAny
import Derived.Shelf.Small.Wraps
import Derived.Shelf.Strconv.Itoa0
import Derived.Shelf.Strconv.Itoa1
import Derived.Shelf.Strconv.Itoa2
import Derived.Shelf.Strconv.Itoa3
import Derived.Shelf.Slices.Turned
import Derived.Recover
import Derived.WalkKit
import Derived.WalkSpells
import Derived.WalkLawsBesides
import Derived.Lib.Hide
import Derived.Lib.ItoaNum
import Derived.Lib.AppendStr
import Derived.Lib.BufferRead
import Derived.Deep.QuietTactic
import Derived.BigQuiet
import Derived.Lib.AtoiErrMem
import Derived.Lib.AppendIntMem
import Derived.Shelf.Strconv.Atoi
section
set_option linter.unusedVariables false
namespace Go.Proofs.YtkmpnlbppdekaaaDoor
open Go.RowKit
section
variable {a b : List UInt8}
theorem bl_err (h : a.length + b.length ≤ 16383) {p e : Nat} (ha : toks a = .err p e) : toks (a ++ 32 :: b) = .err p e := by
  rw [toks_fit' (by omega)] at ha
  rw [toks_fit' (by simp; omega)]
  have := sc_behind b a 0 0
  rw [ha] at this
  exact this
theorem bl_second (h : a.length + b.length ≤ 16383) {x : List Tok} {m f : Nat} (ha : toks a = .ok x) (hb : toks b = .err m f) :
    ∃ q f', toks (a ++ 32 :: b) = .err q f' := by
  rw [bl_ok h ha]
  rw [toks_fit' (by omega)] at hb
  have := sc_on (a.length + 1) x.length b 0 0
  rw [hb] at this
  rcases this with h1 | ⟨h0, q, h1⟩
  · exact ⟨_, _, by rw [h1]; rfl⟩
  · exact ⟨q, _, by rw [h1]; rfl⟩
end
end Go.Proofs.YtkmpnlbppdekaaaDoor
end
section
set_option linter.unusedVariables false
set_option linter.unusedSimpArgs false
namespace Go.Proofs.YtkmpnlbppdekaaaDoor
open Go.RowKit
structure Xs {α : Type} (F : Nat → List Tok → Rd α) : Prop where
  gd : Gd F
  eq : ∀ L L' pre rest a r, tx rest ≠ [46] → tx rest ≠ [91] → (F L (pre ++ rest) = .ok a (r ++ rest) ↔ F L' pre = .ok a r)
namespace Xs
variable {α β : Type}
theorem of_cons {F : Nat → List Tok → Rd α} (h : Gd F) (hlt : ∀ L us, Lt (F L us) us.length) (he : ∀ L L' t p rest a r, tx rest ≠ [46] → tx rest ≠ [91] → (F L (t :: (p ++ rest)) = .ok a (r ++ rest) ↔ F L' (t :: p) = .ok a r)) : Xs F where
  gd := h
  eq L L' pre rest a r h1 h2 := by
    cases pre with
    | nil =>
      constructor
      · intro e
        have := hlt L _ a _ e
        simp at this
        omega
      · intro e
        have := hlt L' _ a _ e
        simp at this
    | cons t p => exact he L L' t p rest a r h1 h2
theorem bind {F : Nat → List Tok → Rd α} {G : α → Nat → List Tok → Rd β} (hF : Xs F) (hG : ∀ a, Xs (G a)) : Xs (fun L us => (F L us).bind (fun a r => G a L r)) where
  gd := hF.gd.bind fun a => (hG a).gd
  eq L L' pre rest b r h1 h2 := by
    constructor
    · intro e
      obtain ⟨a, r1, e1, e2⟩ := Rd.bind_ok e
      obtain ⟨q, e3⟩ := (hG a).gd.suf' L _ e2
      rw [e3, ← List.append_assoc] at e1 e2
      simp only [(hF.eq L L' pre rest a _ h1 h2).1 e1]
      exact ((hG a).eq L L' _ rest b r h1 h2).1 e2
    · intro e
      obtain ⟨a, r1, e1, e2⟩ := Rd.bind_ok e
      simp only [(hF.eq L L' pre rest a _ h1 h2).2 e1]
      exact ((hG a).eq L L' _ rest b r h1 h2).2 e2
theorem pure (a : α) : Xs (fun _ us => .ok a us) where
  gd := Gd.pure a
  eq L L' pre rest b r h1 h2 := by
    simp only [Rd.ok.injEq, List.append_cancel_right_eq]
theorem map {F : Nat → List Tok → Rd α} (f : α → β) (hF : Xs F) : Xs (fun L us => (F L us).map f) := by
  simp only [Rd.map_bind]
  exact hF.bind fun a => pure (f a)
theorem take (T : List (List UInt8)) : Xs (fun L us => takeM L T us) :=
  of_cons (Gd.take T) (fun L us => takeM_lt T us) fun L L' t p rest a r _ _ => by
    by_cases ht : t.text ∈ T
    · simp only [takeM, if_pos ht, Rd.ok.injEq, List.append_cancel_right_eq]
    · simp only [takeM, if_neg ht, reduceCtorEq]
theorem name : Xs (fun L us => nameM L us) :=
  of_cons Gd.name (fun L us => nameM_lt us) fun L L' t p rest a r _ _ => by
    by_cases ht : t.kind = 1
    · simp only [nameM, if_pos ht, Rd.ok.injEq, List.append_cancel_right_eq]
    · simp only [nameM, if_neg ht, reduceCtorEq]
theorem ite {p : Prop} {inst : Decidable p} {A B : Nat → List Tok → Rd α} (hA : Xs A) (hB : Xs B) : Xs (fun L us => @_root_.ite _ p inst (A L us) (B L us)) := by
  by_cases h : p
  · simp only [if_pos h]; exact hA
  · simp only [if_neg h]; exact hB
theorem head {H : Tok → Nat → List Tok → Rd α} {F : Nat → List Tok → Rd α} (hF : Gd F) (hlt : ∀ L us, Lt (F L us) us.length) (e : ∀ L t r, F L (t :: r) = H t L r) (h : ∀ t, Xs (H t)) : Xs F :=
  of_cons hF hlt fun L L' t p rest a r h1 h2 => by
    rw [e, e]; exact (h t).eq L L' p rest a r h1 h2
end Xs
section
variable {E : Nat → List Tok → Rd Ex}
theorem xs_br (hE : Xs E) : Xs (fun L us => brM L (E L) us) := by
  unfold brM
  exact (Xs.take _).bind fun _ => hE.bind fun a => (Xs.take _).map _
theorem tailE_lt {L : Nat} (hl : ∀ L us, Lt (E L us) us.length) (us : List Tok) : Lt (E L us.tail) us.length := fun a r e => by
  have := hl L _ a r e
  simp at this; omega
theorem xs_first (hE : Xs E) (hl : ∀ L us, Lt (E L us) us.length) : Xs (fun L us => firstM L (E L) us) := by
  refine Xs.head (H := fun t L r => firstM L (E L) (t :: r)) (gd_first hE.gd) (fun L us => firstM_lt (hl L) us) (fun _ _ _ => rfl) fun t => ?_
  unfold firstM
  refine Xs.ite (Xs.pure _) (Xs.ite (Xs.pure _) (Xs.ite (Xs.pure _) (Xs.ite ((xs_br hE).map _) (Xs.ite ((xs_br hE).map _) (Xs.ite (Xs.name.map _) (Xs.ite (Xs.name.map _) (Xs.ite ?_ (Xs.ite (Xs.pure _) (Xs.pure _)))))))))
  have hB : Xs (fun L r => (E L r).bind fun a r2 => (takeM L opsL r2).bind fun o r3 => (E L r3).bind fun b r4 => (takeM L [[41]] r4).map fun _ => Ex.mk 10 t.pl 0 o.text [a, b]) := hE.bind fun a => (Xs.take _).bind fun o => hE.bind fun b => (Xs.take _).map _
  have hA : ∀ s, Xs (fun L r => (E L r).bind fun a r2 => (takeM L [[41]] r2).map fun _ => Ex.mk 9 t.pl 0 s [a]) := fun s => hE.bind fun a => (Xs.take _).map _
  have hlA : ∀ (s : List UInt8) (L : Nat) (us : List Tok), Lt ((E L us.tail).bind fun a r2 => (takeM L [[41]] r2).map fun _ => Ex.mk 9 t.pl 0 s [a]) us.length := fun s L us => (tailE_lt hl us).bind fun a r _ => up1 (takeM_lt _ r).map
  have hlB : ∀ (L : Nat) (us : List Tok), Lt ((E L us).bind fun a r2 => (takeM L opsL r2).bind fun o r3 => (E L r3).bind fun b r4 => (takeM L [[41]] r4).map fun _ => Ex.mk 10 t.pl 0 o.text [a, b]) us.length := fun L us => (hl L us).bind fun a r _ => up1 ((takeM_lt _ r).bind fun o r3 _ => up1 ((hl L r3).bind fun b r4 _ => up1 (takeM_lt _ r4).map))
  refine Xs.of_cons ?_ (fun L us => Lt.ite (fun _ => hlA _ L us) fun _ => hlB L us) fun L L' u p rest a r h1 h2 => ?_
  · refine Gd.iteN (C := fun r => tx r = [45] ∨ tx r = [33]) (fun _ _ _ => Iff.rfl) (by decide) ?_ hB.gd
    exact Gp.ahead (H := fun s _ L r => (E L r).bind fun a r2 => (takeM L [[41]] r2).map fun _ => Ex.mk 9 t.pl 0 s [a]) fun s _ => (hA s).gd
  · by_cases hc : tx (u :: p) = [45] ∨ tx (u :: p) = [33]
    · rw [if_pos hc, if_pos (show tx (u :: (p ++ rest)) = [45] ∨ tx (u :: (p ++ rest)) = [33] from hc)]
      exact (hA u.text).eq L L' p rest a r h1 h2
    · rw [if_neg hc, if_neg (show ¬ (tx (u :: (p ++ rest)) = [45] ∨ tx (u :: (p ++ rest)) = [33]) from hc)]
      exact hB.eq L L' (u :: p) rest a r h1 h2
theorem xs_link (hE : Xs E) (hl : ∀ L us, Lt (E L us) us.length) (o : Ex) : Xs (fun L us => linkM L (E L) o us) := by
  refine Xs.head (H := fun t L r => linkM L (E L) o (t :: r)) (gd_link hE.gd o) (fun L us => linkM_lt (hl L) o us) (fun _ _ _ => rfl) fun t => ?_
  unfold linkM
  refine Xs.ite (Xs.name.map _) (hE.bind fun a => ?_)
  have hA : Xs (fun L r => (E L r).bind fun b r3 => (takeM L [[93]] r3).map fun _ => Ex.mk 7 t.pl 0 [] [o, a, b]) := hE.bind fun b => (Xs.take _).map _
  have hB : Xs (fun L r => (takeM L [[93]] r).map fun _ => Ex.mk 6 t.pl 0 [] [o, a]) := (Xs.take _).map _
  refine Xs.of_cons ?_ (fun L us => Lt.ite (fun _ => (tailE_lt hl us).bind fun a r _ => up1 (takeM_lt _ r).map) fun _ => (takeM_lt _ us).map) fun L L' u p rest x r h1 h2 => ?_
  · refine Gd.iteN (hd_tx _) (by decide) ?_ hB.gd
    exact Gp.ahead (H := fun _ _ L r => (E L r).bind fun b r3 => (takeM L [[93]] r3).map fun _ => Ex.mk 7 t.pl 0 [] [o, a, b]) fun _ _ => hA.gd
  · by_cases hc : tx (u :: p) = [58]
    · rw [if_pos hc, if_pos (show tx (u :: (p ++ rest)) = [58] from hc)]
      exact hA.eq L L' p rest x r h1 h2
    · rw [if_neg hc, if_neg (show ¬ (tx (u :: (p ++ rest)) = [58]) from hc)]
      exact hB.eq L L' (u :: p) rest x r h1 h2
theorem xs_chain (hE : Xs E) (hl : ∀ L us, Lt (E L us) us.length) : ∀ (n : Nat) (e : Ex), Xs (fun L us => chainM L (E L) n e us)
  | n, e => by
    refine ⟨gd_chain hE.gd n e, fun L L' pre rest a r h1 h2 => ?_⟩
    cases pre with
    | nil =>
      have hr : ¬ (tx rest = [46] ∨ tx rest = [91]) := fun h => h.elim h1 h2
      have e1 : chainM L (E L) n e ([] ++ rest) = .ok e rest := by
        unfold chainM; exact if_neg hr
      have e2 : chainM L' (E L') n e [] = .ok e [] := by
        unfold chainM; exact if_neg (by decide)
      rw [e1, e2]
      simp only [Rd.ok.injEq]
      constructor
      · rintro ⟨rfl, h⟩
        refine ⟨rfl, ?_⟩
        have := congrArg List.length h
        rw [List.length_append] at this
        exact (List.eq_nil_of_length_eq_zero (by omega)).symm
      · rintro ⟨rfl, rfl⟩; exact ⟨rfl, rfl⟩
    | cons t p =>
      by_cases hc : t.text = [46] ∨ t.text = [91]
      · cases n with
        | zero =>
          have e1 : chainM L (E L) 0 e (t :: p ++ rest) = .bad (plc L (t :: p ++ rest)) 21 := by
            unfold chainM; exact if_pos hc
          have e2 : chainM L' (E L') 0 e (t :: p) = .bad (plc L' (t :: p)) 21 := by
            unfold chainM; exact if_pos hc
          rw [e1, e2]
          simp only [reduceCtorEq]
        | succ n =>
          have e1 : ∀ (M : Nat) (q : List Tok), chainM M (E M) (n + 1) e (t :: q) = (linkM M (E M) e (t :: q)).bind fun e2 r => chainM M (E M) n e2 r := fun M q => by
            conv => lhs; unfold chainM
            exact if_pos hc
          rw [List.cons_append, e1, e1]
          exact ((xs_link hE hl e).bind fun e2 => xs_chain hE hl n e2).eq L L' (t :: p) rest a r h1 h2
      · have e1 : ∀ (M : Nat) (q : List Tok), chainM M (E M) n e (t :: q) = .ok e (t :: q) := fun M q => by
          unfold chainM; exact if_neg hc
        rw [List.cons_append, e1, e1]
        exact (Xs.pure e).eq L L' (t :: p) rest a r h1 h2
  termination_by n => n
end
theorem xs_expr : ∀ n : Nat, Xs (fun L us => exprM L n us)
  | 0 => by
    refine Xs.of_cons (gd_expr 0) (fun L us => exprM_lt 0 us) fun L L' t p rest a r _ _ => ?_
    have e : ∀ (M : Nat) (us : List Tok), ∃ p c, exprM M 0 us = .bad p c := fun M us => by
      unfold exprM
      split
      · exact ⟨_, _, rfl⟩
      · exact ⟨_, _, rfl⟩
    obtain ⟨x, y, h1⟩ := e L (t :: (p ++ rest))
    obtain ⟨x', y', h2⟩ := e L' (t :: p)
    rw [h1, h2]
    simp only [reduceCtorEq]
  | n + 1 => by
    refine Xs.of_cons (gd_expr (n + 1)) (fun L us => exprM_lt (n + 1) us) fun L L' t p rest a r h1 h2 => ?_
    by_cases ho : opensB (t :: p) = true
    · rw [exprM, exprM, if_pos ho, if_pos (show opensB (t :: (p ++ rest)) = true from ho)]
      exact ((xs_first (xs_expr n) (fun L us => exprM_lt n us)).bind fun e => xs_chain (xs_expr n) (fun L us => exprM_lt n us) 8 e).eq L L' (t :: p) rest a r h1 h2
    · rw [exprM, exprM, if_neg ho, if_neg (show ¬ opensB (t :: (p ++ rest)) = true from ho)]
      simp only [reduceCtorEq]
end Go.Proofs.YtkmpnlbppdekaaaDoor
end
section
set_option linter.unusedVariables false
set_option linter.unusedSimpArgs false
namespace Go.Proofs.YtkmpnlbppdekaaaDoor
open Go.RowKit
def inA : List UInt8 := [116, 104, 114, 101, 97, 100, 32, 116, 32, 123, 32, 114, 101, 116, 117, 114, 110]
def inZ : List UInt8 := [59, 32, 125]
def inT (s : List UInt8) : List UInt8 := inA ++ 32 :: (s ++ 32 :: inZ)
def tThread : Tok := ⟨4, [116, 104, 114, 101, 97, 100], 0⟩
def tT : Tok := ⟨1, [116], 7⟩
def tOpen : Tok := ⟨3, [123], 9⟩
def tRet : Tok := ⟨4, [114, 101, 116, 117, 114, 110], 11⟩
theorem toks_inA : toks inA = .ok [tThread, tT, tOpen, tRet] := by rfl
theorem toks_inZ : toks inZ = .ok [⟨3, [59], 0⟩, ⟨3, [125], 2⟩] := by rfl
theorem in_err {s : List UInt8} (hs : s.length ≤ 16000) {q c : Nat} (h : toks s = .err q c) : ∃ q c, toks (inT s) = .err q c := by
  have h1 := bl_err (b := inZ) (by simp [inZ]; omega) h
  exact bl_second (by simp [inA, inZ]; omega) toks_inA h1
theorem in_toks {s : List UInt8} (hs : s.length ≤ 16000) {us : List Tok} (h : toks s = .ok us) :
    (∃ q, toks (inT s) = .err q 12) ∨ ∃ vs p1 p2, Alike us vs ∧ toks (inT s) = .ok (tThread :: tT :: tOpen :: tRet :: (vs ++ [⟨3, [59], p1⟩, ⟨3, [125], p2⟩])) := by
  by_cases h1 : us.length + 2 ≤ 4096
  · have h2 := bl_both (b := inZ) (by simp [inZ]; omega) h toks_inZ h1
    by_cases h3 : 4 + (us.length + 2) ≤ 4096
    · have h4 := bl_both (by simp [inA, inZ]; omega) toks_inA h2 (by simpa using h3)
      refine .inr ⟨us.map (Tok.on (inA.length + 1)), 0 + (s.length + 1) + (inA.length + 1), 2 + (s.length + 1) + (inA.length + 1), on_alike _ us, ?_⟩
      unfold inT
      rw [h4, List.map_append]
      rfl
    · obtain ⟨q, h4⟩ := bl_many (by simp [inA, inZ]; omega) toks_inA h2 (by simpa using h3)
      exact .inl ⟨q, h4⟩
  · obtain ⟨q, h2⟩ := bl_many (b := inZ) (by simp [inZ]; omega) h toks_inZ h1
    have h3 : toks (inT s) = (sc (s ++ 32 :: inZ) 0 (0 + (inA.length + 1)) (0 + 4)).pre [tThread, tT, tOpen, tRet] := bl_ok (by simp [inA, inZ]; omega) toks_inA
    have h4 := sc_on (inA.length + 1) 4 (s ++ 32 :: inZ) 0 0
    rw [toks_fit' (by simp [inZ]; omega)] at h2
    rw [h2] at h4
    rcases h4 with h5 | ⟨-, q', h5⟩
    · exact .inl ⟨_, by rw [h3, h5]; rfl⟩
    · exact .inl ⟨_, by rw [h3, h5]; rfl⟩
section
variable {L : Nat}
theorem decl_in (r : List Tok) : declM L 0 (tThread :: tT :: tOpen :: tRet :: r) = (untilM [125] 0 (fun _ => stmtM L 24) ((tRet :: r).length + 1) 0 (tRet :: r)).map fun b => ⟨8, 7, 0, [116], [], [], b⟩ := by rfl
theorem stmt_in (r : List Tok) : stmtM L 24 (tRet :: r) = if tx r = [59] then endM L (.mk 11 11 [] [] [] [] []) r else (exprM L 23 r).bind fun v r2 => endM L (.mk 11 11 [] [] [v] [] []) r2 := by rfl
def inS (x : Ex) : Sm := .mk 11 11 [] [] [x] [] []
def inD (x : Ex) : Dc := ⟨8, 7, 0, [116], [], [], [inS x]⟩
theorem expr_opens {n : Nat} {us : List Tok} {x : Ex} {r : List Tok} (h : exprM L n us = .ok x r) : opensB us = true := by
  cases n with
  | zero => unfold exprM at h; split at h <;> cases h
  | succ n =>
    unfold exprM at h
    split at h
    · assumption
    · cases h
theorem opens_no59 {us : List Tok} (h : opensB us = true) (hok : ∀ t ∈ us, TokOk t) (rest : List Tok) : tx (us ++ rest) ≠ [59] := by
  cases us with
  | nil => exact absurd h (by decide)
  | cons t r =>
    intro e
    have e : t.text = [59] := e
    obtain ⟨-, -, h1, h2⟩ := hok t (by simp)
    unfold opensB at h
    rcases of_decide_eq_true h with h | h | h
    · rw [show tx (t :: r) = [59] from e] at h
      exact absurd h (by decide)
    · have := h1 h
      rw [e] at this
      exact absurd this (by decide)
    · have := (h2 h).1 59 (by rw [e]; simp)
      exact absurd this (by decide)
theorem until_at {α : Type} {shut : List UInt8} {least : Nat} {P : Nat → List Tok → Rd α} {m k : Nat} {u : Tok} {r : List Tok} (h : u.text ≠ shut) : untilM shut least P (m + 1) k (u :: r) = (P k (u :: r)).bind fun a r => (untilM shut least P m (k + 1) r).map (a :: ·) := untilM_go (.inr h)
theorem prog_in_ok {vs : List Tok} {x : Ex} {p1 p2 : Nat} (hok : ∀ t ∈ vs, TokOk t) (h : exprM L 23 vs = .ok x []) :
    programM L (tThread :: tT :: tOpen :: tRet :: (vs ++ [⟨3, [59], p1⟩, ⟨3, [125], p2⟩])) = .ok [inD x] [] := by
  have h1 := ((xs_expr 23).eq L L vs [⟨3, [59], p1⟩, ⟨3, [125], p2⟩] x [] (show ([59] : List UInt8) ≠ [46] by decide) (show ([59] : List UInt8) ≠ [91] by decide)).2 h
  have h2 : stmtM L 24 (tRet :: (vs ++ [⟨3, [59], p1⟩, ⟨3, [125], p2⟩])) = .ok (inS x) [⟨3, [125], p2⟩] := by
    rw [stmt_in, if_neg (opens_no59 (expr_opens h) hok _)]
    rw [bind_ok' h1]
    rfl
  have h3 : declM L 0 (tThread :: tT :: tOpen :: tRet :: (vs ++ [⟨3, [59], p1⟩, ⟨3, [125], p2⟩])) = .ok (inD x) [] := by
    rw [decl_in, until_at (u := tRet) (shut := [125]) (by decide), bind_ok' h2]
    rfl
  unfold programM
  rw [until_at (u := tThread) (shut := []) (by decide), bind_ok' h3]
  rfl
theorem until_none {α : Type} {shut : List UInt8} {least : Nat} {P : Nat → List Tok → Rd α} {m k : Nat} {us r : List Tok} (h : untilM shut least P m k us = .ok [] r) : ¬ (k < least ∨ tx us ≠ shut) ∧ us.tail = r := by
  cases m with
  | zero => cases h
  | succ m =>
    by_cases hc : k < least ∨ tx us ≠ shut
    · rw [untilM_go hc] at h
      obtain ⟨_, _, -, h14⟩ := Rd.bind_ok h
      obtain ⟨_, -, h15⟩ := Rd.map_ok h14
      cases h15
    · refine ⟨hc, ?_⟩
      rw [untilM.eq_def] at h
      dsimp only at h
      rw [if_neg hc] at h
      cases us with
      | nil => cases h; rfl
      | cons t r => cases h; rfl
theorem prog_in_of {vs : List Tok} {ds : List Dc} {r : List Tok} {p1 p2 : Nat} (ht : ∀ t ∈ (tThread :: tT :: tOpen :: tRet :: (vs ++ [⟨3, [59], p1⟩, ⟨3, [125], p2⟩])), t.text ≠ []) (h : programM L (tThread :: tT :: tOpen :: tRet :: (vs ++ [⟨3, [59], p1⟩, ⟨3, [125], p2⟩])) = .ok ds r)
    (d : Dc) (hd : ds = [d]) (st : Sm) (hb : d.body = [st]) (x : Ex) (hx : st.exprs = [x]) (hr : r = []) : exprM L 23 vs = .ok x [] := by
  subst hd hr
  unfold programM at h
  rw [until_at (u := tThread) (shut := []) (by decide)] at h
  obtain ⟨d', r1, h1, h2⟩ := Rd.bind_ok h
  obtain ⟨l, h3, h4⟩ := Rd.map_ok h2
  simp only [List.cons.injEq] at h4
  obtain ⟨rfl, rfl⟩ := h4
  rw [decl_in] at h1
  obtain ⟨b, h5, rfl⟩ := Rd.map_ok h1
  have hb : b = [st] := hb
  subst hb
  rw [until_at (u := tRet) (shut := [125]) (by decide)] at h5
  obtain ⟨s', r2, h6, h7⟩ := Rd.bind_ok h5
  obtain ⟨l, h8, h9⟩ := Rd.map_ok h7
  simp only [List.cons.injEq] at h9
  obtain ⟨rfl, rfl⟩ := h9
  rw [stmt_in] at h6
  split at h6
  · obtain ⟨t, -, h10⟩ := Rd.map_ok h6
    rw [h10] at hx
    cases hx
  · obtain ⟨v, r3, h10, h11⟩ := Rd.bind_ok h6
    obtain ⟨t, h12, h13⟩ := Rd.map_ok h11
    rw [h13] at hx
    have hv : v = x := by simpa [Sm.exprs] using hx
    subst hv
    obtain ⟨h14, h15⟩ := until_none h3
    obtain ⟨q1, h16⟩ := (gd_decl 0).suf' L _ (show declM L 0 (tThread :: tT :: tOpen :: tRet :: (vs ++ [⟨3, [59], p1⟩, ⟨3, [125], p2⟩])) = .ok _ r1 from by rw [decl_in]; exact h1)
    have hr1 : r1 = [] := by
      cases r1 with
      | nil => rfl
      | cons u r4 =>
        exfalso
        refine h14 (.inr (ht u ?_))
        rw [h16]; exact List.mem_append_right _ (by simp)
    subst hr1
    obtain ⟨h17, h18⟩ := until_none h8
    have h19 : tx r2 = [125] := by
      by_cases e : tx r2 = [125]
      · exact e
      · exact absurd (.inr e) h17
    have hr2 : ∃ u, r2 = [u] := by
      cases r2 with
      | nil => cases h19
      | cons u r4 => exact ⟨u, by rw [show r4 = [] from h18]⟩
    obtain ⟨u, rfl⟩ := hr2
    have hr3 : r3 = [t, u] := by
      cases r3 with
      | nil => cases h12
      | cons t' r4 =>
        rw [takeM] at h12
        split at h12
        · cases h12; rfl
        · cases h12
    subst hr3
    obtain ⟨q, h20⟩ := (gd_expr 23).suf' L _ h10
    obtain ⟨-, h21⟩ := List.append_inj' h20 (by simp)
    rw [← h21] at h10
    exact ((xs_expr 23).eq L L vs [⟨3, [59], p1⟩, ⟨3, [125], p2⟩] v [] (show ([59] : List UInt8) ≠ [46] by decide) (show ([59] : List UInt8) ≠ [91] by decide)).1 h10
end
theorem expr_okP {s : List UInt8} {x : Ex} {p : Nat} (h : exprP s = (x, p, 0)) : ∃ us, toks s = .ok us ∧ exprM s.length 23 us = .ok x [] ∧ p = 0 := by
  unfold exprP at h
  cases ht : toks s with
  | err q e =>
    rw [ht] at h
    simp only [Prod.mk.injEq] at h
    exact absurd h.2.2 (toks_err_ne ht)
  | ok us =>
    simp only [ht] at h
    cases hp : exprM s.length 23 us with
    | bad p1 c1 =>
      rw [hp] at h
      simp only [Prod.mk.injEq] at h
      exact absurd h.2.2 (nz_expr 23 _ _ _ _ hp)
    | ok a r =>
      rw [hp] at h
      cases r with
      | nil =>
        simp only [Prod.mk.injEq] at h
        obtain ⟨rfl, rfl, -⟩ := h
        exact ⟨us, rfl, hp, rfl⟩
      | cons t r =>
        simp only [Prod.mk.injEq] at h
        exact absurd h.2.2 (by decide)
theorem expr_ofP {s : List UInt8} {us : List Tok} {x : Ex} (ht : toks s = .ok us) (h : exprM s.length 23 us = .ok x []) : exprP s = (x, 0, 0) := by
  unfold exprP
  rw [ht]
  simp only [h]
theorem alike_symm : ∀ {x y : List Tok}, Alike x y → Alike y x
  | [], [], _ => trivial
  | _ :: _, _ :: _, h => ⟨h.1.symm, h.2.1.symm, alike_symm h.2.2⟩
theorem in_good {s : List UInt8} (hs : s.length ≤ 16000) {x : Ex} {p : Nat} (h : exprP s = (x, p, 0)) : (∃ q, progM (inT s) = ([], q, 12)) ∨ ∃ y, progM (inT s) = ([inD y], 0, 0) ∧ likeE false x y := by
  obtain ⟨us, h1, h2, -⟩ := expr_okP h
  rcases in_toks hs h1 with ⟨q, h3⟩ | ⟨vs, p1, p2, h3, h4⟩
  · exact .inl ⟨q, by unfold progM; rw [h3]⟩
  · have hok := toks_okT h4
    rcases rl_expr s.length (inT s).length 23 us vs h3 with ⟨a, b, r, r', h5, h6, h7, h8⟩ | ⟨p, q, c, h5, -⟩
    · rw [h2] at h5
      cases h5
      have h9 : r' = [] := List.eq_nil_of_length_eq_zero h8.len.symm
      subst h9
      have h10 := prog_in_ok (L := (inT s).length) (p1 := p1) (p2 := p2) (fun t ht => hok t (by simp [ht])) h6
      exact .inr ⟨b, by rw [prog_of h4, h10], h7⟩
    · rw [h2] at h5; cases h5
theorem in_bad {s : List UInt8} (hs : s.length ≤ 16000) {x : Ex} {p c : Nat} (h : exprP s = (x, p, c)) (hc : c ≠ 0) {ds : List Dc} {q : Nat} (hp : progM (inT s) = (ds, q, 0)) (d : Dc) (hd : ds = [d]) (st : Sm) (hb : d.body = [st]) (v : Ex) (hx : st.exprs = [v]) : False := by
  obtain ⟨ws, h1, h2, -⟩ := prog_ok hp rfl
  cases ht : toks s with
  | err q c =>
    obtain ⟨q, c, h3⟩ := in_err hs ht
    rw [h3] at h1; cases h1
  | ok us =>
    rcases in_toks hs ht with ⟨q, h3⟩ | ⟨vs, p1, p2, h3, h4⟩
    · rw [h3] at h1; cases h1
    · rw [h4] at h1
      cases h1
      have h5 := prog_in_of (fun t ht => (toks_okT h4 t ht).1) h2 d hd st hb v hx rfl
      rcases rl_expr (inT s).length s.length 23 vs us (alike_symm h3) with ⟨a, b, r, r', h6, h7, h8, h9⟩ | ⟨p, q, c, h6, -⟩
      · rw [h5] at h6
        cases h6
        have h10 : r' = [] := List.eq_nil_of_length_eq_zero h9.len.symm
        subst h10
        rw [expr_ofP ht h7] at h
        simp only [Prod.mk.injEq] at h
        exact hc h.2.2.symm
      · rw [h5] at h6; cases h6
end Go.Proofs.YtkmpnlbppdekaaaDoor
end
