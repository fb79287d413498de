/- Uf Uh -/
import Derived.Test.YtihjdfbdpcghdaaDoorZa2
import Derived.StillTailTactics
import Derived.IntWalk
section
set_option linter.unusedVariables false
namespace Go.Proofs.YtihjdfbdpcghdaaDoor
open Go.RowKit
mutual
def likeE (at_ : Bool) : Ex → Ex → Prop
  | .mk k p n s xs, .mk k' p' n' s' bs => k = k' ∧ (at_ = true → p = p') ∧ n = n' ∧ s = s' ∧ likeEs at_ xs bs
def likeEs (at_ : Bool) : List Ex → List Ex → Prop
  | [], [] => True
  | a :: xs, b :: bs => likeE at_ a b ∧ likeEs at_ xs bs
  | [], _ :: _ => False
  | _ :: _, [] => False
end
theorem likeEs_len {t : Bool} : ∀ {xs bs : List Ex}, likeEs t xs bs → xs.length = bs.length
  | [], [], _ => rfl
  | a :: xs, b :: bs, h => by rw [likeEs] at h; rw [List.length_cons, List.length_cons, likeEs_len h.2]
  | [], _ :: _, h => by rw [likeEs] at h; exact h.elim
  | _ :: _, [], h => by rw [likeEs] at h; exact h.elim
theorem likeEs_get {t : Bool} : ∀ {xs bs : List Ex}, likeEs t xs bs → ∀ (k : Nat) (h1 : k < xs.length) (h2 : k < bs.length), likeE t xs[k] bs[k]
  | [], [], _, k, h1, _ => absurd h1 (by simp)
  | a :: xs, b :: bs, h, 0, _, _ => by rw [likeEs] at h; exact h.1
  | a :: xs, b :: bs, h, k + 1, h1, h2 => by rw [likeEs] at h; exact likeEs_get h.2 k (by simpa using h1) (by simpa using h2)
  | [], _ :: _, h, _, _, _ => by rw [likeEs] at h; exact h.elim
  | _ :: _, [], h, _, _, _ => by rw [likeEs] at h; exact h.elim
theorem likeE_parts {t : Bool} {a b : Ex} (h : likeE t a b) : a.kind = b.kind ∧ (t = true → a.pl = b.pl) ∧ a.num = b.num ∧ a.name = b.name ∧ likeEs t a.args b.args := by
  cases a; cases b
  rw [likeE] at h
  exact h
mutual
theorem likeE_refl (t : Bool) : ∀ e : Ex, likeE t e e
  | .mk k p n s xs => by rw [likeE]; exact ⟨rfl, fun _ => rfl, rfl, rfl, likeEs_refl t xs⟩
theorem likeEs_refl (t : Bool) : ∀ es : List Ex, likeEs t es es
  | [] => by rw [likeEs]; trivial
  | e :: es => by rw [likeEs]; exact ⟨likeE_refl t e, likeEs_refl t es⟩
end
end Go.Proofs.YtihjdfbdpcghdaaDoor
end
section
set_option linter.unusedVariables false
namespace Go.Proofs.YtihjdfbdpcghdaaDoor
open Go.RowKit
inductive Sm where
  | mk (kind pl : Int) (name type : List UInt8) (exprs : List Ex) (body els : List Sm)
def Sm.kind : Sm → Int | .mk k _ _ _ _ _ _ => k
def Sm.pl : Sm → Int | .mk _ p _ _ _ _ _ => p
def Sm.name : Sm → List UInt8 | .mk _ _ n _ _ _ _ => n
def Sm.type : Sm → List UInt8 | .mk _ _ _ t _ _ _ => t
def Sm.exprs : Sm → List Ex | .mk _ _ _ _ e _ _ => e
def Sm.body : Sm → List Sm | .mk _ _ _ _ _ b _ => b
def Sm.els : Sm → List Sm | .mk _ _ _ _ _ _ l => l
inductive IsSms (w : World) (S : Nat → Prop) : List Sm → Value → Prop
  | mk (ss : List Sm) (A : Option Addr) (c : Nat) (fe fb fl : Nat → Value) (hc : ss.length ≤ c) (hM : c ≤ 9223372036854775807)
    (hA : ∀ (k : Nat) (hk : k < ss.length), ∃ b off, A = some ⟨b, off, none⟩ ∧ S b ∧ ss[k].name.length ≤ 140737488355328 ∧ ss[k].type.length ≤ 140737488355328 ∧
      w.cell? ⟨b, off + k * 7, none⟩ = some (.int .i64 ss[k].kind) ∧ w.cell? ⟨b, off + k * 7 + 1, none⟩ = some (.int .i64 ss[k].pl) ∧
      w.cell? ⟨b, off + k * 7 + 2, none⟩ = some (.string (strOf ss[k].name)) ∧ w.cell? ⟨b, off + k * 7 + 3, none⟩ = some (.string (strOf ss[k].type)) ∧
      w.cell? ⟨b, off + k * 7 + 4, none⟩ = some (fe k) ∧ w.cell? ⟨b, off + k * 7 + 5, none⟩ = some (fb k) ∧ w.cell? ⟨b, off + k * 7 + 6, none⟩ = some (fl k))
    (he : ∀ (k : Nat) (hk : k < ss.length), IsExs w S ss[k].exprs (fe k)) (hb : ∀ (k : Nat) (hk : k < ss.length), IsSms w S ss[k].body (fb k)) (hl : ∀ (k : Nat) (hk : k < ss.length), IsSms w S ss[k].els (fl k)) :
    IsSms w S ss (.slice A ss.length c)
theorem IsSms.keep {w w' : World} {S S' : Nat → Prop} {ss : List Sm} {v : Value} (h : IsSms w S ss v) (hw : ∀ b, S b → w'.heap[b]? = w.heap[b]?) (hS : ∀ b, S b → S' b) : IsSms w' S' ss v := by
  induction h with
  | mk ss A c fe fb fl hc hM hA he hb hl ihb ihl =>
    refine .mk ss A c fe fb fl hc hM (fun k hk => ?_) (fun k hk => (he k hk).keep hw hS) (fun k hk => ihb k hk) (fun k hk => ihl k hk)
    obtain ⟨b, off, h1, h2, h3, h4, c0, c1, c2, c3, c4, c5, c6⟩ := hA k hk
    have hcell : ∀ i, w'.cell? ⟨b, i, none⟩ = w.cell? ⟨b, i, none⟩ := fun i => World.cell?_of_block (hw b h2)
    exact ⟨b, off, h1, hS b h2, h3, h4, by rw [hcell]; exact c0, by rw [hcell]; exact c1, by rw [hcell]; exact c2, by rw [hcell]; exact c3, by rw [hcell]; exact c4, by rw [hcell]; exact c5, by rw [hcell]; exact c6⟩
theorem IsSms.slice {w : World} {S : Nat → Prop} {ss : List Sm} {v : Value} (h : IsSms w S ss v) : ∃ A c, v = .slice A ss.length c ∧ ss.length ≤ c ∧ c ≤ 9223372036854775807 := by
  cases h with
  | mk ss A c fe fb fl hc hM => exact ⟨A, c, rfl, hc, hM⟩
theorem IsExs.slice {w : World} {S : Nat → Prop} {es : List Ex} {v : Value} (h : IsExs w S es v) : ∃ A c, v = .slice A es.length c ∧ es.length ≤ c ∧ c ≤ 9223372036854775807 := by
  cases h with
  | mk es A c f hc hM => exact ⟨A, c, rfl, hc, hM⟩
end Go.Proofs.YtihjdfbdpcghdaaDoor
end
