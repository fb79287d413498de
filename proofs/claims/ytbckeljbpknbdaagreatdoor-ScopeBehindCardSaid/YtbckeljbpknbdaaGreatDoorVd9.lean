/- Ca Cb Cc Dd Ce Cf Db Ia Ib Ic Id Ie Up -/
import Derived.Test.YtbckeljbpknbdaaGreatDoorVa2
import Derived.Test.YtbckeljbpknbdaaGreatDoorVb6
import Derived.Test.YtbckeljbpknbdaaGreatDoorVd7
import Derived.Lib.Bytealg
import Derived.Lib.Small
set_option linter.unusedVariables false
set_option linter.unusedSimpArgs false
namespace Go.Proofs.YtbckeljbpknbdaaGreatDoor
open Go.RowKit
def Cut {α : Type} (x y : Rd α) (rest : List Tok) (L : Nat) : Prop := (∃ a r, x = .ok a r ∧ y = .ok a (r ++ rest)) ∨ (∃ p c, x = .bad p c ∧ y = .bad p c) ∨ x = .bad L 20 ∨ ∃ a, x = .ok a []
structure Gp {α : Type} (F : Nat → List Tok → Rd α) : Prop where
 suf : ∀ L us a r, us ≠ [] → F L us = .ok a r → ∃ q, us = q ++ r
 pl : ∀ L us p c, us ≠ [] → F L us = .bad p c → (p = L ∧ c = 20) ∨ ∃ t ∈ us, p = t.pl
 pf : ∀ L L' pre rest, pre ≠ [] → Cut (F L' pre) (F L (pre ++ rest)) rest L'
def End {α : Type} (x : Rd α) (L : Nat) : Prop := x = .bad L 20 ∨ ∃ a, x = .ok a []
structure Gd {α : Type} (F : Nat → List Tok → Rd α) : Prop extends Gp F where
 nil : ∀ L, End (F L []) L
theorem End.cut {α : Type} {x y : Rd α} {rest : List Tok} {L : Nat} (h : End x L) : Cut x y rest L := h.elim (fun h => .inr (.inr (.inl h))) (fun h => .inr (.inr (.inr h)))
theorem Gd.suf' {α : Type} {F : Nat → List Tok → Rd α} (h : Gd F) (L : Nat) (us : List Tok) {a : α} {r : List Tok} (e : F L us = .ok a r) : ∃ q, us = q ++ r := by
 cases us with
 | nil =>
   rcases h.nil L with h1 | ⟨b, h1⟩ <;> rw [h1] at e <;> cases e
   exact ⟨[], rfl⟩
 | cons t r2 => exact h.suf L _ a r nofun e
theorem Gd.pl' {α : Type} {F : Nat → List Tok → Rd α} (h : Gd F) (L : Nat) (us : List Tok) {p c : Nat} (e : F L us = .bad p c) : (p = L ∧ c = 20) ∨ ∃ t ∈ us, p = t.pl := by
 cases us with
 | nil =>
   rcases h.nil L with h1 | ⟨b, h1⟩ <;> rw [h1] at e <;> cases e
   exact .inl ⟨rfl, rfl⟩
 | cons t r2 => exact h.pl L _ p c nofun e
theorem Gd.pf' {α : Type} {F : Nat → List Tok → Rd α} (h : Gd F) (L L' : Nat) (pre rest : List Tok) : Cut (F L' pre) (F L (pre ++ rest)) rest L' := by
 cases pre with
 | nil => exact (h.nil L').cut
 | cons t r => exact h.pf L L' _ rest nofun
theorem Gp.bind {α β : Type} {F : Nat → List Tok → Rd α} {G : α → Nat → List Tok → Rd β} (hF : Gp F) (hG : ∀ a, Gd (G a)) : Gp (fun L us => (F L us).bind (fun a r => G a L r)) where
 suf L us b r hne h := by
  cases hx : F L us with
  | bad p c => simp only [hx] at h; cases h
  | ok a r1 =>
    simp only [hx] at h
    obtain ⟨q, e⟩ := hF.suf L us a r1 hne hx
    obtain ⟨q2, e2⟩ := (hG a).suf' L r1 (show G a L r1 = _ from h)
    exact ⟨q ++ q2, by rw [e, e2, List.append_assoc]⟩
 pl L us p c hne h := by
  cases hx : F L us with
  | bad p c => simp only [hx] at h; cases h; exact hF.pl L us _ _ hne hx
  | ok a r1 =>
    simp only [hx] at h
    obtain ⟨q, e⟩ := hF.suf L us a r1 hne hx
    rcases (hG a).pl' L r1 (show G a L r1 = _ from h) with h1 | ⟨t, ht, h1⟩
    · exact .inl h1
    · exact .inr ⟨t, by rw [e]; exact List.mem_append_right _ ht, h1⟩
 pf L L' pre rest hne := by
  rcases hF.pf L L' pre rest hne with ⟨a, r, h1, h2⟩ | ⟨p, c, h1, h2⟩ | h1 | ⟨a, h1⟩
  · simp only [h1, h2]
    exact (hG a).pf' L L' r rest
  · simp only [h1, h2]; exact .inr (.inl ⟨p, c, rfl, rfl⟩)
  · simp only [h1]; exact .inr (.inr (.inl rfl))
  · simp only [h1]; exact ((hG a).nil L').cut
theorem Gd.bind {α β : Type} {F : Nat → List Tok → Rd α} {G : α → Nat → List Tok → Rd β} (hF : Gd F) (hG : ∀ a, Gd (G a)) : Gd (fun L us => (F L us).bind (fun a r => G a L r)) where
 toGp := hF.toGp.bind hG
 nil L := by
  rcases hF.nil L with h1 | ⟨a, h1⟩
  · simp only [h1]; exact .inl rfl
  · simp only [h1]; exact (hG a).nil L
theorem Gd.pure {α : Type} (a : α) : Gd (fun _ us => .ok a us) where
 suf L us b r _ h := by cases h; exact ⟨[], rfl⟩
 pl L us p c _ h := by cases h
 pf L L' pre rest _ := .inl ⟨a, pre, rfl, rfl⟩
 nil L := .inr ⟨a, rfl⟩
theorem Rd.map_bind {α β : Type} (f : α → β) (x : Rd α) : x.map f = x.bind (fun a r => .ok (f a) r) := by cases x <;> rfl
theorem Gd.map {α β : Type} {F : Nat → List Tok → Rd α} (f : α → β) (hF : Gd F) : Gd (fun L us => (F L us).map f) := by
 have h := hF.bind (G := fun a _ r => .ok (f a) r) (fun a => Gd.pure (f a))
 have e : (fun L us => (F L us).map f) = (fun L us => (F L us).bind (fun a r => .ok (f a) r)) := by funext L us; exact Rd.map_bind f _
 rw [e]; exact h
theorem Gp.here {α : Type} (c : Nat) : Gp (α := α) (fun L us => .bad (plc L us) c) where
 suf L us b r _ h := by cases h
 pl L us p d hne h := by
  cases h
  cases us with
  | nil => exact absurd rfl hne
  | cons t r => exact .inr ⟨t, by simp, rfl⟩
 pf L L' pre rest hne := by
  cases pre with
  | nil => exact absurd rfl hne
  | cons t r => exact .inr (.inl ⟨_, _, rfl, rfl⟩)
theorem Gd.here {α : Type} : Gd (α := α) (fun L us => .bad (plc L us) 20) where
 toGp := Gp.here 20
 nil L := .inl rfl
def Hd (C : List Tok → Prop) : Prop := ∀ t r r', C (t :: r) ↔ C (t :: r')
theorem Gp.ite {α : Type} {C : List Tok → Prop} {inst : ∀ us, Decidable (C us)} {A B : Nat → List Tok → Rd α} (hC : Hd C) (hA : Gp A) (hB : Gp B) : Gp (fun L us => @_root_.ite _ (C us) (inst us) (A L us) (B L us)) where
 suf L us a r hne h := by
  by_cases hc : C us
  · simp only [if_pos hc] at h; exact hA.suf L us a r hne h
  · simp only [if_neg hc] at h; exact hB.suf L us a r hne h
 pl L us p c hne h := by
  by_cases hc : C us
  · simp only [if_pos hc] at h; exact hA.pl L us p c hne h
  · simp only [if_neg hc] at h; exact hB.pl L us p c hne h
 pf L L' pre rest hne := by
  cases pre with
  | nil => exact absurd rfl hne
  | cons t r =>
    by_cases hc : C (t :: r)
    · have hc2 : C (t :: r ++ rest) := (hC t r (r ++ rest)).1 hc
      simp only [if_pos hc, if_pos hc2]; exact hA.pf L L' _ rest nofun
    · have hc2 : ¬ C (t :: r ++ rest) := fun h => hc ((hC t r (r ++ rest)).2 h)
      simp only [if_neg hc, if_neg hc2]; exact hB.pf L L' _ rest nofun
theorem Gd.ite {α : Type} {C : List Tok → Prop} {inst : ∀ us, Decidable (C us)} {A B : Nat → List Tok → Rd α} (hC : Hd C) (hA : Gd A) (hB : Gd B) : Gd (fun L us => @_root_.ite _ (C us) (inst us) (A L us) (B L us)) where
 toGp := Gp.ite hC hA.toGp hB.toGp
 nil L := by
  by_cases hc : C []
  · simp only [if_pos hc]; exact hA.nil L
  · simp only [if_neg hc]; exact hB.nil L
theorem Gd.iteN {α : Type} {C : List Tok → Prop} {inst : ∀ us, Decidable (C us)} {A B : Nat → List Tok → Rd α} (hC : Hd C) (h0 : ¬ C []) (hA : Gp A) (hB : Gd B) : Gd (fun L us => @_root_.ite _ (C us) (inst us) (A L us) (B L us)) where
 toGp := Gp.ite hC hA hB.toGp
 nil L := by simp only [if_neg h0]; exact hB.nil L
theorem Gp.ahead {α : Type} {H : List UInt8 → Nat → Nat → List Tok → Rd α} (h : ∀ s p, Gd (H s p)) : Gp (fun L us => H (tx us) (plc L us) L us.tail) where
 suf L us a r hne e := by
  cases us with
  | nil => exact absurd rfl hne
  | cons t r2 => obtain ⟨q, e2⟩ := (h _ _).suf' L r2 (show H t.text t.pl L r2 = _ from e); exact ⟨t :: q, by rw [e2]; rfl⟩
 pl L us p c hne e := by
  cases us with
  | nil => exact absurd rfl hne
  | cons t r2 =>
    rcases (h _ _).pl' L r2 (show H t.text t.pl L r2 = _ from e) with h1 | ⟨u, hu, h1⟩
    · exact .inl h1
    · exact .inr ⟨u, List.mem_cons_of_mem _ hu, h1⟩
 pf L L' pre rest hne := by
  cases pre with
  | nil => exact absurd rfl hne
  | cons t r => exact (h t.text t.pl).pf' L L' r rest
theorem Gd.take (T : List (List UInt8)) : Gd (fun L us => Xal L T us) where
 suf L us a r hne h := by
  cases us with
  | nil => exact absurd rfl hne
  | cons t r2 =>
    by_cases ht : t.text ∈ T
    · simp only [Xal, if_pos ht, Rd.ok.injEq] at h; exact ⟨[t], by rw [← h.2]; rfl⟩
    · simp only [Xal, if_neg ht] at h; cases h
 pl L us p c hne h := by
  cases us with
  | nil => exact absurd rfl hne
  | cons t r2 =>
    by_cases ht : t.text ∈ T
    · simp only [Xal, if_pos ht] at h; cases h
    · simp only [Xal, if_neg ht] at h; cases h; exact .inr ⟨t, by simp, rfl⟩
 pf L L' pre rest hne := by
  cases pre with
  | nil => exact absurd rfl hne
  | cons t r =>
    by_cases ht : t.text ∈ T
    · simp only [List.cons_append, Xal, if_pos ht]; exact .inl ⟨_, _, rfl, rfl⟩
    · simp only [List.cons_append, Xal, if_neg ht]; exact .inr (.inl ⟨_, _, rfl, rfl⟩)
 nil L := .inl rfl
theorem Gd.name : Gd (fun L us => Xbo L us) where
 suf L us a r hne h := by
  cases us with
  | nil => exact absurd rfl hne
  | cons t r2 =>
    by_cases ht : t.kind = 1
    · simp only [Xbo, if_pos ht] at h; cases h; exact ⟨[t], rfl⟩
    · simp only [Xbo, if_neg ht] at h; cases h
 pl L us p c hne h := by
  cases us with
  | nil => exact absurd rfl hne
  | cons t r2 =>
    by_cases ht : t.kind = 1
    · simp only [Xbo, if_pos ht] at h; cases h
    · simp only [Xbo, if_neg ht] at h; cases h; exact .inr ⟨t, by simp, rfl⟩
 pf L L' pre rest hne := by
  cases pre with
  | nil => exact absurd rfl hne
  | cons t r =>
    by_cases ht : t.kind = 1
    · simp only [List.cons_append, Xbo, if_pos ht]; exact .inl ⟨_, _, rfl, rfl⟩
    · simp only [List.cons_append, Xbo, if_neg ht]; exact .inr (.inl ⟨_, _, rfl, rfl⟩)
 nil L := .inl rfl
theorem Gd.room {α : Type} {b : List Tok → Bool} {ahead most : Nat} {X : Nat → List Tok → Rd α} (hb : ∀ t r r', b (t :: r) = b (t :: r')) (h0 : b [] = false) (hX : Gp X) : Gd (fun L us => (Xcc L (b us) ahead most us).bind (fun _ r => X L r)) := by
 have e : (fun L us => (Xcc L (b us) ahead most us).bind (fun _ r => X L r)) = fun L us => if b us = true then (if ahead < most then X L us else .bad (plc L us) 22) else .bad (plc L us) 20 := by
  funext L us
  unfold Xcc
  by_cases h1 : b us = true
  · rw [if_pos h1, if_pos h1]
    by_cases h2 : ahead < most
    · rw [if_pos h2, if_pos h2]; rfl
    · rw [if_neg h2, if_neg h2]; rfl
  · rw [if_neg h1, if_neg h1]; rfl
 rw [e]
 exact Gd.iteN (C := fun us => b us = true) (fun t r r' => by show b _ = true ↔ b _ = true; rw [hb t r r']) (by show ¬ b [] = true; rw [h0]; decide) (Gp.ite (C := fun _ => ahead < most) (fun _ _ _ => Iff.rfl) hX (Gp.here 22)) Gd.here
section
section
variable {α : Type} {shut : List UInt8} {least : Nat}
theorem Xqh {Q : Nat → List Tok → Rd α} (hQ : ∀ n us, Lt (Q n us) us.length) : ∀ (m m' k : Nat) (us : List Tok), us.length < m → us.length < m' → Xas shut least Q m k us = Xas shut least Q m' k us
 | 0, _, _, _, h, _ => absurd h (by omega)
 | _ + 1, 0, _, _, _, h => absurd h (by omega)
 | m + 1, m' + 1, k, us, h, h' => by
   by_cases hc : k < least ∨ tx us ≠ shut
   · rw [Xek hc, Xek hc]
     cases hx : Q k us with
     | bad p c => rfl
     | ok a r =>
       have := hQ k us a r hx
       show (Xas shut least Q m (k + 1) r).map _ = (Xas shut least Q m' (k + 1) r).map _
       rw [Xqh hQ m m' (k + 1) r (by omega) (by omega)]
   · rw [Xas.eq_def, Xas.eq_def]
     show (if _ then _ else _) = (if _ then _ else _)
     rw [if_neg hc, if_neg hc]
theorem Xfi {Q : Nat → List Tok → Rd α} (hQ : ∀ n us, Lt (Q n us) us.length) (k : Nat) (us : List Tok) : Xas shut least Q (us.length + 1) k us =
  if k < least ∨ tx us ≠ shut then (Q k us).bind fun a r => (Xas shut least Q (r.length + 1) (k + 1) r).map (a :: ·) else match us with | [] => .ok [] [] | _ :: r => .ok [] r := by
 by_cases hc : k < least ∨ tx us ≠ shut
 · rw [Xek hc, if_pos hc]
   cases hx : Q k us with
   | bad p c => rfl
   | ok a r =>
     have := hQ k us a r hx
     show (Xas shut least Q us.length (k + 1) r).map _ = (Xas shut least Q (r.length + 1) (k + 1) r).map _
     rw [Xqh hQ us.length (r.length + 1) (k + 1) r (by omega) (by omega)]
 · rw [Xas.eq_def]
   show (if _ then _ else _) = _
   rw [if_neg hc, if_neg hc]
   cases us <;> rfl
variable {P : Nat → Nat → List Tok → Rd α}
theorem Xhi (hP : ∀ k, Gd (fun L us => P L k us)) (hlt : ∀ L n us, Lt (P L n us) us.length) (L k : Nat) : End (Xas shut least (P L) (([] : List Tok).length + 1) k []) L := by
 rw [Xfi (hlt L)]
 by_cases hc : k < least ∨ tx [] ≠ shut
 · rw [if_pos hc]
   rcases (hP k).nil L with h | ⟨a, h⟩
   · rw [show P L k [] = _ from h]; exact .inl rfl
   · exact absurd (hlt L k [] a [] h) (by simp)
 · rw [if_neg hc]; exact .inr ⟨[], rfl⟩
theorem Ygm (hP : ∀ k, Gd (fun L us => P L k us)) (hlt : ∀ L n us, Lt (P L n us) us.length) (L : Nat) : ∀ (n k : Nat) (us : List Tok) (l : List α) (r : List Tok), us.length ≤ n → Xas shut least (P L) (us.length + 1) k us = .ok l r → ∃ q, us = q ++ r := by
 intro n
 induction n with
 | zero =>
   intro k us l r hn h
   obtain rfl := List.eq_nil_of_length_eq_zero (Nat.le_zero.1 hn)
   rcases Xhi (shut := shut) (least := least) hP hlt L k with h1 | ⟨b, h1⟩ <;> rw [h1] at h <;> cases h
   exact ⟨[], rfl⟩
 | succ n ih =>
   intro k us l r hn h
   rw [Xfi (hlt L)] at h
   by_cases hc : k < least ∨ tx us ≠ shut
   · rw [if_pos hc] at h
     obtain ⟨a, r1, h1, h2⟩ := Rd.bind_ok h
     obtain ⟨l2, h3, -⟩ := Rd.map_ok h2
     have hl := hlt L k us a r1 h1
     obtain ⟨q, e⟩ := (hP k).suf' L us h1
     obtain ⟨q2, e2⟩ := ih (k + 1) r1 l2 r (by omega) h3
     exact ⟨q ++ q2, by rw [e, e2, List.append_assoc]⟩
   · rw [if_neg hc] at h
     cases us with
     | nil => cases h; exact ⟨[], rfl⟩
     | cons t r2 => simp only [Rd.ok.injEq] at h; exact ⟨[t], by rw [← h.2]; rfl⟩
theorem until_pl (hP : ∀ k, Gd (fun L us => P L k us)) (hlt : ∀ L n us, Lt (P L n us) us.length) (L : Nat) : ∀ (n k : Nat) (us : List Tok) (p c : Nat), us.length ≤ n → Xas shut least (P L) (us.length + 1) k us = .bad p c → (p = L ∧ c = 20) ∨ ∃ t ∈ us, p = t.pl := by
 intro n
 induction n with
 | zero =>
   intro k us p c hn h
   obtain rfl := List.eq_nil_of_length_eq_zero (Nat.le_zero.1 hn)
   rcases Xhi (shut := shut) (least := least) hP hlt L k with h1 | ⟨b, h1⟩ <;> rw [h1] at h <;> cases h
   exact .inl ⟨rfl, rfl⟩
 | succ n ih =>
   intro k us p c hn h
   rw [Xfi (hlt L)] at h
   by_cases hc : k < least ∨ tx us ≠ shut
   · rw [if_pos hc] at h
     cases hx : P L k us with
     | bad p1 c1 => rw [hx] at h; cases h; exact (hP k).pl' L us hx
     | ok a r1 =>
       rw [hx] at h
       have hl := hlt L k us a r1 hx
       obtain ⟨q, e⟩ := (hP k).suf' L us hx
       cases hy : Xas shut least (P L) (r1.length + 1) (k + 1) r1 with
       | ok l2 r2 =>
         have h : (Xas shut least (P L) (r1.length + 1) (k + 1) r1).map (a :: ·) = .bad p c := h
         rw [hy] at h; cases h
       | bad p1 c1 =>
         have h : (Xas shut least (P L) (r1.length + 1) (k + 1) r1).map (a :: ·) = .bad p c := h
         rw [hy] at h; cases h
         rcases ih (k + 1) r1 _ _ (by omega) hy with h1 | ⟨t, ht, h1⟩
         · exact .inl h1
         · exact .inr ⟨t, by rw [e]; exact List.mem_append_right _ ht, h1⟩
   · rw [if_neg hc] at h
     cases us with
     | nil => cases h
     | cons t r2 => cases h
theorem Cut.map {α β : Type} {x y : Rd α} {rest : List Tok} {L : Nat} (f : α → β) (h : Cut x y rest L) : Cut (x.map f) (y.map f) rest L := by
 rcases h with ⟨a, r, rfl, rfl⟩ | ⟨p, c, rfl, rfl⟩ | rfl | ⟨a, rfl⟩
 · exact .inl ⟨_, _, rfl, rfl⟩
 · exact .inr (.inl ⟨_, _, rfl, rfl⟩)
 · exact .inr (.inr (.inl rfl))
 · exact .inr (.inr (.inr ⟨_, rfl⟩))
theorem End.map {α β : Type} {x : Rd α} {L : Nat} (f : α → β) (h : End x L) : End (x.map f) L := by
 rcases h with rfl | ⟨a, rfl⟩
 · exact .inl rfl
 · exact .inr ⟨_, rfl⟩
theorem until_pf (hP : ∀ k, Gd (fun L us => P L k us)) (hlt : ∀ L n us, Lt (P L n us) us.length) (L L' : Nat) : ∀ (n k : Nat) (pre rest : List Tok), pre.length ≤ n → Cut (Xas shut least (P L') (pre.length + 1) k pre) (Xas shut least (P L) ((pre ++ rest).length + 1) k (pre ++ rest)) rest L' := by
 intro n
 induction n with
 | zero =>
   intro k pre rest hn
   obtain rfl := List.eq_nil_of_length_eq_zero (Nat.le_zero.1 hn)
   exact (Xhi hP hlt L' k).cut
 | succ n ih =>
   intro k pre rest hn
   cases pre with
   | nil => exact (Xhi hP hlt L' k).cut
   | cons t r =>
     rw [Xfi (hlt L') k (t :: r), Xfi (hlt L) k (t :: r ++ rest)]
     by_cases hc : k < least ∨ t.text ≠ shut
     · rw [if_pos (show k < least ∨ tx (t :: r) ≠ shut from hc), if_pos (show k < least ∨ tx (t :: r ++ rest) ≠ shut from hc)]
       rcases (hP k).pf L L' (t :: r) rest nofun with ⟨a, r1, h1, h2⟩ | ⟨p, c, h1, h2⟩ | h1 | ⟨a, h1⟩
       · have hl := hlt L' k _ a r1 h1
         rw [show P L' k (t :: r) = _ from h1, show P L k (t :: r ++ rest) = _ from h2]
         exact (ih (k + 1) r1 rest (by simp at hn hl; omega)).map _
       · rw [show P L' k (t :: r) = _ from h1, show P L k (t :: r ++ rest) = _ from h2]
         exact .inr (.inl ⟨p, c, rfl, rfl⟩)
       · rw [show P L' k (t :: r) = _ from h1]; exact .inr (.inr (.inl rfl))
       · rw [show P L' k (t :: r) = _ from h1]; exact ((Xhi hP hlt L' (k + 1)).map _).cut
     · rw [if_neg (show ¬ (k < least ∨ tx (t :: r) ≠ shut) from hc), if_neg (show ¬ (k < least ∨ tx (t :: r ++ rest) ≠ shut) from hc)]
       exact .inl ⟨[], r, rfl, rfl⟩
theorem Gd.until (hP : ∀ k, Gd (fun L us => P L k us)) (hlt : ∀ L n us, Lt (P L n us) us.length) (k : Nat) : Gd (fun L us => Xas shut least (P L) (us.length + 1) k us) where
 suf L us l r _ h := Ygm hP hlt L us.length k us l r (Nat.le_refl _) h
 pl L us p c _ h := until_pl hP hlt L us.length k us p c (Nat.le_refl _) h
 pf L L' pre rest _ := until_pf hP hlt L L' pre.length k pre rest (Nat.le_refl _)
 nil L := Xhi hP hlt L k
end
end
section
theorem Xno (s : List UInt8) : Hd (fun us => tx us = s) := fun _ _ _ => Iff.rfl
theorem Xak (p : Prop) : Hd (fun _ => p) := fun _ _ _ => Iff.rfl
theorem Xiu : Gd (fun L us => Xem L us) := by
 unfold Xem
 refine (Gd.take _).bind fun t => ?_
 refine Gd.ite (Xak _) ?_ (Gd.ite (Xak _) ?_ (Gd.pure _))
 · exact (Gd.take _).bind fun _ => (Gd.take _).map _
 · exact Gd.name.map _
theorem Xsz : Gd (fun L us => Xby L us) := by
 unfold Xby
 refine Gd.iteN (C := fun us => kd us = 2) (fun _ _ _ => Iff.rfl) (by show ¬ (0 = 2); decide) ?_ Gd.here
 refine Gp.ite (C := fun us => 1 ≤ numOf (tx us) ∧ numOf (tx us) ≤ 4) (fun _ _ _ => Iff.rfl) ?_ (Gp.here 11)
 exact Gp.ahead (H := fun s _ _ r => .ok ((numOf s : Nat) : Int) r) fun s _ => Gd.pure _
theorem Xxn (k : Nat) : Gd (fun L us => Xeq L k us) := by
 unfold Xeq
 exact Gd.ite (Xak _) ((Gd.take _).map _) (Gd.pure _)
theorem Ydh (m k : Nat) : Gd (fun L us => Xhg L m k us) := by
 unfold Xhg
 exact Gd.room (fun _ _ _ => rfl) (by decide) (Gd.name.bind fun s => Xiu.map _).toGp
theorem Xxp (k : Nat) : Gd (fun L us => Xfo L k us) := by
 unfold Xfo
 exact (Ydh 8 k).bind fun p => (Gd.take _).map _
theorem Ydg : Gd (fun L us => Xen L us) := by
 unfold Xen
 exact (Gd.take _).bind fun _ => Gd.until (P := fun L => Xfo L) Xxp (fun L n us => Xid n us) 0
theorem gd_param (k : Nat) : Gd (fun L us => Xfp L k us) := by
 unfold Xfp
 exact (Xxn k).bind fun _ => Ydh 4 k
theorem Xsy : Gd (fun L us => Xfc L us) := by
 unfold Xfc
 exact (Gd.take _).bind fun _ => Gd.until (P := fun L => Xfp L) gd_param (fun L n us => Xkf n us) 0
section
variable {E : Nat → List Tok → Rd Ex}
theorem gd_br (hE : Gd E) : Gd (fun L us => brM L (E L) us) := by
 unfold brM
 exact (Gd.take _).bind fun _ => hE.bind fun a => (Gd.take _).map _
theorem Gd.head {α : Type} {H : Tok → Nat → List Tok → Rd α} (h : ∀ t, Gd (H t)) : Gd (fun L us => match us with | [] => .bad L 20 | t :: r => H t L r) where
 suf L us a r hne e := by
  cases us with
  | nil => exact absurd rfl hne
  | cons t r2 => obtain ⟨q, e2⟩ := (h t).suf' L r2 e; exact ⟨t :: q, by rw [e2]; rfl⟩
 pl L us p c hne e := by
  cases us with
  | nil => exact absurd rfl hne
  | cons t r2 =>
    rcases (h t).pl' L r2 e with h1 | ⟨u, hu, h1⟩
    · exact .inl h1
    · exact .inr ⟨u, List.mem_cons_of_mem _ hu, h1⟩
 pf L L' pre rest hne := by
  cases pre with
  | nil => exact absurd rfl hne
  | cons t r => exact (h t).pf' L L' r rest
 nil L := .inl rfl
theorem gd_first (hE : Gd E) : Gd (fun L us => Xch L (E L) us) := by
 have e : (fun L us => Xch L (E L) us) = fun L us => match us with | [] => .bad L 20 | t :: r => Xch L (E L) (t :: r) := by
  funext L us; cases us <;> rfl
 rw [e]
 refine Gd.head (H := fun t L r => Xch L (E L) (t :: r)) fun t => ?_
 unfold Xch
 refine Gd.ite (Xak _) (Gd.pure _) (Gd.ite (Xak _) (Gd.pure _) (Gd.ite (Xak _) (Gd.pure _) (Gd.ite (Xak _) ((gd_br hE).map _) (Gd.ite (Xak _) ((gd_br hE).map _) (Gd.ite (Xak _) (Gd.name.map _) (Gd.ite (Xak _) (Gd.name.map _) (Gd.ite (Xak _) ?_ (Gd.ite (Xak _) (Gd.pure _) (Gd.pure _)))))))))
 refine Gd.iteN (C := fun r => tx r = [45] ∨ tx r = [33]) (fun _ _ _ => Iff.rfl) (by decide) ?_ ?_
 · exact Gp.ahead (H := fun s _ L r => (E L r).bind fun a r2 => (Xal L [[41]] r2).map fun _ => Ex.mk 9 t.pl 0 s [a]) fun s _ => hE.bind fun a => (Gd.take _).map _
 · exact hE.bind fun a => (Gd.take _).bind fun o => hE.bind fun b => (Gd.take _).map _
theorem gd_link (hE : Gd E) (o : Ex) : Gd (fun L us => Xdh L (E L) o us) := by
 have e : (fun L us => Xdh L (E L) o us) = fun L us => match us with | [] => .bad L 20 | t :: r => Xdh L (E L) o (t :: r) := by
  funext L us; cases us <;> rfl
 rw [e]
 refine Gd.head (H := fun t L r => Xdh L (E L) o (t :: r)) fun t => ?_
 unfold Xdh
 refine Gd.ite (Xak _) (Gd.name.map _) (hE.bind fun a => ?_)
 refine Gd.iteN (Xno _) (by decide) ?_ ((Gd.take _).map _)
 exact Gp.ahead (H := fun _ _ L r => (E L r).bind fun b r3 => (Xal L [[93]] r3).map fun _ => Ex.mk 7 t.pl 0 [] [o, a, b]) fun _ _ => hE.bind fun b => (Gd.take _).map _
theorem Xxm (hE : Gd E) : ∀ (n : Nat) (e : Ex), Gd (fun L us => Xdc L (E L) n e us)
 | 0, e => by
   unfold Xdc
   exact Gd.iteN (C := fun us => tx us = [46] ∨ tx us = [91]) (fun _ _ _ => Iff.rfl) (by decide) (Gp.here 21) (Gd.pure _)
 | n + 1, e => by
   unfold Xdc
   exact Gd.ite (C := fun us => tx us = [46] ∨ tx us = [91]) (fun _ _ _ => Iff.rfl) ((gd_link hE e).bind fun e2 => Xxm hE n e2) (Gd.pure _)
end
theorem Xmm : Hd (fun us => opensB us = true) := fun _ _ _ => Iff.rfl
theorem Xra : ∀ n : Nat, Gd (fun L us => Xah L n us)
 | 0 => by
   unfold Xah
   exact Gd.iteN Xmm (by decide) (Gp.here 21) Gd.here
 | n + 1 => by
   unfold Xah
   exact Gd.ite Xmm ((gd_first (Xra n)).bind fun e => Xxm (Xra n) 8 e) Gd.here
theorem gd_arg (n k : Nat) : Gd (fun L us => argM L (Xah L n) k us) := by
 unfold argM
 exact (Xxn k).bind fun _ => Gd.room (fun _ _ _ => rfl) (by decide) (Xra n).toGp
theorem Ydf (n : Nat) : Gd (fun L us => Xgx L (Xah L n) us) := by
 unfold Xgx
 exact (Gd.take _).bind fun _ => Gd.until (P := fun L => argM L (Xah L n)) (gd_arg n) (fun L k us => Xqo n k us) 0
theorem Xif (s : Sm) : Gd (fun L us => endM L s us) := by
 unfold endM
 exact (Gd.take _).map _
theorem Xml {S : Nat → List Tok → Rd Sm} (hS : Gd S) (hl : ∀ L us, Lt (S L us) us.length) (least : Nat) : Gd (fun L us => Xdp L (S L) least us) := by
 unfold Xdp
 exact (Gd.take _).bind fun _ => Gd.until (P := fun L _ => S L) (fun _ => hS) (fun L _ us => hl L us) 0
theorem Xxq (n : Nat) {S : Nat → List Tok → Rd Sm} (hS : Gd S) (hl : ∀ L us, Lt (S L us) us.length) (t : Tok) : Gd (fun L us => Xfh L (Xah L n) (S L) t us) := by
 have hE := Xra n
 unfold Xfh
 refine Gd.ite (Xak _) ?_ (Gd.ite (Xak _) ?_ (Gd.ite (Xak _) ?_ (Gd.ite (Xak _) ?_ (Gd.ite (Xak _) ?_ (Gd.ite (Xak _) ?_ (Gd.ite (Xak _) ?_ (Gd.ite (Xak _) ?_ (Gd.ite (Xak _) ?_ (Gd.ite (Xak _) ?_ ?_)))))))))
 · refine hE.bind fun c => (Xml hS hl 0).bind fun b => Gd.iteN (Xno _) (by decide) ?_ (Gd.pure _)
   exact Gp.ahead (H := fun _ _ L r => (Xdp L (S L) 1 r).map fun l => Sm.mk 3 t.pl [] [] [c] b l) fun _ _ => (Xml hS hl 1).map _
 · exact hE.bind fun c => (Xml hS hl 0).map _
 · exact Gd.name.bind fun s => Xiu.bind fun y => (Gd.take _).bind fun _ => hE.bind fun v => Xif _
 · refine hE.bind fun p => Gd.ite (Xak _) ((Gd.take _).bind fun _ => hE.bind fun v => Xif _) Gd.here
 · exact Gd.name.bind fun s => Xif _
 · exact Gd.name.bind fun s => Xif _
 · exact Gd.name.bind fun s => hE.bind fun v => Xif _
 · exact Gd.name.bind fun s => Gd.name.bind fun v => Xif _
 · exact Gd.name.bind fun s => hE.bind fun v => Xif _
 · refine Gd.name.bind fun s => Gd.iteN (Xno _) (by decide) ?_ ((Ydf n).bind fun xs => Xif _)
   exact Gp.ahead (H := fun _ _ L r => (Xbo L r).bind fun f r3 => (Xgx L (Xah L n) r3).bind fun xs r4 => endM L (.mk 10 t.pl f s xs [] []) r4) fun _ _ => Gd.name.bind fun f => (Ydf n).bind fun xs => Xif _
 · exact Gd.ite (Xno _) (Xif _) (hE.bind fun v => Xif _)
theorem Xqd (L : Nat) (S S' : List Tok → Rd Sm) (t : Tok) (r : List Tok) : Xfh L (Xah L 0) S t r = Xfh L (Xah L 0) S' t r := by
 have h0 : ∃ p c, Xah L 0 r = .bad p c := by
  unfold Xah
  split
  · exact ⟨_, _, rfl⟩
  · exact ⟨_, _, rfl⟩
 obtain ⟨p, c, h0⟩ := h0
 unfold Xfh
 rw [h0]
 rfl
theorem Xvl : ∀ n : Nat, 0 < n → Gd (fun L us => Xcp L n us)
 | 0, h => absurd h (by decide)
 | 1, _ => by
   have e : (fun L us => Xcp L 1 us) = fun L us => (Xal L Xhr us).bind fun t r => Xfh L (Xah L 0) (fun us => .bad (plc L us) 20) t r := by
    funext L us
    show (Xal L Xhr us).bind _ = _
    congr 1
    funext t r
    exact Xqd L _ _ t r
   rw [e]
   exact (Gd.take _).bind fun t => Xxq 0 (S := fun L us => .bad (plc L us) 20) Gd.here (fun L us => Lt.bad) t
 | n + 2, _ => by
   unfold Xcp
   exact (Gd.take _).bind fun t => Xxq (n + 1) (Xvl (n + 1) (Nat.succ_pos n)) (fun L us => Xgs (n + 1) us) t
theorem Xvj : Gd (fun L us => Xgy L us) := by
 unfold Xgy
 exact Xml (S := fun L us => Xcp L 24 us) (Xvl 24 (by decide)) (fun L us => Xgs 24 us) 0
theorem Xnm (d : Dc) : Gd (fun L us => Xgk L d us) := by
 unfold Xgk
 exact (Gd.take _).map _
theorem Xxo (w : List UInt8) (p : Nat) (s : List UInt8) : Gd (fun L us => Xee L w p s us) := by
 unfold Xee
 refine Gd.ite (Xak _) (Ydg.map _) (Gd.ite (Xak _) ?_ (Gd.ite (Xak _) (Xvj.map _) (Gd.ite (Xak _) (Xnm _) (Gd.ite (Xak _) (Xsz.bind fun n => Xnm _) (Gd.ite (Xak _) (Xiu.bind fun y => Xnm _) (Gd.ite (Xak _) (Xnm _) (Xnm _)))))))
 exact Xsy.bind fun ps => Gd.ite (Xno _) (Xvj.map _) (Xiu.bind fun y => Xvj.map _)
theorem Xvk (k : Nat) : Gd (fun L us => Xbx L k us) := by
 unfold Xbx
 refine (Gd.take _).bind fun t => ?_
 exact Gd.room (b := fun r => decide (kd r = 1)) (X := fun L r2 => Xee L t.text (plc L r2) (tx r2) r2.tail) (fun _ _ _ => rfl) (by decide) (Gp.ahead (H := fun s p L r => Xee L t.text p s r) fun s p => Xxo t.text p s)
end
end Go.Proofs.YtbckeljbpknbdaaGreatDoor
section
set_option linter.unusedVariables false
set_option linter.unusedSimpArgs false
namespace Go.Proofs.YtbckeljbpknbdaaGreatDoor
open Go.RowKit
def Nz {α : Type} (F : Nat → List Tok → Rd α) : Prop := ∀ L us p c, F L us = .bad p c → c ≠ 0
theorem Rd.bind_bad {α β : Type} {x : Rd α} {f : α → List Tok → Rd β} {p c : Nat} (h : x.bind f = .bad p c) : x = .bad p c ∨ ∃ a r, x = .ok a r ∧ f a r = .bad p c := by
 cases x with
 | bad p' c' => cases h; exact .inl rfl
 | ok a r => exact .inr ⟨a, r, rfl, h⟩
theorem Rd.map_bad {α β : Type} {x : Rd α} {f : α → β} {p c : Nat} (h : x.map f = .bad p c) : x = .bad p c := by
 cases x with
 | bad p' c' => cases h; rfl
 | ok a r => cases h
namespace Nz
variable {α β : Type}
theorem bind {F : Nat → List Tok → Rd α} {G : α → Nat → List Tok → Rd β} (hF : Nz F) (hG : ∀ a, Nz (G a)) : Nz (fun L us => (F L us).bind (fun a r => G a L r)) := fun L us p c h => by
 rcases Rd.bind_bad h with h | ⟨a, r, -, h⟩
 · exact hF L us p c h
 · exact hG a L r p c h
theorem pure (a : α) : Nz (fun _ us => .ok a us) := fun L us p c h => by cases h
theorem map {F : Nat → List Tok → Rd α} (f : α → β) (hF : Nz F) : Nz (fun L us => (F L us).map f) := fun L us p c h => hF L us p c (Rd.map_bad h)
theorem here (c : Nat) (hc : c ≠ 0) : Nz (α := α) (fun L us => .bad (plc L us) c) := fun L us p c h => by cases h; exact hc
theorem here20 : Nz (α := α) (fun L us => .bad (plc L us) 20) := here 20 (by decide)
theorem ite {C : List Tok → Prop} {inst : ∀ us, Decidable (C us)} {A B : Nat → List Tok → Rd α} (hC : Hd C) (hA : Nz A) (hB : Nz B) : Nz (fun L us => @_root_.ite _ (C us) (inst us) (A L us) (B L us)) := fun L us p c h => by
 by_cases hc : C us
 · simp only [if_pos hc] at h; exact hA L us p c h
 · simp only [if_neg hc] at h; exact hB L us p c h
theorem iteN {C : List Tok → Prop} {inst : ∀ us, Decidable (C us)} {A B : Nat → List Tok → Rd α} (hC : Hd C) (h0 : ¬ C []) (hA : Nz A) (hB : Nz B) : Nz (fun L us => @_root_.ite _ (C us) (inst us) (A L us) (B L us)) := ite hC hA hB
theorem ahead {H : List UInt8 → Nat → Nat → List Tok → Rd α} (h : ∀ s p, Nz (H s p)) : Nz (fun L us => H (tx us) (plc L us) L us.tail) := fun L us p c e => h _ _ _ _ p c e
theorem take (T : List (List UInt8)) : Nz (fun L us => Xal L T us) := fun L us p c h => by
 cases us with
 | nil => cases h; decide
 | cons t r =>
   change Xal L T (t :: r) = _ at h
   rw [Xal] at h
   split at h
   · cases h
   · cases h; decide
theorem name : Nz (fun L us => Xbo L us) := fun L us p c h => by
 cases us with
 | nil => cases h; decide
 | cons t r =>
   change Xbo L (t :: r) = _ at h
   rw [Xbo] at h
   split at h
   · cases h
   · cases h; decide
theorem room {b : List Tok → Bool} {ahead most : Nat} {X : Nat → List Tok → Rd α} (hb : ∀ t r r', b (t :: r) = b (t :: r')) (h0 : b [] = false) (hX : Nz X) : Nz (fun L us => (Xcc L (b us) ahead most us).bind (fun _ r => X L r)) := fun L us p c h => by
 rcases Rd.bind_bad h with h | ⟨a, r, -, h⟩
 · unfold Xcc at h
   split at h
   · split at h
     · cases h
     · cases h; decide
   · cases h; decide
 · exact hX L r p c h
end Nz
theorem Nz.until_aux {α : Type} {shut : List UInt8} {least : Nat} {P : Nat → Nat → List Tok → Rd α} (hP : ∀ k, Nz (fun L us => P L k us)) (hlt : ∀ L n us, Lt (P L n us) us.length) (L : Nat) : ∀ (m k : Nat) (us : List Tok) (p c : Nat), us.length < m → Xas shut least (P L) m k us = .bad p c → c ≠ 0
 | 0, k, us, p, c, hm, h => absurd hm (by omega)
 | m + 1, k, us, p, c, hm, h => by
   by_cases hc : k < least ∨ tx us ≠ shut
   · rw [Xek hc] at h
     rcases Rd.bind_bad h with h | ⟨a, r, h1, h⟩
     · exact hP k L us p c h
     · have := hlt L k us a r h1
       exact Nz.until_aux hP hlt L m (k + 1) r p c (by omega) (Rd.map_bad h)
   · rw [Xas.eq_def] at h
     dsimp only at h
     rw [if_neg hc] at h
     cases us <;> cases h
theorem Nz.until {α : Type} {shut : List UInt8} {least : Nat} {P : Nat → Nat → List Tok → Rd α} (hP : ∀ k, Nz (fun L us => P L k us)) (hlt : ∀ L n us, Lt (P L n us) us.length) (k : Nat) : Nz (fun L us => Xas shut least (P L) (us.length + 1) k us) := fun L us p c h =>
 Nz.until_aux hP hlt L _ k us p c (Nat.lt_succ_self _) h
theorem Nz.head {α : Type} {H : Tok → Nat → List Tok → Rd α} (h : ∀ t, Nz (H t)) : Nz (fun L us => match us with | [] => .bad L 20 | t :: r => H t L r) := fun L us p c e => by
 cases us with
 | nil => cases e; decide
 | cons t r => exact h t L r p c e
theorem Xmp : Nz (fun L us => Xem L us) := by
 unfold Xem
 refine (Nz.take _).bind fun t => ?_
 refine Nz.ite (Xak _) ?_ (Nz.ite (Xak _) ?_ (Nz.pure _))
 · exact (Nz.take _).bind fun _ => (Nz.take _).map _
 · exact Nz.name.map _
theorem Yeb : Nz (fun L us => Xby L us) := by
 unfold Xby
 refine Nz.iteN (C := fun us => kd us = 2) (fun _ _ _ => Iff.rfl) (by show ¬ (0 = 2); decide) ?_ Nz.here20
 refine Nz.ite (C := fun us => 1 ≤ numOf (tx us) ∧ numOf (tx us) ≤ 4) (fun _ _ _ => Iff.rfl) ?_ (Nz.here 11 (by decide))
 exact Nz.ahead (H := fun s _ _ r => .ok ((numOf s : Nat) : Int) r) fun s _ => Nz.pure _
theorem Xxw (k : Nat) : Nz (fun L us => Xeq L k us) := by
 unfold Xeq
 exact Nz.ite (Xak _) ((Nz.take _).map _) (Nz.pure _)
theorem Ydz (m k : Nat) : Nz (fun L us => Xhg L m k us) := by
 unfold Xhg
 exact Nz.room (fun _ _ _ => rfl) (by decide) (Nz.name.bind fun s => Xmp.map _)
theorem nz_field (k : Nat) : Nz (fun L us => Xfo L k us) := by
 unfold Xfo
 exact (Ydz 8 k).bind fun p => (Nz.take _).map _
theorem Ydy : Nz (fun L us => Xen L us) := by
 unfold Xen
 exact (Nz.take _).bind fun _ => Nz.until (P := fun L => Xfo L) nz_field (fun L n us => Xid n us) 0
theorem nz_param (k : Nat) : Nz (fun L us => Xfp L k us) := by
 unfold Xfp
 exact (Xxw k).bind fun _ => Ydz 4 k
theorem Yea : Nz (fun L us => Xfc L us) := by
 unfold Xfc
 exact (Nz.take _).bind fun _ => Nz.until (P := fun L => Xfp L) nz_param (fun L n us => Xkf n us) 0
section
variable {E : Nat → List Tok → Rd Ex}
theorem nz_br (hE : Nz E) : Nz (fun L us => brM L (E L) us) := by
 unfold brM
 exact (Nz.take _).bind fun _ => hE.bind fun a => (Nz.take _).map _
theorem nz_first (hE : Nz E) : Nz (fun L us => Xch L (E L) us) := by
 have e : (fun L us => Xch L (E L) us) = fun L us => match us with | [] => .bad L 20 | t :: r => Xch L (E L) (t :: r) := by
  funext L us; cases us <;> rfl
 rw [e]
 refine Nz.head (H := fun t L r => Xch L (E L) (t :: r)) fun t => ?_
 unfold Xch
 refine Nz.ite (Xak _) (Nz.pure _) (Nz.ite (Xak _) (Nz.pure _) (Nz.ite (Xak _) (Nz.pure _) (Nz.ite (Xak _) ((nz_br hE).map _) (Nz.ite (Xak _) ((nz_br hE).map _) (Nz.ite (Xak _) (Nz.name.map _) (Nz.ite (Xak _) (Nz.name.map _) (Nz.ite (Xak _) ?_ (Nz.ite (Xak _) (Nz.pure _) (Nz.pure _)))))))))
 refine Nz.iteN (C := fun r => tx r = [45] ∨ tx r = [33]) (fun _ _ _ => Iff.rfl) (by decide) ?_ ?_
 · exact Nz.ahead (H := fun s _ L r => (E L r).bind fun a r2 => (Xal L [[41]] r2).map fun _ => Ex.mk 9 t.pl 0 s [a]) fun s _ => hE.bind fun a => (Nz.take _).map _
 · exact hE.bind fun a => (Nz.take _).bind fun o => hE.bind fun b => (Nz.take _).map _
theorem nz_link (hE : Nz E) (o : Ex) : Nz (fun L us => Xdh L (E L) o us) := by
 have e : (fun L us => Xdh L (E L) o us) = fun L us => match us with | [] => .bad L 20 | t :: r => Xdh L (E L) o (t :: r) := by
  funext L us; cases us <;> rfl
 rw [e]
 refine Nz.head (H := fun t L r => Xdh L (E L) o (t :: r)) fun t => ?_
 unfold Xdh
 refine Nz.ite (Xak _) (Nz.name.map _) (hE.bind fun a => ?_)
 refine Nz.iteN (Xno _) (by decide) ?_ ((Nz.take _).map _)
 exact Nz.ahead (H := fun _ _ L r => (E L r).bind fun b r3 => (Xal L [[93]] r3).map fun _ => Ex.mk 7 t.pl 0 [] [o, a, b]) fun _ _ => hE.bind fun b => (Nz.take _).map _
theorem Xxv (hE : Nz E) : ∀ (n : Nat) (e : Ex), Nz (fun L us => Xdc L (E L) n e us)
 | 0, e => by
   unfold Xdc
   exact Nz.iteN (C := fun us => tx us = [46] ∨ tx us = [91]) (fun _ _ _ => Iff.rfl) (by decide) (Nz.here 21 (by decide)) (Nz.pure _)
 | n + 1, e => by
   unfold Xdc
   exact Nz.ite (C := fun us => tx us = [46] ∨ tx us = [91]) (fun _ _ _ => Iff.rfl) ((nz_link hE e).bind fun e2 => Xxv hE n e2) (Nz.pure _)
end
theorem Xrd : ∀ n : Nat, Nz (fun L us => Xah L n us)
 | 0 => by
   unfold Xah
   exact Nz.iteN Xmm (by decide) (Nz.here 21 (by decide)) Nz.here20
 | n + 1 => by
   unfold Xah
   exact Nz.ite Xmm ((nz_first (Xrd n)).bind fun e => Xxv (Xrd n) 8 e) Nz.here20
theorem nz_arg (n k : Nat) : Nz (fun L us => argM L (Xah L n) k us) := by
 unfold argM
 exact (Xxw k).bind fun _ => Nz.room (fun _ _ _ => rfl) (by decide) (Xrd n)
theorem Ydx (n : Nat) : Nz (fun L us => Xgx L (Xah L n) us) := by
 unfold Xgx
 exact (Nz.take _).bind fun _ => Nz.until (P := fun L => argM L (Xah L n)) (nz_arg n) (fun L k us => Xqo n k us) 0
theorem Xih (s : Sm) : Nz (fun L us => endM L s us) := by
 unfold endM
 exact (Nz.take _).map _
theorem Xmo {S : Nat → List Tok → Rd Sm} (hS : Nz S) (hl : ∀ L us, Lt (S L us) us.length) (least : Nat) : Nz (fun L us => Xdp L (S L) least us) := by
 unfold Xdp
 exact (Nz.take _).bind fun _ => Nz.until (P := fun L _ => S L) (fun _ => hS) (fun L _ us => hl L us) 0
theorem Xxx (n : Nat) {S : Nat → List Tok → Rd Sm} (hS : Nz S) (hl : ∀ L us, Lt (S L us) us.length) (t : Tok) : Nz (fun L us => Xfh L (Xah L n) (S L) t us) := by
 have hE := Xrd n
 unfold Xfh
 refine Nz.ite (Xak _) ?_ (Nz.ite (Xak _) ?_ (Nz.ite (Xak _) ?_ (Nz.ite (Xak _) ?_ (Nz.ite (Xak _) ?_ (Nz.ite (Xak _) ?_ (Nz.ite (Xak _) ?_ (Nz.ite (Xak _) ?_ (Nz.ite (Xak _) ?_ (Nz.ite (Xak _) ?_ ?_)))))))))
 · refine hE.bind fun c => (Xmo hS hl 0).bind fun b => Nz.iteN (Xno _) (by decide) ?_ (Nz.pure _)
   exact Nz.ahead (H := fun _ _ L r => (Xdp L (S L) 1 r).map fun l => Sm.mk 3 t.pl [] [] [c] b l) fun _ _ => (Xmo hS hl 1).map _
 · exact hE.bind fun c => (Xmo hS hl 0).map _
 · exact Nz.name.bind fun s => Xmp.bind fun y => (Nz.take _).bind fun _ => hE.bind fun v => Xih _
 · refine hE.bind fun p => Nz.ite (Xak _) ((Nz.take _).bind fun _ => hE.bind fun v => Xih _) Nz.here20
 · exact Nz.name.bind fun s => Xih _
 · exact Nz.name.bind fun s => Xih _
 · exact Nz.name.bind fun s => hE.bind fun v => Xih _
 · exact Nz.name.bind fun s => Nz.name.bind fun v => Xih _
 · exact Nz.name.bind fun s => hE.bind fun v => Xih _
 · refine Nz.name.bind fun s => Nz.iteN (Xno _) (by decide) ?_ ((Ydx n).bind fun xs => Xih _)
   exact Nz.ahead (H := fun _ _ L r => (Xbo L r).bind fun f r3 => (Xgx L (Xah L n) r3).bind fun xs r4 => endM L (.mk 10 t.pl f s xs [] []) r4) fun _ _ => Nz.name.bind fun f => (Ydx n).bind fun xs => Xih _
 · exact Nz.ite (Xno _) (Xih _) (hE.bind fun v => Xih _)
theorem Yec : ∀ n : Nat, 0 < n → Nz (fun L us => Xcp L n us)
 | 0, h => absurd h (by decide)
 | 1, _ => by
   have e : (fun L us => Xcp L 1 us) = fun L us => (Xal L Xhr us).bind fun t r => Xfh L (Xah L 0) (fun us => .bad (plc L us) 20) t r := by
    funext L us
    show (Xal L Xhr us).bind _ = _
    congr 1
    funext t r
    exact Xqd L _ _ t r
   rw [e]
   exact (Nz.take _).bind fun t => Xxx 0 (S := fun L us => .bad (plc L us) 20) Nz.here20 (fun L us => Lt.bad) t
 | n + 2, _ => by
   unfold Xcp
   exact (Nz.take _).bind fun t => Xxx (n + 1) (Yec (n + 1) (Nat.succ_pos n)) (fun L us => Xgs (n + 1) us) t
theorem Xwc : Nz (fun L us => Xgy L us) := by
 unfold Xgy
 exact Xmo (S := fun L us => Xcp L 24 us) (Yec 24 (by decide)) (fun L us => Xgs 24 us) 0
theorem Xny (d : Dc) : Nz (fun L us => Xgk L d us) := by
 unfold Xgk
 exact (Nz.take _).map _
theorem nz_decl1 (w : List UInt8) (p : Nat) (s : List UInt8) : Nz (fun L us => Xee L w p s us) := by
 unfold Xee
 refine Nz.ite (Xak _) (Ydy.map _) (Nz.ite (Xak _) ?_ (Nz.ite (Xak _) (Xwc.map _) (Nz.ite (Xak _) (Xny _) (Nz.ite (Xak _) (Yeb.bind fun n => Xny _) (Nz.ite (Xak _) (Xmp.bind fun y => Xny _) (Nz.ite (Xak _) (Xny _) (Xny _)))))))
 exact Yea.bind fun ps => Nz.ite (Xno _) (Xwc.map _) (Xmp.bind fun y => Xwc.map _)
theorem nz_decl (k : Nat) : Nz (fun L us => Xbx L k us) := by
 unfold Xbx
 refine (Nz.take _).bind fun t => ?_
 exact Nz.room (b := fun r => decide (kd r = 1)) (X := fun L r2 => Xee L t.text (plc L r2) (tx r2) r2.tail) (fun _ _ _ => rfl) (by decide) (Nz.ahead (H := fun s p L r => Xee L t.text p s r) fun s p => nz_decl1 t.text p s)
theorem Yaf : Nz (fun L us => Xbs L us) := by
 unfold Xbs
 exact Nz.until (P := fun L => Xbx L) nz_decl (fun L n us => Xhn n us) 0
end Go.Proofs.YtbckeljbpknbdaaGreatDoor
end
set_option linter.unusedVariables false
set_option linter.unusedSimpArgs false
namespace Go.Proofs.YtbckeljbpknbdaaGreatDoor
open Go.RowKit
section
structure Ez {α : Type} (F : Nat → List Tok → Rd α) : Prop extends Gd F where
 bad : ∀ L, F L [] = .bad L 20
 ext : ∀ L L' us rest a r, F L us = .ok a r → F L' (us ++ rest) = .ok a (r ++ rest)
theorem Gd.more {α : Type} {F : Nat → List Tok → Rd α} (h : Gd F) {L L' : Nat} {us : List Tok} {a : α} {r : List Tok} (e : F L us = .ok a r) (hr : r ≠ []) (rest : List Tok) : F L' (us ++ rest) = .ok a (r ++ rest) := by
 rcases h.pf' L' L us rest with ⟨b, r1, h1, h2⟩ | ⟨p, c, h1, h2⟩ | h1 | ⟨b, h1⟩
 · rw [e] at h1; cases h1; exact h2
 · rw [e] at h1; cases h1
 · rw [e] at h1; cases h1
 · rw [e] at h1; cases h1; exact absurd rfl hr
theorem Ez.bind {α β : Type} {F : Nat → List Tok → Rd α} {G : α → Nat → List Tok → Rd β} (hF : Gd F) (hG : ∀ a, Ez (G a)) : Ez (fun L us => (F L us).bind (fun a r => G a L r)) where
 toGd := hF.bind fun a => (hG a).toGd
 bad L := by
  rcases hF.nil L with h | ⟨a, h⟩
  · simp only [h]; rfl
  · simp only [h]; exact (hG a).bad L
 ext L L' us rest b r h := by
  obtain ⟨a, r1, h1, h2⟩ := Rd.bind_ok h
  have hr : r1 ≠ [] := fun e => by rw [e, (hG a).bad L] at h2; cases h2
  simp only [hF.more (L' := L') h1 hr rest]
  exact (hG a).ext L L' r1 rest b r h2
theorem Ez.take (T : List (List UInt8)) : Ez (fun L us => Xal L T us) where
 toGd := Gd.take T
 bad L := rfl
 ext L L' us rest a r h := by
  cases us with
  | nil => cases h
  | cons t r2 =>
    by_cases ht : t.text ∈ T
    · simp only [Xal, if_pos ht, Rd.ok.injEq] at h
      obtain ⟨rfl, rfl⟩ := h
      simp only [List.cons_append, Xal, if_pos ht]
    · simp only [Xal, if_neg ht] at h; cases h
theorem Ez.map {α β : Type} {F : Nat → List Tok → Rd α} (f : α → β) (hF : Ez F) : Ez (fun L us => (F L us).map f) where
 toGd := hF.toGd.map f
 bad L := by simp only [hF.bad L]; rfl
 ext L L' us rest b r h := by
  obtain ⟨a, h1, rfl⟩ := Rd.map_ok h
  simp only [hF.ext L L' us rest a r h1]; rfl
theorem Ez.ite {α : Type} {C : List Tok → Prop} {inst : ∀ us, Decidable (C us)} {A B : Nat → List Tok → Rd α} (hC : Hd C) (hA : Ez A) (hB : Ez B) : Ez (fun L us => @_root_.ite _ (C us) (inst us) (A L us) (B L us)) where
 toGd := Gd.ite hC hA.toGd hB.toGd
 bad L := by
  by_cases hc : C []
  · simp only [if_pos hc]; exact hA.bad L
  · simp only [if_neg hc]; exact hB.bad L
 ext L L' us rest a r h := by
  cases us with
  | nil =>
    by_cases hc : C []
    · simp only [if_pos hc, hA.bad L] at h; cases h
    · simp only [if_neg hc, hB.bad L] at h; cases h
  | cons t r2 =>
    by_cases hc : C (t :: r2)
    · have hc2 : C (t :: r2 ++ rest) := (hC t r2 (r2 ++ rest)).1 hc
      simp only [if_pos hc] at h
      simp only [if_pos hc2]; exact hA.ext L L' _ rest a r h
    · have hc2 : ¬ C (t :: r2 ++ rest) := fun h => hc ((hC t r2 (r2 ++ rest)).2 h)
      simp only [if_neg hc] at h
      simp only [if_neg hc2]; exact hB.ext L L' _ rest a r h
section
variable {α : Type} {shut : List UInt8} {least : Nat} {P : Nat → Nat → List Tok → Rd α}
theorem Xks (hs : shut ≠ []) (hP : ∀ k, Gd (fun L us => P L k us)) (hlt : ∀ L n us, Lt (P L n us) us.length) (L k : Nat) : Xas shut least (P L) (([] : List Tok).length + 1) k [] = .bad L 20 := by
 rw [Xfi (hlt L), if_pos (.inr (fun e => hs e.symm))]
 rcases (hP k).nil L with h | ⟨a, h⟩
 · rw [show P L k [] = _ from h]; rfl
 · exact absurd (hlt L k [] a [] h) (by simp)
theorem Ygl (hs : shut ≠ []) (hP : ∀ k, Gd (fun L us => P L k us)) (hlt : ∀ L n us, Lt (P L n us) us.length) (L L' : Nat) (rest : List Tok) : ∀ (n k : Nat) (us : List Tok) (l : List α) (r : List Tok), us.length ≤ n →
  Xas shut least (P L) (us.length + 1) k us = .ok l r → Xas shut least (P L') ((us ++ rest).length + 1) k (us ++ rest) = .ok l (r ++ rest) := by
 intro n
 induction n with
 | zero =>
   intro k us l r hn h
   obtain rfl := List.eq_nil_of_length_eq_zero (Nat.le_zero.1 hn)
   rw [Xks hs hP hlt L k] at h; cases h
 | succ n ih =>
   intro k us l r hn h
   cases us with
   | nil => rw [Xks hs hP hlt L k] at h; cases h
   | cons t r2 =>
     rw [Xfi (hlt L) k (t :: r2)] at h
     rw [Xfi (hlt L') k (t :: r2 ++ rest)]
     by_cases hc : k < least ∨ t.text ≠ shut
     · rw [if_pos (show k < least ∨ tx (t :: r2) ≠ shut from hc)] at h
       rw [if_pos (show k < least ∨ tx (t :: r2 ++ rest) ≠ shut from hc)]
       obtain ⟨a, r1, h1, h2⟩ := Rd.bind_ok h
       obtain ⟨l2, h3, rfl⟩ := Rd.map_ok h2
       have hl := hlt L k _ a r1 h1
       have hr : r1 ≠ [] := fun e => by rw [e, Xks hs hP hlt L (k + 1)] at h3; cases h3
       rw [show P L' k (t :: r2 ++ rest) = _ from (hP k).more (L' := L') h1 hr rest]
       show (Xas shut least (P L') ((r1 ++ rest).length + 1) (k + 1) (r1 ++ rest)).map (a :: ·) = _
       rw [ih (k + 1) r1 l2 r (by simp at hn hl; omega) h3]; rfl
     · rw [if_neg (show ¬ (k < least ∨ tx (t :: r2) ≠ shut) from hc)] at h
       rw [if_neg (show ¬ (k < least ∨ tx (t :: r2 ++ rest) ≠ shut) from hc)]
       simp only [Rd.ok.injEq] at h
       obtain ⟨rfl, rfl⟩ := h
       rfl
theorem Ez.until (hs : shut ≠ []) (hP : ∀ k, Gd (fun L us => P L k us)) (hlt : ∀ L n us, Lt (P L n us) us.length) (k : Nat) : Ez (fun L us => Xas shut least (P L) (us.length + 1) k us) where
 toGd := Gd.until hP hlt k
 bad L := Xks hs hP hlt L k
 ext L L' us rest a r h := Ygl hs hP hlt L L' rest us.length k us a r (Nat.le_refl _) h
end
theorem Xnk (d : Dc) : Ez (fun L us => Xgk L d us) := by
 unfold Xgk
 exact (Ez.take _).map _
theorem Ycv : Ez (fun L us => Xen L us) := by
 unfold Xen
 exact Ez.bind (Gd.take _) fun _ => Ez.until (P := fun L => Xfo L) (by decide) Xxp (fun L n us => Xid n us) 0
theorem Xvc : Ez (fun L us => Xgy L us) := by
 unfold Xgy Xdp
 exact Ez.bind (Gd.take _) fun _ => Ez.until (P := fun L _ => Xcp L 24) (by decide) (fun _ => Xvl 24 (by decide)) (fun L _ us => Xgs 24 us) 0
theorem ez_decl1 (w : List UInt8) (p : Nat) (s : List UInt8) : Ez (fun L us => Xee L w p s us) := by
 unfold Xee
 refine Ez.ite (Xak _) (Ycv.map _) (Ez.ite (Xak _) ?_ (Ez.ite (Xak _) (Xvc.map _) (Ez.ite (Xak _) (Xnk _) (Ez.ite (Xak _) (Ez.bind Xsz fun n => Xnk _) (Ez.ite (Xak _) (Ez.bind Xiu fun y => Xnk _) (Ez.ite (Xak _) (Xnk _) (Xnk _)))))))
 exact Ez.bind Xsy fun ps => Ez.ite (Xno _) (Xvc.map _) (Ez.bind Xiu fun y => Xvc.map _)
theorem ez_decl (k : Nat) : Ez (fun L us => Xbx L k us) := by
 have key : ∀ w, Ez (fun L r => (Xcc L (decide (kd r = 1)) k 64 r).bind fun _ r2 => Xee L w (plc L r2) (tx r2) r2.tail) := fun w => {
  toGd := Gd.room (b := fun r => decide (kd r = 1)) (X := fun L r2 => Xee L w (plc L r2) (tx r2) r2.tail) (fun _ _ _ => rfl) (by decide) (Gp.ahead (H := fun s p L r => Xee L w p s r) fun s p => Xxo w p s)
  bad := fun L => rfl
  ext := fun L L' us rest a r h => by
   cases us with
   | nil => cases h
   | cons t r2 =>
     unfold Xcc at h ⊢
     by_cases hk : t.kind = 1
     · rw [if_pos (show decide (kd (t :: r2) = 1) = true from decide_eq_true hk)] at h
       rw [if_pos (show decide (kd (t :: r2 ++ rest) = 1) = true from decide_eq_true hk)]
       by_cases hn : k < 64
       · rw [if_pos hn] at h ⊢
         exact (ez_decl1 w t.pl t.text).ext L L' r2 rest a r h
       · rw [if_neg hn] at h; cases h
     · rw [if_neg (show ¬ decide (kd (t :: r2) = 1) = true from fun e => hk (of_decide_eq_true e))] at h; cases h }
 unfold Xbx
 exact Ez.bind (Gd.take _) fun t => key t.text
theorem Xyc (L L' : Nat) (vs : List Tok) : ∀ (n k : Nat) (us : List Tok) (ds : List Dc), us.length ≤ n → (∀ t ∈ us, t.text ≠ []) → Xas [] 0 (Xbx L) (us.length + 1) k us = .ok ds [] →
  Xas [] 0 (Xbx L') ((us ++ vs).length + 1) k (us ++ vs) = (Xas [] 0 (Xbx L') (vs.length + 1) (k + ds.length) vs).map (ds ++ ·) := by
 have nil : ∀ (k : Nat) (ds : List Dc), Xas [] 0 (Xbx L) (([] : List Tok).length + 1) k [] = .ok ds [] → Xas [] 0 (Xbx L') (([] ++ vs).length + 1) k ([] ++ vs) = (Xas [] 0 (Xbx L') (vs.length + 1) (k + ds.length) vs).map (ds ++ ·) := by
  intro k ds h
  rw [Xfi (fun n us => Xhn n us), if_neg (by rintro (h | h); omega; exact h rfl)] at h
  cases h
  show Xas [] 0 (Xbx L') (vs.length + 1) k vs = (Xas [] 0 (Xbx L') (vs.length + 1) k vs).map ([] ++ ·)
  cases Xas [] 0 (Xbx L') (vs.length + 1) k vs <;> rfl
 intro n
 induction n with
 | zero =>
   intro k us ds hn ht h
   obtain rfl := List.eq_nil_of_length_eq_zero (Nat.le_zero.1 hn)
   exact nil k ds h
 | succ n ih =>
   intro k us ds hn ht h
   cases us with
   | nil => exact nil k ds h
   | cons t r2 =>
     have hc : t.text ≠ [] := ht t (by simp)
     rw [Xfi (fun n us => Xhn n us) k (t :: r2), if_pos (.inr (show tx (t :: r2) ≠ [] from hc))] at h
     rw [Xfi (fun n us => Xhn n us) k (t :: r2 ++ vs), if_pos (.inr (show tx (t :: r2 ++ vs) ≠ [] from hc))]
     obtain ⟨d, r1, h1, h2⟩ := Rd.bind_ok h
     obtain ⟨ds2, h3, rfl⟩ := Rd.map_ok h2
     have hl := Xhn (L := L) k _ d r1 h1
     obtain ⟨q, e⟩ := (Xvk k).suf' L _ h1
     rw [show Xbx L' k (t :: r2 ++ vs) = _ from (ez_decl k).ext L L' _ vs d r1 h1]
     show (Xas [] 0 (Xbx L') ((r1 ++ vs).length + 1) (k + 1) (r1 ++ vs)).map (d :: ·) = _
     rw [ih (k + 1) r1 ds2 (by simp at hn hl; omega) (fun u hu => ht u (by rw [e]; exact List.mem_append_right _ hu)) h3]
     rw [show k + (d :: ds2).length = k + 1 + ds2.length from by simp; omega]
     cases Xas [] 0 (Xbx L') (vs.length + 1) (k + 1 + ds2.length) vs <;> rfl
end
section
def RL {α β : Type} (R : α → β → Prop) (x : Rd α) (y : Rd β) : Prop := (∃ a b r s, x = .ok a r ∧ y = .ok b s ∧ R a b ∧ Xcf r s) ∨ (∃ p q c, x = .bad p c ∧ y = .bad q c)
theorem RL.ok {α β : Type} {R : α → β → Prop} {a : α} {b : β} {r s : List Tok} (h : R a b) (hr : Xcf r s) : RL R (.ok a r) (.ok b s) := .inl ⟨_, _, _, _, rfl, rfl, h, hr⟩
theorem RL.bad {α β : Type} {R : α → β → Prop} {p q c : Nat} : RL R (.bad p c : Rd α) (.bad q c : Rd β) := .inr ⟨_, _, _, rfl, rfl⟩
theorem RL.bind {α β γ δ : Type} {R : α → β → Prop} {S : γ → δ → Prop} {x : Rd α} {y : Rd β} {f : α → List Tok → Rd γ} {g : β → List Tok → Rd δ} (h : RL R x y) (hf : ∀ a b r s, R a b → Xcf r s → RL S (f a r) (g b s)) : RL S (x.bind f) (y.bind g) := by
 rcases h with ⟨a, b, r, s, rfl, rfl, h1, h2⟩ | ⟨p, q, c, rfl, rfl⟩
 · exact hf a b r s h1 h2
 · exact RL.bad
theorem RL.map {α β γ δ : Type} {R : α → β → Prop} {S : γ → δ → Prop} {x : Rd α} {y : Rd β} {f : α → γ} {g : β → δ} (h : RL R x y) (hf : ∀ a b, R a b → S (f a) (g b)) : RL S (x.map f) (y.map g) := by
 rcases h with ⟨a, b, r, s, rfl, rfl, h1, h2⟩ | ⟨p, q, c, rfl, rfl⟩
 · exact RL.ok (hf a b h1) h2
 · exact RL.bad
theorem RL.ite {α β : Type} {R : α → β → Prop} {C D : Prop} [Decidable C] [Decidable D] {x x' : Rd α} {y y' : Rd β} (hc : C ↔ D) (h1 : RL R x y) (h2 : RL R x' y') : RL R (if C then x else x') (if D then y else y') := by
 by_cases h : C
 · rw [if_pos h, if_pos (hc.1 h)]; exact h1
 · rw [if_neg h, if_neg (fun d => h (hc.2 d))]; exact h2
section
variable {u v : List Tok}
variable {L L' : Nat}
end
section
variable {α β : Type} {R : α → β → Prop} {RS : List α → List β → Prop} {shut : List UInt8} {least : Nat} {P : Nat → List Tok → Rd α} {Q : Nat → List Tok → Rd β}
end
section
variable {L L' : Nat} {u v : List Tok}
variable {E E' : List Tok → Rd Ex}
end
section
variable {L L' : Nat}
end
end
theorem Xul (L : Nat) : ∀ (m k : Nat) (us : List Tok) (ds : List Dc) (r : List Tok), (∀ t ∈ us, t.text ≠ []) → Xas [] 0 (Xbx L) m k us = .ok ds r → r = []
 | 0, k, us, ds, r, ht, h => by cases h
 | m + 1, k, us, ds, r, ht, h => by
   by_cases hc : k < 0 ∨ tx us ≠ []
   · rw [Xek hc] at h
     obtain ⟨d, r1, h1, h2⟩ := Rd.bind_ok h
     obtain ⟨ds2, h3, rfl⟩ := Rd.map_ok h2
     obtain ⟨q, e⟩ := (Xvk k).suf' L _ h1
     exact Xul L m (k + 1) r1 ds2 r (fun u hu => ht u (by rw [e]; exact List.mem_append_right _ hu)) h3
   · rw [Xas.eq_def] at h
     dsimp only at h
     rw [if_neg hc] at h
     cases us with
     | nil => cases h; rfl
     | cons t r2 => exact absurd (.inr (ht t (by simp))) hc
theorem Xwh {s : List UInt8} {ds : List Dc} {p c : Nat} (h : Xco s = (ds, p, c)) (hc : c = 0) : ∃ us, toks s = .ok us ∧ Xbs s.length us = .ok ds [] ∧ p = 0 := by
 subst hc
 unfold Xco at h
 cases ht : toks s with
 | err q e =>
   rw [ht] at h
   simp only [Prod.mk.injEq] at h
   exact absurd h.2.2 (Xjr ht)
 | ok us =>
   simp only [ht] at h
   cases hp : Xbs s.length us with
   | bad p1 c1 =>
     rw [hp] at h
     simp only [Prod.mk.injEq] at h
     exact absurd h.2.2 (Yaf _ _ _ _ hp)
   | ok a r =>
     rw [hp] at h
     simp only [Prod.mk.injEq] at h
     obtain ⟨rfl, rfl, -⟩ := h
     have : r = [] := Xul _ _ _ _ _ _ (fun t ht2 => (Xkq ht t ht2).1) hp
     subst this
     exact ⟨us, rfl, hp, rfl⟩
theorem Yeo {s : List UInt8} {us : List Tok} (h : toks s = .ok us) : Xco s = match Xbs s.length us with | .bad p c => ([], p, c) | .ok ds _ => (ds, 0, 0) := by
 unfold Xco
 simp only [h]
 cases Xbs s.length us <;> rfl
section
mutual
def exW : Ex → Nat
 | .mk _ _ _ s es => 1 + s.length + exWs es
def exWs : List Ex → Nat
 | [] => 0
 | e :: es => exW e + exWs es
end
mutual
def smW : Sm → Nat
 | .mk _ _ nm ty ex bd el => 1 + nm.length + ty.length + exWs ex + smWs bd + smWs el
def smWs : List Sm → Nat
 | [] => 0
 | s :: ss => smW s + smWs ss
end
def prW (p : Pr) : Nat := 1 + p.name.length + p.type.length
def prWs (ps : List Pr) : Nat := (ps.map prW).sum
def dcW (d : Dc) : Nat := 1 + d.name.length + d.type.length + prWs d.pairs + smWs d.body
def dcWs (ds : List Dc) : Nat := (ds.map dcW).sum
def tw (us : List Tok) : Nat := (us.map fun t => 1 + t.text.length).sum
theorem tw_nil : tw [] = 0 := rfl
theorem Xhs (t : Tok) (us : List Tok) : tw (t :: us) = 1 + t.text.length + tw us := by simp [tw]
theorem Xrr (us : List Tok) : tw us.tail ≤ tw us := by
 cases us with
 | nil => exact Nat.le_refl _
 | cons t r => rw [Xhs]; exact Nat.le_add_left _ _
section
variable (N : Nat) (P : List UInt8 → Prop)
mutual
def okE : Ex → Prop
 | .mk k p _ s es => 0 ≤ p ∧ p < N ∧ (k = 4 ∨ k = 11 → P s) ∧ okEs es
def okEs : List Ex → Prop
 | [] => True
 | e :: es => okE e ∧ okEs es
end
def okTy (ty : List UInt8) : Prop := ty.head? = some 42 → P ty.tail
mutual
def okS : Sm → Prop
 | .mk k p nm ty ex bd el => 0 ≤ p ∧ p < N ∧ (k = 1 ∨ 5 ≤ k ∧ k ≤ 10 → P nm) ∧ (k = 1 → okTy P ty) ∧ (k = 8 ∨ k = 10 → ty = [] ∨ P ty) ∧ okEs N P ex ∧ okSs bd ∧ okSs el
def okSs : List Sm → Prop
 | [] => True
 | s :: ss => okS s ∧ okSs ss
end
def okPr (p : Pr) : Prop := P p.name ∧ okTy P p.type
def okD (d : Dc) : Prop := 0 ≤ d.pl ∧ d.pl < N ∧ 1 ≤ d.kind ∧ d.kind ≤ 8 ∧ P d.name ∧ okTy P d.type ∧ (∀ p ∈ d.pairs, okPr P p) ∧ (d.kind = 8 → d.pairs = []) ∧ okSs N P d.body
def Gt (us : List Tok) : Prop := ∀ t ∈ us, P t.text ∧ t.pl < N
end
theorem Gt.tail {N : Nat} {P : List UInt8 → Prop} {us : List Tok} (h : Gt N P us) : Gt N P us.tail := fun t ht => h t (List.mem_of_mem_tail ht)
def Co (N : Nat) (P : List UInt8 → Prop) {α : Type} (x : Rd α) (m : Nat) (Q : α → Nat → Prop) : Prop := ∀ a r, x = .ok a r → Gt N P r ∧ ∃ v, v + tw r ≤ m ∧ Q a v
section
variable {N : Nat} {P : List UInt8 → Prop}
theorem Co.bad {α : Type} {p c m : Nat} {Q : α → Nat → Prop} : Co N P (.bad p c : Rd α) m Q := fun _ _ e => by cases e
theorem Co.ok {α : Type} {a : α} {r : List Tok} {m v : Nat} {Q : α → Nat → Prop} (hr : Gt N P r) (hm : v + tw r ≤ m) (h : Q a v) : Co N P (.ok a r) m Q := fun _ _ e => by cases e; exact ⟨hr, v, hm, h⟩
theorem Co.bind {α β : Type} {x : Rd α} {f : α → List Tok → Rd β} {m : Nat} {Q : α → Nat → Prop} {Q' : β → Nat → Prop} (h : Co N P x m Q) (hf : ∀ a r v, Gt N P r → Q a v → Co N P (f a r) (tw r) (fun b u => Q' b (v + u))) : Co N P (x.bind f) m Q' := fun b r e => by
 obtain ⟨a, r1, h1, h2⟩ := Rd.bind_ok e
 obtain ⟨g1, v, hv, hq⟩ := h a r1 h1
 obtain ⟨g2, u, hu, hq2⟩ := hf a r1 v g1 hq b r h2
 exact ⟨g2, v + u, by omega, hq2⟩
theorem Co.map {α β : Type} {x : Rd α} {f : α → β} {m : Nat} {Q : α → Nat → Prop} {Q' : β → Nat → Prop} (h : Co N P x m Q) (hf : ∀ a v, Q a v → Q' (f a) v) : Co N P (x.map f) m Q' := fun b r e => by
 obtain ⟨a, h1, rfl⟩ := Rd.map_ok e
 obtain ⟨g1, v, hv, hq⟩ := h a r h1
 exact ⟨g1, v, hv, hf a v hq⟩
theorem Co.ite {α : Type} {x y : Rd α} {m : Nat} {Q : α → Nat → Prop} {p : Prop} [Decidable p] (hx : p → Co N P x m Q) (hy : ¬ p → Co N P y m Q) : Co N P (if p then x else y) m Q := by
 split
 · exact hx ‹_›
 · exact hy ‹_›
theorem Co.up {α : Type} {x : Rd α} {n m : Nat} {Q : α → Nat → Prop} (h : Co N P x n Q) (hn : n ≤ m) : Co N P x m Q := fun a r e => by
 obtain ⟨g, v, hv, hq⟩ := h a r e
 exact ⟨g, v, by omega, hq⟩
theorem Co.imp {α : Type} {x : Rd α} {m : Nat} {Q Q' : α → Nat → Prop} (h : Co N P x m Q) (hq : ∀ a v, Q a v → Q' a v) : Co N P x m Q' := fun a r e => by
 obtain ⟨g, v, hv, hh⟩ := h a r e
 exact ⟨g, v, hv, hq a v hh⟩
variable {L : Nat}
theorem Xcy (T : List (List UInt8)) : ∀ us, Gt N P us → Co N P (Xal L T us) (tw us) (fun t v => 1 + t.text.length ≤ v ∧ P t.text ∧ t.pl < N ∧ t.text ∈ T)
 | [], _ => Co.bad
 | t :: r, h => Co.ite (fun ht => Co.ok (v := 1 + t.text.length) (fun x hx => h x (by simp [hx])) (by rw [Xhs]; omega) ⟨Nat.le_refl _, (h t (by simp)).1, (h t (by simp)).2, ht⟩) (fun _ => Co.bad)
theorem Xey : ∀ us, Gt N P us → Co N P (Xbo L us) (tw us) (fun s v => 1 + s.length ≤ v ∧ P s)
 | [], _ => Co.bad
 | t :: r, h => Co.ite (fun _ => Co.ok (v := 1 + t.text.length) (fun x hx => h x (by simp [hx])) (by rw [Xhs]; omega) ⟨Nat.le_refl _, (h t (by simp)).1⟩) (fun _ => Co.bad)
theorem Xmh (us : List Tok) (h : Gt N P us) : Co N P (Xem L us) (tw us) (fun s v => s.length ≤ v ∧ okTy P s) :=
 (Xcy _ us h).bind fun t r v hr hq => Co.ite
   (fun _ => (Xcy _ r hr).bind fun t2 r2 v2 hr2 hq2 => (Xcy _ r2 hr2).map fun t3 v3 hq3 => ⟨by
     have h1 : t.text.length = 1 := by rename_i e; rw [e]; rfl
     have h2 : t2.text.length = 1 := by have := hq2.2.2.2; simp at this; rw [this]; rfl
     have h3 : t3.text.length = 3 := by have := hq3.2.2.2; simp at this; rw [this]; rfl
     have := hq.1; have := hq2.1; have := hq3.1
     simp; omega, fun h => by cases h⟩)
   (fun _ => Co.ite
     (fun e => (Xey r hr).map fun s u hs => ⟨by have := hq.1; have := hs.1; simp; omega, fun _ => hs.2⟩)
     (fun e => Co.ok (v := 0) hr (by omega) ⟨by have := hq.1; omega, fun h => by
       have hm := hq.2.2.2
       simp at hm
       rcases hm with hm | hm | hm | hm
       · rw [hm] at h; cases h
       · rw [hm] at h; cases h
       · exact absurd hm ‹_›
       · exact absurd hm e⟩))
theorem Ybu (us : List Tok) (h : Gt N P us) : Co N P (Xby L us) (tw us) (fun _ _ => True) := by
 unfold Xby
 exact Co.ite (fun _ => Co.ite (fun _ => Co.ok (v := 0) h.tail (by have := Xrr us; omega) trivial) fun _ => Co.bad) fun _ => Co.bad
theorem Ybv (b : Bool) (x y : Nat) (us : List Tok) (h : Gt N P us) : Co N P (Xcc L b x y us) (tw us) (fun _ _ => True) := by
 unfold Xcc; exact Co.ite (fun _ => Co.ite (fun _ => Co.ok (v := 0) h (by omega) trivial) fun _ => Co.bad) fun _ => Co.bad
theorem Xxc (x : Nat) (us : List Tok) (h : Gt N P us) : Co N P (Xeq L x us) (tw us) (fun _ _ => True) := by
 unfold Xeq; exact Co.ite (fun _ => (Xcy _ us h).map fun _ _ _ => trivial) fun _ => Co.ok (v := 0) h (by omega) trivial
theorem Ybs (m x : Nat) (us : List Tok) (h : Gt N P us) : Co N P (Xhg L m x us) (tw us) (fun p v => prW p ≤ v ∧ okPr P p) :=
 (Ybv _ _ _ us h).bind fun _ r v hr _ => (Xey r hr).bind fun s r2 u hr2 hs => (Xmh r2 hr2).map fun t k ht => ⟨by have := hs.1; have := ht.1; show 1 + s.length + t.length ≤ _; omega, hs.2, ht.2⟩
theorem Xit {α : Type} (shut : List UInt8) (least : Nat) (F : Nat → List Tok → Rd α) (wt : α → Nat) (ok : α → Prop) (hP : ∀ n us, Gt N P us → Co N P (F n us) (tw us) (fun a v => wt a ≤ v ∧ ok a)) : ∀ (m n : Nat) (us : List Tok), Gt N P us → Co N P (Xas shut least F m n us) (tw us) (fun l v => (l.map wt).sum ≤ v ∧ ∀ a ∈ l, ok a)
 | 0, n, us, h => Co.bad
 | m + 1, n, us, h => by
   unfold Xas
   refine Co.ite (fun _ => (hP n us h).bind fun a r v hr hq => (Xit shut least F wt ok hP m (n + 1) r hr).map fun l u hl => ⟨?_, ?_⟩) fun _ => ?_
   · have := hq.1; have := hl.1; simp; omega
   · intro b hb
     rcases List.mem_cons.1 hb with rfl | hb
     · exact hq.2
     · exact hl.2 b hb
   · cases us with
     | nil => exact Co.ok (v := 0) h (by omega) ⟨Nat.zero_le _, fun a ha => by cases ha⟩
     | cons t r => exact Co.ok (v := 0) (fun x hx => h x (by simp [hx])) (by rw [Xhs]; omega) ⟨Nat.zero_le _, fun a ha => by cases ha⟩
theorem co_field (n : Nat) (us : List Tok) (h : Gt N P us) : Co N P (Xfo L n us) (tw us) (fun p v => prW p ≤ v ∧ okPr P p) :=
 (Ybs 8 n us h).bind fun p r v hr hp => (Xcy _ r hr).map fun _ u _ => ⟨by have := hp.1; omega, hp.2⟩
theorem Ybr (us : List Tok) (h : Gt N P us) : Co N P (Xen L us) (tw us) (fun l v => prWs l ≤ v ∧ ∀ p ∈ l, okPr P p) :=
 (Xcy _ us h).bind fun _ r v hr _ => (Xit _ _ _ prW (okPr P) co_field _ _ r hr).imp fun l u hl => ⟨by have := hl.1; unfold prWs; omega, hl.2⟩
theorem co_param (n : Nat) (us : List Tok) (h : Gt N P us) : Co N P (Xfp L n us) (tw us) (fun p v => prW p ≤ v ∧ okPr P p) :=
 (Xxc n us h).bind fun _ r v hr _ => (Ybs 4 n r hr).imp fun p u hp => ⟨by have := hp.1; omega, hp.2⟩
theorem Ybt (us : List Tok) (h : Gt N P us) : Co N P (Xfc L us) (tw us) (fun l v => prWs l ≤ v ∧ ∀ p ∈ l, okPr P p) :=
 (Xcy _ us h).bind fun _ r v hr _ => (Xit _ _ _ prW (okPr P) co_param _ _ r hr).imp fun l u hl => ⟨by have := hl.1; unfold prWs; omega, hl.2⟩
theorem exWs_sum (es : List Ex) : exWs es = (es.map exW).sum := by
 induction es with
 | nil => rfl
 | cons e es ih => rw [exWs, ih]; simp
theorem smWs_sum (es : List Sm) : smWs es = (es.map smW).sum := by
 induction es with
 | nil => rfl
 | cons e es ih => rw [smWs, ih]; simp
theorem okEs_all (es : List Ex) : okEs N P es ↔ ∀ e ∈ es, okE N P e := by
 induction es with
 | nil => simp [okEs]
 | cons e es ih => rw [okEs, ih]; simp
theorem okSs_all (es : List Sm) : okSs N P es ↔ ∀ e ∈ es, okS N P e := by
 induction es with
 | nil => simp [okSs]
 | cons e es ih => rw [okSs, ih]; simp
def QE (N : Nat) (P : List UInt8 → Prop) (e : Ex) (v : Nat) : Prop := exW e ≤ v ∧ okE N P e
theorem Xjo {k n : Int} {p v : Nat} {s : List UInt8} (hp : p < N) (hv : 1 + s.length ≤ v) (hs : k = 4 ∨ k = 11 → P s) : QE N P (.mk k p n s []) v :=
 ⟨by rw [exW, exWs]; omega, by rw [okE, okEs]; exact ⟨by omega, by omega, hs, trivial⟩⟩
theorem Xyd {k n : Int} {p v u : Nat} {s : List UInt8} {a : Ex} (ha : QE N P a u) (hp : p < N) (hv : 1 + s.length + u ≤ v) (hs : ¬ (k = 4 ∨ k = 11)) : QE N P (.mk k p n s [a]) v :=
 ⟨by rw [exW, exWs, exWs]; have := ha.1; omega, by rw [okE, okEs, okEs]; exact ⟨by omega, by omega, fun h => absurd h hs, ha.2, trivial⟩⟩
theorem qe_two {k n : Int} {p v u x : Nat} {s : List UInt8} {a b : Ex} (ha : QE N P a u) (hb : QE N P b x) (hp : p < N) (hv : 1 + s.length + u + x ≤ v) (hs : ¬ (k = 4 ∨ k = 11)) : QE N P (.mk k p n s [a, b]) v :=
 ⟨by rw [exW, exWs, exWs, exWs]; have := ha.1; have := hb.1; omega, by rw [okE, okEs, okEs, okEs]; exact ⟨by omega, by omega, fun h => absurd h hs, ha.2, hb.2, trivial⟩⟩
theorem qe_three {k n : Int} {p v u x y : Nat} {s : List UInt8} {a b c : Ex} (ha : QE N P a u) (hb : QE N P b x) (hc : QE N P c y) (hp : p < N) (hv : 1 + s.length + u + x + y ≤ v) (hs : ¬ (k = 4 ∨ k = 11)) : QE N P (.mk k p n s [a, b, c]) v :=
 ⟨by rw [exW, exWs, exWs, exWs, exWs]; have := ha.1; have := hb.1; have := hc.1; omega, by rw [okE, okEs, okEs, okEs, okEs]; exact ⟨by omega, by omega, fun h => absurd h hs, ha.2, hb.2, hc.2, trivial⟩⟩
theorem no_k {k : Int} (h : k ≠ 4) (h2 : k ≠ 11) : ¬ (k = 4 ∨ k = 11) := fun e => e.elim h h2
section
variable {E : List Tok → Rd Ex} (hE : ∀ us, Gt N P us → Co N P (E us) (tw us) (QE N P))
include hE
theorem co_br (us : List Tok) (h : Gt N P us) : Co N P (brM L E us) (tw us) (QE N P) :=
 (Xcy _ us h).bind fun _ r v hr _ => (hE r hr).bind fun a r2 u hr2 ha => (Xcy _ r2 hr2).map fun _ x _ => ⟨by have := ha.1; omega, ha.2⟩
theorem co_first : ∀ us, Gt N P us → Co N P (Xch L E us) (tw us) (QE N P)
 | [], _ => Co.bad
 | t :: r, h => by
   have ht := h t (by simp)
   have hr : Gt N P r := fun x hx => h x (by simp [hx])
   rw [Xhs]
   unfold Xch
   refine Co.ite (fun _ => Co.ok (v := 1) hr (by omega) (Xjo ht.2 (by simp) (fun h => by omega))) fun _ => ?_
   refine Co.ite (fun _ => Co.ok (v := 1) hr (by omega) (Xjo ht.2 (by simp) (fun h => by omega))) fun _ => ?_
   refine Co.ite (fun _ => Co.ok (v := 1) hr (by omega) (Xjo ht.2 (by simp) (fun h => by omega))) fun _ => ?_
   have lift : ∀ {α : Type} {x : Rd α} {Q : α → Nat → Prop}, Co N P x (tw r) Q → Co N P x (1 + t.text.length + tw r) (fun a v => ∃ u, u + 1 + t.text.length ≤ v ∧ Q a u) := fun hx a r2 e => by
    obtain ⟨g, v, hv, hq⟩ := hx a r2 e
    exact ⟨g, v + 1 + t.text.length, by omega, v, Nat.le_refl _, hq⟩
   refine Co.ite (fun _ => (lift (co_br hE r hr)).map fun a v ⟨u, hu, ha⟩ => Xyd ha ht.2 (by simp; omega) (no_k (by decide) (by decide))) fun _ => ?_
   refine Co.ite (fun _ => (lift (co_br hE r hr)).map fun a v ⟨u, hu, ha⟩ => Xyd ha ht.2 (by simp; omega) (no_k (by decide) (by decide))) fun _ => ?_
   refine Co.ite (fun _ => (lift (Xey r hr)).map fun a v ⟨u, hu, ha⟩ => Xjo ht.2 (by have := ha.1; omega) (fun _ => ha.2)) fun _ => ?_
   refine Co.ite (fun _ => (lift (Xey r hr)).map fun a v ⟨u, hu, ha⟩ => Xjo ht.2 (by have := ha.1; omega) (fun _ => ha.2)) fun _ => ?_
   refine Co.ite (fun _ => Co.ite (fun hs => ?_) fun _ => ?_) fun _ => Co.ite (fun _ => Co.ok (v := 1) hr (by omega) (Xjo ht.2 (by simp) (fun h => by omega))) fun _ => Co.ok (v := 1 + t.text.length) hr (by omega) (Xjo ht.2 (by omega) (fun _ => ht.1))
   · cases r with
     | nil => exact absurd hs (by simp [tx])
     | cons t2 r2 =>
       have ht2 := hr t2 (by simp)
       have hr2 : Gt N P r2 := fun x hx => hr x (by simp [hx])
       rw [Xhs]
       show Co N P ((E r2).bind _) _ _
       intro a r9 e
       obtain ⟨e1, r3, g1, g2⟩ := Rd.bind_ok e
       obtain ⟨w1, v, hv, hq⟩ := hE r2 hr2 e1 r3 g1
       obtain ⟨t3, g3, rfl⟩ := Rd.map_ok g2
       obtain ⟨w2, u, hu, hq2⟩ := Xcy _ r3 w1 t3 r9 g3
       exact ⟨w2, 1 + t2.text.length + v, by omega, Xyd hq ht.2 (by show 1 + t2.text.length + v ≤ _; omega) (no_k (by decide) (by decide))⟩
   · intro a r9 e
     obtain ⟨e1, r1, g1, g2⟩ := Rd.bind_ok e
     obtain ⟨w1, v1, hv1, hq1⟩ := hE r hr e1 r1 g1
     obtain ⟨o, r2, g3, g4⟩ := Rd.bind_ok g2
     obtain ⟨w2, v2, hv2, hq2⟩ := Xcy _ r1 w1 o r2 g3
     obtain ⟨e2, r3, g5, g6⟩ := Rd.bind_ok g4
     obtain ⟨w3, v3, hv3, hq3⟩ := hE r2 w2 e2 r3 g5
     obtain ⟨t3, g7, rfl⟩ := Rd.map_ok g6
     obtain ⟨w4, v4, hv4, hq4⟩ := Xcy _ r3 w3 t3 r9 g7
     exact ⟨w4, 1 + o.text.length + v1 + v3, by have := hq2.1; omega, qe_two hq1 hq3 ht.2 (Nat.le_refl _) (no_k (by decide) (by decide))⟩
theorem co_link (o : Ex) (u0 : Nat) (ho : QE N P o u0) : ∀ us, Gt N P us → Co N P (Xdh L E o us) (tw us) (fun e v => QE N P e (v + u0))
 | [], _ => Co.bad
 | t :: r, h => by
   have ht := h t (by simp)
   have hr : Gt N P r := fun x hx => h x (by simp [hx])
   rw [Xhs]
   unfold Xdh
   refine Co.ite (fun _ => ?_) fun _ => ?_
   · intro a r9 e
     obtain ⟨s, g3, rfl⟩ := Rd.map_ok e
     obtain ⟨w2, u, hu, hq2⟩ := Xey r hr s r9 g3
     exact ⟨w2, u, by omega, Xyd ho ht.2 (by have := hq2.1; omega) (no_k (by decide) (by decide))⟩
   · intro a r9 e
     obtain ⟨e1, r1, g1, g2⟩ := Rd.bind_ok e
     obtain ⟨w1, v1, hv1, hq1⟩ := hE r hr e1 r1 g1
     split at g2
     · obtain ⟨e2, r3, g5, g6⟩ := Rd.bind_ok g2
       obtain ⟨w3, v3, hv3, hq3⟩ := hE r1.tail w1.tail e2 r3 g5
       obtain ⟨t3, g7, rfl⟩ := Rd.map_ok g6
       obtain ⟨w4, v4, hv4, hq4⟩ := Xcy _ r3 w3 t3 r9 g7
       have := Xrr r1
       exact ⟨w4, 1 + v1 + v3, by omega, qe_three ho hq1 hq3 ht.2 (by simp; omega) (no_k (by decide) (by decide))⟩
     · obtain ⟨t3, g7, rfl⟩ := Rd.map_ok g2
       obtain ⟨w4, v4, hv4, hq4⟩ := Xcy _ r1 w1 t3 r9 g7
       exact ⟨w4, 1 + v1, by omega, qe_two ho hq1 ht.2 (by simp; omega) (no_k (by decide) (by decide))⟩
theorem Xxb : ∀ (n : Nat) (e : Ex) (u0 : Nat) (us : List Tok), QE N P e u0 → Gt N P us → Co N P (Xdc L E n e us) (tw us) (fun e v => QE N P e (v + u0))
 | 0, e, u0, us, he, h => by
   unfold Xdc
   exact Co.ite (fun _ => Co.bad) fun _ => Co.ok (v := 0) h (by omega) (by rw [Nat.zero_add]; exact he)
 | n + 1, e, u0, us, he, h => by
   unfold Xdc
   refine Co.ite (fun _ => ?_) fun _ => Co.ok (v := 0) h (by omega) (by rw [Nat.zero_add]; exact he)
   exact (co_link hE e u0 he us h).bind fun e2 r v hr hq => (Xxb n e2 (v + u0) r hq hr).imp fun e3 u hq3 => by
    have e : v + u + u0 = u + (v + u0) := by omega
    show QE N P e3 (v + u + u0)
    rw [e]; exact hq3
end
theorem Xqt : ∀ (n : Nat) (us : List Tok), Gt N P us → Co N P (Xah L n us) (tw us) (QE N P)
 | 0, us, h => by unfold Xah; exact Co.ite (fun _ => Co.bad) fun _ => Co.bad
 | n + 1, us, h => by
   unfold Xah
   refine Co.ite (fun _ => (co_first (Xqt n) us h).bind fun e r v hr hq => (Xxb (Xqt n) 8 e v r hq hr).imp fun e3 u hq3 => ?_) fun _ => Co.bad
   rw [Nat.add_comm]; exact hq3
theorem co_arg (k n : Nat) (us : List Tok) (h : Gt N P us) : Co N P (argM L (Xah L k) n us) (tw us) (fun e v => exW e ≤ v ∧ okE N P e) :=
 (Xxc n us h).bind fun _ r v hr _ => (Ybv _ _ _ r hr).bind fun _ r2 u hr2 _ => (Xqt k r2 hr2).imp fun e x hq => ⟨by have := hq.1; omega, hq.2⟩
def QEs (N : Nat) (P : List UInt8 → Prop) (es : List Ex) (v : Nat) : Prop := exWs es ≤ v ∧ okEs N P es
def QSs (N : Nat) (P : List UInt8 → Prop) (es : List Sm) (v : Nat) : Prop := smWs es ≤ v ∧ okSs N P es
theorem Ybq (k : Nat) (us : List Tok) (h : Gt N P us) : Co N P (Xgx L (Xah L k) us) (tw us) (QEs N P) :=
 (Xcy _ us h).bind fun _ r v hr _ => (Xit _ _ _ exW (okE N P) (co_arg k) _ _ r hr).imp fun l u hl => ⟨by rw [exWs_sum]; have := hl.1; omega, (okEs_all l).2 hl.2⟩
def QS (N : Nat) (P : List UInt8 → Prop) (s : Sm) (v : Nat) : Prop := smW s ≤ v ∧ okS N P s
theorem Xxa {S : List Tok → Rd Sm} (hS : ∀ us, Gt N P us → Co N P (S us) (tw us) (QS N P)) (n : Nat) (us : List Tok) (h : Gt N P us) : Co N P (Xdp L S n us) (tw us) (QSs N P) :=
 (Xcy _ us h).bind fun _ r v hr _ => (Xit _ _ _ smW (okS N P) (fun _ us h => hS us h) _ _ r hr).imp fun l u hl => ⟨by rw [smWs_sum]; have := hl.1; omega, (okSs_all l).2 hl.2⟩
theorem Xib {s : Sm} {u0 : Nat} (hs : QS N P s u0) (us : List Tok) (h : Gt N P us) : Co N P (endM L s us) (tw us) (fun x v => QS N P x (u0 + v)) :=
 (Xcy _ us h).map fun _ v _ => ⟨by have := hs.1; omega, hs.2⟩
theorem Xkh {k : Int} {p v a b c : Nat} {nm ty : List UInt8} {ex : List Ex} {bd el : List Sm} (hp : p < N) (hn : k = 1 ∨ 5 ≤ k ∧ k ≤ 10 → P nm) (ht : k = 1 → okTy P ty) (ht2 : k = 8 ∨ k = 10 → ty = [] ∨ P ty) (hx : QEs N P ex a) (hb : QSs N P bd b) (hl : QSs N P el c) (hv : 1 + nm.length + ty.length + a + b + c ≤ v) : QS N P (.mk k p nm ty ex bd el) v :=
 ⟨by rw [smW]; have := hx.1; have := hb.1; have := hl.1; omega, by rw [okS]; exact ⟨by omega, by omega, hn, ht, ht2, hx.2, hb.2, hl.2⟩⟩
theorem qes_nil : QEs N P [] 0 := ⟨Nat.le_refl _, trivial⟩
theorem Xln : QSs N P [] 0 := ⟨Nat.le_refl _, trivial⟩
theorem Xjp {e : Ex} {v : Nat} (h : QE N P e v) : QEs N P [e] v := ⟨by rw [exWs, exWs]; exact h.1, by rw [okEs, okEs]; exact ⟨h.2, trivial⟩⟩
theorem qes_two {e f : Ex} {v u : Nat} (h : QE N P e v) (h2 : QE N P f u) : QEs N P [e, f] (v + u) := ⟨by rw [exWs, exWs, exWs]; have := h.1; have := h2.1; omega, by rw [okEs, okEs, okEs]; exact ⟨h.2, h2.2, trivial⟩⟩
theorem co_stmt1 (k : Nat) {S : List Tok → Rd Sm} (hS : ∀ us, Gt N P us → Co N P (S us) (tw us) (QS N P)) (t : Tok) (v0 : Nat) (hv0 : 1 ≤ v0) (ht : t.pl < N) (r : List Tok) (hr : Gt N P r) : Co N P (Xfh L (Xah L k) S t r) (tw r) (fun s v => QS N P s (v0 + v)) := by
 unfold Xfh
 have hE := Xqt (N := N) (P := P) (L := L) k
 have hB := fun n => Xxa (N := N) (P := P) (L := L) hS n
 have nil1 := @qes_nil N P
 have nil2 := @Xln N P
 refine Co.ite (fun _ => (hE r hr).bind fun c r2 v1 hr2 hc => (hB 0 r2 hr2).bind fun b r3 v2 hr3 hb => Co.ite (fun _ => ?_) fun _ => ?_) fun _ => ?_
 · exact ((hB 1 r3.tail hr3.tail).up (Xrr r3)).map fun l v3 hl => Xkh ht (fun h => by omega) (fun h => by omega) (fun _ => .inl rfl) (Xjp hc) hb hl (by simp; omega)
 · exact Co.ok (v := 0) hr3 (by omega) (Xkh ht (fun h => by omega) (fun h => by omega) (fun _ => .inl rfl) (Xjp hc) hb nil2 (by simp; omega))
 refine Co.ite (fun _ => (hE r hr).bind fun c r2 v1 hr2 hc => (hB 0 r2 hr2).map fun b v2 hb => Xkh ht (fun h => by omega) (fun h => by omega) (fun _ => .inl rfl) (Xjp hc) hb nil2 (by simp; omega)) fun _ => ?_
 refine Co.ite (fun _ => (Xey r hr).bind fun n r2 v1 hr2 hn => (Xmh r2 hr2).bind fun y r3 v2 hr3 hy => (Xcy _ r3 hr3).bind fun _ r4 v3 hr4 _ => (hE r4 hr4).bind fun e r5 v4 hr5 he =>
  (Xib (Xkh (v := v0 + v1 + v2 + v4) ht (fun _ => hn.2) (fun _ => hy.2) (fun h => by omega) (Xjp he) nil2 nil2 (by have := hn.1; have := hy.1; omega)) r5 hr5).imp fun s v5 hs => ⟨by have := hs.1; omega, hs.2⟩) fun _ => ?_
 refine Co.ite (fun _ => (hE r hr).bind fun p r2 v1 hr2 hp => Co.ite (fun _ => (Xcy _ r2 hr2).bind fun _ r3 v2 hr3 _ => (hE r3 hr3).bind fun e r4 v3 hr4 he =>
  (Xib (Xkh (v := v0 + v1 + v3) ht (fun h => by omega) (fun h => by omega) (fun _ => .inl rfl) (qes_two hp he) nil2 nil2 (by simp; omega)) r4 hr4).imp fun s v5 hs => ⟨by have := hs.1; omega, hs.2⟩) fun _ => Co.bad) fun _ => ?_
 refine Co.ite (fun _ => (Xey r hr).bind fun n r2 v1 hr2 hn => (Xib (Xkh (v := v0 + v1) ht (fun _ => hn.2) (fun h => by omega) (fun _ => .inl rfl) nil1 nil2 nil2 (by have := hn.1; simp; omega)) r2 hr2).imp fun s v5 hs => ⟨by have := hs.1; omega, hs.2⟩) fun _ => ?_
 refine Co.ite (fun _ => (Xey r hr).bind fun n r2 v1 hr2 hn => (Xib (Xkh (v := v0 + v1) ht (fun _ => hn.2) (fun h => by omega) (fun _ => .inl rfl) nil1 nil2 nil2 (by have := hn.1; simp; omega)) r2 hr2).imp fun s v5 hs => ⟨by have := hs.1; omega, hs.2⟩) fun _ => ?_
 refine Co.ite (fun _ => (Xey r hr).bind fun n r2 v1 hr2 hn => (hE r2 hr2).bind fun e r3 v2 hr3 he => (Xib (Xkh (v := v0 + v1 + v2) ht (fun _ => hn.2) (fun h => by omega) (fun _ => .inl rfl) (Xjp he) nil2 nil2 (by have := hn.1; simp; omega)) r3 hr3).imp fun s v5 hs => ⟨by have := hs.1; omega, hs.2⟩) fun _ => ?_
 refine Co.ite (fun _ => (Xey r hr).bind fun n r2 v1 hr2 hn => (Xey r2 hr2).bind fun y r3 v2 hr3 hy => (Xib (Xkh (v := v0 + v1 + v2) ht (fun _ => hn.2) (fun h => by omega) (fun _ => .inr hy.2) nil1 nil2 nil2 (by have := hn.1; have := hy.1; omega)) r3 hr3).imp fun s v5 hs => ⟨by have := hs.1; omega, hs.2⟩) fun _ => ?_
 refine Co.ite (fun _ => (Xey r hr).bind fun n r2 v1 hr2 hn => (hE r2 hr2).bind fun e r3 v2 hr3 he => (Xib (Xkh (v := v0 + v1 + v2) ht (fun _ => hn.2) (fun h => by omega) (fun _ => .inl rfl) (Xjp he) nil2 nil2 (by have := hn.1; simp; omega)) r3 hr3).imp fun s v5 hs => ⟨by have := hs.1; omega, hs.2⟩) fun _ => ?_
 refine Co.ite (fun _ => (Xey r hr).bind fun n r2 v1 hr2 hn => Co.ite (fun _ => ?_) fun _ => (Ybq k r2 hr2).bind fun xs r3 v2 hr3 hx =>
  (Xib (Xkh (v := v0 + v1 + v2) ht (fun _ => hn.2) (fun h => by omega) (fun _ => .inl rfl) hx nil2 nil2 (by have := hn.1; simp; omega)) r3 hr3).imp fun s v5 hs => ⟨by have := hs.1; omega, hs.2⟩) fun _ => ?_
 · exact ((Xey r2.tail hr2.tail).up (Xrr r2)).bind fun f r3 v2 hr3 hf => (Ybq k r3 hr3).bind fun xs r4 v3 hr4 hx =>
    (Xib (Xkh (v := v0 + v1 + v2 + v3) ht (fun _ => hf.2) (fun h => by omega) (fun _ => .inr hn.2) hx nil2 nil2 (by have := hn.1; have := hf.1; omega)) r4 hr4).imp fun s v5 hs => ⟨by have := hs.1; omega, hs.2⟩
 · refine Co.ite (fun _ => (Xib (Xkh (v := v0) ht (fun h => by omega) (fun h => by omega) (fun _ => .inl rfl) nil1 nil2 nil2 (by simp; omega)) r hr).imp fun s v5 hs => hs) fun _ => ?_
   exact (hE r hr).bind fun e r2 v1 hr2 he => (Xib (Xkh (v := v0 + v1) ht (fun h => by omega) (fun h => by omega) (fun _ => .inl rfl) (Xjp he) nil2 nil2 (by simp; omega)) r2 hr2).imp fun s v5 hs => ⟨by have := hs.1; omega, hs.2⟩
theorem Ybw : ∀ (n : Nat) (us : List Tok), Gt N P us → Co N P (Xcp L n us) (tw us) (QS N P)
 | 0, us, h => by unfold Xcp; exact Co.bad
 | n + 1, us, h => by
   unfold Xcp
   exact (Xcy _ us h).bind fun t r v hr ht => co_stmt1 n (Ybw n) t v (by have := ht.1; omega) ht.2.2.1 r hr
theorem Xut (us : List Tok) (h : Gt N P us) : Co N P (Xgy L us) (tw us) (QSs N P) := Xxa (Ybw 24) 0 us h
def QD (N : Nat) (P : List UInt8 → Prop) (d : Dc) (v : Nat) : Prop := dcW d ≤ v ∧ okD N P d
theorem Xrk {k n : Int} {p v a b : Nat} {s ty : List UInt8} {ps : List Pr} {bd : List Sm} (hp : p < N) (hk : 1 ≤ k ∧ k ≤ 8) (hs : P s) (ht : okTy P ty) (hq : prWs ps ≤ a ∧ ∀ x ∈ ps, okPr P x) (h8 : k = 8 → ps = []) (hb : QSs N P bd b) (hv : 1 + s.length + ty.length + a + b ≤ v) : QD N P ⟨k, p, n, s, ty, ps, bd⟩ v :=
 ⟨by show 1 + s.length + ty.length + prWs ps + smWs bd ≤ v; have := hq.1; have := hb.1; omega, by refine ⟨?_, ?_, hk.1, hk.2, hs, ht, hq.2, h8, hb.2⟩ <;> (show _; simp; try omega)⟩
theorem Xll : prWs [] ≤ 0 ∧ ∀ x ∈ ([] : List Pr), okPr P x := ⟨Nat.le_refl _, fun x hx => by cases hx⟩
theorem Xmz {d : Dc} {u0 : Nat} (hd : QD N P d u0) (us : List Tok) (h : Gt N P us) : Co N P (Xgk L d us) (tw us) (fun x v => QD N P x (u0 + v)) :=
 (Xcy _ us h).map fun _ v _ => ⟨by have := hd.1; omega, hd.2⟩
theorem co_decl1 (w : List UInt8) (p : Nat) (hp : p < N) (s : List UInt8) (hs : P s) (v0 : Nat) (hv0 : 1 + s.length ≤ v0) (r : List Tok) (hr : Gt N P r) : Co N P (Xee L w p s r) (tw r) (fun d v => QD N P d (v0 + v)) := by
 unfold Xee
 have ne : okTy P [] := fun h => by cases h
 refine Co.ite (fun _ => (Ybr r hr).map fun ps v1 hq => Xrk hp (by decide) hs ne hq (fun h => by cases h) Xln (by simp; omega)) fun _ => ?_
 refine Co.ite (fun _ => (Ybt r hr).bind fun ps r2 v1 hr2 hq => Co.ite (fun _ => (Xut r2 hr2).map fun b v2 hb => Xrk hp (by decide) hs ne hq (fun h => by cases h) hb (by simp; omega)) fun _ =>
  (Xmh r2 hr2).bind fun y r3 v2 hr3 hy => (Xut r3 hr3).map fun b v3 hb => Xrk hp (by decide) hs hy.2 hq (fun h => by cases h) hb (by have := hy.1; omega)) fun _ => ?_
 refine Co.ite (fun _ => (Xut r hr).map fun b v2 hb => Xrk hp (by decide) hs ne Xll (fun _ => rfl) hb (by simp; omega)) fun _ => ?_
 refine Co.ite (fun _ => Xmz (Xrk hp (by decide) hs ne Xll (fun _ => rfl) Xln (by simp; omega)) r hr) fun _ => ?_
 refine Co.ite (fun _ => (Ybu r hr).bind fun n r2 v1 hr2 _ => (Xmz (Xrk (v := v0) hp (by decide) hs ne Xll (fun _ => rfl) Xln (by simp; omega)) r2 hr2).imp fun d v2 hd => ⟨by have := hd.1; omega, hd.2⟩) fun _ => ?_
 refine Co.ite (fun _ => (Xmh r hr).bind fun y r2 v1 hr2 hy => (Xmz (Xrk (v := v0 + v1) hp (by decide) hs hy.2 Xll (fun _ => rfl) Xln (by have := hy.1; omega)) r2 hr2).imp fun d v2 hd => ⟨by have := hd.1; omega, hd.2⟩) fun _ => ?_
 exact Co.ite (fun _ => Xmz (Xrk hp (by decide) hs ne Xll (fun _ => rfl) Xln (by simp; omega)) r hr) fun _ => Xmz (Xrk hp (by decide) hs ne Xll (fun _ => rfl) Xln (by simp; omega)) r hr
theorem co_decl (n : Nat) (us : List Tok) (h : Gt N P us) : Co N P (Xbx L n us) (tw us) (fun d v => dcW d ≤ v ∧ okD N P d) := by
 unfold Xbx
 refine (Xcy _ us h).bind fun t r v hr ht => ?_
 intro d r9 e
 obtain ⟨_, r2, h1, h2⟩ := Rd.bind_ok e
 have hre := Xkj h1
 subst hre
 have hkd : kd r2 = 1 := by
  unfold Xcc at h1
  split at h1
  · rename_i hh; exact of_decide_eq_true hh
  · cases h1
 cases r2 with
 | nil => simp [kd] at hkd
 | cons t2 r3 =>
   have ht2 := hr t2 (by simp)
   have hr3 : Gt N P r3 := fun x hx => hr x (by simp [hx])
   obtain ⟨g, u, hu, hq⟩ := co_decl1 (L := L) t.text t2.pl ht2.2 t2.text ht2.1 (1 + t2.text.length) (Nat.le_refl _) r3 hr3 d r9 h2
   rw [Xhs]
   exact ⟨g, 1 + t2.text.length + u, by omega, by have := hq.1; omega, hq.2⟩
theorem Xze (us : List Tok) (h : Gt N P us) : Co N P (Xbs L us) (tw us) (fun ds v => dcWs ds ≤ v ∧ ∀ d ∈ ds, okD N P d) := Xit _ _ _ dcW (okD N P) co_decl _ _ us h
end
end
section
structure Dg where
 pl : Int
 code : Int
 name : List UInt8
deriving DecidableEq
def Xai : List Dc → List UInt8 → Option Nat
 | [], _ => none
 | d :: ds, s => if d.name = s then some 0 else (Xai ds s).map (· + 1)
theorem Xld : ∀ {ds : List Dc} {s : List UInt8} {i : Nat}, Xai ds s = some i → ∃ h : i < ds.length, ds[i].name = s
 | [], s, i, h => by cases h
 | d :: ds, s, i, h => by
   unfold Xai at h
   split at h
   · cases h; exact ⟨by simp, by simpa⟩
   · cases hx : Xai ds s with
     | none => rw [hx] at h; cases h
     | some j =>
       rw [hx] at h
       cases h
       obtain ⟨h1, h2⟩ := Xld hx
       exact ⟨by simpa using h1, by simpa using h2⟩
theorem Xlt : ∀ {ds : List Dc} {s : List UInt8}, Xai ds s = none ↔ ∀ d ∈ ds, d.name ≠ s
 | [], s => by simp [Xai]
 | d :: ds, s => by
   unfold Xai
   split
   · rename_i h; simp [h]
   · rename_i h
     rw [Option.map_eq_none_iff, Xlt]
     simp [h]
section
variable (ds : List Dc)
def useD (p : Int) (s : List UInt8) (ks : List Int) : List Dg := match Xai ds s with
 | none => [⟨p, 41, s⟩]
 | some i => if (ds[i]?.map Dc.kind).getD 0 ∈ ks then [] else [⟨p, 42, s⟩]
def Xbl (p : Int) (ty : List UInt8) : List Dg := if ty.head? = some 42 then useD ds p ty.tail [3] else []
def hasB (l : List Pr) (s : List UInt8) : Bool := l.any fun p => decide (p.name = s)
def addL (l : List Pr) (s ty : List UInt8) : List Pr := if hasB l s = true then l else l ++ [⟨s, ty⟩]
def exD1 (l : List Pr) (k p : Int) (s : List UInt8) : List Dg :=
 if k = 4 ∧ hasB l s = false then useD ds p s [4, 5] else if k = 11 then useD ds p s [3] else []
mutual
def exD (l : List Pr) : Ex → List Dg
 | .mk k p _ s es => exD1 ds l k p s ++ exDs l es
def exDs (l : List Pr) : List Ex → List Dg
 | [] => []
 | e :: es => exD l e ++ exDs l es
end
def Xbw (l : List Pr) (p : Int) (s : List UInt8) : List Dg := if s ≠ [] ∧ hasB l s = false then useD ds p s [] else []
def smD1 (l : List Pr) (k p : Int) (nm ty : List UInt8) : List Dg :=
 if k = 1 then Xbl ds p ty ++ (if hasB l nm = true ∨ (Xai ds nm).isSome = true then [⟨p, 40, nm⟩] else []) ++ (if 32 ≤ l.length then [⟨p, 22, nm⟩] else [])
 else if k = 5 ∨ k = 6 then useD ds p nm [1]
 else if k = 7 then useD ds p nm [2]
 else if k = 8 then useD ds p nm [2] ++ Xbw ds l p ty
 else if k = 9 then useD ds p nm [6]
 else if k = 10 then useD ds p nm [7] ++ Xbw ds l p ty
 else []
def smL1 (l : List Pr) (k : Int) (nm ty : List UInt8) : List Pr := if k = 1 then addL l nm ty else l
mutual
def smD (l : List Pr) : Sm → List Dg × List Pr
 | .mk k p nm ty ex bd el =>
   let a := smDs (smL1 l k nm ty) bd
   let b := smDs a.2 el
   (exDs ds l ex ++ smD1 ds l k p nm ty ++ a.1 ++ b.1, b.2)
def smDs (l : List Pr) : List Sm → List Dg × List Pr
 | [] => ([], l)
 | s :: ss =>
   let a := smD l s
   let b := smDs a.2 ss
   (a.1 ++ b.1, b.2)
end
def prDs (p : Int) (fn : Bool) : List Pr → List Pr → List Dg
 | _, [] => []
 | pre, q :: qs => (if hasB pre q.name = true ∨ fn = true ∧ (Xai ds q.name).isSome = true then [⟨p, 40, q.name⟩] else []) ++ Xbl ds p q.type ++ prDs p fn (pre ++ [q]) qs
def Xdt (ps : List Pr) : List Pr := ps.foldl (fun l q => addL l q.name q.type) []
def mostK (k : Int) : Nat := if k = 1 then 8 else if k = 2 then 4 else if k = 3 then 4 else if k = 4 then 16 else if k = 5 then 8 else if k = 6 then 4 else if k = 7 then 8 else 4
def Xgb (k : Int) : Bool := decide (k = 7 ∨ k = 8)
def dcD (pre : List Dc) (d : Dc) : List Dg × List (List Pr) :=
 let b := smDs ds (Xdt d.pairs) d.body
 ((if Xai ds d.name = some pre.length then [] else [⟨d.pl, 40, d.name⟩])
   ++ (if mostK d.kind ≤ (pre.filter fun x => decide (x.kind = d.kind)).length then [⟨d.pl, 22, d.name⟩] else [])
   ++ Xbl ds d.pl d.type ++ prDs ds d.pl (decide (d.kind = 7)) [] d.pairs ++ (if Xgb d.kind = true then b.1 else []),
  if Xgb d.kind = true then [b.2] else [])
def dcDs : List Dc → List Dc → List Dg × List (List Pr)
 | _, [] => ([], [])
 | pre, d :: r => ((dcD ds pre d).1 ++ (dcDs (pre ++ [d]) r).1, (dcD ds pre d).2 ++ (dcDs (pre ++ [d]) r).2)
end
def Xbg (k : Int) : List Dc → Nat → List Nat
 | [], _ => []
 | d :: ds, i => if d.kind = k then i :: Xbg k ds (i + 1) else Xbg k ds (i + 1)
end
theorem Xus : ∀ a : List UInt8, Lib.compareBytes a a = 0
 | [] => rfl
 | a :: la => by
   have h : ¬ a < a := UInt8.lt_irrefl a
   rw [Lib.compareBytes, if_neg h, if_neg h, Xus la]
theorem cb_neg : ∀ a b : List UInt8, Lib.compareBytes b a = - Lib.compareBytes a b
 | [], [] => rfl
 | [], _ :: _ => rfl
 | _ :: _, [] => rfl
 | a :: la, b :: lb => by
   rw [Lib.compareBytes, Lib.compareBytes]
   by_cases h1 : a < b
   · have h2 : ¬ b < a := UInt8.lt_asymm h1
     rw [if_neg h2, if_pos h1, if_pos h1]; rfl
   · by_cases h2 : b < a
     · rw [if_pos h2, if_neg h1, if_pos h2]
     · rw [if_neg h2, if_neg h1, if_neg h1, if_neg h2, cb_neg la lb]
theorem Xqs : ∀ a b : List UInt8, Lib.compareBytes a b = 0 → a = b
 | [], [], _ => rfl
 | [], _ :: _, h => by cases h
 | _ :: _, [], h => by cases h
 | a :: la, b :: lb, h => by
   rw [Lib.compareBytes] at h
   split at h
   · cases h
   · split at h
     · cases h
     · rename_i h1 h2
       have e : a = b := UInt8.le_antisymm (UInt8.not_lt.1 h2) (UInt8.not_lt.1 h1)
       rw [e, Xqs la lb h]
theorem Xwy : ∀ a b c : List UInt8, Lib.compareBytes a b < 0 → Lib.compareBytes b c < 0 → Lib.compareBytes a c < 0
 | [], [], c, h, _ => absurd h (by simp [Lib.compareBytes])
 | [], _ :: _, [], _, h => absurd h (by simp [Lib.compareBytes])
 | [], _ :: _, _ :: _, _, _ => by simp [Lib.compareBytes]
 | _ :: _, [], _, h, _ => absurd h (by simp [Lib.compareBytes])
 | _ :: _, _ :: _, [], _, h => absurd h (by simp [Lib.compareBytes])
 | a :: la, b :: lb, c :: lc, h1, h2 => by
   rw [Lib.compareBytes] at h1 h2 ⊢
   by_cases x : a < c
   · rw [if_pos x]; decide
   · rw [if_neg x]
     by_cases y : c < a
     · exfalso
       split at h1
       · rename_i k1
         split at h2
         · rename_i k2; exact x (UInt8.lt_trans k1 k2)
         · split at h2
           · cases h2
           · rename_i k2 k3
             have e : b = c := UInt8.le_antisymm (UInt8.not_lt.1 k3) (UInt8.not_lt.1 k2)
             exact x (e ▸ k1)
       · split at h1
         · cases h1
         · rename_i k1 k2
           have e : a = b := UInt8.le_antisymm (UInt8.not_lt.1 k2) (UInt8.not_lt.1 k1)
           subst e
           rw [if_neg x, if_pos y] at h2
           exact absurd h2 (by decide)
     · rw [if_neg y]
       have e : a = c := UInt8.le_antisymm (UInt8.not_lt.1 y) (UInt8.not_lt.1 x)
       subst e
       split at h1
       · rename_i k1
         rw [if_neg (UInt8.lt_asymm k1), if_pos k1] at h2
         cases h2
       · split at h1
         · cases h1
         · rename_i k1 k2
           rw [if_neg k2, if_neg k1] at h2
           exact Xwy la lb lc h1 h2
def cfD (a b : Dg) : Int := if Lib.compareInt a.pl b.pl ≠ 0 then Lib.compareInt a.pl b.pl else if Lib.compareInt a.code b.code ≠ 0 then Lib.compareInt a.code b.code else Lib.compareBytes a.name b.name
def ltD (a b : Dg) : Bool := decide (cfD a b < 0)
def LtD (a b : Dg) : Prop := a.pl < b.pl ∨ (a.pl = b.pl ∧ (a.code < b.code ∨ (a.code = b.code ∧ Lib.compareBytes a.name b.name < 0)))
theorem Xnw (a b : Dg) : ltD a b = true ↔ LtD a b := by
 unfold ltD cfD LtD Lib.compareInt
 rw [decide_eq_true_iff]
 rcases Int.lt_trichotomy a.pl b.pl with h | h | h
 · rw [if_pos (by rw [if_pos h]; decide), if_pos h]
   exact ⟨fun _ => .inl h, fun _ => by decide⟩
 · rw [if_neg (by rw [if_neg (by omega), if_neg (by omega)]; simp)]
   rcases Int.lt_trichotomy a.code b.code with h2 | h2 | h2
   · rw [if_pos (by rw [if_pos h2]; decide), if_pos h2]
     exact ⟨fun _ => .inr ⟨h, .inl h2⟩, fun _ => by decide⟩
   · rw [if_neg (by rw [if_neg (by omega), if_neg (by omega)]; simp)]
     exact ⟨fun k => .inr ⟨h, .inr ⟨h2, k⟩⟩, fun k => by
      rcases k with k | ⟨_, k | ⟨_, k⟩⟩
      · omega
      · omega
      · exact k⟩
   · rw [if_pos (by rw [if_neg (by omega), if_pos (by omega)]; decide), if_neg (by omega), if_pos (by omega)]
     exact ⟨fun k => by omega, fun k => by
      rcases k with k | ⟨_, k | ⟨_, k⟩⟩ <;> omega⟩
 · rw [if_pos (by rw [if_neg (by omega), if_pos (by omega)]; decide), if_neg (by omega), if_pos (by omega)]
   exact ⟨fun k => by omega, fun k => by
    rcases k with k | ⟨_, k | ⟨_, k⟩⟩ <;> omega⟩
theorem LtD.trans {a b c : Dg} (h1 : LtD a b) (h2 : LtD b c) : LtD a c := by
 unfold LtD at *
 rcases h1 with h1 | ⟨e1, h1 | ⟨e2, h1⟩⟩ <;> rcases h2 with h2 | ⟨e3, h2 | ⟨e4, h2⟩⟩
 · exact .inl (by omega)
 · exact .inl (by omega)
 · exact .inl (by omega)
 · exact .inl (by omega)
 · exact .inr ⟨by omega, .inl (by omega)⟩
 · exact .inr ⟨by omega, .inl (by omega)⟩
 · exact .inl (by omega)
 · exact .inr ⟨by omega, .inl (by omega)⟩
 · exact .inr ⟨by omega, .inr ⟨by omega, Xwy _ _ _ h1 h2⟩⟩
theorem LtD.irrefl {a : Dg} (h : LtD a a) : False := by
 unfold LtD at h
 rw [Xus] at h
 rcases h with h | ⟨_, h | ⟨_, h⟩⟩ <;> omega
theorem LtD.total (a b : Dg) : LtD a b ∨ a = b ∨ LtD b a := by
 unfold LtD
 rcases Int.lt_trichotomy a.pl b.pl with h | h | h
 · exact .inl (.inl h)
 · rcases Int.lt_trichotomy a.code b.code with h2 | h2 | h2
   · exact .inl (.inr ⟨h, .inl h2⟩)
   · rcases Int.lt_trichotomy (Lib.compareBytes a.name b.name) 0 with h3 | h3 | h3
     · exact .inl (.inr ⟨h, .inr ⟨h2, h3⟩⟩)
     · refine .inr (.inl ?_)
       cases a; cases b
       simp at h h2 h3
       rw [h, h2, Xqs _ _ h3]
     · exact .inr (.inr (.inr ⟨h.symm, .inr ⟨h2.symm, by rw [cb_neg]; omega⟩⟩))
   · exact .inr (.inr (.inr ⟨h.symm, .inl h2⟩))
 · exact .inr (.inr (.inl h))
def leD (a b : Dg) : Bool := !ltD b a
theorem Xlh (a b : Dg) : leD a b = true ↔ LtD a b ∨ a = b := by
 unfold leD
 rw [Bool.not_eq_true', ← Bool.not_eq_true, Xnw]
 constructor
 · intro h
   rcases LtD.total a b with k | k | k
   · exact .inl k
   · exact .inr k
   · exact absurd k h
 · rintro (h | rfl) k
   · exact LtD.irrefl (h.trans k)
   · exact LtD.irrefl k
theorem Xto (a b c : Dg) (h1 : leD a b = true) (h2 : leD b c = true) : leD a c = true := by
 rw [Xlh] at *
 rcases h1 with h1 | rfl
 · rcases h2 with h2 | rfl
   · exact .inl (h1.trans h2)
   · exact .inl h1
 · exact h2
theorem Xtn (a b : Dg) : (leD a b || leD b a) = true := by
 rw [Bool.or_eq_true, Xlh, Xlh]
 rcases LtD.total a b with h | h | h
 · exact .inl (.inl h)
 · exact .inl (.inr h)
 · exact .inr (.inl h)
def Xbm : List Dg → List Dg
 | [] => []
 | [a] => [a]
 | a :: b :: r => if a = b then Xbm (b :: r) else a :: Xbm (b :: r)
theorem Xgm : ∀ (l : List Dg) (g : Dg), g ∈ Xbm l ↔ g ∈ l
 | [], g => by simp [Xbm]
 | [a], g => by simp [Xbm]
 | a :: b :: r, g => by
   unfold Xbm
   split
   · rename_i h
     rw [Xgm (b :: r) g, h]
     simp
   · rw [List.mem_cons, Xgm (b :: r) g]
     simp
theorem Xjh : ∀ (l : List Dg), l.Pairwise (fun a b => leD a b = true) → (Xbm l).Pairwise LtD
 | [], _ => by simp [Xbm]
 | [a], _ => by simp [Xbm]
 | a :: b :: r, h => by
   unfold Xbm
   rw [List.pairwise_cons] at h
   split
   · exact Xjh (b :: r) h.2
   · rename_i hab
     rw [List.pairwise_cons]
     refine ⟨fun g hg => ?_, Xjh (b :: r) h.2⟩
     have hab2 : LtD a b := by
      rcases (Xlh a b).1 (h.1 b (by simp)) with k | k
      · exact k
      · exact absurd k hab
     rcases List.mem_cons.1 ((Xgm _ g).1 hg) with rfl | hr
     · exact hab2
     · rcases (Xlh b g).1 ((List.pairwise_cons.1 h.2).1 g hr) with k | rfl
       · exact hab2.trans k
       · exact hab2
def ordD (raw : List Dg) : List Dg := Xbm (raw.mergeSort leD)
theorem Xre (raw : List Dg) (g : Dg) : g ∈ ordD raw ↔ g ∈ raw := by unfold ordD; rw [Xgm, List.mem_mergeSort]
theorem Yef (raw : List Dg) : (ordD raw).Pairwise LtD := Xjh _ (List.pairwise_mergeSort Xto Xtn raw)
theorem Xrf (raw : List Dg) : ordD raw = [] ↔ raw = [] := by
 constructor
 · intro h
   cases raw with
   | nil => rfl
   | cons a r =>
     have := (Xre (a :: r) a).2 (by simp)
     rw [h] at this
     cases this
 · rintro rfl
   simp [ordD, Xbm]
theorem Xyt {l : List Dg} (h : l.Pairwise LtD) : l.Nodup := by
 refine List.Pairwise.imp (S := fun a b => a ≠ b) ?_ h
 intro a b hab e
 rw [e] at hab
 exact hab.irrefl
theorem Yee (raw : List Dg) (x : Dg) (hx : x ∉ raw) : (ordD (raw ++ [x])).length = (ordD raw).length + 1 := by
 have hp : (ordD (raw ++ [x])).Perm (x :: ordD raw) := by
  rw [List.perm_ext_iff_of_nodup (Xyt (Yef _)) (List.nodup_cons.2 ⟨by rw [Xre]; exact hx, Xyt (Yef _)⟩)]
  intro g
  simp only [Xre, List.mem_append, List.mem_cons, List.not_mem_nil, or_false]
  exact or_comm
 have := hp.length_eq
 simpa using this
section
def rawD (ds : List Dc) : List Dg := (dcDs ds [] ds).1
def locD (ds : List Dc) : List (List Pr) := (dcDs ds [] ds).2
section
variable {N : Nat} {P : List UInt8 → Prop} (ds : List Dc)
def Qd (N : Nat) (P : List UInt8 → Prop) (g : Dg) : Prop := 0 ≤ g.pl ∧ g.pl < N ∧ g.code ≠ 0 ∧ P g.name
def AllQ (N : Nat) (P : List UInt8 → Prop) (l : List Dg) : Prop := ∀ g ∈ l, Qd N P g
theorem AllQ.nil : AllQ N P [] := fun g h => by cases h
theorem AllQ.app {a b : List Dg} (ha : AllQ N P a) (hb : AllQ N P b) : AllQ N P (a ++ b) := fun g h => (List.mem_append.1 h).elim (ha g) (hb g)
theorem AllQ.one {p c : Int} {s : List UInt8} (h0 : 0 ≤ p) (h1 : p < N) (hc : c ≠ 0) (hs : P s) : AllQ N P [⟨p, c, s⟩] := fun g h => by
 rw [List.mem_singleton.1 h]; exact ⟨h0, h1, hc, hs⟩
theorem AllQ.ite {a b : List Dg} {c : Prop} [Decidable c] (ha : c → AllQ N P a) (hb : ¬ c → AllQ N P b) : AllQ N P (if c then a else b) := by
 split
 · exact ha ‹_›
 · exact hb ‹_›
theorem Xkt {p : Int} {s : List UInt8} (ks : List Int) (h0 : 0 ≤ p) (h1 : p < N) (hs : P s) : AllQ N P (useD ds p s ks) := by
 unfold useD
 cases Xai ds s with
 | none => exact AllQ.one h0 h1 (by decide) hs
 | some i => exact AllQ.ite (fun _ => AllQ.nil) fun _ => AllQ.one h0 h1 (by decide) hs
theorem Xlo {p : Int} {ty : List UInt8} (h0 : 0 ≤ p) (h1 : p < N) (hs : okTy P ty) : AllQ N P (Xbl ds p ty) := by
 unfold Xbl
 exact AllQ.ite (fun h => Xkt ds _ h0 h1 (hs h)) fun _ => AllQ.nil
theorem exD1_q {l : List Pr} {k p : Int} {s : List UInt8} (h0 : 0 ≤ p) (h1 : p < N) (hs : k = 4 ∨ k = 11 → P s) : AllQ N P (exD1 ds l k p s) := by
 unfold exD1
 exact AllQ.ite (fun h => Xkt ds _ h0 h1 (hs (.inl h.1))) fun _ => AllQ.ite (fun h => Xkt ds _ h0 h1 (hs (.inr h))) fun _ => AllQ.nil
mutual
theorem exD_q (l : List Pr) : ∀ e : Ex, okE N P e → AllQ N P (exD ds l e)
 | .mk k p n s es, h => by
   rw [okE] at h
   rw [exD]
   exact (exD1_q ds h.1 h.2.1 h.2.2.1).app (Ycm l es h.2.2.2)
theorem Ycm (l : List Pr) : ∀ es : List Ex, okEs N P es → AllQ N P (exDs ds l es)
 | [], _ => by rw [exDs]; exact AllQ.nil
 | e :: es, h => by rw [okEs] at h; rw [exDs]; exact (exD_q l e h.1).app (Ycm l es h.2)
end
theorem Xos {l : List Pr} {p : Int} {s : List UInt8} (h0 : 0 ≤ p) (h1 : p < N) (hs : s = [] ∨ P s) : AllQ N P (Xbw ds l p s) := by
 unfold Xbw
 exact AllQ.ite (fun h => Xkt ds _ h0 h1 (hs.resolve_left h.1)) fun _ => AllQ.nil
theorem smD1_q {l : List Pr} {k p : Int} {nm ty : List UInt8} (h0 : 0 ≤ p) (h1 : p < N) (hn : k = 1 ∨ 5 ≤ k ∧ k ≤ 10 → P nm) (ht : k = 1 → okTy P ty) (ht2 : k = 8 ∨ k = 10 → ty = [] ∨ P ty) : AllQ N P (smD1 ds l k p nm ty) := by
 unfold smD1
 refine AllQ.ite (fun h => ?_) fun _ => ?_
 · exact ((Xlo ds h0 h1 (ht h)).app (AllQ.ite (fun _ => AllQ.one h0 h1 (by decide) (hn (.inl h))) fun _ => AllQ.nil)).app (AllQ.ite (fun _ => AllQ.one h0 h1 (by decide) (hn (.inl h))) fun _ => AllQ.nil)
 refine AllQ.ite (fun h => Xkt ds _ h0 h1 (hn (.inr (by omega)))) fun _ => ?_
 refine AllQ.ite (fun h => Xkt ds _ h0 h1 (hn (.inr (by omega)))) fun _ => ?_
 refine AllQ.ite (fun h => (Xkt ds _ h0 h1 (hn (.inr (by omega)))).app (Xos ds h0 h1 (ht2 (.inl h)))) fun _ => ?_
 refine AllQ.ite (fun h => Xkt ds _ h0 h1 (hn (.inr (by omega)))) fun _ => ?_
 exact AllQ.ite (fun h => (Xkt ds _ h0 h1 (hn (.inr (by omega)))).app (Xos ds h0 h1 (ht2 (.inr h)))) fun _ => AllQ.nil
mutual
theorem smD_q (l : List Pr) : ∀ s : Sm, okS N P s → AllQ N P (smD ds l s).1
 | .mk k p nm ty ex bd el, h => by
   rw [okS] at h
   obtain ⟨h0, h1, hn, ht, ht2, hx, hb, hl⟩ := h
   rw [smD]
   exact (((Ycm ds l ex hx).app (smD1_q ds h0 h1 hn ht ht2)).app (Xym _ bd hb)).app (Xym _ el hl)
theorem Xym (l : List Pr) : ∀ ss : List Sm, okSs N P ss → AllQ N P (smDs ds l ss).1
 | [], _ => by rw [smDs]; exact AllQ.nil
 | s :: ss, h => by rw [okSs] at h; rw [smDs]; exact (smD_q l s h.1).app (Xym _ ss h.2)
end
theorem prDs_q {p : Int} (fn : Bool) (h0 : 0 ≤ p) (h1 : p < N) : ∀ (qs pre : List Pr), (∀ q ∈ qs, okPr P q) → AllQ N P (prDs ds p fn pre qs)
 | [], pre, _ => by rw [prDs]; exact AllQ.nil
 | q :: qs, pre, h => by
   rw [prDs]
   have hq := h q (by simp)
   exact ((AllQ.ite (fun _ => AllQ.one h0 h1 (by decide) hq.1) fun _ => AllQ.nil).app (Xlo ds h0 h1 hq.2)).app (prDs_q fn h0 h1 qs _ (fun x hx => h x (by simp [hx])))
theorem dcD_q (pre : List Dc) (d : Dc) (h : okD N P d) : AllQ N P (dcD ds pre d).1 := by
 obtain ⟨h0, h1, _, _, hn, ht, hp, _, hb⟩ := h
 unfold dcD
 exact ((((AllQ.ite (fun _ => AllQ.nil) fun _ => AllQ.one h0 h1 (by decide) hn).app (AllQ.ite (fun _ => AllQ.one h0 h1 (by decide) hn) fun _ => AllQ.nil)).app (Xlo ds h0 h1 ht)).app (prDs_q ds _ h0 h1 _ _ hp)).app (AllQ.ite (fun _ => Xym ds _ _ hb) fun _ => AllQ.nil)
theorem dcDs_q : ∀ (r pre : List Dc), (∀ d ∈ r, okD N P d) → AllQ N P (dcDs ds pre r).1
 | [], pre, _ => by rw [dcDs]; exact AllQ.nil
 | d :: r, pre, h => by rw [dcDs]; exact (dcD_q ds pre d (h d (by simp))).app (dcDs_q r _ (fun x hx => h x (by simp [hx])))
end
section
variable {N : Nat} {P : List UInt8 → Prop} {ds : List Dc} {z : Dc}
theorem Xfl {ds : List Dc} {z : Dc} {s : List UInt8} (h : s ≠ z.name) : Xai (ds ++ [z]) s = Xai ds s := by
 induction ds with
 | nil => show Xai [z] s = none; unfold Xai; rw [if_neg (Ne.symm h)]; rfl
 | cons d ds ih => rw [List.cons_append, Xai, Xai, ih]
theorem Xls {ds : List Dc} {z : Dc} (h : ∀ d ∈ ds, d.name ≠ z.name) : Xai (ds ++ [z]) z.name = some ds.length := by
 induction ds with
 | nil => show Xai [z] z.name = some 0; unfold Xai; rw [if_pos rfl]
 | cons d ds ih =>
   rw [List.cons_append, Xai, if_neg (h d (by simp)), ih (fun x hx => h x (by simp [hx]))]
   rfl
theorem Xfx {p : Int} {s : List UInt8} (ks : List Int) (h : s ≠ z.name) : useD (ds ++ [z]) p s ks = useD ds p s ks := by
 unfold useD
 rw [Xfl h]
 cases hx : Xai ds s with
 | none => rfl
 | some i =>
   obtain ⟨hi, _⟩ := Xld hx
   show (if (((ds ++ [z])[i]?.map Dc.kind).getD 0) ∈ ks then _ else _) = _
   rw [List.getElem?_append_left hi]
theorem Xir (hz : ∀ s, P s → s ≠ z.name) {p : Int} {ty : List UInt8} (h : okTy P ty) : Xbl (ds ++ [z]) p ty = Xbl ds p ty := by
 unfold Xbl
 split
 · rename_i h2; exact Xfx _ (hz _ (h h2))
 · rfl
theorem exD1_app (hz : ∀ s, P s → s ≠ z.name) {l : List Pr} {k p : Int} {s : List UInt8} (h : k = 4 ∨ k = 11 → P s) : exD1 (ds ++ [z]) l k p s = exD1 ds l k p s := by
 unfold exD1
 split
 · rename_i h2; exact Xfx _ (hz _ (h (.inl h2.1)))
 · split
   · rename_i h2; exact Xfx _ (hz _ (h (.inr h2)))
   · rfl
mutual
theorem exD_app (hz : ∀ s, P s → s ≠ z.name) (l : List Pr) : ∀ e : Ex, okE N P e → exD (ds ++ [z]) l e = exD ds l e
 | .mk k p n s es, h => by rw [okE] at h; rw [exD, exD, exD1_app hz h.2.2.1, Xqx hz l es h.2.2.2]
theorem Xqx (hz : ∀ s, P s → s ≠ z.name) (l : List Pr) : ∀ es : List Ex, okEs N P es → exDs (ds ++ [z]) l es = exDs ds l es
 | [], _ => by rw [exDs, exDs]
 | e :: es, h => by rw [okEs] at h; rw [exDs, exDs, exD_app hz l e h.1, Xqx hz l es h.2]
end
theorem Xku (hz : ∀ s, P s → s ≠ z.name) {l : List Pr} {p : Int} {s : List UInt8} (h : s = [] ∨ P s) : Xbw (ds ++ [z]) l p s = Xbw ds l p s := by
 unfold Xbw
 split
 · rename_i h2; exact Xfx _ (hz _ (h.resolve_left h2.1))
 · rfl
theorem smD1_app (hz : ∀ s, P s → s ≠ z.name) {l : List Pr} {k p : Int} {nm ty : List UInt8} (hn : k = 1 ∨ 5 ≤ k ∧ k ≤ 10 → P nm) (ht : k = 1 → okTy P ty) (ht2 : k = 8 ∨ k = 10 → ty = [] ∨ P ty) : smD1 (ds ++ [z]) l k p nm ty = smD1 ds l k p nm ty := by
 unfold smD1
 split
 · rename_i h
   rw [Xir hz (ht h), Xfl (hz _ (hn (.inl h)))]
 · split
   · exact Xfx _ (hz _ (hn (.inr (by omega))))
   · split
     · exact Xfx _ (hz _ (hn (.inr (by omega))))
     · split
       · rename_i h; rw [Xfx _ (hz _ (hn (.inr (by omega)))), Xku hz (ht2 (.inl h))]
       · split
         · exact Xfx _ (hz _ (hn (.inr (by omega))))
         · split
           · rename_i h; rw [Xfx _ (hz _ (hn (.inr (by omega)))), Xku hz (ht2 (.inr h))]
           · rfl
mutual
theorem smD_app (hz : ∀ s, P s → s ≠ z.name) (l : List Pr) : ∀ s : Sm, okS N P s → smD (ds ++ [z]) l s = smD ds l s
 | .mk k p nm ty ex bd el, h => by
   rw [okS] at h
   obtain ⟨h0, h1, hn, ht, ht2, hx, hb, hl⟩ := h
   rw [smD, smD, Xqx hz l ex hx, smD1_app hz hn ht ht2, Xmt hz _ bd hb, Xmt hz _ el hl]
theorem Xmt (hz : ∀ s, P s → s ≠ z.name) (l : List Pr) : ∀ ss : List Sm, okSs N P ss → smDs (ds ++ [z]) l ss = smDs ds l ss
 | [], _ => by rw [smDs, smDs]
 | s :: ss, h => by rw [okSs] at h; rw [smDs, smDs, smD_app hz l s h.1, Xmt hz _ ss h.2]
end
theorem Xyb (hz : ∀ s, P s → s ≠ z.name) {p : Int} (fn : Bool) : ∀ (qs pre : List Pr), (∀ q ∈ qs, okPr P q) → prDs (ds ++ [z]) p fn pre qs = prDs ds p fn pre qs
 | [], pre, _ => by rw [prDs, prDs]
 | q :: qs, pre, h => by
   have hq := h q (by simp)
   rw [prDs, prDs, Xfl (hz _ hq.1), Xir hz hq.2, Xyb hz fn qs _ (fun x hx => h x (by simp [hx]))]
theorem dcD_app (hz : ∀ s, P s → s ≠ z.name) (pre : List Dc) (d : Dc) (h : okD N P d) : dcD (ds ++ [z]) pre d = dcD ds pre d := by
 obtain ⟨h0, h1, _, _, hn, ht, hp, _, hb⟩ := h
 unfold dcD
 rw [Xfl (hz _ hn), Xir hz ht, Xyb hz _ _ _ hp, Xmt hz _ _ hb]
theorem Xxd (hz : ∀ s, P s → s ≠ z.name) : ∀ (r pre : List Dc), (∀ d ∈ r, okD N P d) → dcDs (ds ++ [z]) pre r = dcDs ds pre r
 | [], pre, _ => by rw [dcDs, dcDs]
 | d :: r, pre, h => by rw [dcDs, dcDs, dcD_app hz pre d (h d (by simp)), Xxd hz r _ (fun x hx => h x (by simp [hx]))]
theorem Xne (D : List Dc) (z : Dc) : ∀ (r pre : List Dc), dcDs D pre (r ++ [z]) = ((dcDs D pre r).1 ++ (dcD D (pre ++ r) z).1, (dcDs D pre r).2 ++ (dcD D (pre ++ r) z).2)
 | [], pre => by rw [List.nil_append, dcDs, dcDs, dcDs]; simp
 | d :: r, pre => by rw [List.cons_append, dcDs, dcDs, Xne D z r]; simp
theorem raw_more (hz : ∀ s, P s → s ≠ z.name) (h : ∀ d ∈ ds, okD N P d) : rawD (ds ++ [z]) = rawD ds ++ (dcD (ds ++ [z]) ds z).1 ∧ locD (ds ++ [z]) = locD ds ++ (dcD (ds ++ [z]) ds z).2 := by
 unfold rawD locD
 rw [Xne, Xxd hz ds [] h]
 exact ⟨rfl, rfl⟩
theorem Yfp (hz : ∀ s, P s → s ≠ z.name) (h : ∀ d ∈ ds, okD N P d) (hk : z.kind = 6) (ht : z.type = []) (hp : z.pairs = []) :
  dcD (ds ++ [z]) ds z = (if 4 ≤ (ds.filter fun x => decide (x.kind = 6)).length then [⟨z.pl, 22, z.name⟩] else [], []) := by
 unfold dcD
 rw [Xls (fun d hd => hz _ (h d hd).2.2.2.2.1), hk, ht, hp]
 have hb : Xgb 6 = false := by decide
 have hm : mostK 6 = 4 := by decide
 rw [hb, hm]
 unfold Xbl
 rw [prDs]
 simp
end
section
variable {ds : List Dc}
end
theorem Xkc (k : Int) : ∀ (ds : List Dc) (i : Nat), (Xbg k ds i).length = (ds.filter fun x => decide (x.kind = k)).length
 | [], i => rfl
 | d :: ds, i => by
   unfold Xbg
   by_cases h : d.kind = k
   · rw [if_pos h, List.length_cons, Xkc k ds, List.filter_cons_of_pos (by simpa using h), List.length_cons]
   · rw [if_neg h, Xkc k ds, List.filter_cons_of_neg (by simpa using h)]
theorem Xiw (k : Int) (z : Dc) : ∀ (ds : List Dc) (i : Nat), Xbg k (ds ++ [z]) i = Xbg k ds i ++ (if z.kind = k then [i + ds.length] else [])
 | [], i => by simp [Xbg]
 | d :: ds, i => by
   rw [List.cons_append, Xbg, Xbg, Xiw k z ds (i + 1)]
   have e : i + 1 + ds.length = i + (d :: ds).length := by simp; omega
   rw [e]
   split <;> simp
end
theorem Xtu {s : List UInt8} : ∀ (y : List Tok) (p : Nat), Xhy s p y → p ≤ s.length → tw y + p ≤ y.length + s.length
 | [], p, _, hp => by rw [tw_nil]; simp; omega
 | t :: y, p, h, hp => by
   obtain ⟨h1, h2, _, _, _, h6⟩ := h
   have := Xtu y _ h6 h2
   rw [Xhs, List.length_cons]
   omega
theorem Xpw {s : List UInt8} : ∀ (y : List Tok) (p : Nat), Xhy s p y → ∀ t ∈ y, t.text ≠ [] ∧ t.pl < s.length ∧ (s.drop t.pl).take t.text.length = t.text
 | [], p, _, t, ht => by cases ht
 | u :: y, p, h, t, ht => by
   obtain ⟨h1, h2, h3, h4, _, h6⟩ := h
   rcases List.mem_cons.1 ht with rfl | ht
   · refine ⟨h4, ?_, h3⟩
     have : 0 < t.text.length := by
      rcases Nat.eq_zero_or_pos t.text.length with h0 | h0
      · exact absurd (List.eq_nil_of_length_eq_zero h0) h4
      · exact h0
     omega
   · exact Xpw y _ h6 t ht
def Xrx (x s : List UInt8) : Prop := ∃ p, (s.drop p).take x.length = x
theorem Xrg {s : List UInt8} {ds : List Dc} (h : Xco s = (ds, 0, 0)) (P : List UInt8 → Prop) (hP : ∀ x, x ≠ [] → Xrx x s → P x) :
  s.length ≤ 16384 ∧ dcWs ds ≤ 4096 + s.length ∧ ∀ d ∈ ds, okD s.length P d := by
 unfold Xco at h
 cases ht : toks s with
 | err p e =>
   rw [ht] at h
   have h2 : (([] : List Dc), p, e) = (ds, 0, 0) := h
   have he : e = 0 := by injection h2 with _ h3; injection h3
   exact absurd he (Xjr ht)
 | ok us =>
   rw [ht] at h
   have hl : s.length ≤ 16384 := by
    unfold toks at ht
    split at ht
    · cases ht
    · omega
   have hsc : sc s 0 0 0 = .ok us := by
    unfold toks at ht
    rw [if_neg (by omega)] at ht
    exact ht
   have hpl := Yff s s 0 0 us rfl hsc
   have hcount := Xqf ht
   have htw := Xtu us 0 hpl (Nat.zero_le _)
   have hall := Xpw us 0 hpl
   have hgt : Gt s.length P us := fun t htm => ⟨hP _ (hall t htm).1 ⟨t.pl, (hall t htm).2.2⟩, (hall t htm).2.1⟩
   have h2 : (match Xbs s.length us with | .bad p c => (([] : List Dc), p, c) | .ok ds _ => (ds, 0, 0)) = (ds, 0, 0) := h
   cases hr : Xbs s.length us with
   | bad p c =>
     rw [hr] at h2
     have h3 : (([] : List Dc), p, c) = (ds, 0, 0) := h2
     refine ⟨hl, ?_, ?_⟩
     · have : ds = [] := by injection h3 with h4; exact h4.symm
       rw [this]; exact Nat.zero_le _
     · have : ds = [] := by injection h3 with h4; exact h4.symm
       rw [this]; intro d hd; cases hd
   | ok ds2 r =>
     rw [hr] at h2
     have h3 : (ds2, 0, 0) = (ds, 0, 0) := h2
     have e : ds2 = ds := by injection h3
     subst e
     obtain ⟨_, v, hv, hw, hok⟩ := Xze (L := s.length) us hgt ds2 r hr
     exact ⟨hl, by omega, hok⟩
section
def Xej (w : World) (g : Nat) (u : Value) : Prop := w.heap[g]? = some (.cells #[u] 25 (0, 0))
section
variable {w w' : World} {g B : Nat} {u : Value}
theorem Xej.new (w : World) (u : Value) : Xej (w.alloc (.cells #[u] 25)) w.heap.size u := heap_alloc_new w _
theorem Xej.below (h : Xej w g u) (hb : Below B w w') (hg : g < B) : Xej w' g u := (hb.block g hg).trans h
theorem Xej.c0 (h : Xej w g u) : w.cell? ⟨g, 0, none⟩ = some u := by rw [cell_of_row w g 0 _ _ (0, 0) h]; rfl
theorem Xej.fr (h : Xej w g u) (j : Nat) : w.frozen? ⟨g, j, none⟩ = false := frozen_of_row w g j _ _ h
theorem Xej.set (h : Xej w g u) (x : Value) : Xej (w.setCell ⟨g, 0, none⟩ x) g x := by
 unfold Xej at h ⊢
 simp [World.setCell, Array.getElem?_modify, h]
end
end
end Go.Proofs.YtbckeljbpknbdaaGreatDoor
