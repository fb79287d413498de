/- Go Ca Cb Cc Dd Ce Cf Db -/
import Derived.Test.YtkmpnlbppdekaaaDoorZd9
import Derived.Test.YtkmpnlbppdekaaaDoorZe2
import Derived.StillTailTactics
import Derived.IntWalk
section
set_option linter.unusedVariables false
set_option linter.unusedSimpArgs false
namespace Go.Proofs.YtkmpnlbppdekaaaDoor
open Go.RowKit
theorem map_one {α β : Type} {f : α → β} {y : β} : ∀ {l : List α}, l.map f = [y] → ∃ a, l = [a] ∧ f a = y
  | [], h => nomatch h
  | [a], h => ⟨a, rfl, (List.cons.inj h).1⟩
  | _ :: _ :: _, h => nomatch (List.cons.inj h).2
theorem al_shape : ∃ d m e, (progM alA).1 = [d] ∧ d.body = [m] ∧ m.exprs = [e] ∧ e.name = [43] := by
  obtain ⟨d, h1, h2⟩ := map_one al_a1
  obtain ⟨m, h3, h4⟩ := map_one h2
  obtain ⟨e, h5, h6⟩ := map_one h4
  exact ⟨d, m, e, h1, h3, h5, h6⟩
theorem bytes_len (l : List UInt8) : (⟨l.toArray⟩ : ByteArray).size = l.length := by simp [ByteArray.size]
theorem al_first (w : World) : Calls Tryd.prog 7 #[.string ⟨alA.toArray⟩] w fun e w' => ∃ d m x b off c, e = .returned (.tuple #[.agg #[.slice (some ⟨b, off, none⟩) 1 c], .int .i64 0, .int .i64 0]) ∧ DcsIn w' (fun b => w.heap.size ≤ b ∧ b < w'.heap.size) [d] (.slice (some ⟨b, off, none⟩) 1 c) ∧ d.body = [m] ∧ m.exprs = [x] ∧ x.name = [43] ∧ Below w.heap.size w w' := by
  refine (program_any ⟨alA.toArray⟩ (by rw [bytes_len]; decide) w).mono ?_
  rintro e w' ⟨v, rfl, ⟨A, n, c, rfl, ho⟩, hb⟩
  have hd := ho.dcs
  obtain ⟨d, m, x, h1, h2, h3, h4⟩ := al_shape
  have he : (⟨alA.toArray⟩ : ByteArray).data.toList = alA := rfl
  rw [he] at hd ⊢
  rw [al_a]
  rw [h1] at hd
  have hd2 := hd
  obtain ⟨A', c', fp, fb, hv, -, -, hk, -⟩ := hd2
  obtain ⟨b, off, hA, -⟩ := hk 0 (by simp)
  subst hA
  cases hv
  exact ⟨d, m, x, b, off, c, rfl, hd, h2, h3, h4, hb⟩
theorem al_second (w : World) : Calls Tryd.prog 7 #[.string ⟨alB.toArray⟩] w fun e w' => ∃ A n c, e = .returned (.tuple #[.agg #[.slice A n c], .int .i64 28, .int .i64 20]) ∧ Below w.heap.size w w' := by
  refine (program_any ⟨alB.toArray⟩ (by rw [bytes_len]; decide) w).mono ?_
  rintro e w' ⟨v, rfl, ⟨A, n, c, rfl, hd⟩, hb⟩
  have he : (⟨alB.toArray⟩ : ByteArray).data.toList = alB := rfl
  rw [he, al_b]
  exact ⟨A, n, c, rfl, hb⟩
theorem al_third (w : World) : Calls Tryd.prog 8 #[.string ⟨alC.toArray⟩] w fun e w' => ∃ (n : Int) (s : ByteArray) (A : Option Addr) (k c : Nat), e = .returned (.tuple #[.agg #[.int .i64 6, .int .i64 3, .int .i64 n, .string s, .slice A k c], .int .i64 0, .int .i64 0]) ∧ Below w.heap.size w w' := by
  refine (exprA_any ⟨alC.toArray⟩ (by rw [bytes_len]; decide) w).mono ?_
  rintro e w' ⟨v, rfl, ⟨u, rfl, -, hu⟩, hb⟩
  obtain ⟨A, c, rfl, -⟩ := IsExs.slice hu
  have he : (⟨alC.toArray⟩ : ByteArray).data.toList = alC := rfl
  rw [he, al_c, al_c1.1, al_c1.2]
  exact ⟨_, _, A, _, c, rfl, hb⟩
end Go.Proofs.YtkmpnlbppdekaaaDoor
end
section
set_option linter.unusedVariables false
set_option linter.unusedSimpArgs false
namespace Go.Proofs.YtkmpnlbppdekaaaDoor
open Go.RowKit
def Cut {α : Type} (x y : Rd α) (rest : List Tok) (L : Nat) : Prop := (∃ a r, x = .ok a r ∧ y = .ok a (r ++ rest)) ∨ (∃ p c, x = .bad p c ∧ y = .bad p c) ∨ x = .bad L 20 ∨ ∃ a, x = .ok a []
structure Gp {α : Type} (F : Nat → List Tok → Rd α) : Prop where
  suf : ∀ L us a r, us ≠ [] → F L us = .ok a r → ∃ q, us = q ++ r
  pl : ∀ L us p c, us ≠ [] → F L us = .bad p c → (p = L ∧ c = 20) ∨ ∃ t ∈ us, p = t.pl
  pf : ∀ L L' pre rest, pre ≠ [] → Cut (F L' pre) (F L (pre ++ rest)) rest L'
def End {α : Type} (x : Rd α) (L : Nat) : Prop := x = .bad L 20 ∨ ∃ a, x = .ok a []
structure Gd {α : Type} (F : Nat → List Tok → Rd α) : Prop extends Gp F where
  nil : ∀ L, End (F L []) L
theorem End.cut {α : Type} {x y : Rd α} {rest : List Tok} {L : Nat} (h : End x L) : Cut x y rest L := h.elim (fun h => .inr (.inr (.inl h))) (fun h => .inr (.inr (.inr h)))
theorem Gd.suf' {α : Type} {F : Nat → List Tok → Rd α} (h : Gd F) (L : Nat) (us : List Tok) {a : α} {r : List Tok} (e : F L us = .ok a r) : ∃ q, us = q ++ r := by
  cases us with
  | nil =>
    rcases h.nil L with h1 | ⟨b, h1⟩ <;> rw [h1] at e <;> cases e
    exact ⟨[], rfl⟩
  | cons t r2 => exact h.suf L _ a r nofun e
theorem Gd.pl' {α : Type} {F : Nat → List Tok → Rd α} (h : Gd F) (L : Nat) (us : List Tok) {p c : Nat} (e : F L us = .bad p c) : (p = L ∧ c = 20) ∨ ∃ t ∈ us, p = t.pl := by
  cases us with
  | nil =>
    rcases h.nil L with h1 | ⟨b, h1⟩ <;> rw [h1] at e <;> cases e
    exact .inl ⟨rfl, rfl⟩
  | cons t r2 => exact h.pl L _ p c nofun e
theorem Gd.pf' {α : Type} {F : Nat → List Tok → Rd α} (h : Gd F) (L L' : Nat) (pre rest : List Tok) : Cut (F L' pre) (F L (pre ++ rest)) rest L' := by
  cases pre with
  | nil => exact (h.nil L').cut
  | cons t r => exact h.pf L L' _ rest nofun
theorem Gp.bind {α β : Type} {F : Nat → List Tok → Rd α} {G : α → Nat → List Tok → Rd β} (hF : Gp F) (hG : ∀ a, Gd (G a)) : Gp (fun L us => (F L us).bind (fun a r => G a L r)) where
  suf L us b r hne h := by
    cases hx : F L us with
    | bad p c => simp only [hx] at h; cases h
    | ok a r1 =>
      simp only [hx] at h
      obtain ⟨q, e⟩ := hF.suf L us a r1 hne hx
      obtain ⟨q2, e2⟩ := (hG a).suf' L r1 (show G a L r1 = _ from h)
      exact ⟨q ++ q2, by rw [e, e2, List.append_assoc]⟩
  pl L us p c hne h := by
    cases hx : F L us with
    | bad p c => simp only [hx] at h; cases h; exact hF.pl L us _ _ hne hx
    | ok a r1 =>
      simp only [hx] at h
      obtain ⟨q, e⟩ := hF.suf L us a r1 hne hx
      rcases (hG a).pl' L r1 (show G a L r1 = _ from h) with h1 | ⟨t, ht, h1⟩
      · exact .inl h1
      · exact .inr ⟨t, by rw [e]; exact List.mem_append_right _ ht, h1⟩
  pf L L' pre rest hne := by
    rcases hF.pf L L' pre rest hne with ⟨a, r, h1, h2⟩ | ⟨p, c, h1, h2⟩ | h1 | ⟨a, h1⟩
    · simp only [h1, h2]
      exact (hG a).pf' L L' r rest
    · simp only [h1, h2]; exact .inr (.inl ⟨p, c, rfl, rfl⟩)
    · simp only [h1]; exact .inr (.inr (.inl rfl))
    · simp only [h1]; exact ((hG a).nil L').cut
theorem Gd.bind {α β : Type} {F : Nat → List Tok → Rd α} {G : α → Nat → List Tok → Rd β} (hF : Gd F) (hG : ∀ a, Gd (G a)) : Gd (fun L us => (F L us).bind (fun a r => G a L r)) where
  toGp := hF.toGp.bind hG
  nil L := by
    rcases hF.nil L with h1 | ⟨a, h1⟩
    · simp only [h1]; exact .inl rfl
    · simp only [h1]; exact (hG a).nil L
theorem Gd.pure {α : Type} (a : α) : Gd (fun _ us => .ok a us) where
  suf L us b r _ h := by cases h; exact ⟨[], rfl⟩
  pl L us p c _ h := by cases h
  pf L L' pre rest _ := .inl ⟨a, pre, rfl, rfl⟩
  nil L := .inr ⟨a, rfl⟩
theorem Rd.map_bind {α β : Type} (f : α → β) (x : Rd α) : x.map f = x.bind (fun a r => .ok (f a) r) := by cases x <;> rfl
theorem Gd.map {α β : Type} {F : Nat → List Tok → Rd α} (f : α → β) (hF : Gd F) : Gd (fun L us => (F L us).map f) := by
  have h := hF.bind (G := fun a _ r => .ok (f a) r) (fun a => Gd.pure (f a))
  have e : (fun L us => (F L us).map f) = (fun L us => (F L us).bind (fun a r => .ok (f a) r)) := by funext L us; exact Rd.map_bind f _
  rw [e]; exact h
theorem Gp.here {α : Type} (c : Nat) : Gp (α := α) (fun L us => .bad (plc L us) c) where
  suf L us b r _ h := by cases h
  pl L us p d hne h := by
    cases h
    cases us with
    | nil => exact absurd rfl hne
    | cons t r => exact .inr ⟨t, by simp, rfl⟩
  pf L L' pre rest hne := by
    cases pre with
    | nil => exact absurd rfl hne
    | cons t r => exact .inr (.inl ⟨_, _, rfl, rfl⟩)
theorem Gd.here {α : Type} : Gd (α := α) (fun L us => .bad (plc L us) 20) where
  toGp := Gp.here 20
  nil L := .inl rfl
def Hd (C : List Tok → Prop) : Prop := ∀ t r r', C (t :: r) ↔ C (t :: r')
theorem Gp.ite {α : Type} {C : List Tok → Prop} {inst : ∀ us, Decidable (C us)} {A B : Nat → List Tok → Rd α} (hC : Hd C) (hA : Gp A) (hB : Gp B) : Gp (fun L us => @_root_.ite _ (C us) (inst us) (A L us) (B L us)) where
  suf L us a r hne h := by
    by_cases hc : C us
    · simp only [if_pos hc] at h; exact hA.suf L us a r hne h
    · simp only [if_neg hc] at h; exact hB.suf L us a r hne h
  pl L us p c hne h := by
    by_cases hc : C us
    · simp only [if_pos hc] at h; exact hA.pl L us p c hne h
    · simp only [if_neg hc] at h; exact hB.pl L us p c hne h
  pf L L' pre rest hne := by
    cases pre with
    | nil => exact absurd rfl hne
    | cons t r =>
      by_cases hc : C (t :: r)
      · have hc2 : C (t :: r ++ rest) := (hC t r (r ++ rest)).1 hc
        simp only [if_pos hc, if_pos hc2]; exact hA.pf L L' _ rest nofun
      · have hc2 : ¬ C (t :: r ++ rest) := fun h => hc ((hC t r (r ++ rest)).2 h)
        simp only [if_neg hc, if_neg hc2]; exact hB.pf L L' _ rest nofun
theorem Gd.ite {α : Type} {C : List Tok → Prop} {inst : ∀ us, Decidable (C us)} {A B : Nat → List Tok → Rd α} (hC : Hd C) (hA : Gd A) (hB : Gd B) : Gd (fun L us => @_root_.ite _ (C us) (inst us) (A L us) (B L us)) where
  toGp := Gp.ite hC hA.toGp hB.toGp
  nil L := by
    by_cases hc : C []
    · simp only [if_pos hc]; exact hA.nil L
    · simp only [if_neg hc]; exact hB.nil L
theorem Gd.iteN {α : Type} {C : List Tok → Prop} {inst : ∀ us, Decidable (C us)} {A B : Nat → List Tok → Rd α} (hC : Hd C) (h0 : ¬ C []) (hA : Gp A) (hB : Gd B) : Gd (fun L us => @_root_.ite _ (C us) (inst us) (A L us) (B L us)) where
  toGp := Gp.ite hC hA hB.toGp
  nil L := by simp only [if_neg h0]; exact hB.nil L
theorem Gp.ahead {α : Type} {H : List UInt8 → Nat → Nat → List Tok → Rd α} (h : ∀ s p, Gd (H s p)) : Gp (fun L us => H (tx us) (plc L us) L us.tail) where
  suf L us a r hne e := by
    cases us with
    | nil => exact absurd rfl hne
    | cons t r2 => obtain ⟨q, e2⟩ := (h _ _).suf' L r2 (show H t.text t.pl L r2 = _ from e); exact ⟨t :: q, by rw [e2]; rfl⟩
  pl L us p c hne e := by
    cases us with
    | nil => exact absurd rfl hne
    | cons t r2 =>
      rcases (h _ _).pl' L r2 (show H t.text t.pl L r2 = _ from e) with h1 | ⟨u, hu, h1⟩
      · exact .inl h1
      · exact .inr ⟨u, List.mem_cons_of_mem _ hu, h1⟩
  pf L L' pre rest hne := by
    cases pre with
    | nil => exact absurd rfl hne
    | cons t r => exact (h t.text t.pl).pf' L L' r rest
theorem Gd.take (T : List (List UInt8)) : Gd (fun L us => takeM L T us) where
  suf L us a r hne h := by
    cases us with
    | nil => exact absurd rfl hne
    | cons t r2 =>
      by_cases ht : t.text ∈ T
      · simp only [takeM, if_pos ht, Rd.ok.injEq] at h; exact ⟨[t], by rw [← h.2]; rfl⟩
      · simp only [takeM, if_neg ht] at h; cases h
  pl L us p c hne h := by
    cases us with
    | nil => exact absurd rfl hne
    | cons t r2 =>
      by_cases ht : t.text ∈ T
      · simp only [takeM, if_pos ht] at h; cases h
      · simp only [takeM, if_neg ht] at h; cases h; exact .inr ⟨t, by simp, rfl⟩
  pf L L' pre rest hne := by
    cases pre with
    | nil => exact absurd rfl hne
    | cons t r =>
      by_cases ht : t.text ∈ T
      · simp only [List.cons_append, takeM, if_pos ht]; exact .inl ⟨_, _, rfl, rfl⟩
      · simp only [List.cons_append, takeM, if_neg ht]; exact .inr (.inl ⟨_, _, rfl, rfl⟩)
  nil L := .inl rfl
theorem Gd.name : Gd (fun L us => nameM L us) where
  suf L us a r hne h := by
    cases us with
    | nil => exact absurd rfl hne
    | cons t r2 =>
      by_cases ht : t.kind = 1
      · simp only [nameM, if_pos ht] at h; cases h; exact ⟨[t], rfl⟩
      · simp only [nameM, if_neg ht] at h; cases h
  pl L us p c hne h := by
    cases us with
    | nil => exact absurd rfl hne
    | cons t r2 =>
      by_cases ht : t.kind = 1
      · simp only [nameM, if_pos ht] at h; cases h
      · simp only [nameM, if_neg ht] at h; cases h; exact .inr ⟨t, by simp, rfl⟩
  pf L L' pre rest hne := by
    cases pre with
    | nil => exact absurd rfl hne
    | cons t r =>
      by_cases ht : t.kind = 1
      · simp only [List.cons_append, nameM, if_pos ht]; exact .inl ⟨_, _, rfl, rfl⟩
      · simp only [List.cons_append, nameM, if_neg ht]; exact .inr (.inl ⟨_, _, rfl, rfl⟩)
  nil L := .inl rfl
theorem Gd.room {α : Type} {b : List Tok → Bool} {ahead most : Nat} {X : Nat → List Tok → Rd α} (hb : ∀ t r r', b (t :: r) = b (t :: r')) (h0 : b [] = false) (hX : Gp X) : Gd (fun L us => (roomM L (b us) ahead most us).bind (fun _ r => X L r)) := by
  have e : (fun L us => (roomM L (b us) ahead most us).bind (fun _ r => X L r)) = fun L us => if b us = true then (if ahead < most then X L us else .bad (plc L us) 22) else .bad (plc L us) 20 := by
    funext L us
    unfold roomM
    by_cases h1 : b us = true
    · rw [if_pos h1, if_pos h1]
      by_cases h2 : ahead < most
      · rw [if_pos h2, if_pos h2]; rfl
      · rw [if_neg h2, if_neg h2]; rfl
    · rw [if_neg h1, if_neg h1]; rfl
  rw [e]
  exact Gd.iteN (C := fun us => b us = true) (fun t r r' => by show b _ = true ↔ b _ = true; rw [hb t r r']) (by show ¬ b [] = true; rw [h0]; decide) (Gp.ite (C := fun _ => ahead < most) (fun _ _ _ => Iff.rfl) hX (Gp.here 22)) Gd.here
end Go.Proofs.YtkmpnlbppdekaaaDoor
end
section
set_option linter.unusedVariables false
set_option linter.unusedSimpArgs false
namespace Go.Proofs.YtkmpnlbppdekaaaDoor
open Go.RowKit
section
variable {α : Type} {shut : List UInt8} {least : Nat}
theorem until_fuel {Q : Nat → List Tok → Rd α} (hQ : ∀ n us, Lt (Q n us) us.length) : ∀ (m m' k : Nat) (us : List Tok), us.length < m → us.length < m' → untilM shut least Q m k us = untilM shut least Q m' k us
  | 0, _, _, _, h, _ => absurd h (by omega)
  | _ + 1, 0, _, _, _, h => absurd h (by omega)
  | m + 1, m' + 1, k, us, h, h' => by
    by_cases hc : k < least ∨ tx us ≠ shut
    · rw [untilM_go hc, untilM_go hc]
      cases hx : Q k us with
      | bad p c => rfl
      | ok a r =>
        have := hQ k us a r hx
        show (untilM shut least Q m (k + 1) r).map _ = (untilM shut least Q m' (k + 1) r).map _
        rw [until_fuel hQ m m' (k + 1) r (by omega) (by omega)]
    · rw [untilM.eq_def, untilM.eq_def]
      show (if _ then _ else _) = (if _ then _ else _)
      rw [if_neg hc, if_neg hc]
theorem until_eq {Q : Nat → List Tok → Rd α} (hQ : ∀ n us, Lt (Q n us) us.length) (k : Nat) (us : List Tok) : untilM shut least Q (us.length + 1) k us =
    if k < least ∨ tx us ≠ shut then (Q k us).bind fun a r => (untilM shut least Q (r.length + 1) (k + 1) r).map (a :: ·) else match us with | [] => .ok [] [] | _ :: r => .ok [] r := by
  by_cases hc : k < least ∨ tx us ≠ shut
  · rw [untilM_go hc, if_pos hc]
    cases hx : Q k us with
    | bad p c => rfl
    | ok a r =>
      have := hQ k us a r hx
      show (untilM shut least Q us.length (k + 1) r).map _ = (untilM shut least Q (r.length + 1) (k + 1) r).map _
      rw [until_fuel hQ us.length (r.length + 1) (k + 1) r (by omega) (by omega)]
  · rw [untilM.eq_def]
    show (if _ then _ else _) = _
    rw [if_neg hc, if_neg hc]
    cases us <;> rfl
variable {P : Nat → Nat → List Tok → Rd α}
theorem until_nil (hP : ∀ k, Gd (fun L us => P L k us)) (hlt : ∀ L n us, Lt (P L n us) us.length) (L k : Nat) : End (untilM shut least (P L) (([] : List Tok).length + 1) k []) L := by
  rw [until_eq (hlt L)]
  by_cases hc : k < least ∨ tx [] ≠ shut
  · rw [if_pos hc]
    rcases (hP k).nil L with h | ⟨a, h⟩
    · rw [show P L k [] = _ from h]; exact .inl rfl
    · exact absurd (hlt L k [] a [] h) (by simp)
  · rw [if_neg hc]; exact .inr ⟨[], rfl⟩
theorem until_suf (hP : ∀ k, Gd (fun L us => P L k us)) (hlt : ∀ L n us, Lt (P L n us) us.length) (L : Nat) : ∀ (n k : Nat) (us : List Tok) (l : List α) (r : List Tok), us.length ≤ n → untilM shut least (P L) (us.length + 1) k us = .ok l r → ∃ q, us = q ++ r := by
  intro n
  induction n with
  | zero =>
    intro k us l r hn h
    obtain rfl := List.eq_nil_of_length_eq_zero (Nat.le_zero.1 hn)
    rcases until_nil (shut := shut) (least := least) hP hlt L k with h1 | ⟨b, h1⟩ <;> rw [h1] at h <;> cases h
    exact ⟨[], rfl⟩
  | succ n ih =>
    intro k us l r hn h
    rw [until_eq (hlt L)] at h
    by_cases hc : k < least ∨ tx us ≠ shut
    · rw [if_pos hc] at h
      obtain ⟨a, r1, h1, h2⟩ := Rd.bind_ok h
      obtain ⟨l2, h3, -⟩ := Rd.map_ok h2
      have hl := hlt L k us a r1 h1
      obtain ⟨q, e⟩ := (hP k).suf' L us h1
      obtain ⟨q2, e2⟩ := ih (k + 1) r1 l2 r (by omega) h3
      exact ⟨q ++ q2, by rw [e, e2, List.append_assoc]⟩
    · rw [if_neg hc] at h
      cases us with
      | nil => cases h; exact ⟨[], rfl⟩
      | cons t r2 => simp only [Rd.ok.injEq] at h; exact ⟨[t], by rw [← h.2]; rfl⟩
theorem until_pl (hP : ∀ k, Gd (fun L us => P L k us)) (hlt : ∀ L n us, Lt (P L n us) us.length) (L : Nat) : ∀ (n k : Nat) (us : List Tok) (p c : Nat), us.length ≤ n → untilM shut least (P L) (us.length + 1) k us = .bad p c → (p = L ∧ c = 20) ∨ ∃ t ∈ us, p = t.pl := by
  intro n
  induction n with
  | zero =>
    intro k us p c hn h
    obtain rfl := List.eq_nil_of_length_eq_zero (Nat.le_zero.1 hn)
    rcases until_nil (shut := shut) (least := least) hP hlt L k with h1 | ⟨b, h1⟩ <;> rw [h1] at h <;> cases h
    exact .inl ⟨rfl, rfl⟩
  | succ n ih =>
    intro k us p c hn h
    rw [until_eq (hlt L)] at h
    by_cases hc : k < least ∨ tx us ≠ shut
    · rw [if_pos hc] at h
      cases hx : P L k us with
      | bad p1 c1 => rw [hx] at h; cases h; exact (hP k).pl' L us hx
      | ok a r1 =>
        rw [hx] at h
        have hl := hlt L k us a r1 hx
        obtain ⟨q, e⟩ := (hP k).suf' L us hx
        cases hy : untilM shut least (P L) (r1.length + 1) (k + 1) r1 with
        | ok l2 r2 =>
          have h : (untilM shut least (P L) (r1.length + 1) (k + 1) r1).map (a :: ·) = .bad p c := h
          rw [hy] at h; cases h
        | bad p1 c1 =>
          have h : (untilM shut least (P L) (r1.length + 1) (k + 1) r1).map (a :: ·) = .bad p c := h
          rw [hy] at h; cases h
          rcases ih (k + 1) r1 _ _ (by omega) hy with h1 | ⟨t, ht, h1⟩
          · exact .inl h1
          · exact .inr ⟨t, by rw [e]; exact List.mem_append_right _ ht, h1⟩
    · rw [if_neg hc] at h
      cases us with
      | nil => cases h
      | cons t r2 => cases h
theorem Cut.map {α β : Type} {x y : Rd α} {rest : List Tok} {L : Nat} (f : α → β) (h : Cut x y rest L) : Cut (x.map f) (y.map f) rest L := by
  rcases h with ⟨a, r, rfl, rfl⟩ | ⟨p, c, rfl, rfl⟩ | rfl | ⟨a, rfl⟩
  · exact .inl ⟨_, _, rfl, rfl⟩
  · exact .inr (.inl ⟨_, _, rfl, rfl⟩)
  · exact .inr (.inr (.inl rfl))
  · exact .inr (.inr (.inr ⟨_, rfl⟩))
theorem End.map {α β : Type} {x : Rd α} {L : Nat} (f : α → β) (h : End x L) : End (x.map f) L := by
  rcases h with rfl | ⟨a, rfl⟩
  · exact .inl rfl
  · exact .inr ⟨_, rfl⟩
theorem until_pf (hP : ∀ k, Gd (fun L us => P L k us)) (hlt : ∀ L n us, Lt (P L n us) us.length) (L L' : Nat) : ∀ (n k : Nat) (pre rest : List Tok), pre.length ≤ n → Cut (untilM shut least (P L') (pre.length + 1) k pre) (untilM shut least (P L) ((pre ++ rest).length + 1) k (pre ++ rest)) rest L' := by
  intro n
  induction n with
  | zero =>
    intro k pre rest hn
    obtain rfl := List.eq_nil_of_length_eq_zero (Nat.le_zero.1 hn)
    exact (until_nil hP hlt L' k).cut
  | succ n ih =>
    intro k pre rest hn
    cases pre with
    | nil => exact (until_nil hP hlt L' k).cut
    | cons t r =>
      rw [until_eq (hlt L') k (t :: r), until_eq (hlt L) k (t :: r ++ rest)]
      by_cases hc : k < least ∨ t.text ≠ shut
      · rw [if_pos (show k < least ∨ tx (t :: r) ≠ shut from hc), if_pos (show k < least ∨ tx (t :: r ++ rest) ≠ shut from hc)]
        rcases (hP k).pf L L' (t :: r) rest nofun with ⟨a, r1, h1, h2⟩ | ⟨p, c, h1, h2⟩ | h1 | ⟨a, h1⟩
        · have hl := hlt L' k _ a r1 h1
          rw [show P L' k (t :: r) = _ from h1, show P L k (t :: r ++ rest) = _ from h2]
          exact (ih (k + 1) r1 rest (by simp at hn hl; omega)).map _
        · rw [show P L' k (t :: r) = _ from h1, show P L k (t :: r ++ rest) = _ from h2]
          exact .inr (.inl ⟨p, c, rfl, rfl⟩)
        · rw [show P L' k (t :: r) = _ from h1]; exact .inr (.inr (.inl rfl))
        · rw [show P L' k (t :: r) = _ from h1]; exact ((until_nil hP hlt L' (k + 1)).map _).cut
      · rw [if_neg (show ¬ (k < least ∨ tx (t :: r) ≠ shut) from hc), if_neg (show ¬ (k < least ∨ tx (t :: r ++ rest) ≠ shut) from hc)]
        exact .inl ⟨[], r, rfl, rfl⟩
theorem Gd.until (hP : ∀ k, Gd (fun L us => P L k us)) (hlt : ∀ L n us, Lt (P L n us) us.length) (k : Nat) : Gd (fun L us => untilM shut least (P L) (us.length + 1) k us) where
  suf L us l r _ h := until_suf hP hlt L us.length k us l r (Nat.le_refl _) h
  pl L us p c _ h := until_pl hP hlt L us.length k us p c (Nat.le_refl _) h
  pf L L' pre rest _ := until_pf hP hlt L L' pre.length k pre rest (Nat.le_refl _)
  nil L := until_nil hP hlt L k
end
end Go.Proofs.YtkmpnlbppdekaaaDoor
end
section
set_option linter.unusedVariables false
set_option linter.unusedSimpArgs false
namespace Go.Proofs.YtkmpnlbppdekaaaDoor
open Go.RowKit
theorem hd_tx (s : List UInt8) : Hd (fun us => tx us = s) := fun _ _ _ => Iff.rfl
theorem hd_const (p : Prop) : Hd (fun _ => p) := fun _ _ _ => Iff.rfl
theorem gd_types : Gd (fun L us => typesM L us) := by
  unfold typesM
  refine (Gd.take _).bind fun t => ?_
  refine Gd.ite (hd_const _) ?_ (Gd.ite (hd_const _) ?_ (Gd.pure _))
  · exact (Gd.take _).bind fun _ => (Gd.take _).map _
  · exact Gd.name.map _
theorem gd_places : Gd (fun L us => placesM L us) := by
  unfold placesM
  refine Gd.iteN (C := fun us => kd us = 2) (fun _ _ _ => Iff.rfl) (by show ¬ (0 = 2); decide) ?_ Gd.here
  refine Gp.ite (C := fun us => 1 ≤ numOf (tx us) ∧ numOf (tx us) ≤ 4) (fun _ _ _ => Iff.rfl) ?_ (Gp.here 11)
  exact Gp.ahead (H := fun s _ _ r => .ok ((numOf s : Nat) : Int) r) fun s _ => Gd.pure _
theorem gd_comma (k : Nat) : Gd (fun L us => commaM L k us) := by
  unfold commaM
  exact Gd.ite (hd_const _) ((Gd.take _).map _) (Gd.pure _)
theorem gd_pair (m k : Nat) : Gd (fun L us => pairM L m k us) := by
  unfold pairM
  exact Gd.room (fun _ _ _ => rfl) (by decide) (Gd.name.bind fun s => gd_types.map _).toGp
theorem gd_field (k : Nat) : Gd (fun L us => fieldM L k us) := by
  unfold fieldM
  exact (gd_pair 8 k).bind fun p => (Gd.take _).map _
theorem gd_fields : Gd (fun L us => fieldsM L us) := by
  unfold fieldsM
  exact (Gd.take _).bind fun _ => Gd.until (P := fun L => fieldM L) gd_field (fun L n us => fieldM_lt n us) 0
theorem gd_param (k : Nat) : Gd (fun L us => paramM L k us) := by
  unfold paramM
  exact (gd_comma k).bind fun _ => gd_pair 4 k
theorem gd_params : Gd (fun L us => paramsM L us) := by
  unfold paramsM
  exact (Gd.take _).bind fun _ => Gd.until (P := fun L => paramM L) gd_param (fun L n us => paramM_lt n us) 0
section
variable {E : Nat → List Tok → Rd Ex}
theorem gd_br (hE : Gd E) : Gd (fun L us => brM L (E L) us) := by
  unfold brM
  exact (Gd.take _).bind fun _ => hE.bind fun a => (Gd.take _).map _
theorem Gd.head {α : Type} {H : Tok → Nat → List Tok → Rd α} (h : ∀ t, Gd (H t)) : Gd (fun L us => match us with | [] => .bad L 20 | t :: r => H t L r) where
  suf L us a r hne e := by
    cases us with
    | nil => exact absurd rfl hne
    | cons t r2 => obtain ⟨q, e2⟩ := (h t).suf' L r2 e; exact ⟨t :: q, by rw [e2]; rfl⟩
  pl L us p c hne e := by
    cases us with
    | nil => exact absurd rfl hne
    | cons t r2 =>
      rcases (h t).pl' L r2 e with h1 | ⟨u, hu, h1⟩
      · exact .inl h1
      · exact .inr ⟨u, List.mem_cons_of_mem _ hu, h1⟩
  pf L L' pre rest hne := by
    cases pre with
    | nil => exact absurd rfl hne
    | cons t r => exact (h t).pf' L L' r rest
  nil L := .inl rfl
theorem gd_first (hE : Gd E) : Gd (fun L us => firstM L (E L) us) := by
  have e : (fun L us => firstM L (E L) us) = fun L us => match us with | [] => .bad L 20 | t :: r => firstM L (E L) (t :: r) := by
    funext L us; cases us <;> rfl
  rw [e]
  refine Gd.head (H := fun t L r => firstM L (E L) (t :: r)) fun t => ?_
  unfold firstM
  refine Gd.ite (hd_const _) (Gd.pure _) (Gd.ite (hd_const _) (Gd.pure _) (Gd.ite (hd_const _) (Gd.pure _) (Gd.ite (hd_const _) ((gd_br hE).map _) (Gd.ite (hd_const _) ((gd_br hE).map _) (Gd.ite (hd_const _) (Gd.name.map _) (Gd.ite (hd_const _) (Gd.name.map _) (Gd.ite (hd_const _) ?_ (Gd.ite (hd_const _) (Gd.pure _) (Gd.pure _)))))))))
  refine Gd.iteN (C := fun r => tx r = [45] ∨ tx r = [33]) (fun _ _ _ => Iff.rfl) (by decide) ?_ ?_
  · exact Gp.ahead (H := fun s _ L r => (E L r).bind fun a r2 => (takeM L [[41]] r2).map fun _ => Ex.mk 9 t.pl 0 s [a]) fun s _ => hE.bind fun a => (Gd.take _).map _
  · exact hE.bind fun a => (Gd.take _).bind fun o => hE.bind fun b => (Gd.take _).map _
theorem gd_link (hE : Gd E) (o : Ex) : Gd (fun L us => linkM L (E L) o us) := by
  have e : (fun L us => linkM L (E L) o us) = fun L us => match us with | [] => .bad L 20 | t :: r => linkM L (E L) o (t :: r) := by
    funext L us; cases us <;> rfl
  rw [e]
  refine Gd.head (H := fun t L r => linkM L (E L) o (t :: r)) fun t => ?_
  unfold linkM
  refine Gd.ite (hd_const _) (Gd.name.map _) (hE.bind fun a => ?_)
  refine Gd.iteN (hd_tx _) (by decide) ?_ ((Gd.take _).map _)
  exact Gp.ahead (H := fun _ _ L r => (E L r).bind fun b r3 => (takeM L [[93]] r3).map fun _ => Ex.mk 7 t.pl 0 [] [o, a, b]) fun _ _ => hE.bind fun b => (Gd.take _).map _
theorem gd_chain (hE : Gd E) : ∀ (n : Nat) (e : Ex), Gd (fun L us => chainM L (E L) n e us)
  | 0, e => by
    unfold chainM
    exact Gd.iteN (C := fun us => tx us = [46] ∨ tx us = [91]) (fun _ _ _ => Iff.rfl) (by decide) (Gp.here 21) (Gd.pure _)
  | n + 1, e => by
    unfold chainM
    exact Gd.ite (C := fun us => tx us = [46] ∨ tx us = [91]) (fun _ _ _ => Iff.rfl) ((gd_link hE e).bind fun e2 => gd_chain hE n e2) (Gd.pure _)
end
theorem hd_opens : Hd (fun us => opensB us = true) := fun _ _ _ => Iff.rfl
theorem gd_expr : ∀ n : Nat, Gd (fun L us => exprM L n us)
  | 0 => by
    unfold exprM
    exact Gd.iteN hd_opens (by decide) (Gp.here 21) Gd.here
  | n + 1 => by
    unfold exprM
    exact Gd.ite hd_opens ((gd_first (gd_expr n)).bind fun e => gd_chain (gd_expr n) 8 e) Gd.here
theorem gd_arg (n k : Nat) : Gd (fun L us => argM L (exprM L n) k us) := by
  unfold argM
  exact (gd_comma k).bind fun _ => Gd.room (fun _ _ _ => rfl) (by decide) (gd_expr n).toGp
theorem gd_args (n : Nat) : Gd (fun L us => argsM L (exprM L n) us) := by
  unfold argsM
  exact (Gd.take _).bind fun _ => Gd.until (P := fun L => argM L (exprM L n)) (gd_arg n) (fun L k us => argM_lt n k us) 0
theorem gd_end (s : Sm) : Gd (fun L us => endM L s us) := by
  unfold endM
  exact (Gd.take _).map _
theorem gd_block {S : Nat → List Tok → Rd Sm} (hS : Gd S) (hl : ∀ L us, Lt (S L us) us.length) (least : Nat) : Gd (fun L us => blockM L (S L) least us) := by
  unfold blockM
  exact (Gd.take _).bind fun _ => Gd.until (P := fun L _ => S L) (fun _ => hS) (fun L _ us => hl L us) 0
theorem gd_stmt1 (n : Nat) {S : Nat → List Tok → Rd Sm} (hS : Gd S) (hl : ∀ L us, Lt (S L us) us.length) (t : Tok) : Gd (fun L us => stmtM1 L (exprM L n) (S L) t us) := by
  have hE := gd_expr n
  unfold stmtM1
  refine Gd.ite (hd_const _) ?_ (Gd.ite (hd_const _) ?_ (Gd.ite (hd_const _) ?_ (Gd.ite (hd_const _) ?_ (Gd.ite (hd_const _) ?_ (Gd.ite (hd_const _) ?_ (Gd.ite (hd_const _) ?_ (Gd.ite (hd_const _) ?_ (Gd.ite (hd_const _) ?_ (Gd.ite (hd_const _) ?_ ?_)))))))))
  · refine hE.bind fun c => (gd_block hS hl 0).bind fun b => Gd.iteN (hd_tx _) (by decide) ?_ (Gd.pure _)
    exact Gp.ahead (H := fun _ _ L r => (blockM L (S L) 1 r).map fun l => Sm.mk 3 t.pl [] [] [c] b l) fun _ _ => (gd_block hS hl 1).map _
  · exact hE.bind fun c => (gd_block hS hl 0).map _
  · exact Gd.name.bind fun s => gd_types.bind fun y => (Gd.take _).bind fun _ => hE.bind fun v => gd_end _
  · refine hE.bind fun p => Gd.ite (hd_const _) ((Gd.take _).bind fun _ => hE.bind fun v => gd_end _) Gd.here
  · exact Gd.name.bind fun s => gd_end _
  · exact Gd.name.bind fun s => gd_end _
  · exact Gd.name.bind fun s => hE.bind fun v => gd_end _
  · exact Gd.name.bind fun s => Gd.name.bind fun v => gd_end _
  · exact Gd.name.bind fun s => hE.bind fun v => gd_end _
  · refine Gd.name.bind fun s => Gd.iteN (hd_tx _) (by decide) ?_ ((gd_args n).bind fun xs => gd_end _)
    exact Gp.ahead (H := fun _ _ L r => (nameM L r).bind fun f r3 => (argsM L (exprM L n) r3).bind fun xs r4 => endM L (.mk 10 t.pl f s xs [] []) r4) fun _ _ => Gd.name.bind fun f => (gd_args n).bind fun xs => gd_end _
  · exact Gd.ite (hd_tx _) (gd_end _) (hE.bind fun v => gd_end _)
theorem stmt1_last (L : Nat) (S S' : List Tok → Rd Sm) (t : Tok) (r : List Tok) : stmtM1 L (exprM L 0) S t r = stmtM1 L (exprM L 0) S' t r := by
  have h0 : ∃ p c, exprM L 0 r = .bad p c := by
    unfold exprM
    split
    · exact ⟨_, _, rfl⟩
    · exact ⟨_, _, rfl⟩
  obtain ⟨p, c, h0⟩ := h0
  unfold stmtM1
  rw [h0]
  rfl
theorem gd_stmt : ∀ n : Nat, 0 < n → Gd (fun L us => stmtM L n us)
  | 0, h => absurd h (by decide)
  | 1, _ => by
    have e : (fun L us => stmtM L 1 us) = fun L us => (takeM L stWords us).bind fun t r => stmtM1 L (exprM L 0) (fun us => .bad (plc L us) 20) t r := by
      funext L us
      show (takeM L stWords us).bind _ = _
      congr 1
      funext t r
      exact stmt1_last L _ _ t r
    rw [e]
    exact (Gd.take _).bind fun t => gd_stmt1 0 (S := fun L us => .bad (plc L us) 20) Gd.here (fun L us => Lt.bad) t
  | n + 2, _ => by
    unfold stmtM
    exact (Gd.take _).bind fun t => gd_stmt1 (n + 1) (gd_stmt (n + 1) (Nat.succ_pos n)) (fun L us => stmtM_lt (n + 1) us) t
theorem gd_body : Gd (fun L us => bodyM L us) := by
  unfold bodyM
  exact gd_block (S := fun L us => stmtM L 24 us) (gd_stmt 24 (by decide)) (fun L us => stmtM_lt 24 us) 0
theorem gd_shut (d : Dc) : Gd (fun L us => shutM L d us) := by
  unfold shutM
  exact (Gd.take _).map _
theorem gd_decl1 (w : List UInt8) (p : Nat) (s : List UInt8) : Gd (fun L us => declM1 L w p s us) := by
  unfold declM1
  refine Gd.ite (hd_const _) (gd_fields.map _) (Gd.ite (hd_const _) ?_ (Gd.ite (hd_const _) (gd_body.map _) (Gd.ite (hd_const _) (gd_shut _) (Gd.ite (hd_const _) (gd_places.bind fun n => gd_shut _) (Gd.ite (hd_const _) (gd_types.bind fun y => gd_shut _) (Gd.ite (hd_const _) (gd_shut _) (gd_shut _)))))))
  exact gd_params.bind fun ps => Gd.ite (hd_tx _) (gd_body.map _) (gd_types.bind fun y => gd_body.map _)
theorem gd_decl (k : Nat) : Gd (fun L us => declM L k us) := by
  unfold declM
  refine (Gd.take _).bind fun t => ?_
  exact Gd.room (b := fun r => decide (kd r = 1)) (X := fun L r2 => declM1 L t.text (plc L r2) (tx r2) r2.tail) (fun _ _ _ => rfl) (by decide) (Gp.ahead (H := fun s p L r => declM1 L t.text p s r) fun s p => gd_decl1 t.text p s)
end Go.Proofs.YtkmpnlbppdekaaaDoor
end
section
set_option linter.unusedVariables false
set_option linter.unusedSimpArgs false
namespace Go.Proofs.YtkmpnlbppdekaaaDoor
open Go.RowKit
def Nz {α : Type} (F : Nat → List Tok → Rd α) : Prop := ∀ L us p c, F L us = .bad p c → c ≠ 0
theorem Rd.bind_bad {α β : Type} {x : Rd α} {f : α → List Tok → Rd β} {p c : Nat} (h : x.bind f = .bad p c) : x = .bad p c ∨ ∃ a r, x = .ok a r ∧ f a r = .bad p c := by
  cases x with
  | bad p' c' => cases h; exact .inl rfl
  | ok a r => exact .inr ⟨a, r, rfl, h⟩
theorem Rd.map_bad {α β : Type} {x : Rd α} {f : α → β} {p c : Nat} (h : x.map f = .bad p c) : x = .bad p c := by
  cases x with
  | bad p' c' => cases h; rfl
  | ok a r => cases h
namespace Nz
variable {α β : Type}
theorem bind {F : Nat → List Tok → Rd α} {G : α → Nat → List Tok → Rd β} (hF : Nz F) (hG : ∀ a, Nz (G a)) : Nz (fun L us => (F L us).bind (fun a r => G a L r)) := fun L us p c h => by
  rcases Rd.bind_bad h with h | ⟨a, r, -, h⟩
  · exact hF L us p c h
  · exact hG a L r p c h
theorem pure (a : α) : Nz (fun _ us => .ok a us) := fun L us p c h => by cases h
theorem map {F : Nat → List Tok → Rd α} (f : α → β) (hF : Nz F) : Nz (fun L us => (F L us).map f) := fun L us p c h => hF L us p c (Rd.map_bad h)
theorem here (c : Nat) (hc : c ≠ 0) : Nz (α := α) (fun L us => .bad (plc L us) c) := fun L us p c h => by cases h; exact hc
theorem here20 : Nz (α := α) (fun L us => .bad (plc L us) 20) := here 20 (by decide)
theorem ite {C : List Tok → Prop} {inst : ∀ us, Decidable (C us)} {A B : Nat → List Tok → Rd α} (hC : Hd C) (hA : Nz A) (hB : Nz B) : Nz (fun L us => @_root_.ite _ (C us) (inst us) (A L us) (B L us)) := fun L us p c h => by
  by_cases hc : C us
  · simp only [if_pos hc] at h; exact hA L us p c h
  · simp only [if_neg hc] at h; exact hB L us p c h
theorem iteN {C : List Tok → Prop} {inst : ∀ us, Decidable (C us)} {A B : Nat → List Tok → Rd α} (hC : Hd C) (h0 : ¬ C []) (hA : Nz A) (hB : Nz B) : Nz (fun L us => @_root_.ite _ (C us) (inst us) (A L us) (B L us)) := ite hC hA hB
theorem ahead {H : List UInt8 → Nat → Nat → List Tok → Rd α} (h : ∀ s p, Nz (H s p)) : Nz (fun L us => H (tx us) (plc L us) L us.tail) := fun L us p c e => h _ _ _ _ p c e
theorem take (T : List (List UInt8)) : Nz (fun L us => takeM L T us) := fun L us p c h => by
  cases us with
  | nil => cases h; decide
  | cons t r =>
    change takeM L T (t :: r) = _ at h
    rw [takeM] at h
    split at h
    · cases h
    · cases h; decide
theorem name : Nz (fun L us => nameM L us) := fun L us p c h => by
  cases us with
  | nil => cases h; decide
  | cons t r =>
    change nameM L (t :: r) = _ at h
    rw [nameM] at h
    split at h
    · cases h
    · cases h; decide
theorem room {b : List Tok → Bool} {ahead most : Nat} {X : Nat → List Tok → Rd α} (hb : ∀ t r r', b (t :: r) = b (t :: r')) (h0 : b [] = false) (hX : Nz X) : Nz (fun L us => (roomM L (b us) ahead most us).bind (fun _ r => X L r)) := fun L us p c h => by
  rcases Rd.bind_bad h with h | ⟨a, r, -, h⟩
  · unfold roomM at h
    split at h
    · split at h
      · cases h
      · cases h; decide
    · cases h; decide
  · exact hX L r p c h
end Nz
theorem Nz.until_aux {α : Type} {shut : List UInt8} {least : Nat} {P : Nat → Nat → List Tok → Rd α} (hP : ∀ k, Nz (fun L us => P L k us)) (hlt : ∀ L n us, Lt (P L n us) us.length) (L : Nat) : ∀ (m k : Nat) (us : List Tok) (p c : Nat), us.length < m → untilM shut least (P L) m k us = .bad p c → c ≠ 0
  | 0, k, us, p, c, hm, h => absurd hm (by omega)
  | m + 1, k, us, p, c, hm, h => by
    by_cases hc : k < least ∨ tx us ≠ shut
    · rw [untilM_go hc] at h
      rcases Rd.bind_bad h with h | ⟨a, r, h1, h⟩
      · exact hP k L us p c h
      · have := hlt L k us a r h1
        exact Nz.until_aux hP hlt L m (k + 1) r p c (by omega) (Rd.map_bad h)
    · rw [untilM.eq_def] at h
      dsimp only at h
      rw [if_neg hc] at h
      cases us <;> cases h
theorem Nz.until {α : Type} {shut : List UInt8} {least : Nat} {P : Nat → Nat → List Tok → Rd α} (hP : ∀ k, Nz (fun L us => P L k us)) (hlt : ∀ L n us, Lt (P L n us) us.length) (k : Nat) : Nz (fun L us => untilM shut least (P L) (us.length + 1) k us) := fun L us p c h =>
  Nz.until_aux hP hlt L _ k us p c (Nat.lt_succ_self _) h
theorem Nz.head {α : Type} {H : Tok → Nat → List Tok → Rd α} (h : ∀ t, Nz (H t)) : Nz (fun L us => match us with | [] => .bad L 20 | t :: r => H t L r) := fun L us p c e => by
  cases us with
  | nil => cases e; decide
  | cons t r => exact h t L r p c e
theorem nz_types : Nz (fun L us => typesM L us) := by
  unfold typesM
  refine (Nz.take _).bind fun t => ?_
  refine Nz.ite (hd_const _) ?_ (Nz.ite (hd_const _) ?_ (Nz.pure _))
  · exact (Nz.take _).bind fun _ => (Nz.take _).map _
  · exact Nz.name.map _
theorem nz_places : Nz (fun L us => placesM L us) := by
  unfold placesM
  refine Nz.iteN (C := fun us => kd us = 2) (fun _ _ _ => Iff.rfl) (by show ¬ (0 = 2); decide) ?_ Nz.here20
  refine Nz.ite (C := fun us => 1 ≤ numOf (tx us) ∧ numOf (tx us) ≤ 4) (fun _ _ _ => Iff.rfl) ?_ (Nz.here 11 (by decide))
  exact Nz.ahead (H := fun s _ _ r => .ok ((numOf s : Nat) : Int) r) fun s _ => Nz.pure _
theorem nz_comma (k : Nat) : Nz (fun L us => commaM L k us) := by
  unfold commaM
  exact Nz.ite (hd_const _) ((Nz.take _).map _) (Nz.pure _)
theorem nz_pair (m k : Nat) : Nz (fun L us => pairM L m k us) := by
  unfold pairM
  exact Nz.room (fun _ _ _ => rfl) (by decide) (Nz.name.bind fun s => nz_types.map _)
theorem nz_field (k : Nat) : Nz (fun L us => fieldM L k us) := by
  unfold fieldM
  exact (nz_pair 8 k).bind fun p => (Nz.take _).map _
theorem nz_fields : Nz (fun L us => fieldsM L us) := by
  unfold fieldsM
  exact (Nz.take _).bind fun _ => Nz.until (P := fun L => fieldM L) nz_field (fun L n us => fieldM_lt n us) 0
theorem nz_param (k : Nat) : Nz (fun L us => paramM L k us) := by
  unfold paramM
  exact (nz_comma k).bind fun _ => nz_pair 4 k
theorem nz_params : Nz (fun L us => paramsM L us) := by
  unfold paramsM
  exact (Nz.take _).bind fun _ => Nz.until (P := fun L => paramM L) nz_param (fun L n us => paramM_lt n us) 0
section
variable {E : Nat → List Tok → Rd Ex}
theorem nz_br (hE : Nz E) : Nz (fun L us => brM L (E L) us) := by
  unfold brM
  exact (Nz.take _).bind fun _ => hE.bind fun a => (Nz.take _).map _
theorem nz_first (hE : Nz E) : Nz (fun L us => firstM L (E L) us) := by
  have e : (fun L us => firstM L (E L) us) = fun L us => match us with | [] => .bad L 20 | t :: r => firstM L (E L) (t :: r) := by
    funext L us; cases us <;> rfl
  rw [e]
  refine Nz.head (H := fun t L r => firstM L (E L) (t :: r)) fun t => ?_
  unfold firstM
  refine Nz.ite (hd_const _) (Nz.pure _) (Nz.ite (hd_const _) (Nz.pure _) (Nz.ite (hd_const _) (Nz.pure _) (Nz.ite (hd_const _) ((nz_br hE).map _) (Nz.ite (hd_const _) ((nz_br hE).map _) (Nz.ite (hd_const _) (Nz.name.map _) (Nz.ite (hd_const _) (Nz.name.map _) (Nz.ite (hd_const _) ?_ (Nz.ite (hd_const _) (Nz.pure _) (Nz.pure _)))))))))
  refine Nz.iteN (C := fun r => tx r = [45] ∨ tx r = [33]) (fun _ _ _ => Iff.rfl) (by decide) ?_ ?_
  · exact Nz.ahead (H := fun s _ L r => (E L r).bind fun a r2 => (takeM L [[41]] r2).map fun _ => Ex.mk 9 t.pl 0 s [a]) fun s _ => hE.bind fun a => (Nz.take _).map _
  · exact hE.bind fun a => (Nz.take _).bind fun o => hE.bind fun b => (Nz.take _).map _
theorem nz_link (hE : Nz E) (o : Ex) : Nz (fun L us => linkM L (E L) o us) := by
  have e : (fun L us => linkM L (E L) o us) = fun L us => match us with | [] => .bad L 20 | t :: r => linkM L (E L) o (t :: r) := by
    funext L us; cases us <;> rfl
  rw [e]
  refine Nz.head (H := fun t L r => linkM L (E L) o (t :: r)) fun t => ?_
  unfold linkM
  refine Nz.ite (hd_const _) (Nz.name.map _) (hE.bind fun a => ?_)
  refine Nz.iteN (hd_tx _) (by decide) ?_ ((Nz.take _).map _)
  exact Nz.ahead (H := fun _ _ L r => (E L r).bind fun b r3 => (takeM L [[93]] r3).map fun _ => Ex.mk 7 t.pl 0 [] [o, a, b]) fun _ _ => hE.bind fun b => (Nz.take _).map _
theorem nz_chain (hE : Nz E) : ∀ (n : Nat) (e : Ex), Nz (fun L us => chainM L (E L) n e us)
  | 0, e => by
    unfold chainM
    exact Nz.iteN (C := fun us => tx us = [46] ∨ tx us = [91]) (fun _ _ _ => Iff.rfl) (by decide) (Nz.here 21 (by decide)) (Nz.pure _)
  | n + 1, e => by
    unfold chainM
    exact Nz.ite (C := fun us => tx us = [46] ∨ tx us = [91]) (fun _ _ _ => Iff.rfl) ((nz_link hE e).bind fun e2 => nz_chain hE n e2) (Nz.pure _)
end
theorem nz_expr : ∀ n : Nat, Nz (fun L us => exprM L n us)
  | 0 => by
    unfold exprM
    exact Nz.iteN hd_opens (by decide) (Nz.here 21 (by decide)) Nz.here20
  | n + 1 => by
    unfold exprM
    exact Nz.ite hd_opens ((nz_first (nz_expr n)).bind fun e => nz_chain (nz_expr n) 8 e) Nz.here20
theorem nz_arg (n k : Nat) : Nz (fun L us => argM L (exprM L n) k us) := by
  unfold argM
  exact (nz_comma k).bind fun _ => Nz.room (fun _ _ _ => rfl) (by decide) (nz_expr n)
theorem nz_args (n : Nat) : Nz (fun L us => argsM L (exprM L n) us) := by
  unfold argsM
  exact (Nz.take _).bind fun _ => Nz.until (P := fun L => argM L (exprM L n)) (nz_arg n) (fun L k us => argM_lt n k us) 0
theorem nz_end (s : Sm) : Nz (fun L us => endM L s us) := by
  unfold endM
  exact (Nz.take _).map _
theorem nz_block {S : Nat → List Tok → Rd Sm} (hS : Nz S) (hl : ∀ L us, Lt (S L us) us.length) (least : Nat) : Nz (fun L us => blockM L (S L) least us) := by
  unfold blockM
  exact (Nz.take _).bind fun _ => Nz.until (P := fun L _ => S L) (fun _ => hS) (fun L _ us => hl L us) 0
theorem nz_stmt1 (n : Nat) {S : Nat → List Tok → Rd Sm} (hS : Nz S) (hl : ∀ L us, Lt (S L us) us.length) (t : Tok) : Nz (fun L us => stmtM1 L (exprM L n) (S L) t us) := by
  have hE := nz_expr n
  unfold stmtM1
  refine Nz.ite (hd_const _) ?_ (Nz.ite (hd_const _) ?_ (Nz.ite (hd_const _) ?_ (Nz.ite (hd_const _) ?_ (Nz.ite (hd_const _) ?_ (Nz.ite (hd_const _) ?_ (Nz.ite (hd_const _) ?_ (Nz.ite (hd_const _) ?_ (Nz.ite (hd_const _) ?_ (Nz.ite (hd_const _) ?_ ?_)))))))))
  · refine hE.bind fun c => (nz_block hS hl 0).bind fun b => Nz.iteN (hd_tx _) (by decide) ?_ (Nz.pure _)
    exact Nz.ahead (H := fun _ _ L r => (blockM L (S L) 1 r).map fun l => Sm.mk 3 t.pl [] [] [c] b l) fun _ _ => (nz_block hS hl 1).map _
  · exact hE.bind fun c => (nz_block hS hl 0).map _
  · exact Nz.name.bind fun s => nz_types.bind fun y => (Nz.take _).bind fun _ => hE.bind fun v => nz_end _
  · refine hE.bind fun p => Nz.ite (hd_const _) ((Nz.take _).bind fun _ => hE.bind fun v => nz_end _) Nz.here20
  · exact Nz.name.bind fun s => nz_end _
  · exact Nz.name.bind fun s => nz_end _
  · exact Nz.name.bind fun s => hE.bind fun v => nz_end _
  · exact Nz.name.bind fun s => Nz.name.bind fun v => nz_end _
  · exact Nz.name.bind fun s => hE.bind fun v => nz_end _
  · refine Nz.name.bind fun s => Nz.iteN (hd_tx _) (by decide) ?_ ((nz_args n).bind fun xs => nz_end _)
    exact Nz.ahead (H := fun _ _ L r => (nameM L r).bind fun f r3 => (argsM L (exprM L n) r3).bind fun xs r4 => endM L (.mk 10 t.pl f s xs [] []) r4) fun _ _ => Nz.name.bind fun f => (nz_args n).bind fun xs => nz_end _
  · exact Nz.ite (hd_tx _) (nz_end _) (hE.bind fun v => nz_end _)
theorem nz_stmt : ∀ n : Nat, 0 < n → Nz (fun L us => stmtM L n us)
  | 0, h => absurd h (by decide)
  | 1, _ => by
    have e : (fun L us => stmtM L 1 us) = fun L us => (takeM L stWords us).bind fun t r => stmtM1 L (exprM L 0) (fun us => .bad (plc L us) 20) t r := by
      funext L us
      show (takeM L stWords us).bind _ = _
      congr 1
      funext t r
      exact stmt1_last L _ _ t r
    rw [e]
    exact (Nz.take _).bind fun t => nz_stmt1 0 (S := fun L us => .bad (plc L us) 20) Nz.here20 (fun L us => Lt.bad) t
  | n + 2, _ => by
    unfold stmtM
    exact (Nz.take _).bind fun t => nz_stmt1 (n + 1) (nz_stmt (n + 1) (Nat.succ_pos n)) (fun L us => stmtM_lt (n + 1) us) t
theorem nz_body : Nz (fun L us => bodyM L us) := by
  unfold bodyM
  exact nz_block (S := fun L us => stmtM L 24 us) (nz_stmt 24 (by decide)) (fun L us => stmtM_lt 24 us) 0
theorem nz_shut (d : Dc) : Nz (fun L us => shutM L d us) := by
  unfold shutM
  exact (Nz.take _).map _
theorem nz_decl1 (w : List UInt8) (p : Nat) (s : List UInt8) : Nz (fun L us => declM1 L w p s us) := by
  unfold declM1
  refine Nz.ite (hd_const _) (nz_fields.map _) (Nz.ite (hd_const _) ?_ (Nz.ite (hd_const _) (nz_body.map _) (Nz.ite (hd_const _) (nz_shut _) (Nz.ite (hd_const _) (nz_places.bind fun n => nz_shut _) (Nz.ite (hd_const _) (nz_types.bind fun y => nz_shut _) (Nz.ite (hd_const _) (nz_shut _) (nz_shut _)))))))
  exact nz_params.bind fun ps => Nz.ite (hd_tx _) (nz_body.map _) (nz_types.bind fun y => nz_body.map _)
theorem nz_decl (k : Nat) : Nz (fun L us => declM L k us) := by
  unfold declM
  refine (Nz.take _).bind fun t => ?_
  exact Nz.room (b := fun r => decide (kd r = 1)) (X := fun L r2 => declM1 L t.text (plc L r2) (tx r2) r2.tail) (fun _ _ _ => rfl) (by decide) (Nz.ahead (H := fun s p L r => declM1 L t.text p s r) fun s p => nz_decl1 t.text p s)
theorem nz_program : Nz (fun L us => programM L us) := by
  unfold programM
  exact Nz.until (P := fun L => declM L) nz_decl (fun L n us => declM_lt n us) 0
end Go.Proofs.YtkmpnlbppdekaaaDoor
end
section
set_option linter.unusedVariables false
set_option linter.unusedSimpArgs false
namespace Go.Proofs.YtkmpnlbppdekaaaDoor
open Go.RowKit
structure Ez {α : Type} (F : Nat → List Tok → Rd α) : Prop extends Gd F where
  bad : ∀ L, F L [] = .bad L 20
  ext : ∀ L L' us rest a r, F L us = .ok a r → F L' (us ++ rest) = .ok a (r ++ rest)
theorem Gd.more {α : Type} {F : Nat → List Tok → Rd α} (h : Gd F) {L L' : Nat} {us : List Tok} {a : α} {r : List Tok} (e : F L us = .ok a r) (hr : r ≠ []) (rest : List Tok) : F L' (us ++ rest) = .ok a (r ++ rest) := by
  rcases h.pf' L' L us rest with ⟨b, r1, h1, h2⟩ | ⟨p, c, h1, h2⟩ | h1 | ⟨b, h1⟩
  · rw [e] at h1; cases h1; exact h2
  · rw [e] at h1; cases h1
  · rw [e] at h1; cases h1
  · rw [e] at h1; cases h1; exact absurd rfl hr
theorem Ez.bind {α β : Type} {F : Nat → List Tok → Rd α} {G : α → Nat → List Tok → Rd β} (hF : Gd F) (hG : ∀ a, Ez (G a)) : Ez (fun L us => (F L us).bind (fun a r => G a L r)) where
  toGd := hF.bind fun a => (hG a).toGd
  bad L := by
    rcases hF.nil L with h | ⟨a, h⟩
    · simp only [h]; rfl
    · simp only [h]; exact (hG a).bad L
  ext L L' us rest b r h := by
    obtain ⟨a, r1, h1, h2⟩ := Rd.bind_ok h
    have hr : r1 ≠ [] := fun e => by rw [e, (hG a).bad L] at h2; cases h2
    simp only [hF.more (L' := L') h1 hr rest]
    exact (hG a).ext L L' r1 rest b r h2
theorem Ez.take (T : List (List UInt8)) : Ez (fun L us => takeM L T us) where
  toGd := Gd.take T
  bad L := rfl
  ext L L' us rest a r h := by
    cases us with
    | nil => cases h
    | cons t r2 =>
      by_cases ht : t.text ∈ T
      · simp only [takeM, if_pos ht, Rd.ok.injEq] at h
        obtain ⟨rfl, rfl⟩ := h
        simp only [List.cons_append, takeM, if_pos ht]
      · simp only [takeM, if_neg ht] at h; cases h
theorem Ez.map {α β : Type} {F : Nat → List Tok → Rd α} (f : α → β) (hF : Ez F) : Ez (fun L us => (F L us).map f) where
  toGd := hF.toGd.map f
  bad L := by simp only [hF.bad L]; rfl
  ext L L' us rest b r h := by
    obtain ⟨a, h1, rfl⟩ := Rd.map_ok h
    simp only [hF.ext L L' us rest a r h1]; rfl
theorem Ez.ite {α : Type} {C : List Tok → Prop} {inst : ∀ us, Decidable (C us)} {A B : Nat → List Tok → Rd α} (hC : Hd C) (hA : Ez A) (hB : Ez B) : Ez (fun L us => @_root_.ite _ (C us) (inst us) (A L us) (B L us)) where
  toGd := Gd.ite hC hA.toGd hB.toGd
  bad L := by
    by_cases hc : C []
    · simp only [if_pos hc]; exact hA.bad L
    · simp only [if_neg hc]; exact hB.bad L
  ext L L' us rest a r h := by
    cases us with
    | nil =>
      by_cases hc : C []
      · simp only [if_pos hc, hA.bad L] at h; cases h
      · simp only [if_neg hc, hB.bad L] at h; cases h
    | cons t r2 =>
      by_cases hc : C (t :: r2)
      · have hc2 : C (t :: r2 ++ rest) := (hC t r2 (r2 ++ rest)).1 hc
        simp only [if_pos hc] at h
        simp only [if_pos hc2]; exact hA.ext L L' _ rest a r h
      · have hc2 : ¬ C (t :: r2 ++ rest) := fun h => hc ((hC t r2 (r2 ++ rest)).2 h)
        simp only [if_neg hc] at h
        simp only [if_neg hc2]; exact hB.ext L L' _ rest a r h
section
variable {α : Type} {shut : List UInt8} {least : Nat} {P : Nat → Nat → List Tok → Rd α}
theorem until_bad (hs : shut ≠ []) (hP : ∀ k, Gd (fun L us => P L k us)) (hlt : ∀ L n us, Lt (P L n us) us.length) (L k : Nat) : untilM shut least (P L) (([] : List Tok).length + 1) k [] = .bad L 20 := by
  rw [until_eq (hlt L), if_pos (.inr (fun e => hs e.symm))]
  rcases (hP k).nil L with h | ⟨a, h⟩
  · rw [show P L k [] = _ from h]; rfl
  · exact absurd (hlt L k [] a [] h) (by simp)
theorem until_ext (hs : shut ≠ []) (hP : ∀ k, Gd (fun L us => P L k us)) (hlt : ∀ L n us, Lt (P L n us) us.length) (L L' : Nat) (rest : List Tok) : ∀ (n k : Nat) (us : List Tok) (l : List α) (r : List Tok), us.length ≤ n →
    untilM shut least (P L) (us.length + 1) k us = .ok l r → untilM shut least (P L') ((us ++ rest).length + 1) k (us ++ rest) = .ok l (r ++ rest) := by
  intro n
  induction n with
  | zero =>
    intro k us l r hn h
    obtain rfl := List.eq_nil_of_length_eq_zero (Nat.le_zero.1 hn)
    rw [until_bad hs hP hlt L k] at h; cases h
  | succ n ih =>
    intro k us l r hn h
    cases us with
    | nil => rw [until_bad hs hP hlt L k] at h; cases h
    | cons t r2 =>
      rw [until_eq (hlt L) k (t :: r2)] at h
      rw [until_eq (hlt L') k (t :: r2 ++ rest)]
      by_cases hc : k < least ∨ t.text ≠ shut
      · rw [if_pos (show k < least ∨ tx (t :: r2) ≠ shut from hc)] at h
        rw [if_pos (show k < least ∨ tx (t :: r2 ++ rest) ≠ shut from hc)]
        obtain ⟨a, r1, h1, h2⟩ := Rd.bind_ok h
        obtain ⟨l2, h3, rfl⟩ := Rd.map_ok h2
        have hl := hlt L k _ a r1 h1
        have hr : r1 ≠ [] := fun e => by rw [e, until_bad hs hP hlt L (k + 1)] at h3; cases h3
        rw [show P L' k (t :: r2 ++ rest) = _ from (hP k).more (L' := L') h1 hr rest]
        show (untilM shut least (P L') ((r1 ++ rest).length + 1) (k + 1) (r1 ++ rest)).map (a :: ·) = _
        rw [ih (k + 1) r1 l2 r (by simp at hn hl; omega) h3]; rfl
      · rw [if_neg (show ¬ (k < least ∨ tx (t :: r2) ≠ shut) from hc)] at h
        rw [if_neg (show ¬ (k < least ∨ tx (t :: r2 ++ rest) ≠ shut) from hc)]
        simp only [Rd.ok.injEq] at h
        obtain ⟨rfl, rfl⟩ := h
        rfl
theorem Ez.until (hs : shut ≠ []) (hP : ∀ k, Gd (fun L us => P L k us)) (hlt : ∀ L n us, Lt (P L n us) us.length) (k : Nat) : Ez (fun L us => untilM shut least (P L) (us.length + 1) k us) where
  toGd := Gd.until hP hlt k
  bad L := until_bad hs hP hlt L k
  ext L L' us rest a r h := until_ext hs hP hlt L L' rest us.length k us a r (Nat.le_refl _) h
end
end Go.Proofs.YtkmpnlbppdekaaaDoor
end
section
set_option linter.unusedVariables false
set_option linter.unusedSimpArgs false
namespace Go.Proofs.YtkmpnlbppdekaaaDoor
open Go.RowKit
def RL {α β : Type} (R : α → β → Prop) (x : Rd α) (y : Rd β) : Prop := (∃ a b r s, x = .ok a r ∧ y = .ok b s ∧ R a b ∧ Alike r s) ∨ (∃ p q c, x = .bad p c ∧ y = .bad q c)
theorem RL.ok {α β : Type} {R : α → β → Prop} {a : α} {b : β} {r s : List Tok} (h : R a b) (hr : Alike r s) : RL R (.ok a r) (.ok b s) := .inl ⟨_, _, _, _, rfl, rfl, h, hr⟩
theorem RL.bad {α β : Type} {R : α → β → Prop} {p q c : Nat} : RL R (.bad p c : Rd α) (.bad q c : Rd β) := .inr ⟨_, _, _, rfl, rfl⟩
theorem RL.bind {α β γ δ : Type} {R : α → β → Prop} {S : γ → δ → Prop} {x : Rd α} {y : Rd β} {f : α → List Tok → Rd γ} {g : β → List Tok → Rd δ} (h : RL R x y) (hf : ∀ a b r s, R a b → Alike r s → RL S (f a r) (g b s)) : RL S (x.bind f) (y.bind g) := by
  rcases h with ⟨a, b, r, s, rfl, rfl, h1, h2⟩ | ⟨p, q, c, rfl, rfl⟩
  · exact hf a b r s h1 h2
  · exact RL.bad
theorem RL.map {α β γ δ : Type} {R : α → β → Prop} {S : γ → δ → Prop} {x : Rd α} {y : Rd β} {f : α → γ} {g : β → δ} (h : RL R x y) (hf : ∀ a b, R a b → S (f a) (g b)) : RL S (x.map f) (y.map g) := by
  rcases h with ⟨a, b, r, s, rfl, rfl, h1, h2⟩ | ⟨p, q, c, rfl, rfl⟩
  · exact RL.ok (hf a b h1) h2
  · exact RL.bad
theorem RL.ite {α β : Type} {R : α → β → Prop} {C D : Prop} [Decidable C] [Decidable D] {x x' : Rd α} {y y' : Rd β} (hc : C ↔ D) (h1 : RL R x y) (h2 : RL R x' y') : RL R (if C then x else x') (if D then y else y') := by
  by_cases h : C
  · rw [if_pos h, if_pos (hc.1 h)]; exact h1
  · rw [if_neg h, if_neg (fun d => h (hc.2 d))]; exact h2
section
variable {u v : List Tok}
variable {L L' : Nat}
end
section
variable {α β : Type} {R : α → β → Prop} {RS : List α → List β → Prop} {shut : List UInt8} {least : Nat} {P : Nat → List Tok → Rd α} {Q : Nat → List Tok → Rd β}
end
section
variable {L L' : Nat} {u v : List Tok}
variable {E E' : List Tok → Rd Ex}
end
section
variable {L L' : Nat}
end
end Go.Proofs.YtkmpnlbppdekaaaDoor
end
section
set_option linter.unusedVariables false
namespace Go.Proofs.YtkmpnlbppdekaaaDoor
open Go.RowKit
theorem until_all (L : Nat) : ∀ (m k : Nat) (us : List Tok) (ds : List Dc) (r : List Tok), (∀ t ∈ us, t.text ≠ []) → untilM [] 0 (declM L) m k us = .ok ds r → r = []
  | 0, k, us, ds, r, ht, h => by cases h
  | m + 1, k, us, ds, r, ht, h => by
    by_cases hc : k < 0 ∨ tx us ≠ []
    · rw [untilM_go hc] at h
      obtain ⟨d, r1, h1, h2⟩ := Rd.bind_ok h
      obtain ⟨ds2, h3, rfl⟩ := Rd.map_ok h2
      obtain ⟨q, e⟩ := (gd_decl k).suf' L _ h1
      exact until_all L m (k + 1) r1 ds2 r (fun u hu => ht u (by rw [e]; exact List.mem_append_right _ hu)) h3
    · rw [untilM.eq_def] at h
      dsimp only at h
      rw [if_neg hc] at h
      cases us with
      | nil => cases h; rfl
      | cons t r2 => exact absurd (.inr (ht t (by simp))) hc
theorem prog_ok {s : List UInt8} {ds : List Dc} {p c : Nat} (h : progM s = (ds, p, c)) (hc : c = 0) : ∃ us, toks s = .ok us ∧ programM s.length us = .ok ds [] ∧ p = 0 := by
  subst hc
  unfold progM at h
  cases ht : toks s with
  | err q e =>
    rw [ht] at h
    simp only [Prod.mk.injEq] at h
    exact absurd h.2.2 (toks_err_ne ht)
  | ok us =>
    simp only [ht] at h
    cases hp : programM s.length us with
    | bad p1 c1 =>
      rw [hp] at h
      simp only [Prod.mk.injEq] at h
      exact absurd h.2.2 (nz_program _ _ _ _ hp)
    | ok a r =>
      rw [hp] at h
      simp only [Prod.mk.injEq] at h
      obtain ⟨rfl, rfl, -⟩ := h
      have : r = [] := until_all _ _ _ _ _ _ (fun t ht2 => (toks_okT ht t ht2).1) hp
      subst this
      exact ⟨us, rfl, hp, rfl⟩
end Go.Proofs.YtkmpnlbppdekaaaDoor
end
