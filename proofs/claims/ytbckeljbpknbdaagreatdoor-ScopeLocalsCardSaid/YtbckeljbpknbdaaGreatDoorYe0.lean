/- Ia Ib Ic Id Ie Up If Ig Ih Ij Ik -/
import Derived.Test.YtbckeljbpknbdaaGreatDoorYa2
import Derived.Test.YtbckeljbpknbdaaGreatDoorYb6
import Derived.Test.YtbckeljbpknbdaaGreatDoorYd7
import Derived.Lib.Bytealg
import Derived.Lib.Small
import Derived.Maps.OwnSet
section
set_option linter.unusedVariables false
set_option linter.unusedSimpArgs false
namespace Go.Proofs.YtbckeljbpknbdaaGreatDoor
open Go.RowKit
mutual
def exW : Ex → Nat
 | .mk _ _ _ s es => 1 + s.length + exWs es
def exWs : List Ex → Nat
 | [] => 0
 | e :: es => exW e + exWs es
end
mutual
def smW : Sm → Nat
 | .mk _ _ nm ty ex bd el => 1 + nm.length + ty.length + exWs ex + smWs bd + smWs el
def smWs : List Sm → Nat
 | [] => 0
 | s :: ss => smW s + smWs ss
end
def prW (p : Pr) : Nat := 1 + p.name.length + p.type.length
def prWs (ps : List Pr) : Nat := (ps.map prW).sum
def dcW (d : Dc) : Nat := 1 + d.name.length + d.type.length + prWs d.pairs + smWs d.body
def dcWs (ds : List Dc) : Nat := (ds.map dcW).sum
def tw (us : List Tok) : Nat := (us.map fun t => 1 + t.text.length).sum
theorem tw_nil : tw [] = 0 := rfl
theorem tw_cons (t : Tok) (us : List Tok) : tw (t :: us) = 1 + t.text.length + tw us := by simp [tw]
theorem tw_tail (us : List Tok) : tw us.tail ≤ tw us := by
 cases us with
 | nil => exact Nat.le_refl _
 | cons t r => rw [tw_cons]; exact Nat.le_add_left _ _
section
variable (N : Nat) (P : List UInt8 → Prop)
mutual
def okE : Ex → Prop
 | .mk k p _ s es => 0 ≤ p ∧ p < N ∧ (k = 4 ∨ k = 11 → P s) ∧ okEs es
def okEs : List Ex → Prop
 | [] => True
 | e :: es => okE e ∧ okEs es
end
def okTy (ty : List UInt8) : Prop := ty.head? = some 42 → P ty.tail
mutual
def okS : Sm → Prop
 | .mk k p nm ty ex bd el => 0 ≤ p ∧ p < N ∧ (k = 1 ∨ 5 ≤ k ∧ k ≤ 10 → P nm) ∧ (k = 1 → okTy P ty) ∧ (k = 8 ∨ k = 10 → ty = [] ∨ P ty) ∧ okEs N P ex ∧ okSs bd ∧ okSs el
def okSs : List Sm → Prop
 | [] => True
 | s :: ss => okS s ∧ okSs ss
end
def okPr (p : Pr) : Prop := P p.name ∧ okTy P p.type
def okD (d : Dc) : Prop := 0 ≤ d.pl ∧ d.pl < N ∧ 1 ≤ d.kind ∧ d.kind ≤ 8 ∧ P d.name ∧ okTy P d.type ∧ (∀ p ∈ d.pairs, okPr P p) ∧ (d.kind = 8 → d.pairs = []) ∧ okSs N P d.body
def Gt (us : List Tok) : Prop := ∀ t ∈ us, P t.text ∧ t.pl < N
end
theorem Gt.tail {N : Nat} {P : List UInt8 → Prop} {us : List Tok} (h : Gt N P us) : Gt N P us.tail := fun t ht => h t (List.mem_of_mem_tail ht)
def Co (N : Nat) (P : List UInt8 → Prop) {α : Type} (x : Rd α) (m : Nat) (Q : α → Nat → Prop) : Prop := ∀ a r, x = .ok a r → Gt N P r ∧ ∃ v, v + tw r ≤ m ∧ Q a v
section
variable {N : Nat} {P : List UInt8 → Prop}
theorem Co.bad {α : Type} {p c m : Nat} {Q : α → Nat → Prop} : Co N P (.bad p c : Rd α) m Q := fun _ _ e => by cases e
theorem Co.ok {α : Type} {a : α} {r : List Tok} {m v : Nat} {Q : α → Nat → Prop} (hr : Gt N P r) (hm : v + tw r ≤ m) (h : Q a v) : Co N P (.ok a r) m Q := fun _ _ e => by cases e; exact ⟨hr, v, hm, h⟩
theorem Co.bind {α β : Type} {x : Rd α} {f : α → List Tok → Rd β} {m : Nat} {Q : α → Nat → Prop} {Q' : β → Nat → Prop} (h : Co N P x m Q) (hf : ∀ a r v, Gt N P r → Q a v → Co N P (f a r) (tw r) (fun b u => Q' b (v + u))) : Co N P (x.bind f) m Q' := fun b r e => by
 obtain ⟨a, r1, h1, h2⟩ := Rd.bind_ok e
 obtain ⟨g1, v, hv, hq⟩ := h a r1 h1
 obtain ⟨g2, u, hu, hq2⟩ := hf a r1 v g1 hq b r h2
 exact ⟨g2, v + u, by omega, hq2⟩
theorem Co.map {α β : Type} {x : Rd α} {f : α → β} {m : Nat} {Q : α → Nat → Prop} {Q' : β → Nat → Prop} (h : Co N P x m Q) (hf : ∀ a v, Q a v → Q' (f a) v) : Co N P (x.map f) m Q' := fun b r e => by
 obtain ⟨a, h1, rfl⟩ := Rd.map_ok e
 obtain ⟨g1, v, hv, hq⟩ := h a r h1
 exact ⟨g1, v, hv, hf a v hq⟩
theorem Co.ite {α : Type} {x y : Rd α} {m : Nat} {Q : α → Nat → Prop} {p : Prop} [Decidable p] (hx : p → Co N P x m Q) (hy : ¬ p → Co N P y m Q) : Co N P (if p then x else y) m Q := by
 split
 · exact hx ‹_›
 · exact hy ‹_›
theorem Co.up {α : Type} {x : Rd α} {n m : Nat} {Q : α → Nat → Prop} (h : Co N P x n Q) (hn : n ≤ m) : Co N P x m Q := fun a r e => by
 obtain ⟨g, v, hv, hq⟩ := h a r e
 exact ⟨g, v, by omega, hq⟩
theorem Co.imp {α : Type} {x : Rd α} {m : Nat} {Q Q' : α → Nat → Prop} (h : Co N P x m Q) (hq : ∀ a v, Q a v → Q' a v) : Co N P x m Q' := fun a r e => by
 obtain ⟨g, v, hv, hh⟩ := h a r e
 exact ⟨g, v, hv, hq a v hh⟩
variable {L : Nat}
theorem co_take (T : List (List UInt8)) : ∀ us, Gt N P us → Co N P (takeM L T us) (tw us) (fun t v => 1 + t.text.length ≤ v ∧ P t.text ∧ t.pl < N ∧ t.text ∈ T)
 | [], _ => Co.bad
 | t :: r, h => Co.ite (fun ht => Co.ok (v := 1 + t.text.length) (fun x hx => h x (by simp [hx])) (by rw [tw_cons]; omega) ⟨Nat.le_refl _, (h t (by simp)).1, (h t (by simp)).2, ht⟩) (fun _ => Co.bad)
theorem co_name : ∀ us, Gt N P us → Co N P (nameM L us) (tw us) (fun s v => 1 + s.length ≤ v ∧ P s)
 | [], _ => Co.bad
 | t :: r, h => Co.ite (fun _ => Co.ok (v := 1 + t.text.length) (fun x hx => h x (by simp [hx])) (by rw [tw_cons]; omega) ⟨Nat.le_refl _, (h t (by simp)).1⟩) (fun _ => Co.bad)
theorem co_types (us : List Tok) (h : Gt N P us) : Co N P (typesM L us) (tw us) (fun s v => s.length ≤ v ∧ okTy P s) :=
 (co_take _ us h).bind fun t r v hr hq => Co.ite
   (fun _ => (co_take _ r hr).bind fun t2 r2 v2 hr2 hq2 => (co_take _ r2 hr2).map fun t3 v3 hq3 => ⟨by
     have h1 : t.text.length = 1 := by rename_i e; rw [e]; rfl
     have h2 : t2.text.length = 1 := by have := hq2.2.2.2; simp at this; rw [this]; rfl
     have h3 : t3.text.length = 3 := by have := hq3.2.2.2; simp at this; rw [this]; rfl
     have := hq.1; have := hq2.1; have := hq3.1
     simp; omega, fun h => by cases h⟩)
   (fun _ => Co.ite
     (fun e => (co_name r hr).map fun s u hs => ⟨by have := hq.1; have := hs.1; simp; omega, fun _ => hs.2⟩)
     (fun e => Co.ok (v := 0) hr (by omega) ⟨by have := hq.1; omega, fun h => by
       have hm := hq.2.2.2
       simp at hm
       rcases hm with hm | hm | hm | hm
       · rw [hm] at h; cases h
       · rw [hm] at h; cases h
       · exact absurd hm ‹_›
       · exact absurd hm e⟩))
theorem co_places (us : List Tok) (h : Gt N P us) : Co N P (placesM L us) (tw us) (fun _ _ => True) := by
 unfold placesM
 exact Co.ite (fun _ => Co.ite (fun _ => Co.ok (v := 0) h.tail (by have := tw_tail us; omega) trivial) fun _ => Co.bad) fun _ => Co.bad
theorem co_room (b : Bool) (x y : Nat) (us : List Tok) (h : Gt N P us) : Co N P (roomM L b x y us) (tw us) (fun _ _ => True) := by
 unfold roomM; exact Co.ite (fun _ => Co.ite (fun _ => Co.ok (v := 0) h (by omega) trivial) fun _ => Co.bad) fun _ => Co.bad
theorem co_comma (x : Nat) (us : List Tok) (h : Gt N P us) : Co N P (commaM L x us) (tw us) (fun _ _ => True) := by
 unfold commaM; exact Co.ite (fun _ => (co_take _ us h).map fun _ _ _ => trivial) fun _ => Co.ok (v := 0) h (by omega) trivial
theorem co_pair (m x : Nat) (us : List Tok) (h : Gt N P us) : Co N P (pairM L m x us) (tw us) (fun p v => prW p ≤ v ∧ okPr P p) :=
 (co_room _ _ _ us h).bind fun _ r v hr _ => (co_name r hr).bind fun s r2 u hr2 hs => (co_types r2 hr2).map fun t k ht => ⟨by have := hs.1; have := ht.1; show 1 + s.length + t.length ≤ _; omega, hs.2, ht.2⟩
theorem co_until {α : Type} (shut : List UInt8) (least : Nat) (F : Nat → List Tok → Rd α) (wt : α → Nat) (ok : α → Prop) (hP : ∀ n us, Gt N P us → Co N P (F n us) (tw us) (fun a v => wt a ≤ v ∧ ok a)) : ∀ (m n : Nat) (us : List Tok), Gt N P us → Co N P (untilM shut least F m n us) (tw us) (fun l v => (l.map wt).sum ≤ v ∧ ∀ a ∈ l, ok a)
 | 0, n, us, h => Co.bad
 | m + 1, n, us, h => by
   unfold untilM
   refine Co.ite (fun _ => (hP n us h).bind fun a r v hr hq => (co_until shut least F wt ok hP m (n + 1) r hr).map fun l u hl => ⟨?_, ?_⟩) fun _ => ?_
   · have := hq.1; have := hl.1; simp; omega
   · intro b hb
     rcases List.mem_cons.1 hb with rfl | hb
     · exact hq.2
     · exact hl.2 b hb
   · cases us with
     | nil => exact Co.ok (v := 0) h (by omega) ⟨Nat.zero_le _, fun a ha => by cases ha⟩
     | cons t r => exact Co.ok (v := 0) (fun x hx => h x (by simp [hx])) (by rw [tw_cons]; omega) ⟨Nat.zero_le _, fun a ha => by cases ha⟩
theorem co_field (n : Nat) (us : List Tok) (h : Gt N P us) : Co N P (fieldM L n us) (tw us) (fun p v => prW p ≤ v ∧ okPr P p) :=
 (co_pair 8 n us h).bind fun p r v hr hp => (co_take _ r hr).map fun _ u _ => ⟨by have := hp.1; omega, hp.2⟩
theorem co_fields (us : List Tok) (h : Gt N P us) : Co N P (fieldsM L us) (tw us) (fun l v => prWs l ≤ v ∧ ∀ p ∈ l, okPr P p) :=
 (co_take _ us h).bind fun _ r v hr _ => (co_until _ _ _ prW (okPr P) co_field _ _ r hr).imp fun l u hl => ⟨by have := hl.1; unfold prWs; omega, hl.2⟩
theorem co_param (n : Nat) (us : List Tok) (h : Gt N P us) : Co N P (paramM L n us) (tw us) (fun p v => prW p ≤ v ∧ okPr P p) :=
 (co_comma n us h).bind fun _ r v hr _ => (co_pair 4 n r hr).imp fun p u hp => ⟨by have := hp.1; omega, hp.2⟩
theorem co_params (us : List Tok) (h : Gt N P us) : Co N P (paramsM L us) (tw us) (fun l v => prWs l ≤ v ∧ ∀ p ∈ l, okPr P p) :=
 (co_take _ us h).bind fun _ r v hr _ => (co_until _ _ _ prW (okPr P) co_param _ _ r hr).imp fun l u hl => ⟨by have := hl.1; unfold prWs; omega, hl.2⟩
theorem exWs_sum (es : List Ex) : exWs es = (es.map exW).sum := by
 induction es with
 | nil => rfl
 | cons e es ih => rw [exWs, ih]; simp
theorem smWs_sum (es : List Sm) : smWs es = (es.map smW).sum := by
 induction es with
 | nil => rfl
 | cons e es ih => rw [smWs, ih]; simp
theorem okEs_all (es : List Ex) : okEs N P es ↔ ∀ e ∈ es, okE N P e := by
 induction es with
 | nil => simp [okEs]
 | cons e es ih => rw [okEs, ih]; simp
theorem okSs_all (es : List Sm) : okSs N P es ↔ ∀ e ∈ es, okS N P e := by
 induction es with
 | nil => simp [okSs]
 | cons e es ih => rw [okSs, ih]; simp
def QE (N : Nat) (P : List UInt8 → Prop) (e : Ex) (v : Nat) : Prop := exW e ≤ v ∧ okE N P e
theorem qe_leaf {k n : Int} {p v : Nat} {s : List UInt8} (hp : p < N) (hv : 1 + s.length ≤ v) (hs : k = 4 ∨ k = 11 → P s) : QE N P (.mk k p n s []) v :=
 ⟨by rw [exW, exWs]; omega, by rw [okE, okEs]; exact ⟨by omega, by omega, hs, trivial⟩⟩
theorem qe_one {k n : Int} {p v u : Nat} {s : List UInt8} {a : Ex} (ha : QE N P a u) (hp : p < N) (hv : 1 + s.length + u ≤ v) (hs : ¬ (k = 4 ∨ k = 11)) : QE N P (.mk k p n s [a]) v :=
 ⟨by rw [exW, exWs, exWs]; have := ha.1; omega, by rw [okE, okEs, okEs]; exact ⟨by omega, by omega, fun h => absurd h hs, ha.2, trivial⟩⟩
theorem qe_two {k n : Int} {p v u x : Nat} {s : List UInt8} {a b : Ex} (ha : QE N P a u) (hb : QE N P b x) (hp : p < N) (hv : 1 + s.length + u + x ≤ v) (hs : ¬ (k = 4 ∨ k = 11)) : QE N P (.mk k p n s [a, b]) v :=
 ⟨by rw [exW, exWs, exWs, exWs]; have := ha.1; have := hb.1; omega, by rw [okE, okEs, okEs, okEs]; exact ⟨by omega, by omega, fun h => absurd h hs, ha.2, hb.2, trivial⟩⟩
theorem qe_three {k n : Int} {p v u x y : Nat} {s : List UInt8} {a b c : Ex} (ha : QE N P a u) (hb : QE N P b x) (hc : QE N P c y) (hp : p < N) (hv : 1 + s.length + u + x + y ≤ v) (hs : ¬ (k = 4 ∨ k = 11)) : QE N P (.mk k p n s [a, b, c]) v :=
 ⟨by rw [exW, exWs, exWs, exWs, exWs]; have := ha.1; have := hb.1; have := hc.1; omega, by rw [okE, okEs, okEs, okEs, okEs]; exact ⟨by omega, by omega, fun h => absurd h hs, ha.2, hb.2, hc.2, trivial⟩⟩
theorem no_k {k : Int} (h : k ≠ 4) (h2 : k ≠ 11) : ¬ (k = 4 ∨ k = 11) := fun e => e.elim h h2
section
variable {E : List Tok → Rd Ex} (hE : ∀ us, Gt N P us → Co N P (E us) (tw us) (QE N P))
include hE
theorem co_br (us : List Tok) (h : Gt N P us) : Co N P (brM L E us) (tw us) (QE N P) :=
 (co_take _ us h).bind fun _ r v hr _ => (hE r hr).bind fun a r2 u hr2 ha => (co_take _ r2 hr2).map fun _ x _ => ⟨by have := ha.1; omega, ha.2⟩
theorem co_first : ∀ us, Gt N P us → Co N P (firstM L E us) (tw us) (QE N P)
 | [], _ => Co.bad
 | t :: r, h => by
   have ht := h t (by simp)
   have hr : Gt N P r := fun x hx => h x (by simp [hx])
   rw [tw_cons]
   unfold firstM
   refine Co.ite (fun _ => Co.ok (v := 1) hr (by omega) (qe_leaf ht.2 (by simp) (fun h => by omega))) fun _ => ?_
   refine Co.ite (fun _ => Co.ok (v := 1) hr (by omega) (qe_leaf ht.2 (by simp) (fun h => by omega))) fun _ => ?_
   refine Co.ite (fun _ => Co.ok (v := 1) hr (by omega) (qe_leaf ht.2 (by simp) (fun h => by omega))) fun _ => ?_
   have lift : ∀ {α : Type} {x : Rd α} {Q : α → Nat → Prop}, Co N P x (tw r) Q → Co N P x (1 + t.text.length + tw r) (fun a v => ∃ u, u + 1 + t.text.length ≤ v ∧ Q a u) := fun hx a r2 e => by
    obtain ⟨g, v, hv, hq⟩ := hx a r2 e
    exact ⟨g, v + 1 + t.text.length, by omega, v, Nat.le_refl _, hq⟩
   refine Co.ite (fun _ => (lift (co_br hE r hr)).map fun a v ⟨u, hu, ha⟩ => qe_one ha ht.2 (by simp; omega) (no_k (by decide) (by decide))) fun _ => ?_
   refine Co.ite (fun _ => (lift (co_br hE r hr)).map fun a v ⟨u, hu, ha⟩ => qe_one ha ht.2 (by simp; omega) (no_k (by decide) (by decide))) fun _ => ?_
   refine Co.ite (fun _ => (lift (co_name r hr)).map fun a v ⟨u, hu, ha⟩ => qe_leaf ht.2 (by have := ha.1; omega) (fun _ => ha.2)) fun _ => ?_
   refine Co.ite (fun _ => (lift (co_name r hr)).map fun a v ⟨u, hu, ha⟩ => qe_leaf ht.2 (by have := ha.1; omega) (fun _ => ha.2)) fun _ => ?_
   refine Co.ite (fun _ => Co.ite (fun hs => ?_) fun _ => ?_) fun _ => Co.ite (fun _ => Co.ok (v := 1) hr (by omega) (qe_leaf ht.2 (by simp) (fun h => by omega))) fun _ => Co.ok (v := 1 + t.text.length) hr (by omega) (qe_leaf ht.2 (by omega) (fun _ => ht.1))
   · cases r with
     | nil => exact absurd hs (by simp [tx])
     | cons t2 r2 =>
       have ht2 := hr t2 (by simp)
       have hr2 : Gt N P r2 := fun x hx => hr x (by simp [hx])
       rw [tw_cons]
       show Co N P ((E r2).bind _) _ _
       intro a r9 e
       obtain ⟨e1, r3, g1, g2⟩ := Rd.bind_ok e
       obtain ⟨w1, v, hv, hq⟩ := hE r2 hr2 e1 r3 g1
       obtain ⟨t3, g3, rfl⟩ := Rd.map_ok g2
       obtain ⟨w2, u, hu, hq2⟩ := co_take _ r3 w1 t3 r9 g3
       exact ⟨w2, 1 + t2.text.length + v, by omega, qe_one hq ht.2 (by show 1 + t2.text.length + v ≤ _; omega) (no_k (by decide) (by decide))⟩
   · intro a r9 e
     obtain ⟨e1, r1, g1, g2⟩ := Rd.bind_ok e
     obtain ⟨w1, v1, hv1, hq1⟩ := hE r hr e1 r1 g1
     obtain ⟨o, r2, g3, g4⟩ := Rd.bind_ok g2
     obtain ⟨w2, v2, hv2, hq2⟩ := co_take _ r1 w1 o r2 g3
     obtain ⟨e2, r3, g5, g6⟩ := Rd.bind_ok g4
     obtain ⟨w3, v3, hv3, hq3⟩ := hE r2 w2 e2 r3 g5
     obtain ⟨t3, g7, rfl⟩ := Rd.map_ok g6
     obtain ⟨w4, v4, hv4, hq4⟩ := co_take _ r3 w3 t3 r9 g7
     exact ⟨w4, 1 + o.text.length + v1 + v3, by have := hq2.1; omega, qe_two hq1 hq3 ht.2 (Nat.le_refl _) (no_k (by decide) (by decide))⟩
theorem co_link (o : Ex) (u0 : Nat) (ho : QE N P o u0) : ∀ us, Gt N P us → Co N P (linkM L E o us) (tw us) (fun e v => QE N P e (v + u0))
 | [], _ => Co.bad
 | t :: r, h => by
   have ht := h t (by simp)
   have hr : Gt N P r := fun x hx => h x (by simp [hx])
   rw [tw_cons]
   unfold linkM
   refine Co.ite (fun _ => ?_) fun _ => ?_
   · intro a r9 e
     obtain ⟨s, g3, rfl⟩ := Rd.map_ok e
     obtain ⟨w2, u, hu, hq2⟩ := co_name r hr s r9 g3
     exact ⟨w2, u, by omega, qe_one ho ht.2 (by have := hq2.1; omega) (no_k (by decide) (by decide))⟩
   · intro a r9 e
     obtain ⟨e1, r1, g1, g2⟩ := Rd.bind_ok e
     obtain ⟨w1, v1, hv1, hq1⟩ := hE r hr e1 r1 g1
     split at g2
     · obtain ⟨e2, r3, g5, g6⟩ := Rd.bind_ok g2
       obtain ⟨w3, v3, hv3, hq3⟩ := hE r1.tail w1.tail e2 r3 g5
       obtain ⟨t3, g7, rfl⟩ := Rd.map_ok g6
       obtain ⟨w4, v4, hv4, hq4⟩ := co_take _ r3 w3 t3 r9 g7
       have := tw_tail r1
       exact ⟨w4, 1 + v1 + v3, by omega, qe_three ho hq1 hq3 ht.2 (by simp; omega) (no_k (by decide) (by decide))⟩
     · obtain ⟨t3, g7, rfl⟩ := Rd.map_ok g2
       obtain ⟨w4, v4, hv4, hq4⟩ := co_take _ r1 w1 t3 r9 g7
       exact ⟨w4, 1 + v1, by omega, qe_two ho hq1 ht.2 (by simp; omega) (no_k (by decide) (by decide))⟩
theorem co_chain : ∀ (n : Nat) (e : Ex) (u0 : Nat) (us : List Tok), QE N P e u0 → Gt N P us → Co N P (chainM L E n e us) (tw us) (fun e v => QE N P e (v + u0))
 | 0, e, u0, us, he, h => by
   unfold chainM
   exact Co.ite (fun _ => Co.bad) fun _ => Co.ok (v := 0) h (by omega) (by rw [Nat.zero_add]; exact he)
 | n + 1, e, u0, us, he, h => by
   unfold chainM
   refine Co.ite (fun _ => ?_) fun _ => Co.ok (v := 0) h (by omega) (by rw [Nat.zero_add]; exact he)
   exact (co_link hE e u0 he us h).bind fun e2 r v hr hq => (co_chain n e2 (v + u0) r hq hr).imp fun e3 u hq3 => by
    have e : v + u + u0 = u + (v + u0) := by omega
    show QE N P e3 (v + u + u0)
    rw [e]; exact hq3
end
theorem co_expr : ∀ (n : Nat) (us : List Tok), Gt N P us → Co N P (exprM L n us) (tw us) (QE N P)
 | 0, us, h => by unfold exprM; exact Co.ite (fun _ => Co.bad) fun _ => Co.bad
 | n + 1, us, h => by
   unfold exprM
   refine Co.ite (fun _ => (co_first (co_expr n) us h).bind fun e r v hr hq => (co_chain (co_expr n) 8 e v r hq hr).imp fun e3 u hq3 => ?_) fun _ => Co.bad
   rw [Nat.add_comm]; exact hq3
theorem co_arg (k n : Nat) (us : List Tok) (h : Gt N P us) : Co N P (argM L (exprM L k) n us) (tw us) (fun e v => exW e ≤ v ∧ okE N P e) :=
 (co_comma n us h).bind fun _ r v hr _ => (co_room _ _ _ r hr).bind fun _ r2 u hr2 _ => (co_expr k r2 hr2).imp fun e x hq => ⟨by have := hq.1; omega, hq.2⟩
def QEs (N : Nat) (P : List UInt8 → Prop) (es : List Ex) (v : Nat) : Prop := exWs es ≤ v ∧ okEs N P es
def QSs (N : Nat) (P : List UInt8 → Prop) (es : List Sm) (v : Nat) : Prop := smWs es ≤ v ∧ okSs N P es
theorem co_args (k : Nat) (us : List Tok) (h : Gt N P us) : Co N P (argsM L (exprM L k) us) (tw us) (QEs N P) :=
 (co_take _ us h).bind fun _ r v hr _ => (co_until _ _ _ exW (okE N P) (co_arg k) _ _ r hr).imp fun l u hl => ⟨by rw [exWs_sum]; have := hl.1; omega, (okEs_all l).2 hl.2⟩
def QS (N : Nat) (P : List UInt8 → Prop) (s : Sm) (v : Nat) : Prop := smW s ≤ v ∧ okS N P s
theorem co_block {S : List Tok → Rd Sm} (hS : ∀ us, Gt N P us → Co N P (S us) (tw us) (QS N P)) (n : Nat) (us : List Tok) (h : Gt N P us) : Co N P (blockM L S n us) (tw us) (QSs N P) :=
 (co_take _ us h).bind fun _ r v hr _ => (co_until _ _ _ smW (okS N P) (fun _ us h => hS us h) _ _ r hr).imp fun l u hl => ⟨by rw [smWs_sum]; have := hl.1; omega, (okSs_all l).2 hl.2⟩
theorem co_end {s : Sm} {u0 : Nat} (hs : QS N P s u0) (us : List Tok) (h : Gt N P us) : Co N P (endM L s us) (tw us) (fun x v => QS N P x (u0 + v)) :=
 (co_take _ us h).map fun _ v _ => ⟨by have := hs.1; omega, hs.2⟩
theorem qs_mk {k : Int} {p v a b c : Nat} {nm ty : List UInt8} {ex : List Ex} {bd el : List Sm} (hp : p < N) (hn : k = 1 ∨ 5 ≤ k ∧ k ≤ 10 → P nm) (ht : k = 1 → okTy P ty) (ht2 : k = 8 ∨ k = 10 → ty = [] ∨ P ty) (hx : QEs N P ex a) (hb : QSs N P bd b) (hl : QSs N P el c) (hv : 1 + nm.length + ty.length + a + b + c ≤ v) : QS N P (.mk k p nm ty ex bd el) v :=
 ⟨by rw [smW]; have := hx.1; have := hb.1; have := hl.1; omega, by rw [okS]; exact ⟨by omega, by omega, hn, ht, ht2, hx.2, hb.2, hl.2⟩⟩
theorem qes_nil : QEs N P [] 0 := ⟨Nat.le_refl _, trivial⟩
theorem qss_nil : QSs N P [] 0 := ⟨Nat.le_refl _, trivial⟩
theorem qes_one {e : Ex} {v : Nat} (h : QE N P e v) : QEs N P [e] v := ⟨by rw [exWs, exWs]; exact h.1, by rw [okEs, okEs]; exact ⟨h.2, trivial⟩⟩
theorem qes_two {e f : Ex} {v u : Nat} (h : QE N P e v) (h2 : QE N P f u) : QEs N P [e, f] (v + u) := ⟨by rw [exWs, exWs, exWs]; have := h.1; have := h2.1; omega, by rw [okEs, okEs, okEs]; exact ⟨h.2, h2.2, trivial⟩⟩
theorem co_stmt1 (k : Nat) {S : List Tok → Rd Sm} (hS : ∀ us, Gt N P us → Co N P (S us) (tw us) (QS N P)) (t : Tok) (v0 : Nat) (hv0 : 1 ≤ v0) (ht : t.pl < N) (r : List Tok) (hr : Gt N P r) : Co N P (stmtM1 L (exprM L k) S t r) (tw r) (fun s v => QS N P s (v0 + v)) := by
 unfold stmtM1
 have hE := co_expr (N := N) (P := P) (L := L) k
 have hB := fun n => co_block (N := N) (P := P) (L := L) hS n
 have nil1 := @qes_nil N P
 have nil2 := @qss_nil N P
 refine Co.ite (fun _ => (hE r hr).bind fun c r2 v1 hr2 hc => (hB 0 r2 hr2).bind fun b r3 v2 hr3 hb => Co.ite (fun _ => ?_) fun _ => ?_) fun _ => ?_
 · exact ((hB 1 r3.tail hr3.tail).up (tw_tail r3)).map fun l v3 hl => qs_mk ht (fun h => by omega) (fun h => by omega) (fun _ => .inl rfl) (qes_one hc) hb hl (by simp; omega)
 · exact Co.ok (v := 0) hr3 (by omega) (qs_mk ht (fun h => by omega) (fun h => by omega) (fun _ => .inl rfl) (qes_one hc) hb nil2 (by simp; omega))
 refine Co.ite (fun _ => (hE r hr).bind fun c r2 v1 hr2 hc => (hB 0 r2 hr2).map fun b v2 hb => qs_mk ht (fun h => by omega) (fun h => by omega) (fun _ => .inl rfl) (qes_one hc) hb nil2 (by simp; omega)) fun _ => ?_
 refine Co.ite (fun _ => (co_name r hr).bind fun n r2 v1 hr2 hn => (co_types r2 hr2).bind fun y r3 v2 hr3 hy => (co_take _ r3 hr3).bind fun _ r4 v3 hr4 _ => (hE r4 hr4).bind fun e r5 v4 hr5 he =>
  (co_end (qs_mk (v := v0 + v1 + v2 + v4) ht (fun _ => hn.2) (fun _ => hy.2) (fun h => by omega) (qes_one he) nil2 nil2 (by have := hn.1; have := hy.1; omega)) r5 hr5).imp fun s v5 hs => ⟨by have := hs.1; omega, hs.2⟩) fun _ => ?_
 refine Co.ite (fun _ => (hE r hr).bind fun p r2 v1 hr2 hp => Co.ite (fun _ => (co_take _ r2 hr2).bind fun _ r3 v2 hr3 _ => (hE r3 hr3).bind fun e r4 v3 hr4 he =>
  (co_end (qs_mk (v := v0 + v1 + v3) ht (fun h => by omega) (fun h => by omega) (fun _ => .inl rfl) (qes_two hp he) nil2 nil2 (by simp; omega)) r4 hr4).imp fun s v5 hs => ⟨by have := hs.1; omega, hs.2⟩) fun _ => Co.bad) fun _ => ?_
 refine Co.ite (fun _ => (co_name r hr).bind fun n r2 v1 hr2 hn => (co_end (qs_mk (v := v0 + v1) ht (fun _ => hn.2) (fun h => by omega) (fun _ => .inl rfl) nil1 nil2 nil2 (by have := hn.1; simp; omega)) r2 hr2).imp fun s v5 hs => ⟨by have := hs.1; omega, hs.2⟩) fun _ => ?_
 refine Co.ite (fun _ => (co_name r hr).bind fun n r2 v1 hr2 hn => (co_end (qs_mk (v := v0 + v1) ht (fun _ => hn.2) (fun h => by omega) (fun _ => .inl rfl) nil1 nil2 nil2 (by have := hn.1; simp; omega)) r2 hr2).imp fun s v5 hs => ⟨by have := hs.1; omega, hs.2⟩) fun _ => ?_
 refine Co.ite (fun _ => (co_name r hr).bind fun n r2 v1 hr2 hn => (hE r2 hr2).bind fun e r3 v2 hr3 he => (co_end (qs_mk (v := v0 + v1 + v2) ht (fun _ => hn.2) (fun h => by omega) (fun _ => .inl rfl) (qes_one he) nil2 nil2 (by have := hn.1; simp; omega)) r3 hr3).imp fun s v5 hs => ⟨by have := hs.1; omega, hs.2⟩) fun _ => ?_
 refine Co.ite (fun _ => (co_name r hr).bind fun n r2 v1 hr2 hn => (co_name r2 hr2).bind fun y r3 v2 hr3 hy => (co_end (qs_mk (v := v0 + v1 + v2) ht (fun _ => hn.2) (fun h => by omega) (fun _ => .inr hy.2) nil1 nil2 nil2 (by have := hn.1; have := hy.1; omega)) r3 hr3).imp fun s v5 hs => ⟨by have := hs.1; omega, hs.2⟩) fun _ => ?_
 refine Co.ite (fun _ => (co_name r hr).bind fun n r2 v1 hr2 hn => (hE r2 hr2).bind fun e r3 v2 hr3 he => (co_end (qs_mk (v := v0 + v1 + v2) ht (fun _ => hn.2) (fun h => by omega) (fun _ => .inl rfl) (qes_one he) nil2 nil2 (by have := hn.1; simp; omega)) r3 hr3).imp fun s v5 hs => ⟨by have := hs.1; omega, hs.2⟩) fun _ => ?_
 refine Co.ite (fun _ => (co_name r hr).bind fun n r2 v1 hr2 hn => Co.ite (fun _ => ?_) fun _ => (co_args k r2 hr2).bind fun xs r3 v2 hr3 hx =>
  (co_end (qs_mk (v := v0 + v1 + v2) ht (fun _ => hn.2) (fun h => by omega) (fun _ => .inl rfl) hx nil2 nil2 (by have := hn.1; simp; omega)) r3 hr3).imp fun s v5 hs => ⟨by have := hs.1; omega, hs.2⟩) fun _ => ?_
 · exact ((co_name r2.tail hr2.tail).up (tw_tail r2)).bind fun f r3 v2 hr3 hf => (co_args k r3 hr3).bind fun xs r4 v3 hr4 hx =>
    (co_end (qs_mk (v := v0 + v1 + v2 + v3) ht (fun _ => hf.2) (fun h => by omega) (fun _ => .inr hn.2) hx nil2 nil2 (by have := hn.1; have := hf.1; omega)) r4 hr4).imp fun s v5 hs => ⟨by have := hs.1; omega, hs.2⟩
 · refine Co.ite (fun _ => (co_end (qs_mk (v := v0) ht (fun h => by omega) (fun h => by omega) (fun _ => .inl rfl) nil1 nil2 nil2 (by simp; omega)) r hr).imp fun s v5 hs => hs) fun _ => ?_
   exact (hE r hr).bind fun e r2 v1 hr2 he => (co_end (qs_mk (v := v0 + v1) ht (fun h => by omega) (fun h => by omega) (fun _ => .inl rfl) (qes_one he) nil2 nil2 (by simp; omega)) r2 hr2).imp fun s v5 hs => ⟨by have := hs.1; omega, hs.2⟩
theorem co_stmt : ∀ (n : Nat) (us : List Tok), Gt N P us → Co N P (stmtM L n us) (tw us) (QS N P)
 | 0, us, h => by unfold stmtM; exact Co.bad
 | n + 1, us, h => by
   unfold stmtM
   exact (co_take _ us h).bind fun t r v hr ht => co_stmt1 n (co_stmt n) t v (by have := ht.1; omega) ht.2.2.1 r hr
theorem co_body (us : List Tok) (h : Gt N P us) : Co N P (bodyM L us) (tw us) (QSs N P) := co_block (co_stmt 24) 0 us h
def QD (N : Nat) (P : List UInt8 → Prop) (d : Dc) (v : Nat) : Prop := dcW d ≤ v ∧ okD N P d
theorem qd_mk {k n : Int} {p v a b : Nat} {s ty : List UInt8} {ps : List Pr} {bd : List Sm} (hp : p < N) (hk : 1 ≤ k ∧ k ≤ 8) (hs : P s) (ht : okTy P ty) (hq : prWs ps ≤ a ∧ ∀ x ∈ ps, okPr P x) (h8 : k = 8 → ps = []) (hb : QSs N P bd b) (hv : 1 + s.length + ty.length + a + b ≤ v) : QD N P ⟨k, p, n, s, ty, ps, bd⟩ v :=
 ⟨by show 1 + s.length + ty.length + prWs ps + smWs bd ≤ v; have := hq.1; have := hb.1; omega, by refine ⟨?_, ?_, hk.1, hk.2, hs, ht, hq.2, h8, hb.2⟩ <;> (show _; simp; try omega)⟩
theorem prs_nil : prWs [] ≤ 0 ∧ ∀ x ∈ ([] : List Pr), okPr P x := ⟨Nat.le_refl _, fun x hx => by cases hx⟩
theorem co_shut {d : Dc} {u0 : Nat} (hd : QD N P d u0) (us : List Tok) (h : Gt N P us) : Co N P (shutM L d us) (tw us) (fun x v => QD N P x (u0 + v)) :=
 (co_take _ us h).map fun _ v _ => ⟨by have := hd.1; omega, hd.2⟩
theorem co_decl1 (w : List UInt8) (p : Nat) (hp : p < N) (s : List UInt8) (hs : P s) (v0 : Nat) (hv0 : 1 + s.length ≤ v0) (r : List Tok) (hr : Gt N P r) : Co N P (declM1 L w p s r) (tw r) (fun d v => QD N P d (v0 + v)) := by
 unfold declM1
 have ne : okTy P [] := fun h => by cases h
 refine Co.ite (fun _ => (co_fields r hr).map fun ps v1 hq => qd_mk hp (by decide) hs ne hq (fun h => by cases h) qss_nil (by simp; omega)) fun _ => ?_
 refine Co.ite (fun _ => (co_params r hr).bind fun ps r2 v1 hr2 hq => Co.ite (fun _ => (co_body r2 hr2).map fun b v2 hb => qd_mk hp (by decide) hs ne hq (fun h => by cases h) hb (by simp; omega)) fun _ =>
  (co_types r2 hr2).bind fun y r3 v2 hr3 hy => (co_body r3 hr3).map fun b v3 hb => qd_mk hp (by decide) hs hy.2 hq (fun h => by cases h) hb (by have := hy.1; omega)) fun _ => ?_
 refine Co.ite (fun _ => (co_body r hr).map fun b v2 hb => qd_mk hp (by decide) hs ne prs_nil (fun _ => rfl) hb (by simp; omega)) fun _ => ?_
 refine Co.ite (fun _ => co_shut (qd_mk hp (by decide) hs ne prs_nil (fun _ => rfl) qss_nil (by simp; omega)) r hr) fun _ => ?_
 refine Co.ite (fun _ => (co_places r hr).bind fun n r2 v1 hr2 _ => (co_shut (qd_mk (v := v0) hp (by decide) hs ne prs_nil (fun _ => rfl) qss_nil (by simp; omega)) r2 hr2).imp fun d v2 hd => ⟨by have := hd.1; omega, hd.2⟩) fun _ => ?_
 refine Co.ite (fun _ => (co_types r hr).bind fun y r2 v1 hr2 hy => (co_shut (qd_mk (v := v0 + v1) hp (by decide) hs hy.2 prs_nil (fun _ => rfl) qss_nil (by have := hy.1; omega)) r2 hr2).imp fun d v2 hd => ⟨by have := hd.1; omega, hd.2⟩) fun _ => ?_
 exact Co.ite (fun _ => co_shut (qd_mk hp (by decide) hs ne prs_nil (fun _ => rfl) qss_nil (by simp; omega)) r hr) fun _ => co_shut (qd_mk hp (by decide) hs ne prs_nil (fun _ => rfl) qss_nil (by simp; omega)) r hr
theorem co_decl (n : Nat) (us : List Tok) (h : Gt N P us) : Co N P (declM L n us) (tw us) (fun d v => dcW d ≤ v ∧ okD N P d) := by
 unfold declM
 refine (co_take _ us h).bind fun t r v hr ht => ?_
 intro d r9 e
 obtain ⟨_, r2, h1, h2⟩ := Rd.bind_ok e
 have hre := roomM_ok h1
 subst hre
 have hkd : kd r2 = 1 := by
  unfold roomM at h1
  split at h1
  · rename_i hh; exact of_decide_eq_true hh
  · cases h1
 cases r2 with
 | nil => simp [kd] at hkd
 | cons t2 r3 =>
   have ht2 := hr t2 (by simp)
   have hr3 : Gt N P r3 := fun x hx => hr x (by simp [hx])
   obtain ⟨g, u, hu, hq⟩ := co_decl1 (L := L) t.text t2.pl ht2.2 t2.text ht2.1 (1 + t2.text.length) (Nat.le_refl _) r3 hr3 d r9 h2
   rw [tw_cons]
   exact ⟨g, 1 + t2.text.length + u, by omega, by have := hq.1; omega, hq.2⟩
theorem co_program (us : List Tok) (h : Gt N P us) : Co N P (programM L us) (tw us) (fun ds v => dcWs ds ≤ v ∧ ∀ d ∈ ds, okD N P d) := co_until _ _ _ dcW (okD N P) co_decl _ _ us h
end
end Go.Proofs.YtbckeljbpknbdaaGreatDoor
end
section
set_option linter.unusedVariables false
set_option linter.unusedSimpArgs false
namespace Go.Proofs.YtbckeljbpknbdaaGreatDoor
open Go.RowKit
structure Dg where
 pl : Int
 code : Int
 name : List UInt8
deriving DecidableEq
def firstIx : List Dc → List UInt8 → Option Nat
 | [], _ => none
 | d :: ds, s => if d.name = s then some 0 else (firstIx ds s).map (· + 1)
theorem firstIx_lt : ∀ {ds : List Dc} {s : List UInt8} {i : Nat}, firstIx ds s = some i → ∃ h : i < ds.length, ds[i].name = s
 | [], s, i, h => by cases h
 | d :: ds, s, i, h => by
   unfold firstIx at h
   split at h
   · cases h; exact ⟨by simp, by simpa⟩
   · cases hx : firstIx ds s with
     | none => rw [hx] at h; cases h
     | some j =>
       rw [hx] at h
       cases h
       obtain ⟨h1, h2⟩ := firstIx_lt hx
       exact ⟨by simpa using h1, by simpa using h2⟩
theorem firstIx_none : ∀ {ds : List Dc} {s : List UInt8}, firstIx ds s = none ↔ ∀ d ∈ ds, d.name ≠ s
 | [], s => by simp [firstIx]
 | d :: ds, s => by
   unfold firstIx
   split
   · rename_i h; simp [h]
   · rename_i h
     rw [Option.map_eq_none_iff, firstIx_none]
     simp [h]
section
variable (ds : List Dc)
def useD (p : Int) (s : List UInt8) (ks : List Int) : List Dg := match firstIx ds s with
 | none => [⟨p, 41, s⟩]
 | some i => if (ds[i]?.map Dc.kind).getD 0 ∈ ks then [] else [⟨p, 42, s⟩]
def useTypeD (p : Int) (ty : List UInt8) : List Dg := if ty.head? = some 42 then useD ds p ty.tail [3] else []
def hasB (l : List Pr) (s : List UInt8) : Bool := l.any fun p => decide (p.name = s)
def addL (l : List Pr) (s ty : List UInt8) : List Pr := if hasB l s = true then l else l ++ [⟨s, ty⟩]
def exD1 (l : List Pr) (k p : Int) (s : List UInt8) : List Dg :=
 if k = 4 ∧ hasB l s = false then useD ds p s [4, 5] else if k = 11 then useD ds p s [3] else []
mutual
def exD (l : List Pr) : Ex → List Dg
 | .mk k p _ s es => exD1 ds l k p s ++ exDs l es
def exDs (l : List Pr) : List Ex → List Dg
 | [] => []
 | e :: es => exD l e ++ exDs l es
end
def useLocalD (l : List Pr) (p : Int) (s : List UInt8) : List Dg := if s ≠ [] ∧ hasB l s = false then useD ds p s [] else []
def smD1 (l : List Pr) (k p : Int) (nm ty : List UInt8) : List Dg :=
 if k = 1 then useTypeD ds p ty ++ (if hasB l nm = true ∨ (firstIx ds nm).isSome = true then [⟨p, 40, nm⟩] else []) ++ (if 32 ≤ l.length then [⟨p, 22, nm⟩] else [])
 else if k = 5 ∨ k = 6 then useD ds p nm [1]
 else if k = 7 then useD ds p nm [2]
 else if k = 8 then useD ds p nm [2] ++ useLocalD ds l p ty
 else if k = 9 then useD ds p nm [6]
 else if k = 10 then useD ds p nm [7] ++ useLocalD ds l p ty
 else []
def smL1 (l : List Pr) (k : Int) (nm ty : List UInt8) : List Pr := if k = 1 then addL l nm ty else l
mutual
def smD (l : List Pr) : Sm → List Dg × List Pr
 | .mk k p nm ty ex bd el =>
   let a := smDs (smL1 l k nm ty) bd
   let b := smDs a.2 el
   (exDs ds l ex ++ smD1 ds l k p nm ty ++ a.1 ++ b.1, b.2)
def smDs (l : List Pr) : List Sm → List Dg × List Pr
 | [] => ([], l)
 | s :: ss =>
   let a := smD l s
   let b := smDs a.2 ss
   (a.1 ++ b.1, b.2)
end
def prDs (p : Int) (fn : Bool) : List Pr → List Pr → List Dg
 | _, [] => []
 | pre, q :: qs => (if hasB pre q.name = true ∨ fn = true ∧ (firstIx ds q.name).isSome = true then [⟨p, 40, q.name⟩] else []) ++ useTypeD ds p q.type ++ prDs p fn (pre ++ [q]) qs
def paramsL (ps : List Pr) : List Pr := ps.foldl (fun l q => addL l q.name q.type) []
def mostK (k : Int) : Nat := if k = 1 then 8 else if k = 2 then 4 else if k = 3 then 4 else if k = 4 then 16 else if k = 5 then 8 else if k = 6 then 4 else if k = 7 then 8 else 4
def bodyB (k : Int) : Bool := decide (k = 7 ∨ k = 8)
def dcD (pre : List Dc) (d : Dc) : List Dg × List (List Pr) :=
 let b := smDs ds (paramsL d.pairs) d.body
 ((if firstIx ds d.name = some pre.length then [] else [⟨d.pl, 40, d.name⟩])
   ++ (if mostK d.kind ≤ (pre.filter fun x => decide (x.kind = d.kind)).length then [⟨d.pl, 22, d.name⟩] else [])
   ++ useTypeD ds d.pl d.type ++ prDs ds d.pl (decide (d.kind = 7)) [] d.pairs ++ (if bodyB d.kind = true then b.1 else []),
  if bodyB d.kind = true then [b.2] else [])
def dcDs : List Dc → List Dc → List Dg × List (List Pr)
 | _, [] => ([], [])
 | pre, d :: r => ((dcD ds pre d).1 ++ (dcDs (pre ++ [d]) r).1, (dcD ds pre d).2 ++ (dcDs (pre ++ [d]) r).2)
end
def listK (k : Int) : List Dc → Nat → List Nat
 | [], _ => []
 | d :: ds, i => if d.kind = k then i :: listK k ds (i + 1) else listK k ds (i + 1)
end Go.Proofs.YtbckeljbpknbdaaGreatDoor
end
section
set_option linter.unusedVariables false
set_option linter.unusedSimpArgs false
namespace Go.Proofs.YtbckeljbpknbdaaGreatDoor
open Go.RowKit
theorem cb_self : ∀ a : List UInt8, Lib.compareBytes a a = 0
 | [] => rfl
 | a :: la => by
   have h : ¬ a < a := UInt8.lt_irrefl a
   rw [Lib.compareBytes, if_neg h, if_neg h, cb_self la]
theorem cb_neg : ∀ a b : List UInt8, Lib.compareBytes b a = - Lib.compareBytes a b
 | [], [] => rfl
 | [], _ :: _ => rfl
 | _ :: _, [] => rfl
 | a :: la, b :: lb => by
   rw [Lib.compareBytes, Lib.compareBytes]
   by_cases h1 : a < b
   · have h2 : ¬ b < a := UInt8.lt_asymm h1
     rw [if_neg h2, if_pos h1, if_pos h1]; rfl
   · by_cases h2 : b < a
     · rw [if_pos h2, if_neg h1, if_pos h2]
     · rw [if_neg h2, if_neg h1, if_neg h1, if_neg h2, cb_neg la lb]
theorem cb_zero : ∀ a b : List UInt8, Lib.compareBytes a b = 0 → a = b
 | [], [], _ => rfl
 | [], _ :: _, h => by cases h
 | _ :: _, [], h => by cases h
 | a :: la, b :: lb, h => by
   rw [Lib.compareBytes] at h
   split at h
   · cases h
   · split at h
     · cases h
     · rename_i h1 h2
       have e : a = b := UInt8.le_antisymm (UInt8.not_lt.1 h2) (UInt8.not_lt.1 h1)
       rw [e, cb_zero la lb h]
theorem cb_trans : ∀ a b c : List UInt8, Lib.compareBytes a b < 0 → Lib.compareBytes b c < 0 → Lib.compareBytes a c < 0
 | [], [], c, h, _ => absurd h (by simp [Lib.compareBytes])
 | [], _ :: _, [], _, h => absurd h (by simp [Lib.compareBytes])
 | [], _ :: _, _ :: _, _, _ => by simp [Lib.compareBytes]
 | _ :: _, [], _, h, _ => absurd h (by simp [Lib.compareBytes])
 | _ :: _, _ :: _, [], _, h => absurd h (by simp [Lib.compareBytes])
 | a :: la, b :: lb, c :: lc, h1, h2 => by
   rw [Lib.compareBytes] at h1 h2 ⊢
   by_cases x : a < c
   · rw [if_pos x]; decide
   · rw [if_neg x]
     by_cases y : c < a
     · exfalso
       split at h1
       · rename_i k1
         split at h2
         · rename_i k2; exact x (UInt8.lt_trans k1 k2)
         · split at h2
           · cases h2
           · rename_i k2 k3
             have e : b = c := UInt8.le_antisymm (UInt8.not_lt.1 k3) (UInt8.not_lt.1 k2)
             exact x (e ▸ k1)
       · split at h1
         · cases h1
         · rename_i k1 k2
           have e : a = b := UInt8.le_antisymm (UInt8.not_lt.1 k2) (UInt8.not_lt.1 k1)
           subst e
           rw [if_neg x, if_pos y] at h2
           exact absurd h2 (by decide)
     · rw [if_neg y]
       have e : a = c := UInt8.le_antisymm (UInt8.not_lt.1 y) (UInt8.not_lt.1 x)
       subst e
       split at h1
       · rename_i k1
         rw [if_neg (UInt8.lt_asymm k1), if_pos k1] at h2
         cases h2
       · split at h1
         · cases h1
         · rename_i k1 k2
           rw [if_neg k2, if_neg k1] at h2
           exact cb_trans la lb lc h1 h2
def cfD (a b : Dg) : Int := if Lib.compareInt a.pl b.pl ≠ 0 then Lib.compareInt a.pl b.pl else if Lib.compareInt a.code b.code ≠ 0 then Lib.compareInt a.code b.code else Lib.compareBytes a.name b.name
def ltD (a b : Dg) : Bool := decide (cfD a b < 0)
def LtD (a b : Dg) : Prop := a.pl < b.pl ∨ (a.pl = b.pl ∧ (a.code < b.code ∨ (a.code = b.code ∧ Lib.compareBytes a.name b.name < 0)))
theorem ltD_iff (a b : Dg) : ltD a b = true ↔ LtD a b := by
 unfold ltD cfD LtD Lib.compareInt
 rw [decide_eq_true_iff]
 rcases Int.lt_trichotomy a.pl b.pl with h | h | h
 · rw [if_pos (by rw [if_pos h]; decide), if_pos h]
   exact ⟨fun _ => .inl h, fun _ => by decide⟩
 · rw [if_neg (by rw [if_neg (by omega), if_neg (by omega)]; simp)]
   rcases Int.lt_trichotomy a.code b.code with h2 | h2 | h2
   · rw [if_pos (by rw [if_pos h2]; decide), if_pos h2]
     exact ⟨fun _ => .inr ⟨h, .inl h2⟩, fun _ => by decide⟩
   · rw [if_neg (by rw [if_neg (by omega), if_neg (by omega)]; simp)]
     exact ⟨fun k => .inr ⟨h, .inr ⟨h2, k⟩⟩, fun k => by
      rcases k with k | ⟨_, k | ⟨_, k⟩⟩
      · omega
      · omega
      · exact k⟩
   · rw [if_pos (by rw [if_neg (by omega), if_pos (by omega)]; decide), if_neg (by omega), if_pos (by omega)]
     exact ⟨fun k => by omega, fun k => by
      rcases k with k | ⟨_, k | ⟨_, k⟩⟩ <;> omega⟩
 · rw [if_pos (by rw [if_neg (by omega), if_pos (by omega)]; decide), if_neg (by omega), if_pos (by omega)]
   exact ⟨fun k => by omega, fun k => by
    rcases k with k | ⟨_, k | ⟨_, k⟩⟩ <;> omega⟩
theorem LtD.trans {a b c : Dg} (h1 : LtD a b) (h2 : LtD b c) : LtD a c := by
 unfold LtD at *
 rcases h1 with h1 | ⟨e1, h1 | ⟨e2, h1⟩⟩ <;> rcases h2 with h2 | ⟨e3, h2 | ⟨e4, h2⟩⟩
 · exact .inl (by omega)
 · exact .inl (by omega)
 · exact .inl (by omega)
 · exact .inl (by omega)
 · exact .inr ⟨by omega, .inl (by omega)⟩
 · exact .inr ⟨by omega, .inl (by omega)⟩
 · exact .inl (by omega)
 · exact .inr ⟨by omega, .inl (by omega)⟩
 · exact .inr ⟨by omega, .inr ⟨by omega, cb_trans _ _ _ h1 h2⟩⟩
theorem LtD.irrefl {a : Dg} (h : LtD a a) : False := by
 unfold LtD at h
 rw [cb_self] at h
 rcases h with h | ⟨_, h | ⟨_, h⟩⟩ <;> omega
theorem LtD.total (a b : Dg) : LtD a b ∨ a = b ∨ LtD b a := by
 unfold LtD
 rcases Int.lt_trichotomy a.pl b.pl with h | h | h
 · exact .inl (.inl h)
 · rcases Int.lt_trichotomy a.code b.code with h2 | h2 | h2
   · exact .inl (.inr ⟨h, .inl h2⟩)
   · rcases Int.lt_trichotomy (Lib.compareBytes a.name b.name) 0 with h3 | h3 | h3
     · exact .inl (.inr ⟨h, .inr ⟨h2, h3⟩⟩)
     · refine .inr (.inl ?_)
       cases a; cases b
       simp at h h2 h3
       rw [h, h2, cb_zero _ _ h3]
     · exact .inr (.inr (.inr ⟨h.symm, .inr ⟨h2.symm, by rw [cb_neg]; omega⟩⟩))
   · exact .inr (.inr (.inr ⟨h.symm, .inl h2⟩))
 · exact .inr (.inr (.inl h))
def leD (a b : Dg) : Bool := !ltD b a
theorem leD_iff (a b : Dg) : leD a b = true ↔ LtD a b ∨ a = b := by
 unfold leD
 rw [Bool.not_eq_true', ← Bool.not_eq_true, ltD_iff]
 constructor
 · intro h
   rcases LtD.total a b with k | k | k
   · exact .inl k
   · exact .inr k
   · exact absurd k h
 · rintro (h | rfl) k
   · exact LtD.irrefl (h.trans k)
   · exact LtD.irrefl k
theorem leD_trans (a b c : Dg) (h1 : leD a b = true) (h2 : leD b c = true) : leD a c = true := by
 rw [leD_iff] at *
 rcases h1 with h1 | rfl
 · rcases h2 with h2 | rfl
   · exact .inl (h1.trans h2)
   · exact .inl h1
 · exact h2
theorem leD_total (a b : Dg) : (leD a b || leD b a) = true := by
 rw [Bool.or_eq_true, leD_iff, leD_iff]
 rcases LtD.total a b with h | h | h
 · exact .inl (.inl h)
 · exact .inl (.inr h)
 · exact .inr (.inl h)
def compactL : List Dg → List Dg
 | [] => []
 | [a] => [a]
 | a :: b :: r => if a = b then compactL (b :: r) else a :: compactL (b :: r)
theorem compactL_mem : ∀ (l : List Dg) (g : Dg), g ∈ compactL l ↔ g ∈ l
 | [], g => by simp [compactL]
 | [a], g => by simp [compactL]
 | a :: b :: r, g => by
   unfold compactL
   split
   · rename_i h
     rw [compactL_mem (b :: r) g, h]
     simp
   · rw [List.mem_cons, compactL_mem (b :: r) g]
     simp
def ordD (raw : List Dg) : List Dg := compactL (raw.mergeSort leD)
theorem ordD_mem (raw : List Dg) (g : Dg) : g ∈ ordD raw ↔ g ∈ raw := by unfold ordD; rw [compactL_mem, List.mem_mergeSort]
theorem ordD_nil (raw : List Dg) : ordD raw = [] ↔ raw = [] := by
 constructor
 · intro h
   cases raw with
   | nil => rfl
   | cons a r =>
     have := (ordD_mem (a :: r) a).2 (by simp)
     rw [h] at this
     cases this
 · rintro rfl
   simp [ordD, compactL]
end Go.Proofs.YtbckeljbpknbdaaGreatDoor
end
section
set_option linter.unusedVariables false
set_option linter.unusedSimpArgs false
namespace Go.Proofs.YtbckeljbpknbdaaGreatDoor
open Go.RowKit
def rawD (ds : List Dc) : List Dg := (dcDs ds [] ds).1
def locD (ds : List Dc) : List (List Pr) := (dcDs ds [] ds).2
section
variable {N : Nat} {P : List UInt8 → Prop} (ds : List Dc)
def Qd (N : Nat) (P : List UInt8 → Prop) (g : Dg) : Prop := 0 ≤ g.pl ∧ g.pl < N ∧ g.code ≠ 0 ∧ P g.name
def AllQ (N : Nat) (P : List UInt8 → Prop) (l : List Dg) : Prop := ∀ g ∈ l, Qd N P g
theorem AllQ.nil : AllQ N P [] := fun g h => by cases h
theorem AllQ.one {p c : Int} {s : List UInt8} (h0 : 0 ≤ p) (h1 : p < N) (hc : c ≠ 0) (hs : P s) : AllQ N P [⟨p, c, s⟩] := fun g h => by
 rw [List.mem_singleton.1 h]; exact ⟨h0, h1, hc, hs⟩
theorem AllQ.ite {a b : List Dg} {c : Prop} [Decidable c] (ha : c → AllQ N P a) (hb : ¬ c → AllQ N P b) : AllQ N P (if c then a else b) := by
 split
 · exact ha ‹_›
 · exact hb ‹_›
end
section
variable {N : Nat} {P : List UInt8 → Prop} {ds : List Dc} {z : Dc}
theorem firstIx_app {ds : List Dc} {z : Dc} {s : List UInt8} (h : s ≠ z.name) : firstIx (ds ++ [z]) s = firstIx ds s := by
 induction ds with
 | nil => show firstIx [z] s = none; unfold firstIx; rw [if_neg (Ne.symm h)]; rfl
 | cons d ds ih => rw [List.cons_append, firstIx, firstIx, ih]
theorem firstIx_last {ds : List Dc} {z : Dc} (h : ∀ d ∈ ds, d.name ≠ z.name) : firstIx (ds ++ [z]) z.name = some ds.length := by
 induction ds with
 | nil => show firstIx [z] z.name = some 0; unfold firstIx; rw [if_pos rfl]
 | cons d ds ih =>
   rw [List.cons_append, firstIx, if_neg (h d (by simp)), ih (fun x hx => h x (by simp [hx]))]
   rfl
theorem dcDs_snoc (D : List Dc) (z : Dc) : ∀ (r pre : List Dc), dcDs D pre (r ++ [z]) = ((dcDs D pre r).1 ++ (dcD D (pre ++ r) z).1, (dcDs D pre r).2 ++ (dcD D (pre ++ r) z).2)
 | [], pre => by rw [List.nil_append, dcDs, dcDs, dcDs]; simp
 | d :: r, pre => by rw [List.cons_append, dcDs, dcDs, dcDs_snoc D z r]; simp
end
section
variable {ds : List Dc}
end
theorem listK_len (k : Int) : ∀ (ds : List Dc) (i : Nat), (listK k ds i).length = (ds.filter fun x => decide (x.kind = k)).length
 | [], i => rfl
 | d :: ds, i => by
   unfold listK
   by_cases h : d.kind = k
   · rw [if_pos h, List.length_cons, listK_len k ds, List.filter_cons_of_pos (by simpa using h), List.length_cons]
   · rw [if_neg h, listK_len k ds, List.filter_cons_of_neg (by simpa using h)]
theorem listK_snoc (k : Int) (z : Dc) : ∀ (ds : List Dc) (i : Nat), listK k (ds ++ [z]) i = listK k ds i ++ (if z.kind = k then [i + ds.length] else [])
 | [], i => by simp [listK]
 | d :: ds, i => by
   rw [List.cons_append, listK, listK, listK_snoc k z ds (i + 1)]
   have e : i + 1 + ds.length = i + (d :: ds).length := by simp; omega
   rw [e]
   split <;> simp
end Go.Proofs.YtbckeljbpknbdaaGreatDoor
end
section
set_option linter.unusedVariables false
set_option linter.unusedSimpArgs false
namespace Go.Proofs.YtbckeljbpknbdaaGreatDoor
open Go.RowKit
theorem placed_tw {s : List UInt8} : ∀ (y : List Tok) (p : Nat), Placed s p y → p ≤ s.length → tw y + p ≤ y.length + s.length
 | [], p, _, hp => by rw [tw_nil]; simp; omega
 | t :: y, p, h, hp => by
   obtain ⟨h1, h2, _, _, _, h6⟩ := h
   have := placed_tw y _ h6 h2
   rw [tw_cons, List.length_cons]
   omega
theorem placed_all {s : List UInt8} : ∀ (y : List Tok) (p : Nat), Placed s p y → ∀ t ∈ y, t.text ≠ [] ∧ t.pl < s.length ∧ (s.drop t.pl).take t.text.length = t.text
 | [], p, _, t, ht => by cases ht
 | u :: y, p, h, t, ht => by
   obtain ⟨h1, h2, h3, h4, _, h6⟩ := h
   rcases List.mem_cons.1 ht with rfl | ht
   · refine ⟨h4, ?_, h3⟩
     have : 0 < t.text.length := by
      rcases Nat.eq_zero_or_pos t.text.length with h0 | h0
      · exact absurd (List.eq_nil_of_length_eq_zero h0) h4
      · exact h0
     omega
   · exact placed_all y _ h6 t ht
def Within (x s : List UInt8) : Prop := ∃ p, (s.drop p).take x.length = x
theorem prog_ok_names {s : List UInt8} {ds : List Dc} (h : progM s = (ds, 0, 0)) (P : List UInt8 → Prop) (hP : ∀ x, x ≠ [] → Within x s → P x) :
  s.length ≤ 16384 ∧ dcWs ds ≤ 4096 + s.length ∧ ∀ d ∈ ds, okD s.length P d := by
 unfold progM at h
 cases ht : toks s with
 | err p e =>
   rw [ht] at h
   have h2 : (([] : List Dc), p, e) = (ds, 0, 0) := h
   have he : e = 0 := by injection h2 with _ h3; injection h3
   exact absurd he (toks_err_ne ht)
 | ok us =>
   rw [ht] at h
   have hl : s.length ≤ 16384 := by
    unfold toks at ht
    split at ht
    · cases ht
    · omega
   have hsc : sc s 0 0 0 = .ok us := by
    unfold toks at ht
    rw [if_neg (by omega)] at ht
    exact ht
   have hpl := sc_placed s s 0 0 us rfl hsc
   have hcount := toks_count ht
   have htw := placed_tw us 0 hpl (Nat.zero_le _)
   have hall := placed_all us 0 hpl
   have hgt : Gt s.length P us := fun t htm => ⟨hP _ (hall t htm).1 ⟨t.pl, (hall t htm).2.2⟩, (hall t htm).2.1⟩
   have h2 : (match programM s.length us with | .bad p c => (([] : List Dc), p, c) | .ok ds _ => (ds, 0, 0)) = (ds, 0, 0) := h
   cases hr : programM s.length us with
   | bad p c =>
     rw [hr] at h2
     have h3 : (([] : List Dc), p, c) = (ds, 0, 0) := h2
     refine ⟨hl, ?_, ?_⟩
     · have : ds = [] := by injection h3 with h4; exact h4.symm
       rw [this]; exact Nat.zero_le _
     · have : ds = [] := by injection h3 with h4; exact h4.symm
       rw [this]; intro d hd; cases hd
   | ok ds2 r =>
     rw [hr] at h2
     have h3 : (ds2, 0, 0) = (ds, 0, 0) := h2
     have e : ds2 = ds := by injection h3
     subst e
     obtain ⟨_, v, hv, hw, hok⟩ := co_program (L := s.length) us hgt ds2 r hr
     exact ⟨hl, by omega, hok⟩
end Go.Proofs.YtbckeljbpknbdaaGreatDoor
end
section
set_option linter.unusedVariables false
namespace Go.Proofs.YtbckeljbpknbdaaGreatDoor
open Go.RowKit
def OneBlk (w : World) (g : Nat) (u : Value) : Prop := w.heap[g]? = some (.cells #[u] 25 (0, 0))
section
variable {w w' : World} {g B : Nat} {u : Value}
theorem OneBlk.new (w : World) (u : Value) : OneBlk (w.alloc (.cells #[u] 25)) w.heap.size u := heap_alloc_new w _
theorem OneBlk.below (h : OneBlk w g u) (hb : Below B w w') (hg : g < B) : OneBlk w' g u := (hb.block g hg).trans h
theorem OneBlk.c0 (h : OneBlk w g u) : w.cell? ⟨g, 0, none⟩ = some u := by rw [cell_of_row w g 0 _ _ (0, 0) h]; rfl
theorem OneBlk.fr (h : OneBlk w g u) (j : Nat) : w.frozen? ⟨g, j, none⟩ = false := frozen_of_row w g j _ _ h
theorem OneBlk.set (h : OneBlk w g u) (x : Value) : OneBlk (w.setCell ⟨g, 0, none⟩ x) g x := by
 unfold OneBlk at h ⊢
 simp [World.setCell, Array.getElem?_modify, h]
end
end Go.Proofs.YtbckeljbpknbdaaGreatDoor
end
section
set_option linter.unusedVariables false
set_option linter.unusedSimpArgs false
namespace Go.Proofs.YtbckeljbpknbdaaGreatDoor
open Go.RowKit
def dgCells (g : Dg) : List Value := [.int .i64 g.pl, .int .i64 g.code, .string (strOf g.name)]
def dgV (l : List Dg) : List Value := l.flatMap dgCells
theorem dgV_app (a b : List Dg) : dgV (a ++ b) = dgV a ++ dgV b := by simp [dgV]
theorem dgV_one (g : Dg) : dgV [g] = dgCells g := by simp [dgV]
theorem dgCells_one (g : Dg) : ∀ u ∈ dgCells g, u.oneCell' = true := fun u hu => by
 unfold dgCells at hu
 simp at hu
 rcases hu with rfl | rfl | rfl <;> rfl
def OwnDg (w : World) (base : Nat) (v : Value) (l : List Dg) : Prop := w.ownsRow base 39 3 v l.length (dgV l)
theorem info_dg : (Tryz.prog.info? 39).map (fun i => (i.zero, i.size, i.bytes)) = some (some (.agg #[.int .i64 0, .int .i64 0, .string ⟨#[]⟩]), 3, 32) := by kernel_rfl
theorem OwnDg.keep {w w' : World} {base : Nat} {v : Value} {l : List Dg} (h : OwnDg w base v l) (hb : ∀ g, v.ownBlock = some g → w'.heap[g]? = w.heap[g]?) : OwnDg w' base v l := by
 unfold OwnDg at h ⊢
 rcases h with ⟨h1, h2 | ⟨g, cap, cur, hv, hbg, hg, h3⟩⟩
 · exact ⟨h1, .inl h2⟩
 · exact ⟨h1, .inr ⟨g, cap, cur, hv, hbg, (hb g (by rw [hv]; rfl)).trans hg, h3⟩⟩
theorem OwnDg.blk {w : World} {base : Nat} {v : Value} {l : List Dg} (h : OwnDg w base v l) {g : Nat} (hg : v.ownBlock = some g) : base ≤ g ∧ g < w.heap.size ∧ ∃ cur, w.heap[g]? = some (.cells cur 39 (0, 0)) := by
 rcases h with ⟨h1, ⟨rfl, h2⟩ | ⟨g', cap, cur, rfl, hbg, hg', h3⟩⟩
 · cases hg
 · have e : g' = g := by simpa [Value.ownBlock] using hg
   subst e
   exact ⟨hbg, lt_of_heap hg', cur, hg'⟩
theorem OwnDg.nil (w : World) (base : Nat) : OwnDg w base (.slice none 0 0) [] := ⟨rfl, .inl ⟨rfl, rfl⟩⟩
structure Nm where
 dec : Value
 mp : Value
 t1 : Value
 t2 : Value
 t3 : Value
 t4 : Value
 t5 : Value
 t6 : Value
 t7 : Value
 t8 : Value
 lv : Value
def nmC (x : Nm) (dv : Value) (left : Int) : Array Value := #[x.dec, x.mp, x.t1, x.t2, x.t3, x.t4, x.t5, x.t6, x.t7, x.t8, x.lv, dv, .int .i64 left]
structure NmAt (w : World) (b base : Nat) (x : Nm) (l : List Dg) (left : Int) (dv : Value) : Prop where
 row : w.heap[b]? = some (.cells (nmC x dv left) 61 (0, 0))
 own : OwnDg w base dv l
 bb : base ≤ b
def NmMine (b : Nat) (dv : Value) (k : Nat) : Prop := k = b ∨ dv.ownBlock = some k
section
variable {w w' w1 w2 : World} {b base : Nat} {x : Nm} {l l1 l2 : List Dg} {left left1 left2 : Int} {dv dv1 dv2 : Value}
theorem NmAt.ne (h : NmAt w b base x l left dv) : dv.ownBlock ≠ some b := fun e => by
 obtain ⟨_, _, cur, hg⟩ := h.own.blk e
 rw [h.row] at hg
 simp at hg
theorem NmAt.lt (h : NmAt w b base x l left dv) : b < w.heap.size := lt_of_heap h.row
theorem NmAt.c0 (h : NmAt w b base x l left dv) : w.cell? ⟨b, 0, none⟩ = some x.dec := by rw [cell_of_row w b 0 _ _ (0, 0) h.row]; rfl
theorem NmAt.c1 (h : NmAt w b base x l left dv) : w.cell? ⟨b, 1, none⟩ = some x.mp := by rw [cell_of_row w b 1 _ _ (0, 0) h.row]; rfl
theorem NmAt.c11 (h : NmAt w b base x l left dv) : w.cell? ⟨b, 11, none⟩ = some dv := by rw [cell_of_row w b 11 _ _ (0, 0) h.row]; rfl
theorem NmAt.c12 (h : NmAt w b base x l left dv) : w.cell? ⟨b, 12, none⟩ = some (.int .i64 left) := by rw [cell_of_row w b 12 _ _ (0, 0) h.row]; rfl
theorem NmAt.fr (h : NmAt w b base x l left dv) (j : Nat) : w.frozen? ⟨b, j, none⟩ = false := frozen_of_row w b j _ _ h.row
theorem NmAt.mine (h : NmAt w b base x l left dv) {k : Nat} (hk : NmMine b dv k) : base ≤ k ∧ k < w.heap.size := by
 rcases hk with rfl | hk
 · exact ⟨h.bb, h.lt⟩
 · obtain ⟨h1, h2, _⟩ := h.own.blk hk
   exact ⟨h1, h2⟩
theorem NmAt.keep (h : NmAt w b base x l left dv) (hk : ∀ k, NmMine b dv k → w'.heap[k]? = w.heap[k]?) : NmAt w' b base x l left dv :=
 ⟨(hk b (.inl rfl)).trans h.row, h.own.keep fun g hg => hk g (.inr hg), h.bb⟩
theorem NmAt.below (h : NmAt w b base x l left dv) (hb : Below w.heap.size w w') : NmAt w' b base x l left dv := h.keep fun k hk => hb.block k (h.mine hk).2
theorem NmAt.alloc (h : NmAt w b base x l left dv) (o : Obj) : NmAt (w.alloc o) b base x l left dv := h.below ((Below.refl _ _).alloc (Nat.le_refl _) o)
def NmWent (w : World) (b base : Nat) (x : Nm) (dv : Value) (w' : World) (dv' : Value) (l' : List Dg) (left' : Int) : Prop :=
 NmAt w' b base x l' left' dv' ∧ (∀ k, dv'.ownBlock = some k → dv.ownBlock = some k ∨ w.heap.size ≤ k) ∧ Chg (NmMine b dv) w w'
theorem NmWent.refl (h : NmAt w b base x l left dv) : NmWent w b base x dv w dv l left := ⟨h, fun k hk => .inl hk, Chg.refl _ _⟩
theorem NmWent.trans (h : NmWent w b base x dv w1 dv1 l1 left1) (k : NmWent w1 b base x dv1 w2 dv2 l2 left2) : NmWent w b base x dv w2 dv2 l2 left2 := by
 refine ⟨k.1, fun g hg => ?_, h.2.2.trans k.2.2 fun y hy hm => ?_⟩
 · rcases k.2.1 g hg with h1 | h1
   · exact h.2.1 g h1
   · have := h.2.2.size; exact .inr (by omega)
 · rcases hm with rfl | hm
   · exact .inl rfl
   · rcases h.2.1 y hm with h1 | h1
     · exact .inr h1
     · omega
theorem NmWent.below (h : NmWent w b base x dv w1 dv1 l1 left1) (hb : Below w1.heap.size w1 w2) : NmWent w b base x dv w2 dv1 l1 left1 := h.trans ⟨h.1.below hb, fun k hk => .inl hk, Chg.of_below hb⟩
end
theorem nmC_left (x : Nm) (dv : Value) (a c : Int) : (nmC x dv a).setIfInBounds 12 (.int .i64 c) = nmC x dv c := rfl
theorem nmC_dv (x : Nm) (dv v : Value) (a : Int) : (nmC x dv a).setIfInBounds 11 v = nmC x v a := rfl
theorem NmAt.setLeft {w : World} {b base : Nat} {x : Nm} {l : List Dg} {left : Int} {dv : Value} (h : NmAt w b base x l left dv) (c : Int) : NmWent w b base x dv (w.setCell ⟨b, 12, none⟩ (.int .i64 c)) dv l c := by
 refine ⟨⟨?_, h.own.keep fun g hg => Below.heap_setCell _ _ _ _ (fun e => h.ne (by have e2 : g = b := e; rw [← e2]; exact hg)), h.bb⟩, fun k hk => .inl hk, (Chg.refl _ _).setCell _ _ fun _ => .inl rfl⟩
 rw [heap_setCell_same _ _ _ _ _ _ h.row, nmC_left]
theorem NmAt.setDv {w w1 w2 : World} {b base : Nat} {x : Nm} {l l' : List Dg} {left : Int} {dv v : Value} (h : NmAt w b base x l left dv) (hb : Below w.heap.size w w1) (hown : OwnDg w2 base v l') (hgr : w1.grownBy w2 dv.ownBlock) (hat : ∀ k, v.ownBlock = some k → dv.ownBlock = some k ∨ w1.heap.size ≤ k) : NmWent w b base x dv (w2.setCell ⟨b, 11, none⟩ v) v l' left := by
 have hne : v.ownBlock ≠ some b := fun e => by
  rcases hat b e with h1 | h1
  · exact h.ne h1
  · have := h.lt; have := hb.size; omega
 have hrow : w2.heap[b]? = some (.cells (nmC x dv left) 61 (0, 0)) := (hgr.block b (by have := h.lt; have := hb.size; omega) (fun e => h.ne e.symm)).trans ((hb.block b h.lt).trans h.row)
 refine ⟨⟨?_, hown.keep fun g hg => Below.heap_setCell _ _ _ _ (fun e => hne (by have e2 : g = b := e; rw [← e2]; exact hg)), h.bb⟩, fun k hk => ?_, ?_⟩
 · rw [heap_setCell_same _ _ _ _ _ _ hrow, nmC_dv]
 · rcases hat k hk with h1 | h1
   · exact .inl h1
   · have := hb.size; exact .inr (by omega)
 · exact (((Chg.of_below hb : Chg (NmMine b dv) w w1)).grown hgr fun k _ hk => .inr hk).setCell _ _ fun _ => .inl rfl
set_option maxHeartbeats 1000000 in
theorem more_any {w : World} {b base : Nat} {x : Nm} {l : List Dg} {left : Int} {dv : Value} (h : NmAt w b base x l left dv) (s t : List UInt8) (hs : s.length ≤ 100000) (ht : t.length ≤ 100000) (h0 : -1000000 ≤ left) (h1 : left ≤ 1000000) :
  Calls Tryz.prog 22 #[.pointer (some ⟨b, 0, none⟩), .string (strOf s), .string (strOf t)] w
   fun e w' => e = .returned (.bool (decide (0 ≤ left - ((1 + s.length + t.length : Nat) : Int)))) ∧ NmWent w b base x dv w' dv l (left - ((1 + s.length + t.length : Nat) : Int)) := by
 have hs1 : (strOf s).size = s.length := by rw [Lib.size_eq, strOf_data]
 have ht1 : (strOf t).size = t.length := by rw [Lib.size_eq, strOf_data]
 obtain ⟨S, hS⟩ : ∃ S, S = strOf s := ⟨_, rfl⟩
 obtain ⟨T, hT⟩ : ∃ T, T = strOf t := ⟨_, rfl⟩
 rw [← hS] at hs1
 rw [← hT] at ht1
 rw [← hS, ← hT]
 have c12 := h.c12
 have f12 := h.fr 12
 have H := Lib.hid h
 clear hS hT h
 go_enter Tryz.func22, Tryz.ntmps22
 go_wp2
 go_ret
 have e : left - ((1 + s.length + t.length : Nat) : Int) = left - (1 + (s.length : Int) + (t.length : Int)) := by omega
 rw [e]
 exact ⟨ret_bool (by rw [Bool.eq_iff_iff]; simp), H.out.setLeft _⟩
theorem step_append_dg {ops : Array Oper} {o : Oper} {a : Act} {w : World} {K : Act → World → Prop} {Q : Exit → Act → World → Prop} {E : Prop} (hgd : o.guard = none) (s x : Operand)
  (ho : o.op = .call { callee := .builtin .append, args := #[s, x], argTypes := #[35, 35] })
  (base : Nat) (v : Value) (l : List Dg) (hs : a.eval s = v) (hown : OwnDg w base v l) (ad : Addr) (c : Nat) (g : Dg) (hx : a.eval x = .slice (some ad) 1 c)
  (hnews : ∀ j y, (dgCells g)[j]? = some y → w.cell? (ad.add j) = some y) (hb : l.length ≤ 1000000) (hbase : base ≤ w.heap.size)
  (h : ∀ g' c' w', OwnDg w' base (.slice (some ⟨g', 0, none⟩) (l.length + 1) c') (l ++ [g]) → w.grownBy w' v.ownBlock → (v.ownBlock = some g' ∨ g' = w.heap.size) → K (a.put o.dst (.slice (some ⟨g', 0, none⟩) (l.length + 1) c')) w') :
  if Region.wanted o (yielded ops a.tmps) = true then Oper.wp Tryz.prog o a w K Q else E := by
 obtain ⟨i0, hi, hz0, hz1, hz2⟩ := info_parts info_dg
 refine step_append_lies _ hgd s x 35 ho base 39 i0 _ 3 32 Tryz.underlying35 hi hz0 hz1 hz2 rfl (by decide) v l.length (dgV l) hs hown ad 1 c (dgCells g) hx rfl hnews (dgCells_one g)
  (by omega) (by unfold maxLen; omega) (by omega) hbase w.heap.size rfl fun g' cap w' hown' hgr hat hlt => h g' cap w' ?_ hgr hat
 unfold OwnDg
 rw [List.length_append, dgV_app, dgV_one]
 exact hown'
theorem new_dg (w : World) (p c : Int) (S : ByteArray) (s : List UInt8) (hS : S = strOf s) : ∀ j y, (dgCells ⟨p, c, s⟩)[j]? = some y → (w.alloc (.cells #[.int .i64 p, .int .i64 c, .string S] 39)).cell? ((⟨w.heap.size, 0, none⟩ : Addr).add j) = some y := by
 intro j y hy
 rw [add_pl, Nat.zero_add, cell_of_row _ _ j _ _ (0, 0) (heap_alloc_new w _), hS, List.getElem?_toArray]
 exact hy
set_option maxHeartbeats 2000000 in
set_option maxRecDepth 100000 in
theorem tell_any {w : World} {b base : Nat} {x : Nm} {l : List Dg} {left : Int} {dv : Value} (h : NmAt w b base x l left dv) (hl : l.length ≤ 1000000) (p c : Int) (s : List UInt8) (hs : s.length ≤ 40000) :
  Calls Tryz.prog 32 #[.pointer (some ⟨b, 0, none⟩), .int .i64 p, .int .i64 c, .string (strOf s)] w
   fun e w' => e = .returned (.tuple #[]) ∧ ∃ dv', NmWent w b base x dv w' dv' (l ++ [⟨p, c, s⟩]) left := by
 have hcl : ∀ wx, Calls Tryz.prog 48 #[.string (strOf s)] wx fun e w' => e = .returned (.string (strOf s)) ∧ Below wx.heap.size wx w' := fun wx => clone_any _ wx (by rw [Lib.size_eq, strOf_data]; exact hs)
 obtain ⟨S, hS⟩ : ∃ S, S = strOf s := ⟨_, rfl⟩
 rw [← hS] at hcl ⊢
 have hcell : ∀ V : World, Below w.heap.size w V → V.cell? ⟨b, 11, none⟩ = some dv ∧ V.frozen? ⟨b, 11, none⟩ = false := fun V hV => by
  have k := h.below hV
  exact ⟨k.c11, k.fr 11⟩
 obtain ⟨c11, f11⟩ := hcell w (Below.refl _ _)
 have HCL := Lib.hid hcl
 have HS := Lib.hid hS
 have HCE := Lib.hid hcell
 have H := Lib.hid h
 clear hcl hS hcell h
 go_enter Tryz.func32, Tryz.ntmps32
 go_wp2_with fail
 have hbd : Below w.heap.size w w.drew := (Below.refl _ _).drew
 obtain ⟨d11, e11⟩ := HCE.out w.drew hbd
 have HBD := Lib.hid hbd
 clear hbd
 go_region_law (first
  | (go_simp
     go_at_call 48
     refine (HCL.out _).mono ?_
     rintro e w1 ⟨rfl, hb1⟩
     have hb2 : Below w.heap.size w w1 := HBD.out.trans (hb1.mono HBD.out.size)
     have hb3 : Below w.heap.size w (w1.alloc (.cells #[.int .i64 p, .int .i64 c, .string S] 39)) := hb2.alloc hb2.size _
     obtain ⟨c11b, f11b⟩ := HCE.out w1 hb2
     obtain ⟨c11c, f11c⟩ := HCE.out _ hb3
     have HOW : Hid (OwnDg (w1.alloc (.cells #[.int .i64 p, .int .i64 c, .string S] 39)) base dv l) := Lib.hid (H.out.below hb3).own
     have HNW := Lib.hid (new_dg w1 p c S s HS.out)
     have HB3 := Lib.hid hb3
     have HBS : Hid (base ≤ (w1.alloc (.cells #[.int .i64 p, .int .i64 c, .string S] 39)).heap.size) := Lib.hid (by have := hb3.size; have := H.out.lt; have := H.out.bb; omega)
     clear hb1 hb2 hb3)
  | (refine step_append_dg rfl _ _ (by rfl) base dv l (by rfl) HOW.out ⟨w1.heap.size, 0, none⟩ 1 ⟨p, c, s⟩ (by rfl) HNW.out hl HBS.out ?_
     intro g3 c3 w3 hown3 hgr hat
     have hrow3 := (hgr.block b (by have := HB3.out.size; have := H.out.lt; omega) (fun e => H.out.ne e.symm)).trans ((HB3.out.block b H.out.lt).trans H.out.row)
     have z11 : w3.cell? ⟨b, 11, none⟩ = some dv := by rw [cell_of_row w3 b 11 _ _ (0, 0) hrow3]; rfl
     have y11 : w3.frozen? ⟨b, 11, none⟩ = false := frozen_of_row w3 b 11 _ _ hrow3
     have HGO := Lib.hid (H.out.setDv HB3.out hown3 hgr (fun k hk => hat.imp (fun h => by rw [h]; exact hk) (fun h => by have e2 : g3 = k := (by simpa [Value.ownBlock] using hk); omega)))
     clear hown3 hgr hat hrow3))
 all_goals
  go_end0
  exact ⟨rfl, _, HGO.out⟩
end Go.Proofs.YtbckeljbpknbdaaGreatDoor
end
section
set_option linter.unusedVariables false
set_option linter.unusedSimpArgs false
namespace Go.Proofs.YtbckeljbpknbdaaGreatDoor
open Go.RowKit
theorem has_closure (w : World) (g : Nat) (S : ByteArray) (hg : w.cell? ⟨g, 0, none⟩ = some (.string S)) (a t : ByteArray) :
  Calls Tryz.prog 89 #[.agg #[.string a, .string t], .pointer (some ⟨g, 0, none⟩)] w fun e w' => e = .returned (.bool (a.toList == S.toList)) ∧ Below w.heap.size w w' := by
 go_enter Tryz.func89, Tryz.ntmps89
 have hc : (w.alloc (.cells #[.string a, .string t] 49)).cell? ⟨g, 0, none⟩ = some (.string S) := ((Below.refl w.heap.size w).alloc (Nat.le_refl _) _).cell (lt_of_cell hg) |>.trans hg
 go_wp2
 go_ret
 exact ⟨rfl, (Below.refl _ _).alloc (Nat.le_refl _) _⟩
theorem hasB_take {l : List Pr} {s : List UInt8} {j : Nat} (hj : j < l.length) : hasB (l.take (j + 1)) s = (hasB (l.take j) s || decide (l[j].name = s)) := by
 unfold hasB
 rw [List.take_succ_eq_append_getElem hj, List.any_append]
 simp
theorem hasB_of_take {l : List Pr} {s : List UInt8} {j : Nat} (hj : j < l.length) (h : l[j].name = s) : hasB l s = true := by
 unfold hasB
 rw [List.any_eq_true]
 exact ⟨l[j], List.getElem_mem hj, by simpa using h⟩
set_option maxHeartbeats 1000000 in
theorem idxPair_any (w : World) {l : List Pr} {v : Value} (hin : PrsIn w (fun b => b < w.heap.size) l v) (g : Nat) (s : List UInt8) (hg : w.cell? ⟨g, 0, none⟩ = some (.string (strOf s))) :
  Calls Tryz.prog 117 #[v, .func (.func 89) #[] #[.pointer (some ⟨g, 0, none⟩)]] w
   fun e w' => ∃ r : Int, e = .returned (.int .i64 r) ∧ decide (0 ≤ r) = hasB l s ∧ Below w.heap.size w w' := by
 obtain ⟨A, c, rfl, hc, hM, hA⟩ := hin
 obtain ⟨n, hn⟩ : ∃ n, n = l.length := ⟨_, rfl⟩
 rw [← hn] at hc ⊢
 obtain ⟨S, hS⟩ : ∃ S, S = strOf s := ⟨_, rfl⟩
 rw [← hS] at hg
 have hlt := lt_of_cell hg
 have HCL : Hid (∀ V : World, Below w.heap.size w V → ∀ a t, Calls Tryz.prog 89 #[.agg #[.string a, .string t], .pointer (some ⟨g, 0, none⟩)] V fun e w' => e = .returned (.bool (a.toList == S.toList)) ∧ Below V.heap.size V w') := Lib.hid fun V hV a t => has_closure V g S ((hV.cell hlt).trans hg) a t
 have HA := Lib.hid hA
 have HN := Lib.hid hn
 have HS : Hid (S.toList = s) := Lib.hid (by rw [hS, Lib.toList_data]; rfl)
 clear hA hn hS hg hlt
 go_enter Tryz.func117, Tryz.ntmps117
 go_wp2
 go_loopw [8] (fun i wr => ∃ j : Nat, j ≤ n ∧ i = .int .i64 j ∧ Hid (hasB (l.take j) s = false) ∧ Hid (Below w.heap.size w wr)) (fun i _ => n - (intOf i).toNat)
 case atStart => exact ⟨0, Nat.zero_le _, rfl, Lib.hid rfl, Lib.hid (Below.refl _ _)⟩
 case round =>
  obtain ⟨wo, rfl⟩ : ∃ wo : World, wo = wr := ⟨_, rfl⟩
  obtain ⟨j, hj, rfl, HF, HB⟩ := hrel
  by_cases hlt : j < n
  · have hjl : j < l.length := by rw [← HN.out]; exact hlt
    obtain ⟨b, off, rfl, hb, _, _, c0, c1⟩ := HA.out j hjl
    have r0 := (HB.out.cell (p := ⟨b, off + j * 2, none⟩) hb).trans c0
    have r1 := (HB.out.cell (p := ⟨b, off + j * 2 + 1, none⟩) hb).trans c1
    have hnx := hasB_take (s := s) hjl
    rw [HF.out, Bool.false_or] at hnx
    have hof := hasB_of_take (s := s) hjl
    obtain ⟨NM, hNM⟩ : ∃ NM, NM = strOf l[j].name := ⟨_, rfl⟩
    obtain ⟨TY, hTY⟩ : ∃ TY, TY = strOf l[j].type := ⟨_, rfl⟩
    rw [← hNM] at r0
    rw [← hTY] at r1
    have hnl : NM.toList = l[j].name := by rw [hNM, Lib.toList_data]; rfl
    have HCC := Lib.hid (HCL.out wo HB.out NM TY)
    have hwj : IntKind.i64.wrap ((j : Int) + 1) = (j : Int) + 1 := IntWalk.i64_in _ ⟨by omega, by omega⟩
    by_cases he : l[j].name = s
    · have HT : Hid (hasB l s = true) := Lib.hid (hof he)
      have hq : (NM.toList == S.toList) = true := by rw [hnl, HS.out, he]; simp
      rw [hq] at HCC
      clear hnx hof hnl hNM hTY c0 c1 he hq HF hb
      go_wp2_with (first
       | ((with_reducible refine HCC.out.mono ?_); rintro e w1 ⟨rfl, hb1⟩; have HB1 := Lib.hid (HB.out.trans (hb1.mono HB.out.size)); clear hb1))
      go_ret
      exact ⟨_, rfl, by rw [HT.out]; simp, HB1.out⟩
    · have HF2 : Hid (hasB (l.take (j + 1)) s = false) := Lib.hid (by rw [hnx]; simpa using he)
      have hq : (NM.toList == S.toList) = false := by rw [hnl, HS.out]; simpa using he
      rw [hq] at HCC
      clear hnx hof hnl hNM hTY c0 c1 he hq HF hb
      go_wp2_with (first
       | ((with_reducible refine HCC.out.mono ?_); rintro e w1 ⟨rfl, hb1⟩; have HB1 := Lib.hid (HB.out.trans (hb1.mono HB.out.size)); clear hb1))
      go_roundw
      case rel => exact ⟨j + 1, by omega, by go_num, HF2, HB1⟩
      case measure => first | (simp [intOf]; done) | (simp [intOf]; omega)
  · have HT : Hid (hasB l s = false) := Lib.hid (by have := HF.out; rwa [List.take_of_length_le (by rw [← HN.out]; omega)] at this)
    clear HF
    go_wp2
    go_ret
    exact ⟨_, rfl, by rw [HT.out]; rfl, HB.out⟩
theorem containsPair_any (w : World) {l : List Pr} {v : Value} (hin : PrsIn w (fun b => b < w.heap.size) l v) (g : Nat) (s : List UInt8) (hg : w.cell? ⟨g, 0, none⟩ = some (.string (strOf s))) :
  Calls Tryz.prog 88 #[v, .func (.func 89) #[] #[.pointer (some ⟨g, 0, none⟩)]] w
   fun e w' => e = .returned (.bool (hasB l s)) ∧ Below w.heap.size w w' := by
 have HI := Lib.hid (idxPair_any w hin g s hg)
 obtain ⟨A, c, rfl, -⟩ := hin
 obtain ⟨hb, hhb⟩ : ∃ hb, hb = hasB l s := ⟨_, rfl⟩
 rw [← hhb] at HI ⊢
 clear hg hhb
 go_enter Tryz.func88, Tryz.ntmps88
 go_wp2_with (first
  | ((with_reducible refine HI.out.mono ?_); rintro e w1 ⟨r, rfl, hr, hb1⟩; have HR := Lib.hid hr; have HB1 := Lib.hid hb1; clear hr hb1))
 go_ret
 exact ⟨ret_bool HR.out, HB1.out⟩
theorem has_any (w : World) {l : List Pr} {v : Value} (hin : PrsIn w (fun b => b < w.heap.size) l v) (s : List UInt8) :
  Calls Tryz.prog 61 #[v, .string (strOf s)] w fun e w' => e = .returned (.bool (hasB l s)) ∧ Below w.heap.size w w' := by
 obtain ⟨S, hS⟩ : ∃ S, S = strOf s := ⟨_, rfl⟩
 have hbx : Below w.heap.size w (w.alloc (.cells #[.string (strOf s)] 9)) := (Below.refl _ _).alloc (Nat.le_refl _) _
 have h1 := containsPair_any (w.alloc (.cells #[.string (strOf s)] 9)) (hin.keep (fun b hb => hbx.block b hb) (fun b hb => Nat.lt_of_lt_of_le hb hbx.size)) w.heap.size s (by rw [cell_of_row _ _ 0 _ _ (0, 0) (heap_alloc_new w _)]; rfl)
 rw [← hS] at h1 hbx ⊢
 have HI := Lib.hid h1
 have HBX := Lib.hid hbx
 obtain ⟨A, c, rfl, -⟩ := hin
 have hmf : ∀ (fn : Fn) (first cap : Array Value) (w : World), (Instr.makeFunc fn first cap).run Tryz.prog w = .ok (.func fn first cap) w := fun _ _ _ _ => rfl
 clear h1 hbx hS
 go_enter Tryz.func61, Tryz.ntmps61
 go_wp2_with (first
  | ((with_reducible refine HI.out.mono ?_); rintro e w1 ⟨rfl, hb1⟩; have HB1 := Lib.hid (HBX.out.trans (hb1.mono HBX.out.size)); clear hb1))
 go_ret
 exact ⟨rfl, HB1.out⟩
end Go.Proofs.YtbckeljbpknbdaaGreatDoor
end
section
set_option linter.unusedVariables false
set_option linter.unusedSimpArgs false
namespace Go.Proofs.YtbckeljbpknbdaaGreatDoor
open Go.RowKit
def IntsAt (w : World) (v : Value) (ks : List Int) : Prop := ∃ A c, v = .slice A ks.length c ∧ ks.length ≤ 10 ∧ ∀ (k : Nat) (hk : k < ks.length), ∃ g off, A = some ⟨g, off, none⟩ ∧ g < w.heap.size ∧ w.cell? ⟨g, off + k, none⟩ = some (.int .i64 ks[k])
theorem IntsAt.below {w w' : World} {v : Value} {ks : List Int} (h : IntsAt w v ks) (hb : Below w.heap.size w w') : IntsAt w' v ks := by
 obtain ⟨A, c, rfl, hl, hc⟩ := h
 refine ⟨A, c, rfl, hl, fun k hk => ?_⟩
 obtain ⟨g, off, h1, h2, h3⟩ := hc k hk
 exact ⟨g, off, h1, Nat.lt_of_lt_of_le h2 hb.size, (hb.cell (p := ⟨g, off + k, none⟩) h2).trans h3⟩
theorem IntsAt.nil (w : World) : IntsAt w (.slice none 0 0) [] := ⟨none, 0, rfl, by simp, fun k hk => by simp at hk⟩
theorem IntsAt.one (w : World) (a : Int) : IntsAt (w.alloc (.cells #[.int .i64 a] 3)) (.slice (some ⟨w.heap.size, 0, none⟩) 1 1) [a] :=
 ⟨_, _, rfl, by simp, fun k hk => ⟨w.heap.size, 0, rfl, by simp, by
  have e : k = 0 := by simpa using hk
  subst e
  rw [cell_of_row _ _ _ _ _ (0, 0) (heap_alloc_new w _)]; rfl⟩⟩
theorem IntsAt.two (w : World) (a b : Int) : IntsAt (w.alloc (.cells #[.int .i64 a, .int .i64 b] 3)) (.slice (some ⟨w.heap.size, 0, none⟩) 2 2) [a, b] :=
 ⟨_, _, rfl, by simp, fun k hk => ⟨w.heap.size, 0, rfl, by simp, by
  have e : k = 0 ∨ k = 1 := by simp at hk; omega
  rw [cell_of_row _ _ _ _ _ (0, 0) (heap_alloc_new w _)]
  rcases e with rfl | rfl <;> rfl⟩⟩
set_option maxHeartbeats 1000000 in
theorem indexInt_any (w : World) {ks : List Int} {v : Value} (h : IntsAt w v ks) (x : Int) :
  Calls Tryz.prog 116 #[v, .int .i64 x] w fun e w' => ∃ r : Int, e = .returned (.int .i64 r) ∧ decide (0 ≤ r) = decide (x ∈ ks) ∧ w' = w := by
 obtain ⟨A, c, rfl, hl, hc⟩ := h
 obtain ⟨n, hn⟩ : ∃ n, n = ks.length := ⟨_, rfl⟩
 rw [← hn] at hl ⊢
 have HC := Lib.hid hc
 have HN := Lib.hid hn
 clear hc hn
 go_enter Tryz.func116, Tryz.ntmps116
 go_wp2
 go_loop [8] (fun i => ∃ j : Nat, j ≤ n ∧ i = .int .i64 j ∧ Hid (x ∉ ks.take j)) (fun i => n - (intOf i).toNat)
 case atStart => exact ⟨0, Nat.zero_le _, rfl, Lib.hid (by simp)⟩
 case round =>
  obtain ⟨j, hj, rfl, HF⟩ := hrel
  by_cases hlt : j < n
  · have hjl : j < ks.length := by rw [← HN.out]; exact hlt
    obtain ⟨g, off, rfl, hg, c0⟩ := HC.out j hjl
    have htk : ks.take (j + 1) = ks.take j ++ [ks[j]] := List.take_succ_eq_append_getElem hjl
    have hmem : ks[j] ∈ ks := List.getElem_mem hjl
    obtain ⟨y, hy⟩ : ∃ y, y = ks[j] := ⟨_, rfl⟩
    rw [← hy] at c0 htk hmem
    by_cases he : x = y
    · have HT : Hid (x ∈ ks) := Lib.hid (he ▸ hmem)
      have hq : (x == y) = true := by simp; exact he
      clear htk hmem hy hg he
      go_wp2
      go_ret
      exact ⟨_, rfl, by first | exact ⟨fun _ => HT.out, fun _ => by omega⟩ | (rw [decide_eq_true HT.out]; simp), rfl⟩
    · have HF2 : Hid (x ∉ ks.take (j + 1)) := Lib.hid (by rw [htk, List.mem_append]; rintro (h | h); exact HF.out h; exact he (by simpa using h))
      have hq : (x == y) = false := by simp; exact he
      clear htk hmem hy hg he HF
      go_wp2
      go_round
      case rel => exact ⟨j + 1, by omega, by go_num, HF2⟩
      case measure => first | (simp [intOf]; done) | (simp [intOf]; omega)
  · have HT : Hid (x ∉ ks) := Lib.hid (by have := HF.out; rwa [List.take_of_length_le (by rw [← HN.out]; omega)] at this)
    clear HF
    go_wp2
    go_ret
    exact ⟨_, rfl, by first | exact ⟨fun h => absurd h (by decide), fun h => absurd h HT.out⟩ | (rw [decide_eq_false HT.out]; rfl), rfl⟩
theorem containsInt_any (w : World) {ks : List Int} {v : Value} (h : IntsAt w v ks) (x : Int) :
  Calls Tryz.prog 87 #[v, .int .i64 x] w fun e w' => e = .returned (.bool (decide (x ∈ ks))) ∧ w' = w := by
 have HI := Lib.hid (indexInt_any w h x)
 obtain ⟨A, c, rfl, -⟩ := h
 obtain ⟨hb, hhb⟩ : ∃ hb, hb = decide (x ∈ ks) := ⟨_, rfl⟩
 rw [← hhb] at HI ⊢
 clear hhb
 go_enter Tryz.func87, Tryz.ntmps87
 go_wp2_with (first
  | ((with_reducible refine HI.out.mono ?_); rintro e w1 ⟨r, rfl, hr, rfl⟩; have HR := Lib.hid hr; clear hr))
 go_ret
 exact ⟨ret_bool HR.out, rfl⟩
def FirstAt (w : World) (M : Nat) (ds : List Dc) : Prop := M < w.heap.size ∧ ∀ (V : World), V.heap[M]? = w.heap[M]? → ∀ s : List UInt8, s.length ≤ 40000 →
 (Instr.lookup 58 (.map (some M)) (.string (strOf s)) true).run Tryz.prog V = .ok (.tuple #[.int .i64 ((firstIx ds s).getD 0 : Nat), .bool (firstIx ds s).isSome]) V ∧
 (Instr.lookup 58 (.map (some M)) (.string (strOf s)) false).run Tryz.prog V = .ok (.int .i64 ((firstIx ds s).getD 0 : Nat)) V
structure Env (w : World) (base : Nat) (x : Nm) (ds : List Dc) : Prop where
 kinds : ∃ A c, x.dec = .slice A ds.length c ∧ ∀ (i : Nat) (hi : i < ds.length), ∃ b off, A = some ⟨b, off, none⟩ ∧ b < base ∧ w.cell? ⟨b, off + i * 7, none⟩ = some (.int .i64 ds[i].kind)
 first : ∃ M, x.mp = .map (some M) ∧ M < base ∧ FirstAt w M ds
theorem Env.keep {w w' : World} {base : Nat} {x : Nm} {ds : List Dc} (h : Env w base x ds) (hb : Below base w w') : Env w' base x ds := by
 obtain ⟨⟨A, c, h1, h2⟩, M, h3, h4, h5⟩ := h
 refine ⟨⟨A, c, h1, fun i hi => ?_⟩, M, h3, h4, Nat.lt_of_lt_of_le h5.1 hb.size, fun V hV s hs => h5.2 V (hV.trans (hb.block M h4)) s hs⟩
 obtain ⟨b, off, k1, k2, k3⟩ := h2 i hi
 exact ⟨b, off, k1, k2, (hb.cell (p := ⟨b, off + i * 7, none⟩) k2).trans k3⟩
theorem NmWent.of_drewN {w w' : World} {n b base : Nat} {x : Nm} {l' : List Dg} {left' : Int} {dv dv' : Value} (h : NmWent (w.drewN n) b base x dv w' dv' l' left') : NmWent w b base x dv w' dv' l' left' :=
 ⟨h.1, h.2.1, ⟨h.2.2.os, h.2.2.tape, h.2.2.output, h.2.2.size, h.2.2.block⟩⟩
theorem NmWent.below_base {w w' : World} {b base : Nat} {x : Nm} {l l' : List Dg} {left left' : Int} {dv dv' : Value} (h : NmAt w b base x l left dv) (k : NmWent w b base x dv w' dv' l' left') : Below base w w' :=
 k.2.2.below (by have := h.lt; have := h.bb; omega) fun y hy => (h.mine hy).1
theorem declared_any {w : World} {b base : Nat} {x : Nm} {l : List Dg} {left : Int} {dv : Value} {ds : List Dc} (h : NmAt w b base x l left dv) (he : Env w base x ds) (s : List UInt8) (hs : s.length ≤ 40000) :
  Calls Tryz.prog 62 #[.pointer (some ⟨b, 0, none⟩), .string (strOf s)] w fun e w' => e = .returned (.bool (firstIx ds s).isSome) ∧ w' = w := by
 obtain ⟨M, hM, _, hF⟩ := he.first
 have c1 := h.c1
 rw [hM] at c1
 have hrun := (hF.2 w rfl s hs).1
 obtain ⟨S, hS⟩ : ∃ S, S = strOf s := ⟨_, rfl⟩
 rw [← hS] at hrun ⊢
 obtain ⟨ix, hix⟩ : ∃ ix, ix = (firstIx ds s).getD 0 := ⟨_, rfl⟩
 obtain ⟨is, his⟩ : ∃ is, is = (firstIx ds s).isSome := ⟨_, rfl⟩
 rw [← hix, ← his] at hrun
 rw [← his]
 clear hF hM h he hix his hS
 go_enter Tryz.func62, Tryz.ntmps62
 go_wp2
 go_ret
 exact ⟨rfl, rfl⟩
set_option maxHeartbeats 2000000 in
theorem use_any {w : World} {b base : Nat} {x : Nm} {l : List Dg} {left : Int} {dv : Value} {ds : List Dc} (h : NmAt w b base x l left dv) (he : Env w base x ds) (hl : l.length ≤ 1000000) (p : Int) (s : List UInt8) (hs : s.length ≤ 40000) (ks : List Int) (kv : Value) (hk : IntsAt w kv ks) :
  Calls Tryz.prog 60 #[.pointer (some ⟨b, 0, none⟩), .int .i64 p, .string (strOf s), kv] w
   fun e w' => e = .returned (.tuple #[]) ∧ ∃ dv', NmWent w b base x dv w' dv' (l ++ useD ds p s ks) left := by
 have HD := Lib.hid (declared_any h he s hs)
 have HT := Lib.hid fun (c : Int) => tell_any h hl p c s hs
 have HTN := Lib.hid fun (nq : Nat) (c : Int) => tell_any (h.below (⟨rfl, rfl, rfl, Nat.le_refl _, fun _ _ => rfl⟩ : Below w.heap.size w (w.drewN nq))) hl p c s hs
 obtain ⟨M, hM, _, hF⟩ := he.first
 obtain ⟨A, c, hA, hkd⟩ := he.kinds
 have c0 := h.c0
 have c1 := h.c1
 rw [hM] at c1
 rw [hA] at c0
 have hrun : ∀ nq, (Instr.lookup 58 (.map (some M)) (.string (strOf s)) false).run Tryz.prog (w.drewN nq) = .ok (.int .i64 ((firstIx ds s).getD 0 : Nat)) (w.drewN nq) := fun nq => (hF.2 (w.drewN nq) rfl s hs).2
 have HCO := Lib.hid fun (nq : Nat) (y : Int) => containsInt_any (w.drewN nq) (hk.below (⟨rfl, rfl, rfl, Nat.le_refl _, fun _ _ => rfl⟩ : Below w.heap.size w (w.drewN nq))) y
 obtain ⟨S, hS⟩ : ∃ S, S = strOf s := ⟨_, rfl⟩
 rw [← hS] at HD HT HTN hrun ⊢
 have H := Lib.hid h
 obtain ⟨KA, kc, rfl, hkl, -⟩ := hk
 obtain ⟨kn, hkn⟩ : ∃ kn, kn = ks.length := ⟨_, rfl⟩
 rw [← hkn] at HCO ⊢
 clear hF hM h he hS hkn hkl hA
 cases hx : firstIx ds s with
 | none =>
   rw [hx] at HD
   have HU : Hid (useD ds p s ks = [⟨p, 41, s⟩]) := Lib.hid (by unfold useD; rw [hx])
   clear hx hrun hkd c0 c1 HCO
   go_enter Tryz.func60, Tryz.ntmps60
   go_wp2_with (first
    | ((with_reducible refine HD.out.mono ?_); rintro e w1 ⟨rfl, rfl⟩)
    | ((with_reducible refine (HT.out _).mono ?_); rintro e w1 ⟨rfl, dv', hw⟩; have HW := Lib.hid hw; clear hw))
   go_end0
   rw [HU.out]
   exact ⟨rfl, _, HW.out⟩
 | some i =>
   obtain ⟨hi, hnm⟩ := firstIx_lt hx
   rw [hx] at HD hrun
   obtain ⟨kb, off, rfl, _, k0⟩ := hkd i hi
   have hu : useD ds p s ks = if ds[i].kind ∈ ks then [] else [⟨p, 42, s⟩] := by
    unfold useD
    rw [hx]
    show (if ((ds[i]?.map Dc.kind).getD 0) ∈ ks then _ else _) = _
    rw [List.getElem?_eq_getElem hi]
    rfl
   obtain ⟨y, hy⟩ : ∃ y, y = ds[i].kind := ⟨_, rfl⟩
   rw [← hy] at k0 hu
   obtain ⟨dn, hdn⟩ : ∃ dn, dn = ds.length := ⟨_, rfl⟩
   rw [← hdn] at c0 hi
   have hrun2 : ∀ nq, (Instr.lookup 58 (.map (some M)) (.string S) false).run Tryz.prog (w.drewN nq) = .ok (.int .i64 (i : Nat)) (w.drewN nq) := hrun
   have hii : ((i : Int)).toNat = i := rfl
   clear hx hkd hnm hy hdn hrun
   by_cases hm : y ∈ ks
   · have HU : Hid (useD ds p s ks = []) := Lib.hid (by rw [hu, if_pos hm])
     have HC2 : Hid (∀ nq, Calls Tryz.prog 87 #[.slice KA kn kc, .int .i64 y] (w.drewN nq) fun e w' => e = .returned (.bool true) ∧ w' = w.drewN nq) := Lib.hid fun nq => by
      have := HCO.out nq y
      rwa [decide_eq_true hm] at this
     clear hu hm HCO
     go_enter Tryz.func60, Tryz.ntmps60
     go_wp2_with (first
      | ((with_reducible refine HD.out.mono ?_); rintro e w1 ⟨rfl, rfl⟩))
     go_quiet ((go_at_call 87; with_reducible exact Calls.quiet_of_same (HC2.out _)))
     go_wp2
     go_end0
     rw [HU.out, List.append_nil]
     exact ⟨rfl, dv, (NmWent.refl H.out).below ⟨rfl, rfl, rfl, Nat.le_refl _, fun _ _ => rfl⟩⟩
   · have HU : Hid (useD ds p s ks = [⟨p, 42, s⟩]) := Lib.hid (by rw [hu, if_neg hm])
     have HC2 : Hid (∀ nq, Calls Tryz.prog 87 #[.slice KA kn kc, .int .i64 y] (w.drewN nq) fun e w' => e = .returned (.bool false) ∧ w' = w.drewN nq) := Lib.hid fun nq => by
      have := HCO.out nq y
      rwa [decide_eq_false hm] at this
     clear hu hm HCO
     go_enter Tryz.func60, Tryz.ntmps60
     go_wp2_with (first
      | ((with_reducible refine HD.out.mono ?_); rintro e w1 ⟨rfl, rfl⟩))
     go_quiet ((go_at_call 87; with_reducible exact Calls.quiet_of_same (HC2.out _)))
     go_wp2_with (first
      | ((with_reducible refine (HTN.out _ _).mono ?_); rintro e w1 ⟨rfl, dv', hw⟩; have HW := Lib.hid hw; clear hw))
     go_end0
     rw [HU.out]
     exact ⟨rfl, dv', HW.out.of_drewN⟩
end Go.Proofs.YtbckeljbpknbdaaGreatDoor
end
section
set_option linter.unusedVariables false
set_option linter.unusedSimpArgs false
namespace Go.Proofs.YtbckeljbpknbdaaGreatDoor
open Go.RowKit
set_option maxHeartbeats 1000000 in
theorem useType_any {w : World} {b base : Nat} {x : Nm} {l : List Dg} {left : Int} {dv : Value} {ds : List Dc} (h : NmAt w b base x l left dv) (he : Env w base x ds) (hl : l.length ≤ 1000000) (p : Int) (s : List UInt8) (hs : s.length ≤ 40000) :
  Calls Tryz.prog 34 #[.pointer (some ⟨b, 0, none⟩), .int .i64 p, .string (strOf s)] w
   fun e w' => e = .returned (.tuple #[]) ∧ ∃ dv', NmWent w b base x dv w' dv' (l ++ useTypeD ds p s) left := by
 have HC := Lib.hid (cut_star s w)
 have hal : Below w.heap.size w (w.alloc (.cells #[.int .i64 3] 3)) := (Below.refl _ _).alloc (Nat.le_refl _) _
 by_cases hh : s.head? = some 42
 · have HU := Lib.hid (use_any (h.below hal) (he.keep ((Below.refl _ _).alloc (by have := h.lt; have := h.bb; omega) _)) hl p s.tail (by rw [List.length_tail]; omega) [3] _ (IntsAt.one w 3))
   have HT : Hid (useTypeD ds p s = useD ds p s.tail [3]) := Lib.hid (by unfold useTypeD; rw [if_pos hh])
   rw [if_pos hh, decide_eq_true hh] at HC
   have HW0 := Lib.hid ((NmWent.refl h).below hal)
   obtain ⟨S, hS⟩ : ∃ S, S = strOf s := ⟨_, rfl⟩
   obtain ⟨S2, hS2⟩ : ∃ S, S = strOf s.tail := ⟨_, rfl⟩
   rw [← hS, ← hS2] at HC
   rw [← hS2] at HU
   rw [← hS]
   clear hh hal h he hS hS2
   go_enter Tryz.func34, Tryz.ntmps34
   go_wp2_with (first
    | ((with_reducible refine HC.out.mono ?_); rintro e w1 ⟨rfl, rfl⟩)
    | ((with_reducible refine HU.out.mono ?_); rintro e w2 ⟨rfl, dv', hw⟩; have HW := Lib.hid (HW0.out.trans hw); clear hw))
   go_end0
   rw [HT.out]
   exact ⟨rfl, _, HW.out⟩
 · have HT : Hid (useTypeD ds p s = []) := Lib.hid (by unfold useTypeD; rw [if_neg hh])
   rw [if_neg hh, decide_eq_false hh] at HC
   have H := Lib.hid h
   obtain ⟨S, hS⟩ : ∃ S, S = strOf s := ⟨_, rfl⟩
   rw [← hS] at HC
   rw [← hS]
   clear hh hal h he hS
   go_enter Tryz.func34, Tryz.ntmps34
   go_wp2_with (first
    | ((with_reducible refine HC.out.mono ?_); rintro e w1 ⟨rfl, rfl⟩))
   go_end0
   rw [HT.out, List.append_nil]
   exact ⟨rfl, _, NmWent.refl H.out⟩
def OwnPs (w : World) (base : Nat) (v : Value) (ps : List Pr) : Prop := w.ownsRow base 49 2 v ps.length (prsV ps) ∧ ∀ (k : Nat) (hk : k < ps.length), ps[k].name.length ≤ 140737488355328 ∧ ps[k].type.length ≤ 140737488355328
theorem OwnPs.nil (w : World) (base : Nat) : OwnPs w base (.slice none 0 0) [] := ⟨⟨rfl, .inl ⟨rfl, rfl⟩⟩, fun k hk => absurd hk (by simp)⟩
theorem OwnPs.keep {w w' : World} {base : Nat} {v : Value} {ps : List Pr} (h : OwnPs w base v ps) (hb : ∀ g, v.ownBlock = some g → w'.heap[g]? = w.heap[g]?) : OwnPs w' base v ps := by
 refine ⟨?_, h.2⟩
 rcases h.1 with ⟨h1, h2 | ⟨g, cap, cur, hv, hbg, hg, h3⟩⟩
 · exact ⟨h1, .inl h2⟩
 · exact ⟨h1, .inr ⟨g, cap, cur, hv, hbg, (hb g (by rw [hv]; rfl)).trans hg, h3⟩⟩
theorem OwnPs.blk {w : World} {base : Nat} {v : Value} {ps : List Pr} (h : OwnPs w base v ps) {g : Nat} (hg : v.ownBlock = some g) : base ≤ g ∧ g < w.heap.size ∧ ∃ cur, w.heap[g]? = some (.cells cur 49 (0, 0)) := by
 rcases h.1 with ⟨h1, ⟨rfl, h2⟩ | ⟨g', cap, cur, rfl, hbg, hg', h3⟩⟩
 · cases hg
 · have e : g' = g := by simpa [Value.ownBlock] using hg
   subst e
   exact ⟨hbg, lt_of_heap hg', cur, hg'⟩
theorem OwnPs.prs {w : World} {base : Nat} {v : Value} {ps : List Pr} (h : OwnPs w base v ps) : PrsIn w (fun b => b < w.heap.size) ps v := (prs_of_row h.2 h.1).keep (fun _ _ => rfl) fun b hb => hb.2.1
structure BdAt (w : World) (bb b base : Nat) (x : Nm) (l : List Dg) (left : Int) (dv lo : Value) (ps : List Pr) : Prop where
 nm : NmAt w b base x l left dv
 row : w.heap[bb]? = some (.cells #[.pointer (some ⟨b, 0, none⟩), lo] 91 (0, 0))
 own : OwnPs w base lo ps
 bbb : base ≤ bb
def BdMine (bb b : Nat) (dv lo : Value) (k : Nat) : Prop := NmMine b dv k ∨ k = bb ∨ lo.ownBlock = some k
section
variable {w w' w1 w2 : World} {bb b base : Nat} {x : Nm} {l l1 l2 : List Dg} {left left1 left2 : Int} {dv dv1 dv2 lo lo1 lo2 : Value} {ps ps1 ps2 : List Pr}
theorem BdAt.lt (h : BdAt w bb b base x l left dv lo ps) : bb < w.heap.size := lt_of_heap h.row
theorem BdAt.c0 (h : BdAt w bb b base x l left dv lo ps) : w.cell? ⟨bb, 0, none⟩ = some (.pointer (some ⟨b, 0, none⟩)) := by rw [cell_of_row w bb 0 _ _ (0, 0) h.row]; rfl
theorem BdAt.c1 (h : BdAt w bb b base x l left dv lo ps) : w.cell? ⟨bb, 1, none⟩ = some lo := by rw [cell_of_row w bb 1 _ _ (0, 0) h.row]; rfl
theorem BdAt.fr (h : BdAt w bb b base x l left dv lo ps) (j : Nat) : w.frozen? ⟨bb, j, none⟩ = false := frozen_of_row w bb j _ _ h.row
theorem BdAt.ne (h : BdAt w bb b base x l left dv lo ps) {k : Nat} (hk : NmMine b dv k) : k ≠ bb ∧ lo.ownBlock ≠ some k := by
 constructor
 · rintro rfl
   rcases hk with rfl | hk
   · have := h.row; rw [h.nm.row] at this; simp [nmC] at this
   · obtain ⟨_, _, cur, hg⟩ := h.nm.own.blk hk
     rw [h.row] at hg
     simp at hg
 · intro e
   obtain ⟨_, _, cur, hg⟩ := h.own.blk e
   rcases hk with rfl | hk
   · rw [h.nm.row] at hg; simp at hg
   · obtain ⟨_, _, cur2, hg2⟩ := h.nm.own.blk hk
     rw [hg2] at hg
     simp at hg
theorem BdAt.nel (h : BdAt w bb b base x l left dv lo ps) : lo.ownBlock ≠ some bb := fun e => by
 obtain ⟨_, _, cur, hg⟩ := h.own.blk e
 rw [h.row] at hg
 simp at hg
theorem BdAt.mine (h : BdAt w bb b base x l left dv lo ps) {k : Nat} (hk : BdMine bb b dv lo k) : base ≤ k ∧ k < w.heap.size := by
 rcases hk with hk | rfl | hk
 · exact h.nm.mine hk
 · exact ⟨h.bbb, h.lt⟩
 · obtain ⟨h1, h2, _⟩ := h.own.blk hk
   exact ⟨h1, h2⟩
theorem BdAt.keep (h : BdAt w bb b base x l left dv lo ps) (hk : ∀ k, BdMine bb b dv lo k → w'.heap[k]? = w.heap[k]?) : BdAt w' bb b base x l left dv lo ps :=
 ⟨h.nm.keep fun k m => hk k (.inl m), (hk bb (.inr (.inl rfl))).trans h.row, h.own.keep fun g hg => hk g (.inr (.inr hg)), h.bbb⟩
theorem BdAt.below (h : BdAt w bb b base x l left dv lo ps) (hb : Below w.heap.size w w') : BdAt w' bb b base x l left dv lo ps := h.keep fun k hk => hb.block k (h.mine hk).2
def BdWent (w : World) (bb b base : Nat) (x : Nm) (dv lo : Value) (w' : World) (dv' lo' : Value) (l' : List Dg) (left' : Int) (ps' : List Pr) : Prop :=
 BdAt w' bb b base x l' left' dv' lo' ps' ∧ (∀ k, dv'.ownBlock = some k → dv.ownBlock = some k ∨ w.heap.size ≤ k) ∧ (∀ k, lo'.ownBlock = some k → lo.ownBlock = some k ∨ w.heap.size ≤ k) ∧ Chg (BdMine bb b dv lo) w w'
theorem BdWent.refl (h : BdAt w bb b base x l left dv lo ps) : BdWent w bb b base x dv lo w dv lo l left ps := ⟨h, fun k hk => .inl hk, fun k hk => .inl hk, Chg.refl _ _⟩
theorem BdWent.trans (h : BdWent w bb b base x dv lo w1 dv1 lo1 l1 left1 ps1) (k : BdWent w1 bb b base x dv1 lo1 w2 dv2 lo2 l2 left2 ps2) : BdWent w bb b base x dv lo w2 dv2 lo2 l2 left2 ps2 := by
 have hs := h.2.2.2.size
 refine ⟨k.1, fun g hg => ?_, fun g hg => ?_, h.2.2.2.trans k.2.2.2 fun y hy hm => ?_⟩
 · rcases k.2.1 g hg with h1 | h1
   · exact h.2.1 g h1
   · exact .inr (by omega)
 · rcases k.2.2.1 g hg with h1 | h1
   · exact h.2.2.1 g h1
   · exact .inr (by omega)
 · rcases hm with (rfl | hm) | rfl | hm
   · exact .inl (.inl rfl)
   · rcases h.2.1 y hm with h1 | h1
     · exact .inl (.inr h1)
     · omega
   · exact .inr (.inl rfl)
   · rcases h.2.2.1 y hm with h1 | h1
     · exact .inr (.inr h1)
     · omega
theorem BdWent.below (h : BdWent w bb b base x dv lo w1 dv1 lo1 l1 left1 ps1) (hb : Below w1.heap.size w1 w2) : BdWent w bb b base x dv lo w2 dv1 lo1 l1 left1 ps1 :=
 h.trans ⟨h.1.below hb, fun k hk => .inl hk, fun k hk => .inl hk, Chg.of_below hb⟩
theorem BdAt.went (h : BdAt w bb b base x l left dv lo ps) (k : NmWent w b base x dv w1 dv1 l1 left1) : BdWent w bb b base x dv lo w1 dv1 lo l1 left1 ps := by
 have hk : ∀ y, y < w.heap.size → ¬ NmMine b dv y → w1.heap[y]? = w.heap[y]? := fun y hy hn => k.2.2.block y hy hn
 refine ⟨⟨k.1, (hk bb h.lt (fun m => (h.ne m).1 rfl)).trans h.row, h.own.keep fun g hg => hk g (h.own.blk hg).2.1 (fun m => (h.ne m).2 hg), h.bbb⟩, k.2.1, fun g hg => .inl hg, (Chg.refl (BdMine bb b dv lo) w).trans k.2.2 fun y _ m => .inl m⟩
theorem BdWent.below_base (h : BdAt w bb b base x l left dv lo ps) (k : BdWent w bb b base x dv lo w1 dv1 lo1 l1 left1 ps1) : Below base w w1 :=
 k.2.2.2.below (by have := h.lt; have := h.bbb; omega) fun y hy => (h.mine hy).1
end
end Go.Proofs.YtbckeljbpknbdaaGreatDoor
end
section
set_option linter.unusedVariables false
set_option linter.unusedSimpArgs false
namespace Go.Proofs.YtbckeljbpknbdaaGreatDoor
open Go.RowKit
set_option maxHeartbeats 1000000 in
theorem useLocal_any {w : World} {bb b base : Nat} {x : Nm} {l : List Dg} {left : Int} {dv lo : Value} {ps : List Pr} {ds : List Dc} (h : BdAt w bb b base x l left dv lo ps) (he : Env w base x ds) (hl : l.length ≤ 1000000) (p : Int) (s : List UInt8) (hs : s.length ≤ 40000) :
  Calls Tryz.prog 92 #[.pointer (some ⟨bb, 0, none⟩), .int .i64 p, .string (strOf s)] w
   fun e w' => e = .returned (.tuple #[]) ∧ ∃ dv', BdWent w bb b base x dv lo w' dv' lo (l ++ useLocalD ds ps p s) left ps := by
 have H := Lib.hid h
 have hcells : ∀ V : World, Below w.heap.size w V → V.cell? ⟨bb, 0, none⟩ = some (.pointer (some ⟨b, 0, none⟩)) ∧ V.cell? ⟨bb, 1, none⟩ = some lo := fun V hV => ⟨(h.below hV).c0, (h.below hV).c1⟩
 obtain ⟨c0, c1⟩ := hcells w (Below.refl _ _)
 have HCE := Lib.hid hcells
 have HH := Lib.hid (has_any w h.own.prs s)
 have HUS := Lib.hid fun (V : World) (hV : Below w.heap.size w V) => use_any (h.nm.below hV) (he.keep (hV.mono (by have := h.lt; have := h.bbb; omega))) hl p s hs [] _ (IntsAt.nil V)
 obtain ⟨A, c, hlo, -⟩ := h.own.prs
 have hst : (strOf s).toList = s := by rw [Lib.toList_data]; rfl
 obtain ⟨S, hS⟩ : ∃ S, S = strOf s := ⟨_, rfl⟩
 rw [← hS] at HH HUS hst ⊢
 have HST := Lib.hid hst
 clear hS hst h he hcells hlo
 by_cases hn : s = []
 · have hU : Hid (useLocalD ds ps p s = []) := Lib.hid (by unfold useLocalD; rw [if_neg (fun k => k.1 hn)])
   have hem : S.toList = [] := HST.out.trans hn
   clear hn HH HUS
   go_enter Tryz.func92, Tryz.ntmps92
   go_wp2
   go_end0
   rw [hU.out, List.append_nil]
   exact ⟨rfl, _, BdWent.refl H.out⟩
 · have hem : S.toList.isEmpty = false := by
    rw [HST.out]
    cases s with
    | nil => exact absurd rfl hn
    | cons a r => rfl
   cases hq : hasB ps s with
   | true =>
     have hU : Hid (useLocalD ds ps p s = []) := Lib.hid (by unfold useLocalD; rw [if_neg (fun k => by rw [hq] at k; cases k.2)])
     rw [hq] at HH
     clear hn hq HUS
     go_enter Tryz.func92, Tryz.ntmps92
     go_wp2_with (first
      | ((with_reducible refine HH.out.mono ?_); rintro e w1 ⟨rfl, hb1⟩; have HB1 := Lib.hid hb1; clear hb1))
     go_end0
     rw [hU.out, List.append_nil]
     exact ⟨rfl, _, (BdWent.refl H.out).below HB1.out⟩
   | false =>
     have hU : Hid (useLocalD ds ps p s = useD ds p s []) := Lib.hid (by unfold useLocalD; rw [if_pos ⟨hn, hq⟩])
     rw [hq] at HH
     clear hn hq
     go_enter Tryz.func92, Tryz.ntmps92
     go_wp2_with (first
      | ((with_reducible refine HH.out.mono ?_); rintro e w1 ⟨rfl, hb1⟩; obtain ⟨d0, d1⟩ := HCE.out w1 hb1; have HU1 := Lib.hid (HUS.out w1 hb1); have HB1 := Lib.hid hb1; clear hb1)
      | ((with_reducible refine HU1.out.mono ?_); rintro e w2 ⟨rfl, dv', hw⟩; have HW := Lib.hid hw; clear hw))
     go_end0
     rw [hU.out]
     exact ⟨rfl, _, ((BdWent.refl H.out).below HB1.out).trans ((H.out.below HB1.out).went HW.out)⟩
theorem prV_one (a t : List UInt8) : ∀ u ∈ [Value.string (strOf a), .string (strOf t)], u.oneCell' = true := fun u hu => by
 simp at hu
 rcases hu with rfl | rfl <;> rfl
theorem prsV_snoc (ps : List Pr) (p : Pr) : prsV (ps ++ [p]) = prsV ps ++ [.string (strOf p.name), .string (strOf p.type)] := by
 induction ps with
 | nil => rfl
 | cons q ps ih => rw [List.cons_append, prsV, prsV, ih]; rfl
theorem step_append_ps {ops : Array Oper} {o : Oper} {a : Act} {w : World} {K : Act → World → Prop} {Q : Exit → Act → World → Prop} {E : Prop} (hgd : o.guard = none) (s x : Operand)
  (ho : o.op = .call { callee := .builtin .append, args := #[s, x], argTypes := #[43, 43] })
  (base : Nat) (v : Value) (ps : List Pr) (hs : a.eval s = v) (hown : OwnPs w base v ps) (ad : Addr) (c : Nat) (nm ty : List UInt8) (hn : nm.length ≤ 40000 ∧ ty.length ≤ 40000) (hx : a.eval x = .slice (some ad) 1 c)
  (hnews : ∀ j y, ([Value.string (strOf nm), .string (strOf ty)] : List Value)[j]? = some y → w.cell? (ad.add j) = some y) (hb : ps.length ≤ 1000000) (hbase : base ≤ w.heap.size)
  (h : ∀ g' c' w', OwnPs w' base (.slice (some ⟨g', 0, none⟩) (ps.length + 1) c') (ps ++ [⟨nm, ty⟩]) → w.grownBy w' v.ownBlock → (v.ownBlock = some g' ∨ g' = w.heap.size) → K (a.put o.dst (.slice (some ⟨g', 0, none⟩) (ps.length + 1) c')) w') :
  if Region.wanted o (yielded ops a.tmps) = true then Oper.wp Tryz.prog o a w K Q else E := by
 obtain ⟨i0, hi, hz0, hz1, hz2⟩ := info_parts info_pr
 refine step_append_lies _ hgd s x 43 ho base 49 i0 _ 2 32 Tryz.underlying43 hi hz0 hz1 hz2 rfl (by decide) v ps.length (prsV ps) hs hown.1 ad 1 c [.string (strOf nm), .string (strOf ty)] hx rfl hnews (prV_one nm ty)
  (by omega) (by unfold maxLen; omega) (by omega) hbase w.heap.size rfl fun g' cap w' hown' hgr hat hlt => h g' cap w' ⟨?_, fun k hk => ?_⟩ hgr hat
 · rw [List.length_append, prsV_snoc]
   exact hown'
 · by_cases hlt : k < ps.length
   · rw [List.getElem_append_left hlt]; exact hown.2 k hlt
   · have e : k = ps.length := by simp at hk; omega
     subst e
     have e2 : (ps ++ [(⟨nm, ty⟩ : Pr)])[ps.length] = ⟨nm, ty⟩ := by simp
     rw [e2]
     show nm.length ≤ _ ∧ ty.length ≤ _
     omega
theorem new_ps (w : World) (a t : List UInt8) (A T : ByteArray) (hA : A = strOf a) (hT : T = strOf t) : ∀ j y, ([Value.string (strOf a), .string (strOf t)] : List Value)[j]? = some y → (w.alloc (.cells #[.string A, .string T] 49)).cell? ((⟨w.heap.size, 0, none⟩ : Addr).add j) = some y := by
 intro j y hy
 rw [add_pl, Nat.zero_add, cell_of_row _ _ j _ _ (0, 0) (heap_alloc_new w _), hA, hT, List.getElem?_toArray]
 exact hy
theorem BdAt.setLo {w w1 w2 : World} {bb b base : Nat} {x : Nm} {l : List Dg} {left : Int} {dv lo v : Value} {ps ps' : List Pr} (h : BdAt w bb b base x l left dv lo ps) (hb : Below w.heap.size w w1) (hown : OwnPs w2 base v ps') (hgr : w1.grownBy w2 lo.ownBlock) (hat : ∀ k, v.ownBlock = some k → lo.ownBlock = some k ∨ w1.heap.size ≤ k) : BdWent w bb b base x dv lo (w2.setCell ⟨bb, 1, none⟩ v) dv v l left ps' := by
 have hs := hb.size
 have hk : ∀ y, y < w.heap.size → lo.ownBlock ≠ some y → w2.heap[y]? = w.heap[y]? := fun y hy hn => (hgr.block y (by omega) (fun e => hn e.symm)).trans (hb.block y hy)
 have hne : v.ownBlock ≠ some bb := fun e => by
  rcases hat bb e with h1 | h1
  · exact h.nel h1
  · have := h.lt; omega
 have hrow := (hk bb h.lt h.nel).trans h.row
 refine ⟨⟨h.nm.keep fun y m => ?_, ?_, hown.keep fun g hg => Below.heap_setCell _ _ _ _ (fun e => hne (by have e2 : g = bb := e; rw [← e2]; exact hg)), h.bbb⟩, fun k hk => .inl hk, fun k hk => ?_, ?_⟩
 · exact (Below.heap_setCell _ _ _ _ (fun e => (h.ne m).1 e)).trans (hk y (h.nm.mine m).2 (h.ne m).2)
 · rw [heap_setCell_same _ _ _ _ _ _ hrow]; rfl
 · rcases hat k hk with h1 | h1
   · exact .inl h1
   · exact .inr (by omega)
 · exact (((Chg.of_below hb : Chg (BdMine bb b dv lo) w w1)).grown hgr fun k _ hk => .inr (.inr hk)).setCell _ _ fun _ => .inr (.inl rfl)
set_option maxHeartbeats 4000000 in
set_option maxRecDepth 100000 in
theorem add_any {w : World} {bb b base : Nat} {x : Nm} {l : List Dg} {left : Int} {dv lo : Value} {ps : List Pr} (h : BdAt w bb b base x l left dv lo ps) (hl : ps.length ≤ 1000000) (s t : List UInt8) (hs : s.length ≤ 40000) (ht : t.length ≤ 40000) :
  Calls Tryz.prog 63 #[.pointer (some ⟨bb, 0, none⟩), .string (strOf s), .string (strOf t)] w
   fun e w' => e = .returned (.tuple #[]) ∧ ∃ lo', BdWent w bb b base x dv lo w' dv lo' l left (addL ps s t) := by
 have HH := Lib.hid (has_any w h.own.prs s)
 have hcl : ∀ wx, Calls Tryz.prog 48 #[.string (strOf s)] wx fun e w' => e = .returned (.string (strOf s)) ∧ Below wx.heap.size wx w' := fun wx => clone_any _ wx (by rw [Lib.size_eq, strOf_data]; exact hs)
 have hcl2 : ∀ wx, Calls Tryz.prog 48 #[.string (strOf t)] wx fun e w' => e = .returned (.string (strOf t)) ∧ Below wx.heap.size wx w' := fun wx => clone_any _ wx (by rw [Lib.size_eq, strOf_data]; exact ht)
 obtain ⟨S, hS⟩ : ∃ S, S = strOf s := ⟨_, rfl⟩
 obtain ⟨T, hT⟩ : ∃ T, T = strOf t := ⟨_, rfl⟩
 rw [← hS] at hcl HH ⊢
 rw [← hT] at hcl2 ⊢
 have hcell : ∀ V : World, Below w.heap.size w V → V.cell? ⟨bb, 1, none⟩ = some lo ∧ V.frozen? ⟨bb, 1, none⟩ = false := fun V hV => ⟨(h.below hV).c1, (h.below hV).fr 1⟩
 obtain ⟨c1, f1⟩ := hcell w (Below.refl _ _)
 have HCL := Lib.hid hcl
 have HCL2 := Lib.hid hcl2
 have HS := Lib.hid hS
 have HT := Lib.hid hT
 have HCE := Lib.hid hcell
 have H := Lib.hid h
 clear hcl hcl2 hS hT hcell h
 cases hq : hasB ps s with
 | true =>
   have hU : Hid (addL ps s t = ps) := Lib.hid (by unfold addL; rw [if_pos hq])
   rw [hq] at HH
   clear hq
   go_enter Tryz.func63, Tryz.ntmps63
   go_wp2_with (first
    | ((with_reducible refine HH.out.mono ?_); rintro e w1 ⟨rfl, hb1⟩; have HB1 := Lib.hid hb1; clear hb1))
   go_end0
   rw [hU.out]
   exact ⟨rfl, _, (BdWent.refl H.out).below HB1.out⟩
 | false =>
   have hU : Hid (addL ps s t = ps ++ [⟨s, t⟩]) := Lib.hid (by unfold addL; rw [if_neg (by rw [hq]; decide)])
   rw [hq] at HH
   clear hq
   go_enter Tryz.func63, Tryz.ntmps63
   go_wp2_with (first
    | ((with_reducible refine HH.out.mono ?_); rintro e w1 ⟨rfl, hb1⟩; have HB1 := Lib.hid hb1; clear hb1))
   have hbd : Below w.heap.size w w1.drew := HB1.out.drew
   obtain ⟨d1, e1⟩ := HCE.out w1.drew hbd
   have HBD := Lib.hid hbd
   clear hbd
   go_region_law (first
    | (go_simp
       go_at_call 48
       refine (HCL.out _).mono ?_
       rintro e w2 ⟨rfl, hb2⟩
       have HB2 := Lib.hid (HBD.out.trans (hb2.mono HBD.out.size))
       obtain ⟨d2, e2⟩ := HCE.out w2 HB2.out
       clear hb2)
    | (go_simp
       go_at_call 48
       refine (HCL2.out _).mono ?_
       rintro e w3 ⟨rfl, hb3⟩
       have HB3 := Lib.hid (HB2.out.trans (hb3.mono HB2.out.size))
       have hb4 : Below w.heap.size w (w3.alloc (.cells #[.string S, .string T] 49)) := HB3.out.alloc HB3.out.size _
       obtain ⟨d3, e3⟩ := HCE.out w3 HB3.out
       obtain ⟨d4, e4⟩ := HCE.out _ hb4
       have HB4 := Lib.hid hb4
       have HOW := Lib.hid (H.out.below hb4).own
       have HNW := Lib.hid (new_ps w3 s t S T HS.out HT.out)
       have HBS : Hid (base ≤ (w3.alloc (.cells #[.string S, .string T] 49)).heap.size) := Lib.hid (by have := hb4.size; have := H.out.lt; have := H.out.bbb; omega)
       clear hb3 hb4)
    | (refine step_append_ps rfl _ _ (by rfl) base lo ps (by rfl) HOW.out ⟨w3.heap.size, 0, none⟩ 1 s t ⟨hs, ht⟩ (by rfl) HNW.out hl HBS.out ?_
       intro g5 c5 w5 hown5 hgr hat
       have hrow5 := (hgr.block bb (by have := HB4.out.size; have := H.out.lt; omega) (fun e => H.out.nel e.symm)).trans ((HB4.out.block bb H.out.lt).trans H.out.row)
       have z1 : w5.cell? ⟨bb, 1, none⟩ = some lo := by rw [cell_of_row w5 bb 1 _ _ (0, 0) hrow5]; rfl
       have y1 : w5.frozen? ⟨bb, 1, none⟩ = false := frozen_of_row w5 bb 1 _ _ hrow5
       have HGO := Lib.hid (H.out.setLo HB4.out hown5 hgr (fun k hk => hat.imp (fun h => by rw [h]; exact hk) (fun h => by have e2 : g5 = k := (by simpa [Value.ownBlock] using hk); omega)))
       clear hown5 hgr hat hrow5))
   all_goals
    go_end0
    rw [hU.out]
    exact ⟨rfl, _, HGO.out⟩
end Go.Proofs.YtbckeljbpknbdaaGreatDoor
end
