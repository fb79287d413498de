/- Ad Ak Al Fa -/
import Derived.Test.YtkmpnlbppdekaaaDoorZa2
import Derived.StillTailTactics
import Derived.IntWalk
import Derived.Deep.RegionHeld3
import Derived.Deep.RegionLaw
import Derived.Laws.EntriesVeiled
section
set_option linter.unusedVariables false
namespace Go.Proofs.YtkmpnlbppdekaaaDoor
open Go.RowKit
theorem Rd.bind_ok {α β : Type} {x : Rd α} {f : α → List Tok → Rd β} {b : β} {r : List Tok} (h : x.bind f = .ok b r) : ∃ a r1, x = .ok a r1 ∧ f a r1 = .ok b r := by
  cases x with
  | bad p c => cases h
  | ok a r1 => exact ⟨a, r1, rfl, h⟩
theorem Rd.map_ok {α β : Type} {x : Rd α} {f : α → β} {b : β} {r : List Tok} (h : x.map f = .ok b r) : ∃ a, x = .ok a r ∧ b = f a := by
  cases x with
  | bad p c => cases h
  | ok a r1 => cases h; exact ⟨a, rfl, rfl⟩
def Lt {α : Type} (x : Rd α) (n : Nat) : Prop := ∀ a r, x = .ok a r → r.length < n
theorem Lt.bind {α β : Type} {x : Rd α} {f : α → List Tok → Rd β} {n : Nat} (h : Lt x n) (hf : ∀ a r, r.length < n → Lt (f a r) (r.length + 1)) : Lt (x.bind f) n := fun b r e => by
  obtain ⟨a, r1, h1, h2⟩ := Rd.bind_ok e
  have := h a r1 h1
  have := hf a r1 this b r h2
  omega
theorem Lt.map {α β : Type} {x : Rd α} {f : α → β} {n : Nat} (h : Lt x n) : Lt (x.map f) n := fun b r e => by
  obtain ⟨a, h1, _⟩ := Rd.map_ok e
  exact h a r h1
theorem Lt.up {α : Type} {x : Rd α} {n m : Nat} (h : Lt x n) (hn : n ≤ m) : Lt x m := fun a r e => by have := h a r e; omega
theorem Lt.bad {α : Type} {p c n : Nat} : Lt (.bad p c : Rd α) n := fun _ _ e => by cases e
theorem Lt.ok {α : Type} {a : α} {r : List Tok} {n : Nat} (h : r.length < n) : Lt (.ok a r) n := fun _ _ e => by cases e; exact h
theorem Lt.ite {α : Type} {x y : Rd α} {n : Nat} {p : Prop} [Decidable p] (hx : p → Lt x n) (hy : ¬ p → Lt y n) : Lt (if p then x else y) n := by
  split
  · exact hx ‹_›
  · exact hy ‹_›
section
variable {L : Nat}
theorem takeM_lt (T : List (List UInt8)) : ∀ us, Lt (takeM L T us) us.length
  | [] => Lt.bad
  | t :: r => Lt.ite (fun _ => Lt.ok (by simp)) (fun _ => Lt.bad)
theorem nameM_lt : ∀ us, Lt (nameM L us) us.length
  | [] => Lt.bad
  | t :: r => Lt.ite (fun _ => Lt.ok (by simp)) (fun _ => Lt.bad)
theorem up1 {α : Type} {x : Rd α} {n : Nat} (h : Lt x n) : Lt x (n + 1) := h.up (by omega)
theorem typesM_lt (us : List Tok) : Lt (typesM L us) us.length :=
  (takeM_lt _ us).bind fun t r _ => Lt.ite (fun _ => up1 ((takeM_lt _ r).bind fun _ r2 _ => up1 (takeM_lt _ r2).map)) fun _ => Lt.ite (fun _ => up1 (nameM_lt r).map) fun _ => Lt.ok (by omega)
theorem placesM_lt : ∀ us, Lt (placesM L us) us.length
  | [] => fun a r e => by unfold placesM at e; rw [if_neg (by decide)] at e; cases e
  | t :: r => by unfold placesM; exact Lt.ite (fun _ => Lt.ite (fun _ => Lt.ok (by simp)) fun _ => Lt.bad) fun _ => Lt.bad
theorem roomM_ok {b : Bool} {x y : Nat} {us r : List Tok} {a : Unit} (h : roomM L b x y us = .ok a r) : r = us := by
  unfold roomM at h
  split at h
  · split at h
    · cases h; rfl
    · cases h
  · cases h
theorem commaM_lt (x : Nat) (us : List Tok) : Lt (commaM L x us) (us.length + 1) := by
  unfold commaM; exact Lt.ite (fun _ => up1 (takeM_lt _ us).map) fun _ => Lt.ok (by omega)
theorem pairM_lt (m x : Nat) (us : List Tok) : Lt (pairM L m x us) us.length := fun a r e => by
  unfold pairM at e
  obtain ⟨_, r1, h1, h2⟩ := Rd.bind_ok e
  rw [roomM_ok h1] at h2
  exact ((nameM_lt us).bind fun s r2 _ => up1 (typesM_lt r2).map) a r h2
theorem untilM_lt {α : Type} (shut : List UInt8) (least : Nat) (P : Nat → List Tok → Rd α) (hP : ∀ n us, Lt (P n us) us.length) : ∀ (m n : Nat) (us : List Tok), Lt (untilM shut least P m n us) (us.length + 1)
  | 0, n, us => Lt.bad
  | m + 1, n, us => by
    unfold untilM
    refine Lt.ite (fun _ => up1 ((hP n us).bind fun a r _ => (untilM_lt shut least P hP m (n + 1) r).map)) fun _ => ?_
    cases us with
    | nil => exact Lt.ok (by simp)
    | cons t r => exact Lt.ok (by simp; omega)
theorem fieldM_lt (n : Nat) (us : List Tok) : Lt (fieldM L n us) us.length := (pairM_lt 8 n us).bind fun _ r _ => up1 (takeM_lt _ r).map
theorem fieldsM_lt (us : List Tok) : Lt (fieldsM L us) us.length := (takeM_lt _ us).bind fun _ r _ => untilM_lt _ _ _ fieldM_lt _ _ r
theorem paramM_lt (n : Nat) (us : List Tok) : Lt (paramM L n us) us.length := fun a r e => by
  unfold paramM at e
  obtain ⟨_, r1, h1, h2⟩ := Rd.bind_ok e
  have := commaM_lt n us _ _ h1
  have := pairM_lt 4 n r1 _ _ h2
  omega
theorem paramsM_lt (us : List Tok) : Lt (paramsM L us) us.length := (takeM_lt _ us).bind fun _ r _ => untilM_lt _ _ _ paramM_lt _ _ r
theorem tail_le (us : List Tok) : us.tail.length ≤ us.length := by simp
section
variable {E : List Tok → Rd Ex} (hE : ∀ us, Lt (E us) us.length)
include hE
theorem brM_lt (us : List Tok) : Lt (brM L E us) us.length :=
  (takeM_lt _ us).bind fun _ r _ => up1 ((hE r).bind fun _ r2 _ => up1 (takeM_lt _ r2).map)
theorem firstM_lt : ∀ us, Lt (firstM L E us) us.length
  | [] => Lt.bad
  | t :: r => by
    show Lt (firstM L E (t :: r)) (r.length + 1)
    unfold firstM
    refine Lt.ite (fun _ => Lt.ok (by omega)) fun _ => Lt.ite (fun _ => Lt.ok (by omega)) fun _ => Lt.ite (fun _ => Lt.ok (by omega)) fun _ => Lt.ite (fun _ => up1 (brM_lt hE r).map) fun _ =>
      Lt.ite (fun _ => up1 (brM_lt hE r).map) fun _ => Lt.ite (fun _ => up1 (nameM_lt r).map) fun _ => Lt.ite (fun _ => up1 (nameM_lt r).map) fun _ => Lt.ite (fun _ => ?_) fun _ => Lt.ite (fun _ => Lt.ok (by omega)) fun _ => Lt.ok (by omega)
    refine Lt.ite (fun _ => ?_) fun _ => up1 ((hE r).bind fun _ r2 _ => up1 ((takeM_lt _ r2).bind fun _ r3 _ => up1 ((hE r3).bind fun _ r4 _ => up1 (takeM_lt _ r4).map)))
    exact (((hE r.tail).up (Nat.le_trans (tail_le r) (Nat.le_succ _))).bind fun _ r2 _ => up1 (takeM_lt _ r2).map)
theorem linkM_lt (o : Ex) : ∀ us, Lt (linkM L E o us) us.length
  | [] => Lt.bad
  | t :: r => by
    show Lt (linkM L E o (t :: r)) (r.length + 1)
    unfold linkM
    refine Lt.ite (fun _ => up1 (nameM_lt r).map) fun _ => up1 ((hE r).bind fun _ r2 _ => Lt.ite (fun _ => ?_) fun _ => up1 (takeM_lt _ r2).map)
    exact (((hE r2.tail).up (Nat.le_trans (tail_le r2) (Nat.le_succ _))).bind fun _ r3 _ => up1 (takeM_lt _ r3).map)
theorem chainM_lt : ∀ (n : Nat) (e : Ex) (us : List Tok), Lt (chainM L E n e us) (us.length + 1)
  | 0, e, us => by unfold chainM; exact Lt.ite (fun _ => Lt.bad) fun _ => Lt.ok (by omega)
  | n + 1, e, us => by unfold chainM; exact Lt.ite (fun _ => up1 ((linkM_lt hE e us).bind fun e2 r _ => chainM_lt n e2 r)) fun _ => Lt.ok (by omega)
end
theorem exprM_lt : ∀ (n : Nat) (us : List Tok), Lt (exprM L n us) us.length
  | 0, us => by unfold exprM; exact Lt.ite (fun _ => Lt.bad) fun _ => Lt.bad
  | n + 1, us => by unfold exprM; exact Lt.ite (fun _ => (firstM_lt (exprM_lt n) us).bind fun e r _ => chainM_lt (exprM_lt n) 8 e r) fun _ => Lt.bad
theorem argM_lt (k n : Nat) (us : List Tok) : Lt (argM L (exprM L k) n us) us.length := fun a r e => by
  unfold argM at e
  obtain ⟨_, r1, h1, h2⟩ := Rd.bind_ok e
  obtain ⟨_, r2, h3, h4⟩ := Rd.bind_ok h2
  have := commaM_lt n us _ _ h1
  rw [roomM_ok h3] at h4
  have := exprM_lt k r1 _ _ h4
  omega
theorem argsM_lt (k : Nat) (us : List Tok) : Lt (argsM L (exprM L k) us) us.length := (takeM_lt _ us).bind fun _ r _ => untilM_lt _ _ _ (argM_lt k) _ _ r
theorem blockM_lt {S : List Tok → Rd Sm} (hS : ∀ us, Lt (S us) us.length) (n : Nat) (us : List Tok) : Lt (blockM L S n us) us.length := (takeM_lt _ us).bind fun _ r _ => untilM_lt _ _ _ (fun _ => hS) _ _ r
theorem endM_lt (s : Sm) (us : List Tok) : Lt (endM L s us) us.length := (takeM_lt _ us).map
theorem tail_lt {α : Type} {x : Rd α} {us : List Tok} (h : Lt x us.tail.length) : Lt x (us.length + 1) := h.up (by simp; omega)
theorem stmtM1_lt (k : Nat) {S : List Tok → Rd Sm} (hS : ∀ us, Lt (S us) us.length) (t : Tok) (r : List Tok) : Lt (stmtM1 L (exprM L k) S t r) (r.length + 1) := by
  unfold stmtM1
  have hE := exprM_lt (L := L) k
  have hB := fun n => blockM_lt (L := L) hS n
  refine Lt.ite (fun _ => up1 ((hE r).bind fun c r2 _ => up1 ((hB 0 r2).bind fun b r3 _ => Lt.ite (fun _ => tail_lt (hB 1 r3.tail).map) fun _ => Lt.ok (by omega)))) fun _ => ?_
  refine Lt.ite (fun _ => up1 ((hE r).bind fun c r2 _ => up1 (hB 0 r2).map)) fun _ => ?_
  refine Lt.ite (fun _ => up1 ((nameM_lt r).bind fun n r2 _ => up1 ((typesM_lt r2).bind fun y r3 _ => up1 ((takeM_lt _ r3).bind fun _ r4 _ => up1 ((hE r4).bind fun v r5 _ => up1 (endM_lt _ r5)))))) fun _ => ?_
  refine Lt.ite (fun _ => up1 ((hE r).bind fun p r2 _ => Lt.ite (fun _ => up1 ((takeM_lt _ r2).bind fun _ r3 _ => up1 ((hE r3).bind fun v r4 _ => up1 (endM_lt _ r4)))) fun _ => Lt.bad)) fun _ => ?_
  refine Lt.ite (fun _ => up1 ((nameM_lt r).bind fun n r2 _ => up1 (endM_lt _ r2))) fun _ => ?_
  refine Lt.ite (fun _ => up1 ((nameM_lt r).bind fun n r2 _ => up1 (endM_lt _ r2))) fun _ => ?_
  refine Lt.ite (fun _ => up1 ((nameM_lt r).bind fun n r2 _ => up1 ((hE r2).bind fun v r3 _ => up1 (endM_lt _ r3)))) fun _ => ?_
  refine Lt.ite (fun _ => up1 ((nameM_lt r).bind fun n r2 _ => up1 ((nameM_lt r2).bind fun y r3 _ => up1 (endM_lt _ r3)))) fun _ => ?_
  refine Lt.ite (fun _ => up1 ((nameM_lt r).bind fun n r2 _ => up1 ((hE r2).bind fun v r3 _ => up1 (endM_lt _ r3)))) fun _ => ?_
  refine Lt.ite (fun _ => up1 ((nameM_lt r).bind fun n r2 _ => Lt.ite (fun _ => ?_) fun _ => up1 ((argsM_lt k r2).bind fun xs r3 _ => up1 (endM_lt _ r3)))) fun _ => ?_
  · exact tail_lt ((nameM_lt r2.tail).bind fun f r3 _ => up1 ((argsM_lt k r3).bind fun xs r4 _ => up1 (endM_lt _ r4)))
  · exact Lt.ite (fun _ => up1 (endM_lt _ r)) fun _ => up1 ((hE r).bind fun v r2 _ => up1 (endM_lt _ r2))
theorem stmtM_lt : ∀ (n : Nat) (us : List Tok), Lt (stmtM L n us) us.length
  | 0, us => by unfold stmtM; exact Lt.bad
  | n + 1, us => by unfold stmtM; exact (takeM_lt _ us).bind fun t r _ => stmtM1_lt n (stmtM_lt n) t r
theorem bodyM_lt (us : List Tok) : Lt (bodyM L us) us.length := blockM_lt (stmtM_lt 24) 0 us
theorem shutM_lt (d : Dc) (us : List Tok) : Lt (shutM L d us) us.length := (takeM_lt _ us).map
theorem declM1_lt (w : List UInt8) (p : Nat) (s : List UInt8) (r : List Tok) : Lt (declM1 L w p s r) (r.length + 1) := by
  unfold declM1
  refine Lt.ite (fun _ => up1 (fieldsM_lt r).map) fun _ => ?_
  refine Lt.ite (fun _ => up1 ((paramsM_lt r).bind fun ps r2 _ => Lt.ite (fun _ => up1 (bodyM_lt r2).map) fun _ => up1 ((typesM_lt r2).bind fun y r3 _ => up1 (bodyM_lt r3).map))) fun _ => ?_
  refine Lt.ite (fun _ => up1 (bodyM_lt r).map) fun _ => ?_
  refine Lt.ite (fun _ => up1 (shutM_lt _ r)) fun _ => ?_
  refine Lt.ite (fun _ => up1 ((placesM_lt r).bind fun n r2 _ => up1 (shutM_lt _ r2))) fun _ => ?_
  refine Lt.ite (fun _ => up1 ((typesM_lt r).bind fun n r2 _ => up1 (shutM_lt _ r2))) fun _ => ?_
  exact Lt.ite (fun _ => up1 (shutM_lt _ r)) fun _ => up1 (shutM_lt _ r)
theorem declM_lt (n : Nat) (us : List Tok) : Lt (declM L n us) us.length := by
  unfold declM
  refine (takeM_lt _ us).bind fun t r _ => fun a r9 e => ?_
  obtain ⟨_, r1, h1, h2⟩ := Rd.bind_ok e
  rw [roomM_ok h1] at h2
  have := declM1_lt _ _ _ r.tail a r9 h2
  have := List.length_tail (l := r)
  omega
end
end Go.Proofs.YtkmpnlbppdekaaaDoor
end
section
set_option linter.unusedVariables false
set_option linter.unusedSimpArgs false
namespace Go.Proofs.YtkmpnlbppdekaaaDoor
open Go.RowKit
theorem Rd.map_map {α β γ : Type} (f : α → β) (g : β → γ) (x : Rd α) : (x.map f).map g = x.map (g ∘ f) := by cases x <;> rfl
section
variable {α : Type} {shut : List UInt8} {least : Nat} {P : Nat → List Tok → Rd α} {m k p c : Nat} {us r : List Tok} {acc : List α} {a : α} {T : Rd (List α)}
theorem untilM_go (hc : k < least ∨ tx us ≠ shut) : untilM shut least P (m + 1) k us = (P k us).bind fun a r => (untilM shut least P m (k + 1) r).map (a :: ·) := by
  rw [untilM.eq_def]; exact if_pos hc
theorem until_go_bad (h : T = (untilM shut least P (m + 1) k us).map (acc ++ ·)) (hc : k < least ∨ tx us ≠ shut) (hp : P k us = .bad p c) : T = .bad p c := by
  rw [h, untilM_go hc, hp]; rfl
theorem until_go_ok (h : T = (untilM shut least P (m + 1) k us).map (acc ++ ·)) (hc : k < least ∨ tx us ≠ shut) (hp : P k us = .ok a r) : T = (untilM shut least P m (k + 1) r).map ((acc ++ [a]) ++ ·) := by
  rw [h, untilM_go hc, hp]
  show Rd.map _ (Rd.map _ (untilM shut least P m (k + 1) r)) = _
  rw [Rd.map_map]
  congr 1
  funext l
  show acc ++ (a :: l) = acc ++ [a] ++ l
  simp
theorem until_stop (h : T = (untilM shut least P (m + 1) k us).map (acc ++ ·)) (hc : ¬ (k < least ∨ tx us ≠ shut)) : T = .ok acc us.tail := by
  rw [h]; unfold untilM; rw [if_neg hc]
  cases us with
  | nil => simp [Rd.map]
  | cons t r => simp [Rd.map]
end
structure Elem {α : Type} (w0 : World) (B R L : Nat) (F : FuncId) (caps : Array Value) (Q : Nat → Prop) (P : Nat → List Tok → Rd α) (Inv : World → List α → Prop) : Prop where
  ent : ∀ args w, (callFunc F args).run Tryd.prog w = .ok (.enter F args) w
  keep : ∀ w w' acc, Inv w acc → Chg (fun b => b = R) w w' → Inv w' acc
  reader : Q R
  less : ∀ n us, Lt (P n us) us.length
  call : ∀ (acc : List α) (us : List Tok) (w : World), RdAt w B R L us → B ≤ w.heap.size → Chg Q w0 w → Inv w acc → acc.length ≤ 5000 → Calls Tryd.prog F (#[.int .i64 (acc.length : Nat)] ++ caps) w fun e w' => match P acc.length us with
    | .bad p c => e = thrown p c ∧ Chg Q w0 w'
    | .ok a r => e = .returned (.tuple #[]) ∧ RdAt w' B R L r ∧ Chg Q w0 w' ∧ Inv w' (acc ++ [a])
def UntilPost {α : Type} (w0 : World) (B R L : Nat) (Q : Nat → Prop) (Inv : World → List α → Prop) (shut : List UInt8) (x : Rd (List α)) (e : Ending) (w' : World) : Prop := match x with
  | .bad p c => e = thrown p c ∧ Chg Q w0 w'
  | .ok l r => e = .returned (.tuple #[]) ∧ (shut ≠ [] → RdAt w' B R L r) ∧ Chg Q w0 w' ∧ Inv w' l
set_option maxRecDepth 100000 in
set_option maxHeartbeats 1000000 in
theorem until_any {α : Type} {w0 : World} {B R L : Nat} {F : FuncId} {caps : Array Value} {Q : Nat → Prop} {P : Nat → List Tok → Rd α} {Inv : World → List α → Prop} (hE : Elem w0 B R L F caps Q P Inv)
    {us0 : List Tok} (h : RdAt w0 B R L us0) (hB : B ≤ w0.heap.size) (hI : Inv w0 []) (shut : List UInt8) (least : Nat)
    (htake : ∀ (w : World) (us : List Tok), RdAt w B R L us → B ≤ w.heap.size → tx us = shut → Calls Tryd.prog 17 #[.pointer (some ⟨R, 0, none⟩), .slice (some ⟨w.heap.size, 0, none⟩) 1 1] (w.alloc (.cells #[.string (strOf shut)] 9)) fun e w' =>
      (∃ v, e = .returned v) ∧ (shut ≠ [] → RdAt w' B R L us.tail) ∧ Chg (fun b => b = R) w w') :
    Calls Tryd.prog 22 #[.pointer (some ⟨R, 0, none⟩), .string (strOf shut), .int .i64 (least : Nat), .func (.func F) #[] caps] w0 (UntilPost w0 B R L Q Inv shut (untilM shut least P (us0.length + 1) 0 us0)) := by
  obtain ⟨T, hT⟩ : ∃ T, T = untilM shut least P (us0.length + 1) 0 us0 := ⟨_, rfl⟩
  have hstart : T = (untilM shut least P (us0.length + 1) 0 us0).map (([] : List α) ++ ·) := by
    rw [hT]; cases untilM shut least P (us0.length + 1) 0 us0 <;> simp [Rd.map]
  have hlen := h.len
  obtain ⟨N, hN⟩ : ∃ N, N = us0.length := ⟨_, rfl⟩
  obtain ⟨S, hS⟩ : ∃ S, S = strOf shut := ⟨_, rfl⟩
  rw [← hN] at hlen hstart
  rw [← hT, ← hS]
  have HE := Lib.hid hE
  have HS := Lib.hid hS
  have HTK := Lib.hid htake
  have hent := hE.ent
  have hf := tokF1
  have HREL : Hid (∃ (acc : List α) (us : List Tok), acc.length = 0 ∧ RdAt w0 B R L us ∧ B ≤ w0.heap.size ∧ Chg Q w0 w0 ∧ Inv w0 acc ∧ acc.length + us.length ≤ N ∧ ∃ m, us.length ≤ m ∧ T = (untilM shut least P (m + 1) acc.length us).map (acc ++ ·)) :=
    Lib.hid ⟨[], us0, rfl, h, hB, Chg.refl _ _, hI, by rw [hN]; simp, N, by omega, hstart⟩
  have HB0 := Lib.hid hB
  clear hE hS htake h hB hI hT hstart hN
  go_enter Tryd.func22, Tryd.ntmps22
  go_wp2
  go_loopw [8] (fun i wr => ∃ k : Nat, i = .int .i64 (k : Nat) ∧ k ≤ N ∧ Hid (∃ (acc : List α) (us : List Tok), acc.length = k ∧ RdAt wr B R L us ∧ B ≤ wr.heap.size ∧ Chg Q w0 wr ∧ Inv wr acc ∧ acc.length + us.length ≤ N ∧ ∃ m, us.length ≤ m ∧ T = (untilM shut least P (m + 1) acc.length us).map (acc ++ ·))) (fun i _ => N - (intOf i).toNat)
  case atStart => exact ⟨0, rfl, Nat.zero_le _, HREL⟩
  case round =>
    obtain ⟨wo, rfl⟩ : ∃ wo : World, wo = wr := ⟨_, rfl⟩
    obtain ⟨k, rfl, hk, HR⟩ := hrel
    obtain ⟨acc, us, hacc, hr, hbw, hch, hinv, hsum, m, hm, hTm⟩ := HR.out
    clear HR
    have HRD := Lib.hid hr
    have HBW := Lib.hid hbw
    have HCH := Lib.hid hch
    have HIN := Lib.hid hinv
    have HTM := Lib.hid hTm
    have HM := Lib.hid hm
    have HSUM := Lib.hid hsum
    subst hacc
    have hal : acc.length ≤ 5000 := by omega
    by_cases h1 : acc.length < least
    · have h1' : (acc.length : Int) < (least : Int) := by omega
      have HCALL := Lib.hid (HE.out.call acc us wo hr hbw hch hinv hal)
      have HSZ : Hid (B ≤ w0.heap.size) := HB0
      have HC1 : Hid (acc.length < least ∨ tx us ≠ shut) := Lib.hid (.inl h1)
      clear hr hbw hch hinv hTm hm hsum h1
      go_wp2_with fail
      refine HCALL.out.mono ?_
      rintro e w2 hp
      have HLT := Lib.hid (HE.out.less acc.length us)
      cases hx : P acc.length us with
      | bad p c =>
        rw [hx] at hp
        obtain ⟨rfl, hc⟩ := hp
        have HF : Hid (T = .bad p c) := Lib.hid (until_go_bad HTM.out HC1.out hx)
        have HC := Lib.hid hc
        clear hx hc
        unfold thrown
        go_wp2
        rw [HF.out]
        exact ⟨rfl, rfl, HC.out⟩
      | ok a r =>
        rw [hx] at hp
        obtain ⟨rfl, hr2, hc2, hi2⟩ := hp
        have hlt := HLT.out a r hx
        have HR2 := Lib.hid hr2
        have HC2 := Lib.hid hc2
        have HI2 := Lib.hid hi2
        have HF := Lib.hid (until_go_ok HTM.out HC1.out hx)
        clear hx hr2 hc2 hi2
        go_wp2_with fail
        go_roundw
        case rel =>
          have := HSUM.out
          have := HM.out
          refine ⟨acc.length + 1, by go_num, by omega, Lib.hid ⟨acc ++ [a], r, by simp, HR2.out, ?_, HC2.out, HI2.out, by simp; omega, m - 1, by omega, ?_⟩⟩
          · have := HC2.out.size; have := HSZ.out; omega
          · rw [HF.out, show m - 1 + 1 = m by omega]; simp
        case measure => simp [intOf]; have := HSUM.out; omega
    · have h1' : ¬ (acc.length : Int) < (least : Int) := by omega
      have HNX := Lib.hid (next_any hr)
      obtain ⟨K, hK⟩ : ∃ K : Int, K = (kd us : Nat) := ⟨_, rfl⟩
      obtain ⟨U, hU⟩ : ∃ U : Int, U = (plc L us : Nat) := ⟨_, rfl⟩
      obtain ⟨X, hX⟩ : ∃ X, X = strOf (tx us) := ⟨_, rfl⟩
      rw [← hK, ← hU, ← hX] at HNX
      have HSZ : Hid (B ≤ w0.heap.size) := HB0
      by_cases h2 : tx us = shut
      · have e1 : (X.toList == S.toList) = true := by rw [hX, HS.out, h2]; exact beq_self_eq_true _
        have HF := Lib.hid (until_stop hTm (by rintro (h | h); exact h1 h; exact h h2))
        have HTX := Lib.hid h2
        clear hr hbw hch hinv hTm hm hsum h1 hK hU hX h2
        go_wp2_with fail
        refine HNX.out.mono ?_
        rintro e w1 ⟨rfl, hb⟩
        have HB1 := Lib.hid hb
        have HTC := Lib.hid (HTK.out w1 us (HRD.out.below' HBW.out hb) (Nat.le_trans HBW.out hb.size) HTX.out)
        rw [← HS.out] at HTC
        clear hb
        go_wp2_with fail
        refine HTC.out.mono ?_
        rintro e w2 ⟨⟨v, rfl⟩, hr2, hc2⟩
        have hc3 := chg_below HB1.out hc2
        have HC3 := Lib.hid (HCH.out.trans hc3 fun _ _ e => by rw [e]; exact HE.out.reader)
        have HI3 := Lib.hid (HE.out.keep _ _ _ HIN.out hc3)
        have HR3 := Lib.hid hr2
        clear hr2 hc2 hc3
        go_wp2
        go_end0
        rw [HF.out]
        exact ⟨rfl, HR3.out, HC3.out, HI3.out⟩
      · have e1 : (X.toList == S.toList) = false := by rw [hX, HS.out, strOf_toList, strOf_toList]; simpa using h2
        have HC1 : Hid (acc.length < least ∨ tx us ≠ shut) := Lib.hid (.inr h2)
        clear hr hbw hch hinv hTm hm hsum h1 hK hU hX h2
        go_wp2_with fail
        refine HNX.out.mono ?_
        rintro e w1 ⟨rfl, hb⟩
        have hcb := Chg.of_below (P := fun b => b = R) hb
        have HCALL := Lib.hid (HE.out.call acc us w1 (HRD.out.below' HBW.out hb) (Nat.le_trans HBW.out hb.size) (HCH.out.trans hcb fun _ _ e => by rw [e]; exact HE.out.reader) (HE.out.keep _ _ _ HIN.out hcb) hal)
        clear hb hcb
        go_wp2_with fail
        refine HCALL.out.mono ?_
        rintro e w2 hp
        have HLT := Lib.hid (HE.out.less acc.length us)
        cases hx : P acc.length us with
        | bad p c =>
          rw [hx] at hp
          obtain ⟨rfl, hc⟩ := hp
          have HF : Hid (T = .bad p c) := Lib.hid (until_go_bad HTM.out HC1.out hx)
          have HC := Lib.hid hc
          clear hx hc
          unfold thrown
          go_wp2
          rw [HF.out]
          exact ⟨rfl, rfl, HC.out⟩
        | ok a r =>
          rw [hx] at hp
          obtain ⟨rfl, hr2, hc2, hi2⟩ := hp
          have hlt := HLT.out a r hx
          have HR2 := Lib.hid hr2
          have HC2 := Lib.hid hc2
          have HI2 := Lib.hid hi2
          have HF := Lib.hid (until_go_ok HTM.out HC1.out hx)
          clear hx hr2 hc2 hi2
          go_wp2_with fail
          go_roundw
          case rel =>
            have := HSUM.out
            have := HM.out
            refine ⟨acc.length + 1, by go_num, by omega, Lib.hid ⟨acc ++ [a], r, by simp, HR2.out, ?_, HC2.out, HI2.out, by simp; omega, m - 1, by omega, ?_⟩⟩
            · have := HC2.out.size; have := HSZ.out; omega
            · rw [HF.out, show m - 1 + 1 = m by omega]; simp
          case measure => simp [intOf]; have := HSUM.out; omega
end Go.Proofs.YtkmpnlbppdekaaaDoor
end
section
set_option linter.unusedVariables false
set_option linter.unusedSimpArgs false
namespace Go.Proofs.YtkmpnlbppdekaaaDoor
open Go.RowKit
def ExB (base : Nat) (w' : World) (x : Ex) (v : Value) : Prop := ∃ u, v = .agg #[.int .i64 x.kind, .int .i64 x.pl, .int .i64 x.num, .string (strOf x.name), u] ∧ x.name.length ≤ 16384 ∧ IsExs w' (fun b => base ≤ b ∧ b < w'.heap.size) x.args u
def ExprC (L n : Nat) : Prop := ∀ (w : World) (B R : Nat) (us : List Tok), RdAt w B R L us → B ≤ w.heap.size →
  Calls Tryd.prog 16 #[.pointer (some ⟨R, 0, none⟩), .int .i64 (25 - (n : Nat))] w (RdPost (ExB w.heap.size) w B R L (exprM L n us))
section
variable {w w' : World} {R base : Nat}
end
theorem row5 {w : World} {g : Nat} {a b c d e : Value} {t : TypeId} (h : w.heap[g]? = some (.cells #[a, b, c, d, e] t (0, 0))) :
    w.cell? ⟨g, 0, none⟩ = some a ∧ w.cell? ⟨g, 1, none⟩ = some b ∧ w.cell? ⟨g, 2, none⟩ = some c ∧ w.cell? ⟨g, 3, none⟩ = some d ∧ w.cell? ⟨g, 4, none⟩ = some e ∧
    w.frozen? ⟨g, 0, none⟩ = false ∧ w.frozen? ⟨g, 1, none⟩ = false ∧ w.frozen? ⟨g, 2, none⟩ = false ∧ w.frozen? ⟨g, 3, none⟩ = false ∧ w.frozen? ⟨g, 4, none⟩ = false :=
  ⟨by rw [cell_of_row w g 0 _ _ (0, 0) h]; rfl, by rw [cell_of_row w g 1 _ _ (0, 0) h]; rfl, by rw [cell_of_row w g 2 _ _ (0, 0) h]; rfl, by rw [cell_of_row w g 3 _ _ (0, 0) h]; rfl, by rw [cell_of_row w g 4 _ _ (0, 0) h]; rfl,
    frozen_of_row w g 0 _ _ h, frozen_of_row w g 1 _ _ h, frozen_of_row w g 2 _ _ h, frozen_of_row w g 3 _ _ h, frozen_of_row w g 4 _ _ h⟩
def OwnExP (w : World) (P : Nat → Prop) (base : Nat) (v : Value) (es : List Ex) : Prop :=
  ∃ fs : List Value, es.length = fs.length ∧ w.ownsRow base 32 5 v es.length (exsV es fs) ∧
    ∀ (k : Nat) (hk : k < es.length) (hk' : k < fs.length), es[k].name.length ≤ 140737488355328 ∧ IsExs w (fun b => P b ∧ b < w.heap.size ∧ v.ownBlock ≠ some b) es[k].args fs[k]
theorem OwnExP.lt {w : World} {P : Nat → Prop} {base : Nat} {v : Value} {es : List Ex} (h : OwnExP w P base v es) {b : Nat} (hb : v.ownBlock = some b) : base ≤ b ∧ b < w.heap.size := by
  obtain ⟨fs, hl, hown, hin⟩ := h; exact hown.lt b hb
theorem OwnExP.keep {w w' : World} {P : Nat → Prop} {base : Nat} {v : Value} {es : List Ex} (h : OwnExP w P base v es) (hsz : w.heap.size ≤ w'.heap.size) (hk : ∀ b, b < w.heap.size → (P b ∨ v.ownBlock = some b) → w'.heap[b]? = w.heap[b]?) : OwnExP w' P base v es := by
  obtain ⟨fs, hl, hown, hin⟩ := h
  have hlt := hown.lt
  refine ⟨fs, hl, ?_, fun k hk1 hk' => ⟨(hin k hk1 hk').1, (hin k hk1 hk').2.keep (fun b hb => hk b hb.2.1 (.inl hb.1)) fun b hb => ⟨hb.1, by omega, hb.2.2⟩⟩⟩
  rcases hown with ⟨h1, h2 | ⟨g, cap, cur, hv, hbg, hg, h3⟩⟩
  · exact ⟨h1, .inl h2⟩
  · exact ⟨h1, .inr ⟨g, cap, cur, hv, hbg, (hk g (lt_of_heap hg) (.inr (by rw [hv]; rfl))).trans hg, h3⟩⟩
theorem OwnExP.nil (w : World) (P : Nat → Prop) (base : Nat) : OwnExP w P base (.slice none 0 0) [] := ⟨[], rfl, ⟨rfl, .inl ⟨rfl, rfl⟩⟩, fun k hk => absurd hk (by simp)⟩
theorem step_append_exP {ops : Array Oper} {o : Oper} {a : Act} {w : World} {K : Act → World → Prop} {Q : Exit → Act → World → Prop} {E : Prop} {P : Nat → Prop} (hgd : o.guard = none) (s x : Operand)
    (ho : o.op = .call { callee := .builtin .append, args := #[s, x], argTypes := #[30, 30] })
    (base : Nat) (v : Value) (es : List Ex) (hs : a.eval s = v) (hown : OwnExP w P base v es) (ad : Addr) (c : Nat) (e : Ex) (u : Value) (hx : a.eval x = .slice (some ad) 1 c)
    (hnews : ∀ j y, (exCells e u)[j]? = some y → w.cell? (ad.add j) = some y) (hu : IsExs w (fun b => P b ∧ b < w.heap.size ∧ v.ownBlock ≠ some b) e.args u) (hen : e.name.length ≤ 140737488355328) (hb : es.length ≤ 1000000) (hbase : base ≤ w.heap.size)
    (h : ∀ g' c' w', OwnExP w' P base (.slice (some ⟨g', 0, none⟩) (es.length + 1) c') (es ++ [e]) → w.grownBy w' v.ownBlock → (v.ownBlock = some g' ∨ g' = w.heap.size) → K (a.put o.dst (.slice (some ⟨g', 0, none⟩) (es.length + 1) c')) w') :
    if Region.wanted o (yielded ops a.tmps) = true then Oper.wp Tryd.prog o a w K Q else E := by
  obtain ⟨i0, hi, hz0, hz1, hz2⟩ := info_parts info_ex
  obtain ⟨fs, hl, hrow, hin⟩ := hown
  refine step_append_lies _ hgd s x 30 ho base 32 i0 _ 5 64 Tryd.underlying30 hi hz0 hz1 hz2 rfl (by decide) v es.length (exsV es fs) hs hrow ad 1 c (exCells e u) hx rfl hnews (exCells_one e u hu.one)
    (by omega) (by unfold maxLen; omega) (by omega) hbase w.heap.size rfl fun g cap w' hown' hgr hat hlt => h g cap w' ?_ hgr hat
  have hkeep : ∀ b, (P b ∧ b < w.heap.size ∧ v.ownBlock ≠ some b) → w'.heap[b]? = w.heap[b]? := fun b hb => hgr.block b hb.2.1 (fun e => hb.2.2 e.symm)
  have hS : ∀ b, (P b ∧ b < w.heap.size ∧ v.ownBlock ≠ some b) → (P b ∧ b < w'.heap.size ∧ (Value.slice (some ⟨g, 0, none⟩) (es.length + 1) cap).ownBlock ≠ some b) := fun b hb => by
    have hsz := hgr.size
    refine ⟨hb.1, by omega, fun e => ?_⟩
    have e' : g = b := by simpa [Value.ownBlock] using e
    rcases hat with hat | hat
    · exact hb.2.2 (by rw [hat, e'])
    · omega
  refine ⟨fs ++ [u], by simp [hl], ?_, fun k hk hk' => ?_⟩
  · rw [List.length_append, exsV_app e u hl]
    exact hown'
  · by_cases hke : k < es.length
    · have hkf : k < fs.length := by omega
      rw [List.getElem_append_left hke, List.getElem_append_left hkf]
      exact ⟨(hin k hke hkf).1, (hin k hke hkf).2.keep hkeep hS⟩
    · have hk0 : k = es.length := by simp at hk; omega
      subst hk0
      have e1 : (es ++ [e])[es.length] = e := by simp
      have e2 : (fs ++ [u])[es.length]'hk' = u := by
        rw [List.getElem_append_right (by omega)]
        simp [hl]
      rw [e1, e2]
      exact ⟨hen, hu.keep hkeep hS⟩
theorem own_oneP {w : World} {P : Nat → Prop} {g base : Nat} {x : Ex} {u : Value} (hb : base ≤ g) (hg : w.heap[g]? = some (.cells #[.int .i64 x.kind, .int .i64 x.pl, .int .i64 x.num, .string (strOf x.name), u] 32 (0, 0)))
    (hn : x.name.length ≤ 140737488355328) (hi : IsExs w (fun b => P b ∧ b < w.heap.size ∧ g ≠ b) x.args u) : OwnExP w P base (.slice (some ⟨g, 0, none⟩) 1 1) [x] := by
  refine ⟨[u], rfl, ⟨rfl, .inr ⟨g, 1, _, rfl, hb, hg, Nat.le_refl _, by unfold maxLen; omega, rfl, rfl⟩⟩, fun k hk hk' => ?_⟩
  obtain rfl : k = 0 := by simp at hk; omega
  exact ⟨hn, hi.keep (fun _ _ => rfl) fun b hb => ⟨hb.1, hb.2.1, fun e => hb.2.2 (by simpa [Value.ownBlock] using e)⟩⟩
theorem news_ex {w : World} {x : Ex} {u : Value} (k p n : Int) (s : ByteArray) (h : exCells x u = [.int .i64 k, .int .i64 p, .int .i64 n, .string s, u]) : ∀ q y, (exCells x u)[q]? = some y → (w.alloc (.cells #[.int .i64 k, .int .i64 p, .int .i64 n, .string s, u] 32)).cell? ((⟨w.heap.size, 0, none⟩ : Addr).add q) = some y := fun q y hq => by
  rw [h] at hq
  rw [add_pl, Nat.zero_add, cell_of_row _ _ q _ _ (0, 0) (heap_alloc_new w _)]
  simpa using hq
theorem own_apart {g c n b : Nat} (h : (Value.slice (some ⟨g, 0, none⟩) n c).ownBlock = some b) (hb : g < b) : False := by
  have : g = b := by simpa [Value.ownBlock] using h
  omega
end Go.Proofs.YtkmpnlbppdekaaaDoor
end
section
set_option linter.unusedVariables false
set_option linter.unusedSimpArgs false
namespace Go.Proofs.YtkmpnlbppdekaaaDoor
open Go.RowKit
theorem ownsRow_set {w : World} {base : Nat} {e : TypeId} {size g n cap i : Nat} {xs : List Value} (h : w.ownsRow base e size (.slice (some ⟨g, 0, none⟩) n cap) n xs) (hi : i < n * size) (u : Value) :
    (w.setCell ⟨g, i, none⟩ u).ownsRow base e size (.slice (some ⟨g, 0, none⟩) n cap) n (xs.set i u) := by
  rcases h with ⟨h1, ⟨h2, _⟩ | ⟨g', cap', cur, hv, hb, hg, h3, h4, h5, h6⟩⟩
  · cases h2
  · simp only [Value.slice.injEq, Option.some.injEq, Addr.mk.injEq, true_and, and_true] at hv
    obtain ⟨rfl, rfl⟩ := hv
    refine ⟨by simpa using h1, .inr ⟨g, cap, cur.setIfInBounds i u, rfl, hb, ?_, h3, h4, by simpa using h5, ?_⟩⟩
    · simp [World.setCell, Array.getElem?_modify, hg]
    · rw [← h6]
      simp only [Array.toList_setIfInBounds]
      rw [List.take_set]
theorem ownsRow_out {w : World} {base : Nat} {e : TypeId} {size g n cap : Nat} {xs : List Value} (h : w.ownsRow base e size (.slice (some ⟨g, 0, none⟩) n cap) n xs) : ∃ cur, w.heap[g]? = some (.cells cur e (0, 0)) ∧ n ≤ cap ∧ cur.size = cap * size ∧ base ≤ g := by
  rcases h with ⟨h1, ⟨h2, _⟩ | ⟨g', cap', cur, hv, hb, hg, h3, h4, h5, h6⟩⟩
  · cases h2
  · simp only [Value.slice.injEq, Option.some.injEq, Addr.mk.injEq, true_and, and_true] at hv
    obtain ⟨rfl, rfl⟩ := hv
    exact ⟨cur, hg, h3, h5, hb⟩
def five (W : World) (g i : Nat) (a : Ex) (u : Value) : World :=
  ((((W.setCell ⟨g, i, none⟩ (.int .i64 a.kind)).setCell ⟨g, i + 1, none⟩ (.int .i64 a.pl)).setCell ⟨g, i + 2, none⟩ (.int .i64 a.num)).setCell ⟨g, i + 3, none⟩ (.string (strOf a.name))).setCell ⟨g, i + 4, none⟩ u
theorem five_chg (W : World) (g i : Nat) (a : Ex) (u : Value) : Chg (fun b => b = g) W (five W g i a u) :=
  (((((Chg.refl (fun x => x = g) W).setCell _ _ fun _ => rfl).setCell _ _ fun _ => rfl).setCell _ _ fun _ => rfl).setCell _ _ fun _ => rfl).setCell _ _ fun _ => rfl
theorem exsV_last {xs : List Ex} {fs : List Value} (h : xs.length = fs.length) (a : Ex) (u : Value) :
    exsV (xs ++ [a]) (fs ++ [u]) = exsV xs fs ++ exCells a u := exsV_app a u h
theorem set_last5 {l : List Value} {a b c d e a' b' c' d' e' : Value} {n : Nat} (hn : l.length = n) :
    (((((l ++ [a, b, c, d, e]).set n a').set (n + 1) b').set (n + 2) c').set (n + 3) d').set (n + 4) e' = l ++ [a', b', c', d', e'] := by
  subst hn
  simp [List.set_append]
theorem slot_done {W : World} {P : Nat → Prop} {base g m c : Nat} {xs : List Ex} {z a : Ex} {u : Value} (hm : m = xs.length) (h : OwnExP W P base (.slice (some ⟨g, 0, none⟩) (m + 1) c) (xs ++ [z]))
    (hu : IsExs W (fun b => P b ∧ b < W.heap.size ∧ b ≠ g) a.args u) (hn : a.name.length ≤ 16384) : OwnExP (five W g (m * 5) a u) P base (.slice (some ⟨g, 0, none⟩) (m + 1) c) (xs ++ [a]) := by
  subst hm
  obtain ⟨fs, hl, hown, hin⟩ := h
  have hlen : fs.length = xs.length + 1 := by rw [← hl]; simp
  obtain ⟨fs1, f, rfl⟩ : ∃ fs1 f, fs = fs1 ++ [f] := ⟨fs.dropLast, fs.getLast (by intro e; rw [e] at hlen; simp at hlen), (List.dropLast_concat_getLast _).symm⟩
  have hl1 : xs.length = fs1.length := by simpa using hl
  have hsz : (five W g (xs.length * 5) a u).heap.size = W.heap.size := by simp [five, World.setCell]
  have hch := five_chg W g (xs.length * 5) a u
  have hne : ∀ b, (Value.slice (some ⟨g, 0, none⟩) (xs.length + 1) c).ownBlock ≠ some b → b ≠ g := fun b h e => h (by rw [e]; rfl)
  refine ⟨fs1 ++ [u], by simp [hl1], ?_, fun k hk hk' => ?_⟩
  · rw [List.length_append, List.length_singleton] at hown ⊢
    rw [exsV_last hl1]
    rw [exsV_last hl1] at hown
    have h1 := ownsRow_set (ownsRow_set (ownsRow_set (ownsRow_set (ownsRow_set hown (i := xs.length * 5) (by omega) (.int .i64 a.kind)) (i := xs.length * 5 + 1) (by omega) (.int .i64 a.pl)) (i := xs.length * 5 + 2) (by omega) (.int .i64 a.num)) (i := xs.length * 5 + 3) (by omega) (.string (strOf a.name))) (i := xs.length * 5 + 4) (by omega) u
    have h2 := set_last5 (l := exsV xs fs1) (a := .int .i64 z.kind) (b := .int .i64 z.pl) (c := .int .i64 z.num) (d := .string (strOf z.name)) (e := f) (a' := .int .i64 a.kind) (b' := .int .i64 a.pl) (c' := .int .i64 a.num) (d' := .string (strOf a.name)) (e' := u) (exsV_len hl1)
    unfold exCells at h1 ⊢
    rw [h2] at h1
    exact h1
  · by_cases hke : k < xs.length
    · have hkf : k < fs1.length := by omega
      rw [List.getElem_append_left hke, List.getElem_append_left hkf]
      have h3 := hin k (by simp; omega) (by simp; omega)
      rw [List.getElem_append_left hke, List.getElem_append_left hkf] at h3
      exact ⟨h3.1, h3.2.keep (fun b hb => hch.block b hb.2.1 (hne b hb.2.2)) fun b hb => ⟨hb.1, by rw [hsz]; exact hb.2.1, hb.2.2⟩⟩
    · have hk0 : k = xs.length := by simp at hk; omega
      subst hk0
      have e1 : (xs ++ [a])[xs.length] = a := by simp
      have e2 : (fs1 ++ [u])[xs.length]'hk' = u := by
        rw [List.getElem_append_right (by omega)]
        simp [hl1]
      rw [e1, e2]
      exact ⟨by omega, hu.keep (fun b hb => hch.block b hb.2.1 hb.2.2) fun b hb => ⟨hb.1, by rw [hsz]; exact hb.2.1, fun e => hb.2.2 (by simpa [Value.ownBlock] using e.symm)⟩⟩
theorem slot_cells {W : World} {P : Nat → Prop} {base g m c : Nat} {xs : List Ex} {z : Ex} (hm : m = xs.length) (h : OwnExP W P base (.slice (some ⟨g, 0, none⟩) (m + 1) c) (xs ++ [z])) :
    ∀ i, i < 5 → (∃ y, W.cell? ⟨g, m * 5 + i, none⟩ = some y) ∧ W.frozen? ⟨g, m * 5 + i, none⟩ = false := by
  subst hm
  obtain ⟨fs, hl, hown, hin⟩ := h
  rw [List.length_append, List.length_singleton] at hown
  obtain ⟨cur, hg, hc, hs, -⟩ := ownsRow_out hown
  intro i hi
  have hlt : xs.length * 5 + i < cur.size := by rw [hs]; omega
  refine ⟨⟨cur[xs.length * 5 + i], ?_⟩, frozen_of_row W g _ _ _ hg⟩
  rw [cell_of_row W g _ _ _ (0, 0) hg]
  simp [hlt]
end Go.Proofs.YtkmpnlbppdekaaaDoor
end
