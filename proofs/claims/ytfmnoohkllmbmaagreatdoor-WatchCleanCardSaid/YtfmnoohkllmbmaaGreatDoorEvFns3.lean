/- The evaluator: EvFns3. -/
import Derived.Test.YtfmnoohkllmbmaaGreatDoorEvFns
set_option linter.unusedVariables false
set_option linter.unusedSimpArgs false
namespace Go.Proofs.YtfmnoohkllmbmaaGreatDoor
namespace Ev
open Go.RowKit

def countFrom (c : Nat) : List Nat → Nat
  | [] => 0
  | b :: s => match Nat.beq b c with
    | true => countFrom c s + 1
    | false => countFrom c s
/-- strings.Count of one byte -/
def countA : List AV → Option AV
  | [.str s, .str [n]] => some (.int .i64 (.ofNat (countFrom n s)))
  | _ => none
/-- strings.Contains of one byte -/
def contA : List AV → Option AV
  | [.str s, .str [n]] => match Nat.blt n 256 with
    | true => some (.bool (match indexFrom n s 0 with | .ofNat _ => true | .negSucc _ => false))
    | false => none
  | _ => none
/-- strings.Index of one byte -/
def indexsA : List AV → Option AV
  | [.str s, .str [n]] => match Nat.blt n 256 with
    | true => some (.int .i64 (indexFrom n s 0))
    | false => none
  | _ => none

theorem countFrom_ok (c : UInt8) : ∀ L : List UInt8, countFrom c.toNat (L.map (·.toNat)) = Lib.countByte L c
  | [] => rfl
  | b :: L => by
    have hb : (b == c) = Nat.beq b.toNat c.toNat := by
      cases h : Nat.beq b.toNat c.toNat with
      | true => rw [beq_iff_eq]; exact UInt8.toNat_inj.1 (Nat.eq_of_beq_eq_true h)
      | false =>
        rw [beq_eq_false_iff_ne]
        intro e
        rw [e, Nat.beq_refl] at h
        cases h
    simp only [List.map_cons, countFrom, Lib.countByte, List.count_cons, hb]
    rw [countFrom_ok c L]
    unfold Lib.countByte
    cases Nat.beq b.toNat c.toNat <;> simp

theorem one_of_bytes {s : ByteArray} {n : Nat} (h : bytesOfArray s = [n]) : ∃ c : UInt8, s = ⟨#[c]⟩ ∧ n = c.toNat := by
  obtain ⟨⟨l⟩⟩ := s
  unfold bytesOfArray at h
  match l, h with
  | [c], h => exact ⟨c, rfl, by simpa using h.symm⟩

section
variable {P : Program} {f : Nat} (hcall : ∀ (args : Array Value) (w : World), (callFunc f args).run P w = .ok (.enter f args) w)
include hcall

theorem PureOk.index (h : ∀ (s : ByteArray) (c : Int) (w : World), Calls P f #[.string s, .int .u8 c] w fun e w' => e = .returned (.int .i64 (Lib.indexByte s.data.toList c.toNat.toUInt8)) ∧ w' = w) : PureOk P f indexA := pure_index hcall h
theorem PureOk.clone (h : ∀ (s : ByteArray) (w : World), s.size ≤ 281474976710656 → Calls P f #[.string s] w fun e w' => e = .returned (.string s) ∧ Below w.heap.size w w') : PureOk P f cloneA := pure_clone hcall h

theorem PureOk.count (h : ∀ (s : ByteArray) (c : UInt8) (w : World), Calls P f #[.string s, .string ⟨#[c]⟩] w fun e w' => e = .returned (.int .i64 (Lib.countByte s.data.toList c)) ∧ w' = w) : PureOk P f countA := by
  intro c args vs v w hl hg
  unfold countA at hg
  split at hg
  · rename_i s n
    cases hg
    obtain ⟨x, y, hxy, hx, hy⟩ := hl.two
    have hvs : vs = #[x, y] := by rw [← Array.toArray_toList (xs := vs), hxy]
    subst hvs
    cases hx
    rename_i s
    generalize hq : [n] = q at hy
    cases hy
    rename_i s2
    obtain ⟨c2, rfl, rfl⟩ := one_of_bytes hq.symm
    refine .inr ⟨hcall _ w, (h s c2 w).mono fun e w' he => ?_⟩
    obtain ⟨rfl, rfl⟩ := he
    refine ⟨_, rfl, ?_, Below.refl _ _⟩
    unfold bytesOfArray
    rw [countFrom_ok]
    exact .int _ _
  · cases hg

theorem PureOk.contains (h : ∀ (s : ByteArray) (c : UInt8) (w : World), Calls P f #[.string s, .string ⟨#[c]⟩] w fun e w' => e = .returned (.bool (decide (0 ≤ Lib.indexByte s.data.toList c))) ∧ w' = w) : PureOk P f contA := by
  intro c args vs v w hl hg
  unfold contA at hg
  split at hg
  · rename_i s n
    split at hg
    · rename_i hn
      have hn : n < 256 := Nat.le_of_ble_eq_true hn
      cases hg
      obtain ⟨x, y, hxy, hx, hy⟩ := hl.two
      have hvs : vs = #[x, y] := by rw [← Array.toArray_toList (xs := vs), hxy]
      subst hvs
      cases hx
      rename_i s
      generalize hq : [n] = q at hy
      cases hy
      rename_i s2
      obtain ⟨c2, rfl, rfl⟩ := one_of_bytes hq.symm
      refine .inr ⟨hcall _ w, (h s c2 w).mono fun e w' he => ?_⟩
      obtain ⟨rfl, rfl⟩ := he
      refine ⟨_, rfl, ?_, Below.refl _ _⟩
      have h1 := indexFrom_ok hn s.data.toList 0
      have hc : c2.toNat.toUInt8 = c2 := by simp
      rw [hc] at h1
      have hge := Lib.indexByte_ge s.data.toList c2
      unfold bytesOfArray
      rw [h1]
      by_cases e : Lib.indexByte s.data.toList c2 = -1
      · rw [if_pos e, e]
        exact .bool _
      · rw [if_neg e]
        have hd : decide (0 ≤ Lib.indexByte s.data.toList c2) = true := decide_eq_true (by omega)
        rw [hd]
        have : ∃ k : Nat, Lib.indexByte s.data.toList c2 + ((0 : Nat) : Int) = .ofNat k := ⟨(Lib.indexByte s.data.toList c2).toNat, by simp; omega⟩
        obtain ⟨k, hk⟩ := this
        rw [hk]
        exact .bool _
    · cases hg
  · cases hg

theorem PureOk.indexs (h : ∀ (s : ByteArray) (c : UInt8) (w : World), Calls P f #[.string s, .string ⟨#[c]⟩] w fun e w' => e = .returned (.int .i64 (Lib.indexByte s.data.toList c)) ∧ w' = w) : PureOk P f indexsA := by
  intro c args vs v w hl hg
  unfold indexsA at hg
  split at hg
  · rename_i s n
    split at hg
    · rename_i hn
      have hn : n < 256 := Nat.le_of_ble_eq_true hn
      cases hg
      obtain ⟨x, y, hxy, hx, hy⟩ := hl.two
      have hvs : vs = #[x, y] := by rw [← Array.toArray_toList (xs := vs), hxy]
      subst hvs
      cases hx
      rename_i s
      generalize hq : [n] = q at hy
      cases hy
      rename_i s2
      obtain ⟨c2, rfl, rfl⟩ := one_of_bytes hq.symm
      refine .inr ⟨hcall _ w, (h s c2 w).mono fun e w' he => ?_⟩
      obtain ⟨rfl, rfl⟩ := he
      refine ⟨_, rfl, ?_, Below.refl _ _⟩
      have h1 := indexFrom_ok hn s.data.toList 0
      have hc : c2.toNat.toUInt8 = c2 := by simp
      rw [hc] at h1
      have he : indexFrom c2.toNat (bytesOfArray s) 0 = Lib.indexByte s.data.toList c2 := by
        unfold bytesOfArray
        rw [h1]
        split
        · rename_i e; rw [e]
        · simp
      rw [he]
      exact .int _ _
    · cases hg
  · cases hg
end
end Ev
end Go.Proofs.YtfmnoohkllmbmaaGreatDoor
