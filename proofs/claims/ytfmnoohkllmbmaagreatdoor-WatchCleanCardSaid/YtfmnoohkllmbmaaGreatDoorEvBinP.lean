/- The evaluator: EvBinP. -/
import Derived.Test.YtfmnoohkllmbmaaGreatDoorEvEqP
set_option linter.unusedVariables false
set_option linter.unusedSimpArgs false
namespace Go.Proofs.YtfmnoohkllmbmaaGreatDoor
namespace Ev
open Go.RowKit

theorem ltL_eq : ∀ (a b : List UInt8), ltL (a.map (·.toNat)) (b.map (·.toNat)) = Op.bytesLess a b
  | a, [] => by cases a <;> rfl
  | [], _ :: _ => rfl
  | a :: x, b :: y => by
    simp only [List.map_cons, ltL, Op.bytesLess]
    split
    · rename_i h
      have h : a.toNat < b.toNat := by simpa [Nat.blt_eq] using h
      have : a < b := UInt8.lt_iff_toNat_lt.2 h
      simp [this]
    · rename_i h
      have h : ¬ a.toNat < b.toNat := by
        intro hh
        have : Nat.blt a.toNat b.toNat = true := by simpa [Nat.blt_eq] using hh
        rw [this] at h
        cases h
      have h' : ¬ a < b := fun hh => h (UInt8.lt_iff_toNat_lt.1 hh)
      simp only [h', decide_false, Bool.false_or]
      split
      · rename_i e
        have e := Nat.eq_of_beq_eq_true e
        have e : a = b := UInt8.toNat_inj.1 e
        subst e
        simp [ltL_eq x y]
      · rename_i e
        have e := Nat.ne_of_beq_eq_false e
        have e : a ≠ b := fun h => e (by rw [h])
        simp [e]

theorem bytesOfArray_append (a b : ByteArray) : bytesOfArray (a ++ b) = bytesOfArray a ++ bytesOfArray b := by
  simp [bytesOfArray]
theorem bytesOfArray_length (a : ByteArray) : (bytesOfArray a).length = a.size := by
  simp only [bytesOfArray, List.length_map, Array.length_toList]; rfl

section
variable {P : Program} {E : Env} (HE : EnvOk P E) {c : Cx} (w : World)

theorem evBinStr_ok {op : BinOp} {a b : ByteArray} {r : AV} (h : evBinStr op (bytesOfArray a) (bytesOfArray b) = some r) :
    ∃ v, (Op.stringOp op a b).run P w = .ok v w ∧ VR c r v := by
  have he : (a.toList == b.toList) = eqL (bytesOfArray a) (bytesOfArray b) := by rw [eqL_eq, bytes_beq]
  have hl : Op.bytesLess a.toList b.toList = ltL (bytesOfArray a) (bytesOfArray b) := by
    unfold bytesOfArray
    rw [ltL_eq, ByteArray.toList_eq, ByteArray.toList_eq]
  cases op <;> simp only [evBinStr] at h <;> try cases h
  case add =>
    split at h
    · rename_i hb
      cases h
      rw [Nat.blt_eq, bytesOfArray_length, bytesOfArray_length] at hb
      have hs : ¬ (((a.size + b.size : Nat) : Int) > IntKind.i64.max) := by simp; omega
      refine ⟨.string (a ++ b), by simp only [Op.stringOp, hs, if_false, Sem.run_pure], ?_⟩
      rw [← bytesOfArray_append]
      exact .str
    · cases h
  all_goals
    exact ⟨_, by simp only [Op.stringOp, Sem.run_pure, he, hl], .bool _⟩

theorem wrap_small (k : IntKind) (hk : is64 k = true) (n : Nat) (h : n < 9223372036854775808) : k.wrap (n : Int) = (n : Int) := by
  cases k <;> simp [is64] at hk <;> simp only [IntKind.wrap, IntKind.bits, IntKind.signed] <;> simp <;> omega

theorem land_ok (k : IntKind) (hk : is64 k = true) (a b : Nat) (ha : a < 9223372036854775808) (hb : b < 9223372036854775808) :
    (Op.intBits .and k (.ofNat a) (.ofNat b)).run P w = .ok (.int k (.ofNat (Nat.land a b))) w := by
  have hl : a &&& b < 9223372036854775808 := Nat.lt_of_le_of_lt Nat.and_le_left ha
  have hbits : k.bits = 64 := by cases k <;> simp [is64] at hk <;> rfl
  have e : ((BitVec.ofInt k.bits (Int.ofNat a)) &&& (BitVec.ofInt k.bits (Int.ofNat b))).toNat = a &&& b := by
    rw [BitVec.toNat_and]
    congr 1
    · rw [show Int.ofNat a = (a : Int) from rfl, BitVec.ofInt_natCast, BitVec.toNat_ofNat, hbits]; omega
    · rw [show Int.ofNat b = (b : Int) from rfl, BitVec.ofInt_natCast, BitVec.toNat_ofNat, hbits]; omega
  simp only [Op.intBits, Sem.run_pure, e]
  rw [wrap_small k hk _ hl]
  rfl

theorem lor_ok (k : IntKind) (hk : is64 k = true) (a b : Nat) (ha : a < 9223372036854775808) (hb : b < 9223372036854775808) :
    (Op.intBits .or k (.ofNat a) (.ofNat b)).run P w = .ok (.int k (.ofNat (Nat.lor a b))) w := by
  have hl : a ||| b < 9223372036854775808 := by
    have := @Nat.or_lt_two_pow a b 63 (by omega) (by omega)
    omega
  have hbits : k.bits = 64 := by cases k <;> simp [is64] at hk <;> rfl
  have e : ((BitVec.ofInt k.bits (Int.ofNat a)) ||| (BitVec.ofInt k.bits (Int.ofNat b))).toNat = a ||| b := by
    rw [BitVec.toNat_or]
    congr 1
    · rw [show Int.ofNat a = (a : Int) from rfl, BitVec.ofInt_natCast, BitVec.toNat_ofNat, hbits]; omega
    · rw [show Int.ofNat b = (b : Int) from rfl, BitVec.ofInt_natCast, BitVec.toNat_ofNat, hbits]; omega
  simp only [Op.intBits, Sem.run_pure, e]
  rw [wrap_small k hk _ hl]
  rfl

theorem evBinInt_ok {op : BinOp} {k : IntKind} {a b : Int} {r : AV} (t : Nat) (h : evBinInt op k a b = some r) :
    ∃ v, (binOp op t (.int k a) (.int k b)).run P w = .ok v w ∧ VR c r v := by
  cases op <;> simp only [evBinInt] at h <;> try cases h
  case add => exact ⟨.int k (k.wrap (a + b)), by simp only [binOp, ne_eq, not_true_eq_false, if_false, Op.intArith, Sem.run_pure], by rw [wrapI_eq]; exact .int _ _⟩
  case sub => exact ⟨.int k (k.wrap (a - b)), by simp only [binOp, ne_eq, not_true_eq_false, if_false, Op.intArith, Sem.run_pure], by rw [wrapI_eq]; exact .int _ _⟩
  case mul => exact ⟨.int k (k.wrap (a * b)), by simp only [binOp, ne_eq, not_true_eq_false, if_false, Op.intArith, Sem.run_pure], by rw [wrapI_eq]; exact .int _ _⟩
  case quo =>
    split at h
    · cases h
    · rename_i hz
      cases h
      rw [eqI_eq] at hz
      have hz : ¬ b = 0 := by simpa using hz
      exact ⟨.int k (k.wrap (a.tdiv b)), by simp only [binOp, ne_eq, not_true_eq_false, if_false, Op.intDiv, hz, Sem.run_pure], by rw [wrapI_eq]; exact .int _ _⟩
  case rem =>
    split at h
    · cases h
    · rename_i hz
      cases h
      rw [eqI_eq] at hz
      have hz : ¬ b = 0 := by simpa using hz
      exact ⟨.int k (a.tmod b), by simp only [binOp, ne_eq, not_true_eq_false, if_false, Op.intDiv, hz, Sem.run_pure], .int _ _⟩
  case and =>
    split at h
    · rename_i hk
      split at h
      · rename_i ha hb
        cases h
        rw [Nat.blt_eq] at ha hb
        exact ⟨_, by simp only [binOp, ne_eq, not_true_eq_false, if_false]; exact land_ok w k hk _ _ ha hb, .int _ _⟩
      · cases h
    · cases h
  case or =>
    split at h
    · rename_i hk
      split at h
      · rename_i ha hb
        cases h
        rw [Nat.blt_eq] at ha hb
        exact ⟨_, by simp only [binOp, ne_eq, not_true_eq_false, if_false]; exact lor_ok w k hk _ _ ha hb, .int _ _⟩
      · cases h
    · cases h
  all_goals
    refine ⟨_, by simp only [binOp, ne_eq, not_true_eq_false, if_false, Op.intCmp, Sem.run_pure]; rfl, ?_⟩
    simp only [eqI_eq, leI_eq]
    first
      | exact .bool _
      | (have e : ∀ x y : Int, (!decide (x ≤ y)) = decide (y < x) := fun x y => by by_cases h : x ≤ y <;> simp [h] <;> omega
         rw [e]; exact .bool _)

theorem evShift_ok {op : BinOp} {k k' : IntKind} {a b : Int} {r : AV} (t : Nat) (h : evShift op k a b = some r) :
    ∃ v, (binOp op t (.int k a) (.int k' b)).run P w = .ok v w ∧ VR c r v := by
  unfold evShift at h
  split at h
  · rename_i n hk
    split at h
    · rename_i hn
      cases h
      rw [Nat.blt_eq] at hn
      have hbits : k.bits = 64 := by cases k <;> simp [is64] at hk <;> rfl
      refine ⟨_, ?_, by rw [wrapI_eq]; exact .int _ _⟩
      simp only [binOp, Op.shift]
      rw [if_neg (by simp)]
      simp [hbits, show min n 64 = n by omega]
    · cases h
  · rename_i a n hk
    split at h
    · rename_i hn
      cases h
      rw [Nat.blt_eq] at hn
      have hbits : k.bits = 64 := by cases k <;> simp [is64] at hk <;> rfl
      refine ⟨_, ?_, .int _ _⟩
      simp only [binOp, Op.shift]
      rw [if_neg (by simp)]
      simp only [hbits, Sem.run_pure]
      rw [show min (Int.ofNat n).toNat 64 = n by simp; omega]
      have e : (2 : Int) ^ n = ((2 ^ n : Nat) : Int) := by simp
      rw [e, Int.fdiv_eq_ediv_of_nonneg _ (Int.natCast_nonneg _)]
      rfl
    · cases h
  · cases h

theorem eqGuard_const (op : BinOp) (t : Nat) (x y : Operand) (h : (isCst x || isCst y) = true) : (eqGuard op t x y .nilIface .nilIface).run P w = .ok () w := by
  cases op <;> cases x <;> cases y <;> first | (simp [isCst] at h; done) | simp [eqGuard]

def eqPlain : Value → Value → Bool
  | .int .., .int .. | .float .., .float .. | .complex .., .complex .. | .string .., .string .. | .nilIface, .nilIface => false
  | _, _ => true

theorem binOp_eql (t : Nat) (va vb : Value) (h : eqPlain va vb = true) : binOp .eql t va vb = (do pure (.bool (← Op.equal t va vb))) := by
  cases va <;> cases vb <;> first | rfl | cases h
theorem binOp_neq (t : Nat) (va vb : Value) (h : eqPlain va vb = true) : binOp .neq t va vb = (do pure (.bool (!(← Op.equal t va vb)))) := by
  cases va <;> cases vb <;> first | rfl | cases h
theorem eqGuard_plain (op : BinOp) (t : Nat) (x y : Operand) (va vb : Value) (h : eqPlain va vb = true) (hg : (∃ xs ys, va = .agg xs ∧ vb = .agg ys) → P.eqGuardType P.depth t = false) : (eqGuard op t x y va vb).run P w = .ok () w := by
  unfold eqGuard
  split <;> simp only [Bool.not_true, Bool.not_false, Bool.false_eq_true, if_true, if_false]
  all_goals first
    | rfl
    | (split
       · cases h
       · have := hg ⟨_, _, rfl, rfl⟩
         simp [this]
       · rfl)

include HE in
theorem evEq_agg {f t : Nat} {xs ys : List AV} {z : Bool} (h : evEq E (f + 1) t (.agg xs) (.agg ys) = some z) : P.eqGuardType P.depth t = false := by
  unfold evEq eqStep at h
  split at h
  · cases h
  · rename_i ti hti
    have hT := HE.ty _ _ hti
    split at h <;> try contradiction
    · split at h
      · rename_i hc; exact (hT.cmp hc).1
      · cases h
    · split at h
      · rename_i hc _; exact (hT.cmp hc).1
      · cases h

theorem equalIn_nilIface (d t : Nat) (ms : Array (String × TypeId)) (hD : P.underlying t = some (.interface ms)) : (Op.equalIn (d + 1) t .nilIface .nilIface).run P w = .ok true w := by
  simp only [Op.equalIn, Sem.run_bind, run_underlying hD, Result.andThen_ok, Sem.run_pure]

set_option maxHeartbeats 1000000 in
include HE in
theorem evBin_ok {op : BinOp} {t : Nat} {x y : Operand} {a b r : AV} {va vb : Value} (ha : VR c a va) (hb : VR c b vb) (h : evBin E (isCst x || isCst y) op t a b = some r) :
    ∃ v, (do eqGuard op t x y va vb; binOp op t va vb : Sem Value).run P w = .ok v w ∧ VR c r v := by
  unfold evBin at h
  split at h
  · cases ha
    cases hb
    split at h
    · rename_i ti hcst hti
      obtain ⟨D, hD, hk⟩ := (HE.ty _ _ hti).desc
      have hg := eqGuard_const (P := P) w op t x y hcst
      split at h
      · rename_i e hd
        rw [hd] at hk
        cases D <;> simp only [TDok] at hk
        cases h
        refine ⟨.bool true, ?_, .bool _⟩
        have he : (Op.equal t .nilIface .nilIface).run P w = .ok true w := equalIn_nilIface w 9999 t _ hD
        have hb : binOp .eql t .nilIface .nilIface = (do pure (.bool (← Op.equal t .nilIface .nilIface))) := rfl
        simp only [Sem.run_bind, hg, Result.andThen_ok, hb, he, Sem.run_pure]
      · rename_i e hd
        rw [hd] at hk
        cases D <;> simp only [TDok] at hk
        cases h
        refine ⟨.bool false, ?_, .bool _⟩
        have he : (Op.equal t .nilIface .nilIface).run P w = .ok true w := equalIn_nilIface w 9999 t _ hD
        have hb : binOp .neq t .nilIface .nilIface = (do pure (.bool (!(← Op.equal t .nilIface .nilIface)))) := rfl
        simp only [Sem.run_bind, hg, Result.andThen_ok, hb, he, Sem.run_pure, Bool.not_true]
      · cases h
    · cases h
  · rename_i k a k' b
    cases ha
    cases hb
    have hg : (eqGuard op t x y (.int k a) (.int k' b)).run P w = .ok () w := by
      unfold eqGuard
      cases op <;> simp
    simp only [Sem.run_bind, hg, Result.andThen_ok]
    split at h
    · exact evShift_ok w t h
    · exact evShift_ok w t h
    · split at h
      · rename_i hkk
        rw [← kindEq_eq hkk]
        exact evBinInt_ok w t h
      · cases h
  · cases ha
    cases hb
    rename_i a b
    have hg : (eqGuard op t x y (.string a) (.string b)).run P w = .ok () w := by
      unfold eqGuard
      cases op <;> simp
    simp only [Sem.run_bind, hg, Result.andThen_ok]
    obtain ⟨v, h1, h2⟩ := evBinStr_ok (P := P) (c := c) w h
    exact ⟨v, by rw [← h1]; cases op <;> rfl, h2⟩
  · rename_i h1 h2 h3
    have hp : eqPlain va vb = true := by
      cases ha <;> cases hb <;> first | rfl | exact (h1 rfl rfl).elim | exact (h2 _ _ _ _ rfl rfl).elim | exact (h3 _ _ rfl rfl).elim
    have key : ∀ z, evEq E 20 t a b = some z → (eqGuard op t x y va vb).run P w = .ok () w ∧ (Op.equal t va vb).run P w = .ok z w := fun z hz => by
      refine ⟨eqGuard_plain w op t x y va vb hp ?_, evEq_ok HE w 20 10000 t a b va vb z (by decide) ha hb hz⟩
      rintro ⟨xs, ys, rfl, rfl⟩
      cases ha
      cases hb
      exact evEq_agg HE hz
    split at h
    · cases hz : evEq E 20 t a b with
      | none => rw [hz] at h; cases h
      | some z =>
        rw [hz] at h
        cases h
        obtain ⟨k1, k2⟩ := key z hz
        exact ⟨.bool z, by rw [binOp_eql t va vb hp]; simp only [Sem.run_bind, k1, k2, Result.andThen_ok, Sem.run_pure], .bool _⟩
    · cases hz : evEq E 20 t a b with
      | none => rw [hz] at h; cases h
      | some z =>
        rw [hz] at h
        cases h
        obtain ⟨k1, k2⟩ := key z hz
        exact ⟨.bool (!z), by rw [binOp_neq t va vb hp]; simp only [Sem.run_bind, k1, k2, Result.andThen_ok, Sem.run_pure], .bool _⟩
    · cases h

end
end Ev
end Go.Proofs.YtfmnoohkllmbmaaGreatDoor
