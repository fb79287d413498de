/- All: what waits, the longest first; the queue is as it was. -/
import Derived.Test.YtadmacplpmahaaaIac
set_option linter.unusedVariables false
set_option linter.unusedSimpArgs false
namespace Go.Proofs.Ytadmacplpmahaaa
open Go.RowKit

def AllQ (w : World) (B h c cap : Nat) (xs : List Int) (e : Ending) (w' : World) : Prop :=
  ∃ v, e = .returned v ∧ OwnN w' w.heap.size v xs ∧ QAt w' B h c cap xs ∧ Only c B w w'
theorem rot_get {xs : List Int} {k : Nat} (hk : k < xs.length) : xs.drop k ++ xs.take k = xs[k] :: (xs.drop (k + 1) ++ xs.take k) := by
  rw [List.drop_eq_getElem_cons hk, List.cons_append]
theorem rot_put {xs : List Int} {k : Nat} (hk : k < xs.length) : xs.drop (k + 1) ++ xs.take k ++ [xs[k]] = xs.drop (k + 1) ++ xs.take (k + 1) := by
  rw [List.append_assoc, List.take_succ_eq_append_getElem hk]

set_option maxRecDepth 100000 in
set_option maxHeartbeats 1000000 in
theorem all_any {w : World} {B h c cap : Nat} {xs : List Int} (X : QAt w B h c cap xs) (hB : B ≤ w.heap.size) : Calls Try.prog 13 #[.pointer (some ⟨h, 0, none⟩)] w (AllQ w B h c cap xs) := by
  have HL := Lib.hid (len_any X)
  have HX := Lib.hid X
  have HCLT := Lib.hid (show h < w.heap.size ∧ c < w.heap.size from ⟨X.hlt, X.clt⟩)
  have hn4 : xs.length ≤ 4 := Nat.le_trans X.fit X.hi
  obtain ⟨n, hn⟩ : ∃ n, n = xs.length := ⟨_, rfl⟩
  rw [← hn] at HL hn4
  have HN := Lib.hid hn
  have HFIT := Lib.hid (show xs.length ≤ cap from X.fit)
  have HBB := Lib.hid hB
  clear hn X hB
  go_enter Try.func13, Try.ntmps13
  go_wp2_with fail
  refine HL.out.mono ?_
  rintro e w1 ⟨rfl, rfl⟩
  go_wp2_with fail
  go_loopw [8, 3] (fun i a wr => ∃ k : Nat, k ≤ n ∧ i = .int .i64 (k : Nat) ∧ Hid (OwnN wr w.heap.size a (xs.take k)) ∧ Hid (QAt wr B h c cap (xs.drop k ++ xs.take k)) ∧ Hid (Only c B w wr)) (fun i _ _ => n - (intOf i).toNat)
  case atStart => exact ⟨0, Nat.zero_le _, rfl, Lib.hid (OwnN.nil _ _), Lib.hid (by simpa using HX.out), Lib.hid (only_refl _ _ _)⟩
  case round =>
    obtain ⟨wo, rfl⟩ : ∃ wo : World, wo = wr := ⟨_, rfl⟩
    obtain ⟨k, hk, rfl, HO, HQ, HC⟩ := hrel
    by_cases hlt : k < n
    · have hke : k < xs.length := by rw [← HN.out]; exact hlt
      have HG := get_any HQ.out
      rw [rot_get hke] at HG
      unfold GetQ at HG
      dsimp only [getM] at HG
      have HG := Lib.hid HG
      go_wp2_with fail
      refine HG.out.mono ?_
      rintro e w2 ⟨rfl, X2, C2⟩
      have HP := put_any X2 xs[k]
      unfold PutQ putM at HP
      rw [if_pos (show (xs.drop (k + 1) ++ xs.take k).length < cap by have := HFIT.out; simp; omega)] at HP
      dsimp only at HP
      rw [rot_put hke] at HP
      have HO2 := Lib.hid (HO.out.chg C2 (fun b hb e => (HO.out.apart HQ.out).2 (by rw [hb]; exact e.symm)))
      have HQ2 := Lib.hid X2
      have HC2 := Lib.hid (HC.out.trans C2)
      have HP := Lib.hid HP
      obtain ⟨x, hx⟩ : ∃ x, x = xs[k] := ⟨_, rfl⟩
      have HXK := Lib.hid hx
      rw [← hx] at HP
      rw [← hx]
      clear X2 C2 HG HO HQ HC hx
      go_wp2_with fail
      refine HP.out.mono ?_
      rintro e w3 ⟨rfl, X3, C3⟩
      have HO3 := Lib.hid (HO2.out.chg C3 (fun b hb e => (HO2.out.apart HQ2.out).2 (by rw [hb]; exact e.symm)))
      have HQ3 := Lib.hid X3
      have HC3 := Lib.hid (HC2.out.trans C3)
      have hsz : w.heap.size ≤ w3.heap.size := HC3.out.size
      have HLEN := Lib.hid (show (xs.take k).length ≤ 1000000 by simp; omega)
      clear X3 C3 HO2 HQ2 HC2 HP
      go_wp2_with (first | (at_builtin; go_loud (refine wpList_app rfl _ _ rfl w.heap.size _ (xs.take k) rfl (w := w3) x rfl HO3.out HLEN.out 1 rfl hsz ?_; go_loud (intro v4 w4 o4 c4 n4))))
      have HC4 : Hid (Only c B w w4) := Lib.hid ⟨Nat.le_trans HC3.out.size c4.size, fun b hb hne => (c4.blk b (Nat.lt_of_lt_of_le hb hsz) (fun e => by have := (HO3.out.lt e).1; omega)).trans (HC3.out.blk b hb hne), HC3.out.bel.trans (c4.bel.mono HBB.out)⟩
      go_roundw
      case rel => exact ⟨k + 1, by omega, by go_num, Lib.hid (by rw [List.take_succ_eq_append_getElem hke, ← HXK.out]; exact o4), Lib.hid (HQ3.out.chg c4 (HO3.out.apart HQ3.out).1 (HO3.out.apart HQ3.out).2),
        HC4⟩
      case measure => simp [intOf]; omega
    · obtain rfl : k = n := by omega
      have HR := Lib.hid (show xs.take k = xs ∧ xs.drop k ++ xs.take k = xs from by rw [HN.out]; simp)
      go_wp2
      go_ret
      exact ⟨_, rfl, by rw [← HR.out.1]; exact HO.out, by rw [← HR.out.2]; exact HQ.out, HC.out⟩

end Go.Proofs.Ytadmacplpmahaaa
