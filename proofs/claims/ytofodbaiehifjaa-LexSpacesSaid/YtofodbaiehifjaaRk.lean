/- The walk of the document's sign. -/
import Derived.Test.YtofodbaiehifjaaRj
import Derived.Test.YtofodbaiehifjaaRh
set_option linter.unusedVariables false
namespace Go.Proofs.Ytofodbaiehifjaa
open Go.RowKit

theorem two_of {l : List UInt8} (h : 2 ≤ l.length) (p : List UInt8) (hp : p.length = 2) : Lib.hasPrefix l p = (l.take 2 == p) := by
  rw [← Lib.hasPrefix_of_take, hp, decide_eq_true h]
  rfl
theorem two_one (c : UInt8) : twoB [c] = false := by
  unfold twoB
  simp [List.isPrefixOf]
theorem signs_in {c : UInt8} {k : Nat} (h : k < signsL.length) (he : signsL[k] = c) : signsL.contains c = true := by
  rw [List.contains_iff_mem, ← he]
  exact List.getElem_mem h
theorem signs_out {c : UInt8} (h : ∀ (j : Nat) (hj : j < signsL.length), signsL[j] ≠ c) : signsL.contains c = false := by
  rw [Bool.eq_false_iff]
  intro hc
  rw [List.contains_iff_mem] at hc
  obtain ⟨j, hj, he⟩ := List.getElem_of_mem hc
  exact h j hj he
def SignPost (w : World) (n : Nat) (e : Ending) (w' : World) : Prop := e = .returned (.int .i64 (n : Nat)) ∧ Drawn w w'

set_option maxHeartbeats 400000 in
theorem sign_any (s : ByteArray) (a : Nat) (w : World) (hs : s.size ≤ 40000) (ha : a < s.size) : Calls Try.prog 23 #[.string s, .int .i64 a] w (SignPost w (signLen (s.data.toList.drop a))) := by
  have hl : a < s.data.toList.length := by rw [← size_len]; exact ha
  have hd := drop_at hl
  have hg : s.data.toList[a] = s[a] := rfl
  rw [hg] at hd
  obtain ⟨b, hb⟩ : ∃ b, b = twoB (s.data.toList.drop a) := ⟨_, rfl⟩
  have hsl : signLen (s.data.toList.drop a) = if b then 2 else if signsL.contains s[a] then 1 else 0 := by
    rw [hb, hd, signLen_cons]
  obtain ⟨T, hT⟩ : ∃ T, T = (if a + 1 < s.size then s.extract a (a + 2) else ⟨#[]⟩) := ⟨_, rfl⟩
  have hTb : b = (T.toList == [60, 61] || T.toList == [61, 61] || T.toList == [33, 61]) := by
    by_cases h1 : a + 1 < s.size
    · rw [if_pos h1] at hT
      have hlen : 2 ≤ (s.data.toList.drop a).length := by rw [List.length_drop, ← size_len]; omega
      rw [hb, twoB_eq, two_of hlen _ rfl, two_of hlen _ rfl, two_of hlen _ rfl, hT, Lib.extract_toList, show a + 2 - a = 2 from by omega]
    · rw [if_neg h1] at hT
      have h2 : s.data.toList.drop (a + 1) = [] := List.drop_of_length_le (by rw [← size_len]; omega)
      rw [hb, hd, h2, two_one, hT, Lib.toList_data]
      rfl
  have HSL := Lib.hid hsl
  have HTB := Lib.hid hTb
  have HT := Lib.hid hT
  clear hb hsl hTb hT hd hg
  by_cases h1 : a + 1 < s.size
  · have hT2 : s.extract a (a + 2) = T := by rw [HT.out, if_pos h1]
    by_cases q1 : T.toList = [60, 61]
    · obtain rfl : b = true := by rw [HTB.out, q1]; rfl
      go_enter Try.func23, Try.ntmps23
      go_wp2
      go_ret
      exact ⟨by rw [HSL.out]; rfl, Drawn.refl w⟩
    by_cases q2 : T.toList = [61, 61]
    · obtain rfl : b = true := by rw [HTB.out, q2]; rfl
      go_enter Try.func23, Try.ntmps23
      go_wp2
      go_ret
      exact ⟨by rw [HSL.out]; rfl, Drawn.refl w⟩
    by_cases q3 : T.toList = [33, 61]
    · obtain rfl : b = true := by rw [HTB.out, q3]; rfl
      go_enter Try.func23, Try.ntmps23
      go_wp2
      go_ret
      exact ⟨by rw [HSL.out]; rfl, Drawn.refl w⟩
    have r1 : (T.toList == [60, 61]) = false := by simpa using q1
    have r2 : (T.toList == [61, 61]) = false := by simpa using q2
    have r3 : (T.toList == [33, 61]) = false := by simpa using q3
    obtain rfl : b = false := by rw [HTB.out, r1, r2, r3]; rfl
    go_enter Try.func23, Try.ntmps23
    go_wp2
    obtain ⟨al, hal⟩ : ∃ al : ByteArray, al = ⟨#[123, 125, 40, 41, 91, 93, 44, 59, 46, 58, 61, 43, 45, 42, 47, 37, 60, 33, 38, 124]⟩ := ⟨_, rfl⟩
    rw [← hal]
    have hall : al.size = 20 := by rw [hal]; rfl
    have hald : al.data.toList = signsL := by rw [hal]; rfl
    have HAD := Lib.hid hald
    have HAL := Lib.hid hall
    clear hal hald hall
    go_loopw [7] (fun i wr => ∃ k : Nat, k ≤ 20 ∧ i = .int .i64 k ∧ Drawn w wr ∧ Hid (∀ (j : Nat) (hj : j < signsL.length), j < k → signsL[j] ≠ s[a])) (fun i _ => 20 - (intOf i).toNat)
    case atStart => exact ⟨0, Nat.zero_le _, rfl, Drawn.refl w, Lib.hid (fun j hj h => absurd h (by omega))⟩
    case round =>
      obtain ⟨k, hk, rfl, hq, HN⟩ := hrel
      by_cases hlt : k < 20
      · have hka : k < al.size := by rw [HAL.out]; exact hlt
        have hks : k < signsL.length := hlt
        have hak : al[k] = signsL[k] := by
          have e1 : al[k] = al.data.toList[k]'(by rw [HAD.out]; exact hks) := rfl
          rw [e1]
          simp only [HAD.out]
        have HAK := Lib.hid hak
        clear hak
        by_cases he : al[k] = s[a]
        · have he1 : ((al[k].toNat : Int) == (s[a].toNat : Int)) = true := by rw [he]; simp
          have HE := Lib.hid he
          clear he
          go_wp2
          go_region
          all_goals
            go_wp2
            go_ret
            refine ⟨?_, hq.drew⟩
            rw [HSL.out, signs_in hks (HAK.out.symm.trans HE.out)]
            rfl
        · have he1 : ((al[k].toNat : Int) == (s[a].toNat : Int)) = false := by
            rw [beq_eq_false_iff_ne]
            intro h
            exact he (UInt8.toNat_inj.1 (Int.ofNat.inj h))
          have HE := Lib.hid he
          clear he
          go_wp2
          go_region
          all_goals
            go_wp2
            go_roundw
            case rel => exact ⟨k + 1, by omega, by go_num, hq.drew, Lib.hid (fun j hj h => by
              by_cases hjk : j = k
              · subst hjk; rw [← HAK.out]; exact HE.out
              · exact HN.out j hj (by omega))⟩
            case measure => simp [intOf]; omega
      · have hlt' : ¬ k < al.size := by rw [HAL.out]; exact hlt
        go_wp2
        go_ret
        refine ⟨?_, hq⟩
        rw [HSL.out, signs_out (fun j hj => HN.out j hj (by have : j < 20 := hj; omega))]
        rfl
  · have hT2 : (⟨#[]⟩ : ByteArray) = T := by rw [HT.out, if_neg h1]
    obtain rfl : b = false := by rw [HTB.out, ← hT2, Lib.toList_data]; rfl
    clear hT2
    go_enter Try.func23, Try.ntmps23
    go_wp2
    obtain ⟨al, hal⟩ : ∃ al : ByteArray, al = ⟨#[123, 125, 40, 41, 91, 93, 44, 59, 46, 58, 61, 43, 45, 42, 47, 37, 60, 33, 38, 124]⟩ := ⟨_, rfl⟩
    rw [← hal]
    have hall : al.size = 20 := by rw [hal]; rfl
    have hald : al.data.toList = signsL := by rw [hal]; rfl
    have HAD := Lib.hid hald
    have HAL := Lib.hid hall
    clear hal hald hall
    go_loopw [7] (fun i wr => ∃ k : Nat, k ≤ 20 ∧ i = .int .i64 k ∧ Drawn w wr ∧ Hid (∀ (j : Nat) (hj : j < signsL.length), j < k → signsL[j] ≠ s[a])) (fun i _ => 20 - (intOf i).toNat)
    case atStart => exact ⟨0, Nat.zero_le _, rfl, Drawn.refl w, Lib.hid (fun j hj h => absurd h (by omega))⟩
    case round =>
      obtain ⟨k, hk, rfl, hq, HN⟩ := hrel
      by_cases hlt : k < 20
      · have hka : k < al.size := by rw [HAL.out]; exact hlt
        have hks : k < signsL.length := hlt
        have hak : al[k] = signsL[k] := by
          have e1 : al[k] = al.data.toList[k]'(by rw [HAD.out]; exact hks) := rfl
          rw [e1]
          simp only [HAD.out]
        have HAK := Lib.hid hak
        clear hak
        by_cases he : al[k] = s[a]
        · have he1 : ((al[k].toNat : Int) == (s[a].toNat : Int)) = true := by rw [he]; simp
          have HE := Lib.hid he
          clear he
          go_wp2
          go_region
          all_goals
            go_wp2
            go_ret
            refine ⟨?_, hq.drew⟩
            rw [HSL.out, signs_in hks (HAK.out.symm.trans HE.out)]
            rfl
        · have he1 : ((al[k].toNat : Int) == (s[a].toNat : Int)) = false := by
            rw [beq_eq_false_iff_ne]
            intro h
            exact he (UInt8.toNat_inj.1 (Int.ofNat.inj h))
          have HE := Lib.hid he
          clear he
          go_wp2
          go_region
          all_goals
            go_wp2
            go_roundw
            case rel => exact ⟨k + 1, by omega, by go_num, hq.drew, Lib.hid (fun j hj h => by
              by_cases hjk : j = k
              · subst hjk; rw [← HAK.out]; exact HE.out
              · exact HN.out j hj (by omega))⟩
            case measure => simp [intOf]; omega
      · have hlt' : ¬ k < al.size := by rw [HAL.out]; exact hlt
        go_wp2
        go_ret
        refine ⟨?_, hq⟩
        rw [HSL.out, signs_out (fun j hj => HN.out j hj (by have : j < 20 := hj; omega))]
        rfl

end Go.Proofs.Ytofodbaiehifjaa
