/- The walk of Tokens. -/
import Derived.Test.YtofodbaiehifjaaRe
set_option linter.unusedVariables false
namespace Go.Proofs.Ytofodbaiehifjaa
open Go.RowKit

def TokPost (w : World) (r : Res) (e : Ending) (w' : World) : Prop := Below w.heap.size w w' ∧ match r with
  | .ok l => l.length ≤ 4096 ∧ ∃ v, e = .returned (.tuple #[v, .int .i64 0, .int .i64 0]) ∧ OwnToks w' w.heap.size v l
  | .err p c => e = .returned (.tuple #[.slice none 0 0, .int .i64 (p : Nat), .int .i64 (c : Nat)])
theorem toks_long {l : List UInt8} (h : 16384 < l.length) : toks l = .err 0 12 := if_pos h
theorem toks_fit {l : List UInt8} (h : ¬ 16384 < l.length) : toks l = sc l 0 0 0 := if_neg h

set_option maxHeartbeats 1000000 in
set_option maxRecDepth 100000 in
theorem tokens_any (s : ByteArray) (w : World) (hs : s.size ≤ 40000) : Calls Try.prog 10 #[.string s] w (TokPost w (toks s.data.toList)) := by
  have HS := Lib.hid (size_len s)
  by_cases hlong : 16384 < s.size
  · go_enter Try.func10, Try.ntmps10
    go_wp2
    go_ret3
    rw [toks_long (by rw [← HS.out]; exact hlong)]
    exact ⟨Below.refl _ _, rfl⟩
  · obtain ⟨B, hB⟩ : ∃ B, B = w.heap.size := ⟨_, rfl⟩
    have HT := Lib.hid (toks_fit (by rw [← HS.out]; exact hlong))
    have HB := Lib.hid hB
    clear hB
    go_enter Try.func10, Try.ntmps10
    go_wp2
    go_loopw [6, 5] (fun i v wr => ∃ (a : Nat) (acc : List Tok), a ≤ s.size ∧ acc.length ≤ 4096 ∧ i = .int .i64 a ∧ Hid (OwnToks wr B v acc) ∧ Hid (Below B w wr) ∧ B ≤ wr.heap.size ∧ Hid (St s.data.toList a acc)) (fun i _ _ => s.size - (intOf i).toNat)
    case atStart => exact ⟨0, [], Nat.zero_le _, Nat.zero_le _, rfl, Lib.hid (OwnToks.nil _ _), Lib.hid (Below.refl _ _), by have := HB.out; omega, Lib.hid (St.start _)⟩
    case round =>
      obtain ⟨wo, rfl⟩ : ∃ wo : World, wo = wr := ⟨_, rfl⟩
      obtain ⟨a, acc, ha, hacc, rfl, HO, HBel, hsr, HSt⟩ := hrel
      by_cases hlt : a < s.size
      · have hl : a < s.data.toList.length := by rw [← HS.out]; exact hlt
        have hg : s.data.toList[a] = s[a] := rfl
        by_cases hb : blankB s[a] = true
        · have HN := Lib.hid (HSt.out.blank hl (hg ▸ hb))
          clear hg
          go_wp2_with (first | (go_at_call 17; refine (isBlank_any _ _).mono ?_; rintro e w' ⟨rfl, rfl⟩))
          go_roundw
          case rel => exact ⟨a + 1, acc, by omega, hacc, by go_num, HO, HBel, hsr, HN⟩
          case measure => simp [intOf]; omega
        · have hb' : blankB s[a] = false := by simpa using hb
          clear hb
          obtain ⟨k, hk⟩ : ∃ k, k = (firstOf (s.data.toList.drop a)).1 := ⟨_, rfl⟩
          obtain ⟨z, hz⟩ : ∃ z, z = (firstOf (s.data.toList.drop a)).2 := ⟨_, rfl⟩
          have hzl : a + z ≤ s.size := by
            have := firstOf_le (s.data.toList.drop a)
            rw [List.length_drop, ← HS.out, ← hz] at this
            omega
          have hk4 : k ≤ 4 := by rw [hk]; exact firstOf_kind _
          have c1 : ∀ w, Calls Try.prog 18 #[.string (s.extract a s.size)] w fun e w' => e = .returned (.tuple #[.int .i64 (k : Nat), .int .i64 (z : Nat)]) ∧ Below w.heap.size w w' := fun w => by
            have h := first_any (s.extract a s.size) w (by have := Lib.size_eq (s.extract a s.size); rw [Lib.extract_data] at this; rw [this]; simp; omega)
            rw [Lib.extract_data, List.take_of_length_le (by rw [List.length_drop, ← HS.out]; exact Nat.le_refl _)] at h
            unfold firstV at h
            rw [← hk, ← hz] at h
            exact h
          obtain ⟨tx, htx⟩ : ∃ tx, tx = (s.data.toList.drop a).take z := ⟨_, rfl⟩
          obtain ⟨er, her⟩ : ∃ er, er = wrongOf k tx acc.length := ⟨_, rfl⟩
          have hsz : (strOf tx).size = z := by rw [Lib.size_eq, strOf_data, htx, List.length_take, List.length_drop, ← HS.out]; omega
          have c2 : ∀ w, Calls Try.prog 19 #[.int .i64 (k : Nat), .string (strOf tx), .int .i64 acc.length] w fun e w' => e = .returned (.int .i64 (er : Nat)) ∧ w = w' := fun w => by
            have h := wrong_any k (strOf tx) acc.length w hk4 (by omega) (by omega)
            rw [strOf_data, ← her] at h
            exact h
          have hex : s.extract a (a + z) = strOf tx := by rw [extract_str, htx]; congr 2; omega
          obtain ⟨A, c, rfl, hc1, hc2, hT⟩ := HO.out.toks
          unfold maxLen at hc2
          have HG := Lib.hid hg
          have HK := Lib.hid hk
          have HZ := Lib.hid hz
          have HTX := Lib.hid htx
          have HER := Lib.hid her
          have HSZ := Lib.hid hsz
          clear hg hk hz htx her hsz hT
          by_cases he : er = 0
          · have he' : ((er : Int) == 0) = true := by simp [he]
            have he2 : ((er : Int) != 0) = false := by simp [he]
            have HN : Hid (St s.data.toList (a + z) (acc ++ [⟨k, tx, a⟩]) ∧ 0 < z) := Lib.hid (by
              have h := HSt.out.tok hl (HG.out ▸ hb') (by rw [← HK.out, ← HZ.out, ← HTX.out, ← HER.out]; exact he)
              rw [← HK.out, ← HZ.out, ← HTX.out] at h
              exact h)
            have HE := Lib.hid he
            clear he
            go_wp2_with (first
              | (go_at_call 17; refine (isBlank_any _ _).mono ?_; rintro e w' ⟨rfl, rfl⟩)
              | (go_at_call 18; refine (c1 _).mono ?_; rintro e w1 ⟨rfl, hb1⟩)
              | (go_at_call 19; refine (c2 _).mono ?_; rintro e w' ⟨rfl, rfl⟩)
              | (go_at_call 20; refine (clone_any _ _ (by have := HSZ.out; omega)).mono ?_; rintro e w2 ⟨rfl, hb2⟩; have hs1 : wo.heap.size ≤ w1.heap.size := hb1.size; have hs2 : w1.heap.size ≤ w2.heap.size := hb2.size; have HO2 := Lib.hid ((HO.out.below hb1).below hb2); have hb12 := hb1.trans (hb2.mono hs1); have HB2 := Lib.hid (HBel.out.trans (hb12.mono hsr)); clear hb1 hb2 hb12)
              | (at_builtin; refine wpList_append_tok rfl _ _ rfl B _ acc rfl (HO2.out.alloc _) ⟨w2.heap.size, 0, none⟩ 1 ⟨k, tx, a⟩ rfl (one_tok rfl) (by omega) (by simp; omega) ?_; intro v' w3 hown3 hgr))
            have hn4 := wrongOf_n (k := k) (t := tx) (n := acc.length) (by rw [← HER.out]; exact HE.out)
            have hz0 := HN.out.2
            go_roundw
            case rel =>
              have hb3 : Below B w2 w3 := ((Below.refl B w2).alloc (by omega) _).grown hgr (by simp; omega) (fun g hg => (HO2.out.lt g hg).1)
              exact ⟨a + z, acc ++ [⟨k, tx, a⟩], by omega, by simp; omega, by go_num, Lib.hid hown3, Lib.hid (HB2.out.trans hb3), by have := hb3.size; omega, Lib.hid HN.out.1⟩
            case measure => simp [intOf]; omega
          · have he' : ((er : Int) == 0) = false := by simpa using he
            have he2 : ((er : Int) != 0) = true := by simpa using he
            go_wp2_with (first
              | (go_at_call 17; refine (isBlank_any _ _).mono ?_; rintro e w' ⟨rfl, rfl⟩)
              | (go_at_call 18; refine (c1 _).mono ?_; rintro e w1 ⟨rfl, hb1⟩)
              | (go_at_call 19; refine (c2 _).mono ?_; rintro e w' ⟨rfl, rfl⟩))
            go_ret3
            rw [HT.out, HSt.out.err hl (HG.out ▸ hb') (by rw [← HK.out, ← HZ.out, ← HTX.out, ← HER.out]; exact he), ← HK.out, ← HZ.out, ← HTX.out, ← HER.out]
            exact ⟨by rw [← HB.out]; exact HBel.out.trans (hb1.mono hsr), rfl⟩
      · go_wp2
        go_ret3
        rw [HT.out, HSt.out.stop (by rw [← HS.out]; exact hlt)]
        exact ⟨by rw [← HB.out]; exact HBel.out, hacc, _, rfl, by rw [← HB.out]; exact HO.out⟩

end Go.Proofs.Ytofodbaiehifjaa
