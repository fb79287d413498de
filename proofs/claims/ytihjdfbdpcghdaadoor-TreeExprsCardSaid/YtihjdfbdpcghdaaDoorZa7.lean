/- Rh -/
import Derived.Test.YtihjdfbdpcghdaaDoorZa1
import Derived.Test.YtihjdfbdpcghdaaDoorZa9
set_option linter.unusedVariables false
set_option maxRecDepth 100000
namespace Go.Proofs.YtihjdfbdpcghdaaDoor
open Go.RowKit
theorem rsmall_any (c : UInt8) (w : World) : Calls Tryd.prog 49 #[.int .u8 c.toNat] w fun e w' => e = .returned (.bool (small c)) ∧ w = w' := by
  go_enter Tryd.func49, Tryd.ntmps49
  go_wp2
  all_goals
    go_ret
    exact ⟨ret_bool (by rw [Bool.eq_iff_iff]; simp [small]; omega), rfl⟩
theorem rdigit_any (c : UInt8) (w : World) : Calls Tryd.prog 50 #[.int .u8 c.toNat] w fun e w' => e = .returned (.bool (digit c)) ∧ w = w' := by
  go_enter Tryd.func50, Tryd.ntmps50
  go_wp2
  all_goals
    go_ret
    exact ⟨ret_bool (by rw [Bool.eq_iff_iff]; simp [digit]; omega), rfl⟩
def wordsA : Array Value := (wordsL.map fun t => Value.string (strOf t)).toArray
theorem words_cell (w : World) (k : Nat) (h : k < wordsL.length) : (w.alloc (.cells wordsA 81)).cell? ⟨w.heap.size, k, none⟩ = some (.string (strOf wordsL[k])) := by
  rw [cell_of_row _ _ k _ _ (0, 0) (heap_alloc_new w _)]
  simp [wordsA, h]
def voidA : Array Value := Array.replicate 27 (.string ⟨#[]⟩)
theorem words_in {s : ByteArray} {k : Nat} (h : k < wordsL.length) (he : wordsL[k] = s.data.toList) : isWord s.data.toList = true := by
  unfold isWord
  rw [List.contains_iff_mem, ← he]
  exact List.getElem_mem h
theorem words_out {s : ByteArray} (h : ∀ (j : Nat) (hj : j < wordsL.length), wordsL[j] ≠ s.data.toList) : isWord s.data.toList = false := by
  unfold isWord
  rw [Bool.eq_false_iff]
  intro hc
  rw [List.contains_iff_mem] at hc
  obtain ⟨j, hj, he⟩ := List.getElem_of_mem hc
  exact h j hj he
theorem rword_any (s : ByteArray) (w : World) : Calls Tryd.prog 41 #[.string s] w fun e w' => e = .returned (.bool (isWord s.data.toList)) ∧ Below w.heap.size w w' := by
  have HT := Lib.hid (Lib.toList_data s)
  have hW := words_cell w
  obtain ⟨wA, hwA⟩ : ∃ wA, wA = wordsA := ⟨_, rfl⟩
  rw [← hwA] at hW
  have hb : ∀ vs : List (Nat × Value), Tryd.prog.built 81 vs = some wordsA → Tryd.prog.built 81 vs = some wA := fun vs h => by rw [h, hwA]
  have hsz : (Tryd.prog.info? 81).map (·.size) = some wA.size := by rw [hwA]; kernel_rfl
  have hsz2 : voidA.size = wA.size := by rw [hwA]; rfl
  have hone : wA.all (·.oneCell') = true := by rw [hwA]; kernel_rfl
  obtain ⟨zA, hzA⟩ : ∃ zA, zA = voidA := ⟨_, rfl⟩
  have hz : (Tryd.prog.info? 81).map (fun i => (i.zero, i.size)) = some (some (.agg zA), 27) := by rw [hzA]; kernel_rfl
  rw [← hzA] at hsz2
  have HW := Lib.hid hW
  have HB := Lib.hid hb
  have HSZ := Lib.hid hsz
  have HZ := Lib.hid hz
  have HS2 := Lib.hid hsz2
  have HONE := Lib.hid hone
  clear hW hb hsz hz hsz2 hone hwA hzA
  go_enter Tryd.func41, Tryd.ntmps41
  go_wp2_with (first
    | (with_reducible refine wpList_build_lit rfl 81 _ rfl _ rfl wA (HB.out _ (by kernel_rfl)) ?_)
    | (with_reducible refine wpList_alloc_lit rfl 81 rfl (.agg zA) 27 HZ.out zA rfl ?_)
    | (with_reducible refine wpList_store_lit rfl 81 _ _ rfl rfl zA wA rfl HSZ.out HS2.out HONE.out ?_))
  go_loop [4] (fun i => ∃ k : Nat, k ≤ 27 ∧ i = .int .i64 k ∧ Hid (∀ (j : Nat) (hj : j < wordsL.length), j < k → wordsL[j] ≠ s.data.toList)) (fun i => 27 - (intOf i).toNat)
  case atStart => exact ⟨0, by omega, rfl, Lib.hid (fun j hj h => absurd h (by omega))⟩
  case round =>
    obtain ⟨k, hk, rfl, HN⟩ := hrel
    by_cases hlt : k < 27
    · have hkl : k < wordsL.length := hlt
      have hc := HW.out k hkl
      obtain ⟨wk, hwk⟩ : ∃ wk, wk = wordsL[k] := ⟨_, rfl⟩
      rw [← hwk] at hc
      have HWK := Lib.hid hwk
      clear hwk
      by_cases he : wk = s.data.toList
      · have h1 : ((strOf wk).toList == s.toList) = true := by rw [Lib.toList_data, Lib.toList_data, strOf_data, he]; simp
        have HE := Lib.hid he
        clear he
        go_wp2
        go_ret
        exact ⟨ret_bool (words_in hkl (HWK.out ▸ HE.out)).symm, (Below.refl _ _).alloc (Nat.le_refl _) _⟩
      · have h1 : ((strOf wk).toList == s.toList) = false := by rw [Lib.toList_data, Lib.toList_data, strOf_data, beq_eq_false_iff_ne]; exact he
        have HE := Lib.hid he
        clear he
        go_wp2
        go_round
        case rel => exact ⟨k + 1, by omega, by go_num, Lib.hid (fun j hj h => by
          by_cases hjk : j = k
          · subst hjk; rw [← HWK.out]; exact HE.out
          · exact HN.out j hj (by omega))⟩
        case measure => simp [intOf]; omega
    · go_wp2
      go_ret
      exact ⟨ret_bool (words_out (fun j hj => HN.out j hj (by have : j < 27 := hj; omega))).symm, (Below.refl _ _).alloc (Nat.le_refl _) _⟩
theorem spelled_any (s : ByteArray) (w : World) (hs : s.size ≤ 40000) : Calls Tryd.prog 40 #[.string s] w fun e w' => e = .returned (.bool (spelledB s.data.toList)) ∧ w = w' := by
  have HS := Lib.hid (size_len s)
  go_enter Tryd.func40, Tryd.ntmps40
  go_wp2
  go_loop [3] (fun i => ∃ k : Nat, k ≤ s.size ∧ i = .int .i64 k ∧ Hid (∀ (j : Nat) (hj : j < s.data.toList.length), j < k → goodB j s.data.toList[j] = true)) (fun i => s.size - (intOf i).toNat)
  case atStart => exact ⟨0, by omega, rfl, Lib.hid (fun j hj h => absurd h (by omega))⟩
  case round =>
    obtain ⟨k, hk, rfl, HN⟩ := hrel
    by_cases hlt : k < s.size
    · have hl : k < s.data.toList.length := by rw [← HS.out]; exact hlt
      have hg : s.data.toList[k] = s[k] := rfl
      have HG := Lib.hid hg
      clear hg
      have no : goodB k s[k] = false → spelledB s.data.toList = false := fun h => by
        rw [Bool.eq_false_iff]
        intro hsp
        have := ((spelled_iff _).1 hsp).2 k hl
        rw [HG.out, h] at this
        cases this
      have yes : goodB k s[k] = true → ∀ (j : Nat) (hj : j < s.data.toList.length), j < k + 1 → goodB j s.data.toList[j] = true := fun h j hj hjk => by
        by_cases e : j = k
        · subst e; rw [HG.out]; exact h
        · exact HN.out j hj (by omega)
      have NO := Lib.hid no
      have YES := Lib.hid yes
      clear no yes
      by_cases h1 : small s[k] = true
      · have HY := Lib.hid (YES.out (by simp [goodB, h1]))
        go_wp2_with (first
          | (go_at_call 49; refine (rsmall_any _ _).mono ?_; rintro e w' ⟨rfl, rfl⟩)
          | (go_at_call 50; refine (rdigit_any _ _).mono ?_; rintro e w' ⟨rfl, rfl⟩))
        go_round
        case rel => exact ⟨k + 1, by omega, by go_num, HY⟩
        case measure => simp [intOf]; omega
      · have h1' : small s[k] = false := by simpa using h1
        clear h1
        by_cases hk0 : k = 0
        · have HF := Lib.hid (NO.out (by unfold goodB; rw [h1', decide_eq_false (show ¬ 0 < k by omega)]; rfl))
          have hz : ((k : Int) == 0) = true := by rw [hk0]; rfl
          have HK0 := Lib.hid hk0
          clear hk0
          go_wp2_with (first
            | (go_at_call 49; refine (rsmall_any _ _).mono ?_; rintro e w' ⟨rfl, rfl⟩)
            | (go_at_call 50; refine (rdigit_any _ _).mono ?_; rintro e w' ⟨rfl, rfl⟩))
          go_ret
          exact ⟨ret_bool HF.out.symm, rfl⟩
        · have hz : ((k : Int) == 0) = false := by rw [beq_eq_false_iff_ne]; omega
          have hk1 : 0 < k := by omega
          clear hk0
          by_cases h2 : digit s[k] = true
          · have HY := Lib.hid (YES.out (by simp [goodB, h2, hk1]))
            go_wp2_with (first
              | (go_at_call 49; refine (rsmall_any _ _).mono ?_; rintro e w' ⟨rfl, rfl⟩)
              | (go_at_call 50; refine (rdigit_any _ _).mono ?_; rintro e w' ⟨rfl, rfl⟩))
            go_round
            case rel => exact ⟨k + 1, by omega, by go_num, HY⟩
            case measure => simp [intOf]; omega
          · have h2' : digit s[k] = false := by simpa using h2
            clear h2
            by_cases h3 : s[k].toNat = 95
            · have HY := Lib.hid (YES.out (by simp [goodB, hk1, h3]))
              have h3' : ((s[k].toNat : Int) != 95) = false := by rw [h3]; rfl
              clear h3
              go_wp2_with (first
                | (go_at_call 49; refine (rsmall_any _ _).mono ?_; rintro e w' ⟨rfl, rfl⟩)
                | (go_at_call 50; refine (rdigit_any _ _).mono ?_; rintro e w' ⟨rfl, rfl⟩))
              go_round
              case rel => exact ⟨k + 1, by omega, by go_num, HY⟩
              case measure => simp [intOf]; omega
            · have HF := Lib.hid (NO.out (by simp [goodB, h1', h2', h3]))
              have h3' : ((s[k].toNat : Int) != 95) = true := by simp; omega
              clear h3
              go_wp2_with (first
                | (go_at_call 49; refine (rsmall_any _ _).mono ?_; rintro e w' ⟨rfl, rfl⟩)
                | (go_at_call 50; refine (rdigit_any _ _).mono ?_; rintro e w' ⟨rfl, rfl⟩))
              go_ret
              exact ⟨ret_bool HF.out.symm, rfl⟩
    · go_wp2
      go_ret
      refine ⟨ret_bool ?_, rfl⟩
      rw [Bool.eq_iff_iff, spelled_iff, decide_eq_true_eq]
      have hs' := HS.out
      exact ⟨fun h => ⟨by omega, fun j hj => HN.out j hj (by omega)⟩, fun h => by have := h.1; omega⟩
theorem rname_any (s : ByteArray) (w : World) (hs : s.size ≤ 40000) : Calls Tryd.prog 22 #[.string s] w fun e w' => e = .returned (.bool (nameB s.data.toList)) ∧ Below w.heap.size w w' := by
  have HS := Lib.hid (size_len s)
  have HN := Lib.hid (name_said s.data.toList)
  obtain ⟨b1, hb1⟩ : ∃ b, b = spelledB s.data.toList := ⟨_, rfl⟩
  obtain ⟨b2, hb2⟩ : ∃ b, b = isWord s.data.toList := ⟨_, rfl⟩
  have c1 : ∀ w, Calls Tryd.prog 40 #[.string s] w fun e w' => e = .returned (.bool b1) ∧ w = w' := fun w => by rw [hb1]; exact spelled_any s w hs
  have c2 : ∀ w, Calls Tryd.prog 41 #[.string s] w fun e w' => e = .returned (.bool b2) ∧ Below w.heap.size w w' := fun w => by rw [hb2]; exact rword_any s w
  rw [← hb1, ← hb2, ← HS.out] at HN
  clear hb1 hb2
  by_cases h1 : s.size ≤ 16
  · go_enter Tryd.func22, Tryd.ntmps22
    go_wp2_with (first
      | (go_at_call 40; refine (c1 _).mono ?_; rintro e w' ⟨rfl, rfl⟩)
      | (go_at_call 41; refine (c2 _).mono ?_; rintro e w1 ⟨rfl, hb1⟩))
    all_goals go_ret
    all_goals refine ⟨ret_bool ?_, (by first | exact Below.refl _ _ | assumption)⟩
    all_goals
      rw [HN.out]
      simp_all
  · go_enter Tryd.func22, Tryd.ntmps22
    go_wp2_with (first
      | (go_at_call 40; refine (c1 _).mono ?_; rintro e w' ⟨rfl, rfl⟩)
      | (go_at_call 41; refine (c2 _).mono ?_; rintro e w1 ⟨rfl, hb1⟩))
    go_ret
    exact ⟨ret_bool (by rw [HN.out]; simp [h1]), Below.refl _ _⟩
end Go.Proofs.YtihjdfbdpcghdaaDoor
