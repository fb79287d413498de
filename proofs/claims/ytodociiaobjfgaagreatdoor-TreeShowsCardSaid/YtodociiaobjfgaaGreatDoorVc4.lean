/- Rh -/
import Derived.Test.YtodociiaobjfgaaGreatDoorVc5
set_option linter.unusedVariables false
set_option linter.unusedSimpArgs false
namespace Go.Proofs.YtodociiaobjfgaaGreatDoor
open Go.RowKit
section
set_option maxRecDepth 100000
theorem Xfh (c : UInt8) (w : World) : Calls Tryz.prog 59 #[.int .u8 c.toNat] w fun e w' => e = .returned (.bool (Xgf c)) ∧ w = w' := by
 go_enter Tryz.func59, Tryz.ntmps59
 go_wp2
 all_goals
  go_ret
  exact ⟨Xca (by rw [Bool.eq_iff_iff]; simp [Xgf]; omega), rfl⟩
theorem Xff (c : UInt8) (w : World) : Calls Tryz.prog 60 #[.int .u8 c.toNat] w fun e w' => e = .returned (.bool (Xee c)) ∧ w = w' := by
 go_enter Tryz.func60, Tryz.ntmps60
 go_wp2
 all_goals
  go_ret
  exact ⟨Xca (by rw [Bool.eq_iff_iff]; simp [Xee]; omega), rfl⟩
def Xrh : Array Value := (Xey.map fun t => Value.string (Xaa t)).toArray
theorem Xtq (w : World) (k : Nat) (h : k < Xey.length) : (w.alloc (.cells Xrh 94)).cell? ⟨w.heap.size, k, none⟩ = some (.string (Xaa Xey[k])) := by
 rw [cell_of_row _ _ k _ _ (0, 0) (heap_alloc_new w _)]
 simp [Xrh, h]
def voidA : Array Value := Array.replicate 27 (.string ⟨#[]⟩)
theorem words_in {s : ByteArray} {k : Nat} (h : k < Xey.length) (he : Xey[k] = s.data.toList) : Xfc s.data.toList = true := by
 unfold Xfc
 rw [List.contains_iff_mem, ← he]
 exact List.getElem_mem h
theorem Xxm {s : ByteArray} (h : ∀ (j : Nat) (hj : j < Xey.length), Xey[j] ≠ s.data.toList) : Xfc s.data.toList = false := by
 unfold Xfc
 rw [Bool.eq_false_iff]
 intro hc
 rw [List.contains_iff_mem] at hc
 obtain ⟨j, hj, he⟩ := List.getElem_of_mem hc
 exact h j hj he
theorem Xwl (s : ByteArray) (w : World) : Calls Tryz.prog 48 #[.string s] w fun e w' => e = .returned (.bool (Xfc s.data.toList)) ∧ Below w.heap.size w w' := by
 have HT := lh (Lib.toList_data s)
 have hW := Xtq w
 obtain ⟨wA, hwA⟩ : ∃ wA, wA = Xrh := ⟨_, rfl⟩
 rw [← hwA] at hW
 have hb : ∀ vs : List (Nat × Value), Tryz.prog.built 94 vs = some Xrh → Tryz.prog.built 94 vs = some wA := fun vs h => by rw [h, hwA]
 have hsz : (Tryz.prog.info? 94).map (·.size) = some wA.size := by rw [hwA]; kernel_rfl
 have hsz2 : voidA.size = wA.size := by rw [hwA]; rfl
 have hone : wA.all (·.oneCell') = true := by rw [hwA]; kernel_rfl
 obtain ⟨zA, hzA⟩ : ∃ zA, zA = voidA := ⟨_, rfl⟩
 have hz : (Tryz.prog.info? 94).map (fun i => (i.zero, i.size)) = some (some (.agg zA), 27) := by rw [hzA]; kernel_rfl
 rw [← hzA] at hsz2
 have HW := lh hW
 have HB := lh hb
 have HSZ := lh hsz
 have HZ := lh hz
 have HS2 := lh hsz2
 have HONE := lh hone
 clear hW hb hsz hz hsz2 hone hwA hzA
 go_enter Tryz.func48, Tryz.ntmps48
 go_wp2_with (first
  | (with_reducible refine Xfs rfl 94 _ rfl _ rfl wA (HB.out _ (by kernel_rfl)) ?_)
  | (with_reducible refine Xfq rfl 94 rfl (.agg zA) 27 HZ.out zA rfl ?_)
  | (with_reducible refine Xft rfl 94 _ _ rfl rfl zA wA rfl HSZ.out HS2.out HONE.out ?_))
 go_loop [4] (fun i => ∃ k : Nat, k ≤ 27 ∧ i = .int .i64 k ∧ Hid (∀ (j : Nat) (hj : j < Xey.length), j < k → Xey[j] ≠ s.data.toList)) (fun i => 27 - (intOf i).toNat)
 case atStart => exact ⟨0, by omega, rfl, lh (fun j hj h => absurd h (by omega))⟩
 case round =>
  obtain ⟨k, hk, rfl, HN⟩ := hrel
  by_cases hlt : k < 27
  · have hkl : k < Xey.length := hlt
    have hc := HW.out k hkl
    obtain ⟨wk, hwk⟩ : ∃ wk, wk = Xey[k] := ⟨_, rfl⟩
    rw [← hwk] at hc
    have HWK := lh hwk
    clear hwk
    by_cases he : wk = s.data.toList
    · have h1 : ((Xaa wk).toList == s.toList) = true := by rw [Lib.toList_data, Lib.toList_data, Xak, he]; simp
      have HE := lh he
      clear he
      go_wp2
      go_ret
      exact ⟨Xca (words_in hkl (HWK.out ▸ HE.out)).symm, (Below.refl _ _).alloc (Nat.le_refl _) _⟩
    · have h1 : ((Xaa wk).toList == s.toList) = false := by rw [Lib.toList_data, Lib.toList_data, Xak, beq_eq_false_iff_ne]; exact he
      have HE := lh he
      clear he
      go_wp2
      go_round
      case rel => exact ⟨k + 1, by omega, by go_num, lh (fun j hj h => by
       by_cases hjk : j = k
       · subst hjk; rw [← HWK.out]; exact HE.out
       · exact HN.out j hj (by omega))⟩
      case measure => simp [intOf]; omega
  · go_wp2
    go_ret
    exact ⟨Xca (Xxm (fun j hj => HN.out j hj (by have : j < 27 := hj; omega))).symm, (Below.refl _ _).alloc (Nat.le_refl _) _⟩
theorem Xpv (s : ByteArray) (w : World) (hs : s.size ≤ 40000) : Calls Tryz.prog 47 #[.string s] w fun e w' => e = .returned (.bool (Xfn s.data.toList)) ∧ w = w' := by
 have HS := lh (Xdz s)
 go_enter Tryz.func47, Tryz.ntmps47
 go_wp2
 go_loop [3] (fun i => ∃ k : Nat, k ≤ s.size ∧ i = .int .i64 k ∧ Hid (∀ (j : Nat) (hj : j < s.data.toList.length), j < k → Xgv j s.data.toList[j] = true)) (fun i => s.size - (intOf i).toNat)
 case atStart => exact ⟨0, by omega, rfl, lh (fun j hj h => absurd h (by omega))⟩
 case round =>
  obtain ⟨k, hk, rfl, HN⟩ := hrel
  by_cases hlt : k < s.size
  · have hl : k < s.data.toList.length := by rw [← HS.out]; exact hlt
    have hg : s.data.toList[k] = s[k] := rfl
    have HG := lh hg
    clear hg
    have no : Xgv k s[k] = false → Xfn s.data.toList = false := fun h => by
     rw [Bool.eq_false_iff]
     intro hsp
     have := ((Xkf _).1 hsp).2 k hl
     rw [HG.out, h] at this
     cases this
    have yes : Xgv k s[k] = true → ∀ (j : Nat) (hj : j < s.data.toList.length), j < k + 1 → Xgv j s.data.toList[j] = true := fun h j hj hjk => by
     by_cases e : j = k
     · subst e; rw [HG.out]; exact h
     · exact HN.out j hj (by omega)
    have NO := lh no
    have YES := lh yes
    clear no yes
    by_cases h1 : Xgf s[k] = true
    · have HY := lh (YES.out (by simp [Xgv, h1]))
      go_wp2_with (first
       | (go_at_call 59; refine (Xfh _ _).mono ?_; rintro e w' ⟨rfl, rfl⟩)
       | (go_at_call 60; refine (Xff _ _).mono ?_; rintro e w' ⟨rfl, rfl⟩))
      go_round
      case rel => exact ⟨k + 1, by omega, by go_num, HY⟩
      case measure => simp [intOf]; omega
    · have h1' : Xgf s[k] = false := by simpa using h1
      clear h1
      by_cases hk0 : k = 0
      · have HF := lh (NO.out (by unfold Xgv; rw [h1', decide_eq_false (show ¬ 0 < k by omega)]; rfl))
        have hz : ((k : Int) == 0) = true := by rw [hk0]; rfl
        have HK0 := lh hk0
        clear hk0
        go_wp2_with (first
         | (go_at_call 59; refine (Xfh _ _).mono ?_; rintro e w' ⟨rfl, rfl⟩)
         | (go_at_call 60; refine (Xff _ _).mono ?_; rintro e w' ⟨rfl, rfl⟩))
        go_ret
        exact ⟨Xca HF.out.symm, rfl⟩
      · have hz : ((k : Int) == 0) = false := by rw [beq_eq_false_iff_ne]; omega
        have hk1 : 0 < k := by omega
        clear hk0
        by_cases h2 : Xee s[k] = true
        · have HY := lh (YES.out (by simp [Xgv, h2, hk1]))
          go_wp2_with (first
           | (go_at_call 59; refine (Xfh _ _).mono ?_; rintro e w' ⟨rfl, rfl⟩)
           | (go_at_call 60; refine (Xff _ _).mono ?_; rintro e w' ⟨rfl, rfl⟩))
          go_round
          case rel => exact ⟨k + 1, by omega, by go_num, HY⟩
          case measure => simp [intOf]; omega
        · have h2' : Xee s[k] = false := by simpa using h2
          clear h2
          by_cases h3 : s[k].toNat = 95
          · have HY := lh (YES.out (by simp [Xgv, hk1, h3]))
            have h3' : ((s[k].toNat : Int) != 95) = false := by rw [h3]; rfl
            clear h3
            go_wp2_with (first
             | (go_at_call 59; refine (Xfh _ _).mono ?_; rintro e w' ⟨rfl, rfl⟩)
             | (go_at_call 60; refine (Xff _ _).mono ?_; rintro e w' ⟨rfl, rfl⟩))
            go_round
            case rel => exact ⟨k + 1, by omega, by go_num, HY⟩
            case measure => simp [intOf]; omega
          · have HF := lh (NO.out (by simp [Xgv, h1', h2', h3]))
            have h3' : ((s[k].toNat : Int) != 95) = true := by simp; omega
            clear h3
            go_wp2_with (first
             | (go_at_call 59; refine (Xfh _ _).mono ?_; rintro e w' ⟨rfl, rfl⟩)
             | (go_at_call 60; refine (Xff _ _).mono ?_; rintro e w' ⟨rfl, rfl⟩))
            go_ret
            exact ⟨Xca HF.out.symm, rfl⟩
  · go_wp2
    go_ret
    refine ⟨Xca ?_, rfl⟩
    rw [Bool.eq_iff_iff, Xkf, decide_eq_true_eq]
    have hs' := HS.out
    exact ⟨fun h => ⟨by omega, fun j hj => HN.out j hj (by omega)⟩, fun h => by have := h.1; omega⟩
theorem Xkb (s : ByteArray) (w : World) (hs : s.size ≤ 40000) : Calls Tryz.prog 30 #[.string s] w fun e w' => e = .returned (.bool (Xam s.data.toList)) ∧ Below w.heap.size w w' := by
 have HS := lh (Xdz s)
 have HN := lh (Xnm s.data.toList)
 obtain ⟨b1, hb1⟩ : ∃ b, b = Xfn s.data.toList := ⟨_, rfl⟩
 obtain ⟨b2, hb2⟩ : ∃ b, b = Xfc s.data.toList := ⟨_, rfl⟩
 have c1 : ∀ w, Calls Tryz.prog 47 #[.string s] w fun e w' => e = .returned (.bool b1) ∧ w = w' := fun w => by rw [hb1]; exact Xpv s w hs
 have c2 : ∀ w, Calls Tryz.prog 48 #[.string s] w fun e w' => e = .returned (.bool b2) ∧ Below w.heap.size w w' := fun w => by rw [hb2]; exact Xwl s w
 rw [← hb1, ← hb2, ← HS.out] at HN
 clear hb1 hb2
 by_cases h1 : s.size ≤ 16
 · go_enter Tryz.func30, Tryz.ntmps30
   go_wp2_with (first
    | (go_at_call 47; refine (c1 _).mono ?_; rintro e w' ⟨rfl, rfl⟩)
    | (go_at_call 48; refine (c2 _).mono ?_; rintro e w1 ⟨rfl, hb1⟩))
   all_goals go_ret
   all_goals refine ⟨Xca ?_, (by first | exact Below.refl _ _ | assumption)⟩
   all_goals
    rw [HN.out]
    simp_all
 · go_enter Tryz.func30, Tryz.ntmps30
   go_wp2_with (first
    | (go_at_call 47; refine (c1 _).mono ?_; rintro e w' ⟨rfl, rfl⟩)
    | (go_at_call 48; refine (c2 _).mono ?_; rintro e w1 ⟨rfl, hb1⟩))
   go_ret
   exact ⟨Xca (by rw [HN.out]; simp [h1]), Below.refl _ _⟩
end
end Go.Proofs.YtodociiaobjfgaaGreatDoor
