/- What is proved: ScopeBehind's walk: a declaration of a new name behind a program makes no name of it mean another one. -/
import Derived.Test.YtbckeljbpknbdaaGreatDoorVe7
import Derived.Test.YtbckeljbpknbdaaGreatDoorVe8
import Derived.Test.YtbckeljbpknbdaaGreatDoorRows
import Derived.Test.YtbckeljbpknbdaaGreatDoorTie
import Derived.Test.YtbckeljbpknbdaaGreatDoorCards
set_option linter.unusedVariables false
set_option linter.unusedSimpArgs false
namespace Go.Proofs.YtbckeljbpknbdaaGreatDoor
open Go.RowKit

theorem IxIn.start {w : World} {B c : Nat} {A : Option Addr} {l : List Nat} {x : Nat} (h : IxIn w B A c (l ++ [x])) : IxIn w B A c l := by
 obtain ⟨h1, h2, h3⟩ := h
 rw [List.length_append] at h1
 refine ⟨by omega, h2, fun k hk => ?_⟩
 have := h3 k (by rw [List.length_append]; omega)
 rwa [List.getElem_append_left hk] at this
theorem zz_not {s : List UInt8} (h : ∀ i, i + 3 ≤ s.length → (s.drop i).take 3 ≠ zz) : ¬ Xrx zz s := by
 rintro ⟨p, hp⟩
 have hl : zz.length = 3 := rfl
 rw [hl] at hp
 have h2 : ((s.drop p).take 3).length = 3 := by rw [hp]; rfl
 rw [List.length_take, List.length_drop] at h2
 exact h p (by omega) hp
set_option maxRecDepth 100000 in
set_option maxHeartbeats 8000000 in
theorem scopeBehind_walk (w : World) (s : ByteArray) : Calls Tryz.prog 5 #[.string s] w fun e w' => e = .returned (.bool true) ∧ Below w.heap.size w w' := by
 by_cases hl : 10000 < s.size
 · go_enter Tryz.func5, Tryz.ntmps5
   go_wp2_with fail
   refine (Xpg w).mono ?_
   rintro e w1 ⟨rfl, hb1⟩
   have h1 : (decide ((10000 : Int) < (s.size : Nat))) = true := by simp; omega
   go_wp2
   go_ret
   exact ⟨rfl, hb1⟩
 · have h1 : (decide ((10000 : Int) < (s.size : Nat))) = false := by simp; omega
   obtain ⟨ds, p, c, hP⟩ : ∃ ds p c, Xco s.data.toList = (ds, p, c) := ⟨_, _, _, rfl⟩
   have HC1 := lh (Xof s (by omega) hP)
   have hsz : (s ++ (⟨#[32, 115, 105, 110, 107, 32, 122, 122, 57, 32, 59]⟩ : ByteArray)).size = s.size + 11 := by simp [ByteArray.size_append]; rfl
   have hdt : (s ++ (⟨#[32, 115, 105, 110, 107, 32, 122, 122, 57, 32, 59]⟩ : ByteArray)).data.toList = s.data.toList ++ 32 :: bz := by simp; rfl
   obtain ⟨es, p2, c2, hP2⟩ : ∃ ds p c, Xco (s.data.toList ++ 32 :: bz) = (ds, p, c) := ⟨_, _, _, rfl⟩
   have HC2 := lh (Xof (ds := es) (p := p2) (c := c2) (s ++ (⟨#[32, 115, 105, 110, 107, 32, 122, 122, 57, 32, 59]⟩ : ByteArray)) (by rw [hsz]; omega) (by rw [hdt]; exact hP2))
   obtain ⟨hkd, hW⟩ := read6 hP
   obtain ⟨hkd2, hW2⟩ := read6 hP2
   have HP := lh hP
   have HP2 := lh hP2
   have HKD := lh hkd
   have HW := lh hW
   have HKD2 := lh hkd2
   have HW2 := lh hW2
   have hcat : ¬ 9223372036854775807 < s.size + 11 := by omega
   clear hP hP2 hkd hW hkd2 hW2 hsz hdt
   go_enter Tryz.func5, Tryz.ntmps5
   go_wp2_with fail
   refine (Xpg w).mono ?_
   rintro e w1 ⟨rfl, hb1⟩
   have HB1 := lh hb1
   clear hb1
   go_wp2_with fail
   refine (HC1.out _).mono ?_
   rintro e w2 ⟨A, n, m, rfl, hd, hb2⟩
   have HB2 := lh (HB1.out.trans (hb2.mono HB1.out.size))
   have HD := lh hd
   clear hb2 hd HC1 HB1
   go_wp2_with fail
   obtain ⟨X, hX⟩ : ∃ X, X = w2.alloc (.cells #[.slice A n m] 25) := ⟨_, rfl⟩
   have hbX : Below w2.heap.size w2 X := by rw [hX]; exact Xae _ _
   have hp0 : X.cell? ⟨w2.heap.size, 0, none⟩ = some (.slice A n m) := by rw [hX, cell_of_row _ _ 0 _ _ (0, 0) (heap_alloc_new w2 _)]; rfl
   have hlt : w2.heap.size < X.heap.size := by rw [hX]; simp
   have hinX : Xfs X (· < X.heap.size) ds (.slice A n m) := HD.out.keep (fun b hb => hbX.block b hb.2) (fun b hb => Nat.lt_of_lt_of_le hb.2 hbX.size)
   rw [← hX]
   obtain ⟨P, hPg⟩ : ∃ P, P = w2.heap.size := ⟨_, rfl⟩
   rw [← hPg] at hp0 hlt ⊢
   have HBX := lh (HB2.out.trans (hbX.mono HB2.out.size))
   have HIX := lh hinX
   have HP0 := lh hp0
   have HLT := lh hlt
   clear hX hbX hp0 hlt hinX hPg HD HB2
   refine (HC2.out _).mono ?_
   rintro e w3 ⟨A2, n2, m2, rfl, hd2, hb3⟩
   have HB3 := lh hb3
   have HD2 := lh hd2
   clear hb3 hd2 HC2
   by_cases hc : c = 0
   · by_cases hc2 : c2 = 0
     · subst hc hc2
       go_wp2
       obtain ⟨X2, hX2⟩ : ∃ X2, X2 = w3.alloc (.cells #[.slice A2 n2 m2] 25) := ⟨_, rfl⟩
       have hbX2 : Below w3.heap.size w3 X2 := by rw [hX2]; exact Xae _ _
       have hq0 : X2.cell? ⟨w3.heap.size, 0, none⟩ = some (.slice A2 n2 m2) := by rw [hX2, cell_of_row _ _ 0 _ _ (0, 0) (heap_alloc_new w3 _)]; rfl
       have hlt2 : w3.heap.size < X2.heap.size := by rw [hX2]; simp
       have hinX2 : Xfs X2 (· < X2.heap.size) es (.slice A2 n2 m2) := HD2.out.keep (fun b hb => hbX2.block b hb.2) (fun b hb => Nat.lt_of_lt_of_le hb.2 hbX2.size)
       rw [← hX2]
       obtain ⟨P2, hPg2⟩ : ∃ P, P = w3.heap.size := ⟨_, rfl⟩
       rw [← hPg2] at hq0 hlt2 ⊢
       have hbXX := HB3.out.trans (hbX2.mono HB3.out.size)
       have hin1 : Xfs X2 (· < X2.heap.size) ds (.slice A n m) := HIX.out.keep (fun b hb => hbXX.block b hb) (fun b hb => Nat.lt_of_lt_of_le hb hbXX.size)
       have hp02 := (hbXX.cell (p := ⟨P, 0, none⟩) HLT.out).trans HP0.out
       have hltP : P < X2.heap.size := by have := HLT.out; have := hbXX.size; omega
       have HBX2 := lh (HBX.out.trans (hbXX.mono HBX.out.size))
       have HIN1 := lh hin1
       have HIN2 := lh hinX2
       have HP02 := lh hp02
       have HQ0 := lh hq0
       have HLP := lh hltP
       have HLP2 := lh hlt2
       clear hX2 hbX2 hq0 hlt2 hinX2 hPg2 hbXX hin1 hp02 hltP HB3 HD2 HBX HIX HP0 HLT
       have h0 : Hid (∀ i, i + 3 ≤ s.data.toList.length → i < 0 → (s.data.toList.drop i).take 3 ≠ zz) := lh fun i _ h => absurd h (by omega)
       have hlen : s.data.toList.length = s.size := (Lib.size_eq _).symm
       rw [hlen] at h0
       have HLEN := lh hlen
       clear hlen
       go_loop [9] (fun s9 => ∃ i : Nat, i ≤ s.size ∧ s9 = .int .i64 i ∧ Hid (∀ j, j + 3 ≤ s.size → j < i → (s.data.toList.drop j).take 3 ≠ zz)) (fun s9 => s.size - (intOf s9).toNat)
       case atStart => exact ⟨0, Nat.zero_le _, rfl, h0⟩
       case round =>
        obtain ⟨i, hi, rfl, HF⟩ := hrel
        have hw3 : IntKind.i64.wrap ((i : Int) + 3) = (i : Int) + 3 := IntWalk.i64_in _ ⟨by omega, by omega⟩
        by_cases hlt : i + 3 ≤ s.size
        · have hex : (s.extract i (i + 3)).toList = (s.data.toList.drop i).take 3 := by
           rw [Lib.toList_data, Xnj, Xbe]; simp
          by_cases hm : (s.data.toList.drop i).take 3 = zz
          · have hne : ((s.extract i (i + 3)).toList == [122, 122, 57]) = true := by rw [hex, hm]; rfl
            clear hex
            go_wp2
            go_ret
            exact ⟨rfl, HBX2.out⟩
          · have hne : ((s.extract i (i + 3)).toList == [122, 122, 57]) = false := by rw [hex]; simp; exact hm
            have HM := lh hm
            clear hex hm
            go_wp2
            go_round
            case rel => exact ⟨i + 1, by omega, by go_num, lh fun j hj hji => by
             by_cases e : j = i
             · rw [e]; exact HM.out
             · exact HF.out j hj (by omega)⟩
            case measure => first | (simp [intOf]; done) | (simp [intOf]; omega)
        · have hno : ¬ Xrx zz s.data.toList := zz_not fun j hj => HF.out j (by rw [HLEN.out] at hj; exact hj) (by rw [HLEN.out] at hj; omega)
          obtain ⟨n1, n2', n3, n4, n5⟩ := names_zz (by rw [HLEN.out]; omega) HP.out HP2.out hno
          clear hno
          have hp02 := HP02.out
          go_wp2_with fail
          refine (Xli X2 HIN1.out HKD.out HW.out).mono ?_
          rintro e w4 ⟨Af, cf, L, cL, D, cD, rfl, hix, hlv, hdg, hb4⟩
          have hq4 := (hb4.cell (p := ⟨P2, 0, none⟩) HLP2.out).trans HQ0.out
          have lq4 : P2 < w4.heap.size := by have := HLP2.out; have := hb4.size; omega
          have hin4 : Xfs w4 (· < w4.heap.size) es (.slice A2 n2 m2) := HIN2.out.keep (fun b hb => hb4.block b hb) (fun b hb => Nat.lt_of_lt_of_le hb hb4.size)
          have HB4 := lh (HBX2.out.trans (hb4.mono HBX2.out.size))
          have HLN : Hid (∀ k, (fun k => (Xbg k ds 0).length) k = (Xbg k ds 0).length) := lh fun _ => rfl
          obtain ⟨a, ha⟩ : ∃ a : Int → Nat, a = fun k => (Xbg k ds 0).length := ⟨_, rfl⟩
          have ha' : ∀ k, (Xbg k ds 0).length = a k := fun k => by rw [ha]
          have HAL : Hid (∀ k, a k = (Xbg k ds 0).length) := lh fun k => (ha' k).symm
          simp only [ha'] at n4 n5 ⊢
          obtain ⟨nl, hnl⟩ : ∃ nl, nl = (locD ds).length := ⟨_, rfl⟩
          obtain ⟨zx, hzx⟩ : ∃ z, z = (ordD (rawD ds)).length := ⟨_, rfl⟩
          rw [← hzx] at n5
          rw [← hnl, ← hzx]
          have HN1 := lh n1
          have HN2 := lh n2'
          have HN3 := lh n3
          have HN4 := lh n4
          have HN5 := lh n5
          have HNL := lh hnl
          have HZX := lh hzx
          have HIXA := lh hix
          have HLVA := lh hlv
          have HDGA := lh hdg
          clear hp02 hb4 ha ha' n1 n2' n3 n4 n5 hnl hzx hix hlv hdg HIN1 HIN2 HP02 HQ0 HLP HLP2 HLN
          go_wp2_with fail
          obtain ⟨Y1, hY1⟩ : ∃ Y1, Y1 = w4.alloc (.cells #[.slice (Af 1) (a 1) (cf 1), .slice (Af 2) (a 2) (cf 2), .slice (Af 3) (a 3) (cf 3), .slice (Af 4) (a 4) (cf 4), .slice (Af 5) (a 5) (cf 5), .slice (Af 6) (a 6) (cf 6), .slice (Af 7) (a 7) (cf 7), .slice (Af 8) (a 8) (cf 8), .slice L nl cL] 34) := ⟨_, rfl⟩
          have hbY1 : Below w4.heap.size w4 Y1 := by rw [hY1]; exact Xae _ _
          have hrA : Y1.heap[w4.heap.size]? = some (.cells #[.slice (Af 1) (a 1) (cf 1), .slice (Af 2) (a 2) (cf 2), .slice (Af 3) (a 3) (cf 3), .slice (Af 4) (a 4) (cf 4), .slice (Af 5) (a 5) (cf 5), .slice (Af 6) (a 6) (cf 6), .slice (Af 7) (a 7) (cf 7), .slice (Af 8) (a 8) (cf 8), .slice L nl cL] 34 (0, 0)) := by rw [hY1]; exact heap_alloc_new _ _
          rw [← hY1]
          obtain ⟨TA, hTA⟩ : ∃ TA, TA = w4.heap.size := ⟨_, rfl⟩
          rw [← hTA] at hrA ⊢
          have hinY : Xfs Y1 (· < Y1.heap.size) es (.slice A2 n2 m2) := hin4.keep (fun b hb => hbY1.block b hb) (fun b hb => Nat.lt_of_lt_of_le hb hbY1.size)
          refine (Xli Y1 hinY HKD2.out HW2.out).mono ?_
          rintro e w5 ⟨Bf, cb, L2, cL2, D2, cD2, rfl, hix2, hlv2, hdg2, hb5⟩
          have h6 := hix2 6 (by decide) (by decide)
          obtain ⟨-, -, h6c⟩ := h6
          obtain ⟨g6, e6, -, hg6, -⟩ := h6c 0 (by rw [HN2.out]; simp)
          rw [e6]
          rw [HN1.out 1 (by decide), HN1.out 2 (by decide), HN1.out 3 (by decide), HN1.out 4 (by decide), HN1.out 5 (by decide), HN1.out 7 (by decide), HN1.out 8 (by decide), HN2.out, HN3.out]
          have hb45 : Below w4.heap.size w4 w5 := hbY1.trans (hb5.mono hbY1.size)
          have hrA5 := (hb5.block TA (Xac hrA)).trans hrA
          have lTA : TA < w5.heap.size := Xac hrA5
          rw [← HAL.out 1, ← HAL.out 2, ← HAL.out 3, ← HAL.out 4, ← HAL.out 5, ← HAL.out 7, ← HAL.out 8, List.length_append, ← HAL.out 6, ← HNL.out]
          rw [show a 6 + [ds.length].length = a 6 + 1 from rfl]
          have hA5 : w5.cell? ⟨TA, 5, none⟩ = some (.slice (Af 6) (a 6) (cf 6)) := by rw [cell_of_row w5 _ 5 _ _ (0, 0) hrA5]; rfl
          have HB5 := lh (HB4.out.trans (hb45.mono HB4.out.size))
          by_cases h4 : 4 ≤ a 6
          · have hy := HN5.out h4
            obtain ⟨D2', cD2', eD2, hD2a, hD2b, -⟩ := hdg2
            cases eD2
            rw [hy] at hD2a ⊢
            have hwz : IntKind.i64.wrap ((zx : Int) + 1) = (zx : Int) + 1 := IntWalk.i64_in _ ⟨by omega, by omega⟩
            have hzq : (((zx + 1 : Nat) : Int) == (zx : Int) + 1) = true := by simp
            clear hY1 hbY1 hrA hTA hinY hb5 hix2 hlv2 h6c e6 hg6 hb45 hrA5 hin4 hq4 lq4 hy
            go_wp2
            go_ret
            exact ⟨by simp, HB5.out.alloc HB5.out.size _⟩
          · have hraw : rawD es = rawD ds := HN4.out (by omega)
            rw [hraw] at hdg2 ⊢
            rw [← HZX.out]
            obtain ⟨TB, hTB⟩ : ∃ TB, TB = w5.heap.size := ⟨_, rfl⟩
            have hcb6 : a 6 + 1 ≤ cb 6 ∧ cb 6 ≤ 9223372036854775807 := by
             have h := hix2 6 (by decide) (by decide)
             have h1 := h.1
             rw [HN2.out, List.length_append, ← HAL.out 6] at h1
             exact ⟨h1, h.2.1⟩
            obtain ⟨Z, hZ⟩ : ∃ Z, Z = w5.alloc (.cells #[.slice (Bf 1) (a 1) (cb 1), .slice (Bf 2) (a 2) (cb 2), .slice (Bf 3) (a 3) (cb 3), .slice (Bf 4) (a 4) (cb 4), .slice (Bf 5) (a 5) (cb 5), .slice (some ⟨g6, 0, none⟩) (a 6) (cb 6), .slice (Bf 7) (a 7) (cb 7), .slice (Bf 8) (a 8) (cb 8), .slice L2 nl cL2] 34) := ⟨_, rfl⟩
            have hrC : Z.heap[TB]? = some (.cells #[.slice (Bf 1) (a 1) (cb 1), .slice (Bf 2) (a 2) (cb 2), .slice (Bf 3) (a 3) (cb 3), .slice (Bf 4) (a 4) (cb 4), .slice (Bf 5) (a 5) (cb 5), .slice (some ⟨g6, 0, none⟩) (a 6) (cb 6), .slice (Bf 7) (a 7) (cb 7), .slice (Bf 8) (a 8) (cb 8), .slice L2 nl cL2] 34 (0, 0)) := by rw [hZ, hTB]; exact heap_alloc_new _ _
            have hbZ : Below w5.heap.size w5 Z := by rw [hZ]; exact Xae w5 _
            have hrAZ := (hbZ.block TA lTA).trans hrA5
            have x0 : Z.cell? ⟨TA, 0, none⟩ = some (.slice (Af 1) (a 1) (cf 1)) := by rw [cell_of_row Z _ 0 _ _ (0, 0) hrAZ]; rfl
            have x1 : Z.cell? ⟨TA, 1, none⟩ = some (.slice (Af 2) (a 2) (cf 2)) := by rw [cell_of_row Z _ 1 _ _ (0, 0) hrAZ]; rfl
            have x2 : Z.cell? ⟨TA, 2, none⟩ = some (.slice (Af 3) (a 3) (cf 3)) := by rw [cell_of_row Z _ 2 _ _ (0, 0) hrAZ]; rfl
            have x3 : Z.cell? ⟨TA, 3, none⟩ = some (.slice (Af 4) (a 4) (cf 4)) := by rw [cell_of_row Z _ 3 _ _ (0, 0) hrAZ]; rfl
            have x4 : Z.cell? ⟨TA, 4, none⟩ = some (.slice (Af 5) (a 5) (cf 5)) := by rw [cell_of_row Z _ 4 _ _ (0, 0) hrAZ]; rfl
            have x5 : Z.cell? ⟨TA, 5, none⟩ = some (.slice (Af 6) (a 6) (cf 6)) := by rw [cell_of_row Z _ 5 _ _ (0, 0) hrAZ]; rfl
            have x6 : Z.cell? ⟨TA, 6, none⟩ = some (.slice (Af 7) (a 7) (cf 7)) := by rw [cell_of_row Z _ 6 _ _ (0, 0) hrAZ]; rfl
            have x7 : Z.cell? ⟨TA, 7, none⟩ = some (.slice (Af 8) (a 8) (cf 8)) := by rw [cell_of_row Z _ 7 _ _ (0, 0) hrAZ]; rfl
            have x8 : Z.cell? ⟨TA, 8, none⟩ = some (.slice L nl cL) := by rw [cell_of_row Z _ 8 _ _ (0, 0) hrAZ]; rfl
            have y0 : Z.cell? ⟨TB, 0, none⟩ = some (.slice (Bf 1) (a 1) (cb 1)) := by rw [cell_of_row Z _ 0 _ _ (0, 0) hrC]; rfl
            have y1 : Z.cell? ⟨TB, 1, none⟩ = some (.slice (Bf 2) (a 2) (cb 2)) := by rw [cell_of_row Z _ 1 _ _ (0, 0) hrC]; rfl
            have y2 : Z.cell? ⟨TB, 2, none⟩ = some (.slice (Bf 3) (a 3) (cb 3)) := by rw [cell_of_row Z _ 2 _ _ (0, 0) hrC]; rfl
            have y3 : Z.cell? ⟨TB, 3, none⟩ = some (.slice (Bf 4) (a 4) (cb 4)) := by rw [cell_of_row Z _ 3 _ _ (0, 0) hrC]; rfl
            have y4 : Z.cell? ⟨TB, 4, none⟩ = some (.slice (Bf 5) (a 5) (cb 5)) := by rw [cell_of_row Z _ 4 _ _ (0, 0) hrC]; rfl
            have y5 : Z.cell? ⟨TB, 5, none⟩ = some (.slice (some ⟨g6, 0, none⟩) (a 6) (cb 6)) := by rw [cell_of_row Z _ 5 _ _ (0, 0) hrC]; rfl
            have y6 : Z.cell? ⟨TB, 6, none⟩ = some (.slice (Bf 7) (a 7) (cb 7)) := by rw [cell_of_row Z _ 6 _ _ (0, 0) hrC]; rfl
            have y7 : Z.cell? ⟨TB, 7, none⟩ = some (.slice (Bf 8) (a 8) (cb 8)) := by rw [cell_of_row Z _ 7 _ _ (0, 0) hrC]; rfl
            have y8 : Z.cell? ⟨TB, 8, none⟩ = some (.slice L2 nl cL2) := by rw [cell_of_row Z _ 8 _ _ (0, 0) hrC]; rfl
            have hb4Z : Below w4.heap.size w4 Z := hb45.trans (hbZ.mono hb45.size)
            have HBZ := lh (HB5.out.trans (hbZ.mono HB5.out.size))
            have hix3 : ∀ k, 1 ≤ k → k ≤ 8 → IxIn Z Y1.heap.size (Bf k) (cb k) (Xbg k ds 0) := fun k h1 h8 => by
             have h := (hix2 k h1 h8).below hbZ
             by_cases e : k = 6
             · subst e
               rw [HN2.out] at h
               exact h.start
             · rwa [HN1.out k e] at h
            have hlv3 : LvIn Z Y1.heap.size L2 cL2 (locD ds) := by have h := hlv2.below hbZ; rwa [HN3.out] at h
            have hsn := Xpb Z (fun k => HAL.out k) (fun k h1 h8 => (HIXA.out k h1 h8).below hb4Z) hix3 (HLVA.out.below hb4Z) hlv3
            unfold tbV at hsn
            rw [← HNL.out, e6] at hsn
            have HSN := lh hsn
            have hda := HDGA.out.below hb4Z
            have hdb := hdg2.below hbZ
            rw [← HZX.out] at hda hdb
            have HDA := lh hda
            have HDB := lh hdb
            have HZ := lh hZ
            have hwa : IntKind.i64.wrap ((a 6 : Nat) + 1 : Int) = ((a 6 : Nat) : Int) + 1 := IntWalk.i64_in _ ⟨by omega, by omega⟩
            have hzq : (((a 6 + 1 : Nat) : Int) == ((a 6 : Nat) : Int) + 1) = true := by simp
            have h4f : (decide ((4 : Int) ≤ ((a 6 : Nat) : Int))) = false := decide_eq_false (by omega)
            have HTB := lh hTB
            clear hY1 hbY1 hrA hTA hinY hb5 hix2 hlv2 hdg2 h6c hg6 hb45 hin4 hq4 lq4 hraw hrC hrAZ hbZ hb4Z hix3 hlv3 hsn hZ hTB hda hdb
            go_upto_region 21 with fail
            rw [← HZ.out, ← HTB.out]
            clear HZ HTB
            go_wp2_with (first
             | (go_at_call 13
                refine HSN.out.mono ?_
                rintro e v ⟨rfl, hbv⟩
                have HV := lh hbv
                clear hbv)
             | (go_at_call 14
                refine (Xpa _ (HDA.out.below HV.out) (HDB.out.below HV.out)).mono ?_
                rintro e v2 ⟨rfl, m2, rfl⟩))
            go_ret
            have hbf := HBZ.out.trans (HV.out.mono HBZ.out.size)
            exact ⟨rfl, ⟨hbf.os, hbf.tape, hbf.output, hbf.size, hbf.block⟩⟩
     · have hc0 : (((c2 : Nat) : Int) == 0) = false := by simp; omega
       subst hc
       go_wp2
       go_ret
       exact ⟨rfl, (HBX.out.trans (HB3.out.mono HBX.out.size)).alloc (by have := HBX.out.size; have := HB3.out.size; omega) _⟩
   · have hc0 : (((c : Nat) : Int) == 0) = false := by simp; omega
     go_wp2
     go_ret
     exact ⟨rfl, (HBX.out.trans (HB3.out.mono HBX.out.size)).alloc (by have := HBX.out.size; have := HB3.out.size; omega) _⟩

section
open Go Go.ChangeShapes Go.WideShapes Go.ChangeAt Go.ChangeMaps Go.RowKit

set_option maxRecDepth 100000 in
theorem scopeBehind_lifted (os : Os) (started : os.Started) (H : Type) (enc : TypeId × Value → H) :
  ReturnsInHanded {} Tryz.checked os 5 .any (fun w args => (Rows.scopeBehindSpec.pre enc Tryz.prog Tryz.f5 Rows.scopeBehindRow.domain false w args ∧ laidMetH Tryz.prog laidL w) ∧ sizedMet enc Tryz.prog Tryz.f5 (OpenSpec.ofChange Rows.scopeBehindSpec) false w args)
   (Rows.scopeBehindSpec.post enc Tryz.prog Tryz.f5 false true false false) := by
 refine returnsInHanded_of_change_and (C := Tryz.checked) (X := fun w _ => laidMetH Tryz.prog laidL w) (fun _ _ _ hh h => h.of_heap hh) Xts started (by kernel_rfl) Tryz.func5
  (ChangeSpec.witness_shaped (enc := enc) (C := Tryz.checked) (os := os) (X := fun w _ => laidMetH Tryz.prog laidL w) false (World.doorLaid Tryz.prog 200 os) #[.string ⟨#[]⟩] 8 rfl (World.shaped_of_RefB (by kernel_rfl) (by kernel_rfl)) (by kernel_rfl) (by kernel_rfl) (by kernel_rfl) (door_met os _)) ?_
 intro W base args ds gs before hval0 hW _ hwt hL _
 have hval : ∀ (j : Nat) t v, Tryz.f5.params[j]? = some t → args[j]? = some v → Value.okWide Tryz.prog W .any base t v := hval0
 have hW' := hW
 obtain ⟨p, q, hA0, hV, rfl, _, _⟩ := hW
 have hA : DataW.TrodAll enc Tryz.prog W 0 (fun _ => true) true Tryz.f5.params.toList args.toList ds p := hA0
 rw [Tryz.params5] at hA hval
 obtain ⟨v0, vs0, d0, ds0, p0, q0, hargs, rfl, rfl, h0, r0⟩ := trodAll_cons hA
 obtain ⟨rfl, rfl, rfl⟩ := trodAll_nil r0
 obtain rfl : args = #[v0] := by cases args; simp_all
 obtain ⟨rfl, rfl⟩ := trodVars_none hV
 obtain ⟨x0, rfl, rfl, rfl, w0⟩ := open_string Tryz.underlying9 (hval 0 9 v0 rfl rfl) h0
 clear hA0 hval0
 simp only [List.append_nil] at hW'
 have hlt := fun x hx => hW'.lt x hx
 refine (scopeBehind_walk W x0).mono fun e W' ⟨he, hb⟩ => ?_
 subst he
 exact ⟨_, rfl, _, _, _, [], _, [], hW', trodAll_mk1 (Yfo _), (trodAll_cons_mk (shut_string Tryz.underlying9 w0) trodAll_mk0), rfl, hb.frame _, fun h => by cases h⟩

theorem scopeBehind_holds : Rows.ScopeBehindSaid :=
 OpenClaim.holds_of_wide 5 Tryz.f5 rfl rfl rfl rfl rfl rfl rfl ⟨rfl, rfl, rfl, rfl, rfl⟩ rfl rfl rfl rfl rfl (by kernel_rfl) Tryz.func5 (by kernel_rfl)
  (of_decide_eq_true (by kernel_rfl)) (by unfold Func.isWrapper; first | (rw [if_pos (by decide +kernel)]; kernel_rfl) | (rw [if_neg (by decide +kernel)]; exact ⟨rfl, rfl⟩))
  (fun os started H enc _ => scopeBehind_lifted os started H enc)

theorem scopeBehind_card_holds : Rows.ScopeBehindCardSaid :=
 Claim7.holds_tied_plain_at .later [] [.data, .data, .data, .sentinel, .sentinel] true (true, "4fa5311912544140f9e0d2c0f06d37679f36473bef35ee7646ff926e7b112b0c") true
  scopeBehind_holds (fun _ h => by cases h) (by kernel_rfl) (fun _ h => by cases h) scopeBehind_row_tie rfl ⟨rfl, rfl⟩ (by kernel_rfl) rfl
  (fun f fn hf hfn => by
    obtain rfl : f = 5 := Option.some.inj ((show Tryz.prog.funcNamed "portcullis/portcullislaw06.ScopeBehind" = some 5 by kernel_rfl).symm.trans hf) |>.symm
    obtain rfl : fn = Tryz.f5 := (Option.some.inj (Tryz.func5.symm.trans hfn)).symm
    exact ⟨by kernel_rfl, fun j t ht => by
     rw [Tryz.params5] at ht
     have hm : t ∈ [9] := by simpa using Array.mem_of_getElem? ht
     have hall : ([9].all fun u => !Tryz.prog.wantsStandIn u) = true := by kernel_rfl
     exact (show Tryz.prog.wantsStandIn t = false by simpa using List.all_eq_true.1 hall t hm)⟩)
  (by kernel_rfl)
end

end Go.Proofs.YtbckeljbpknbdaaGreatDoor
