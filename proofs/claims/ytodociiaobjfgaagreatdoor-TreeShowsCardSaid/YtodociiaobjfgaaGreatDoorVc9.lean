/- Kl -/
import Derived.Test.YtodociiaobjfgaaGreatDoorVc6
set_option linter.unusedVariables false
set_option linter.unusedSimpArgs false
namespace Go.Proofs.YtodociiaobjfgaaGreatDoor
open Go.RowKit
def exN (k : Int) : Int := if k = 1 ∨ k = 3 ∨ k = 4 ∨ k = 7 ∨ k = 9 then 1 else if k = 2 then 2 else if k = 10 ∨ k = 11 then -1 else 0
theorem Xnx {k : Int} (h1 : 1 ≤ k) (h2 : k ≤ 11) (w : World) : Calls Tryz.prog 61 #[.int .i64 k] w fun e w' => e = .returned (.int .i64 (exN k)) ∧ w' = w := by
 rcases Xod h1 h2 with rfl | rfl | rfl | rfl | rfl | rfl | rfl | rfl | rfl | rfl | rfl
 all_goals
  go_enter Tryz.func61, Tryz.ntmps61
  go_wp2
  go_ret
  exact ⟨rfl, rfl⟩
def TyPost (w : World) (t : List UInt8) (e : Ending) (w' : World) : Prop := ∃ A c, e = .returned (.slice A (tyN t) c) ∧ Xau w' w.heap.size (.slice A (tyN t) c) ((tyT t).getD []) ∧ Below w.heap.size w w'
theorem Xkl (w : World) (t : List UInt8) (ht : t.length ≤ 40000) : Calls Tryz.prog 31 #[.string (Xaa t)] w (TyPost w t) := by
 refine (Xfg w t ht).mono fun e w' => ?_
 rintro ⟨v, rfl, hown, hb⟩
 obtain ⟨A, c, rfl⟩ := hown.form
 exact ⟨A, c, rfl, hown, hb⟩
theorem Xhn (w : World) (s : List UInt8) (hs : s.length ≤ 40000) : Calls Tryz.prog 30 #[.string (Xaa s)] w fun e w' => e = .returned (.bool (Xam s)) ∧ Below w.heap.size w w' := by
 have := Xkb (Xaa s) w (by rw [Lib.size_eq, Xak]; exact hs)
 rwa [Xak] at this
set_option maxHeartbeats 2000000 in
set_option maxRecDepth 100000 in
theorem Xsu {w0 : World} {B : Nat} {ps : List Pr} {v : Value} (h : Xcl w0 (· < B) ps v) (hsm : ∀ p ∈ ps, p.name.length ≤ 40000 ∧ p.type.length ≤ 40000) (most left : Int) (w : World) (hb : Below B w0 w) (hB : B ≤ w.heap.size) (hm0 : 0 ≤ most) (hm : most ≤ 100) (hl0 : -10000000 ≤ left) (hl : left ≤ 100000) :
  Calls Tryz.prog 32 #[v, .int .i64 most, .int .i64 left] w fun e w' => e = .returned (.int .i64 (if most < (ps.length : Nat) then -1 else Xcn ps left)) ∧ Below w.heap.size w w' := by
 obtain ⟨A, c, rfl, hc, hM, hA⟩ := h
 obtain ⟨n, hn⟩ : ∃ n, n = ps.length := ⟨_, rfl⟩
 rw [← hn] at hc ⊢
 have HN := lh hn
 have HA := lh hA
 have HSM := lh hsm
 have HB := lh hb
 clear hn hA hsm hb
 go_enter Tryz.func32, Tryz.ntmps32
 by_cases hmost : most < (n : Int)
 · have d1 : decide (most < (n : Int)) = true := decide_eq_true hmost
   rw [if_pos hmost]
   go_wp2
   go_ret
   exact ⟨rfl, Below.refl _ _⟩
 have d1 : decide (most < (n : Int)) = false := decide_eq_false hmost
 rw [if_neg hmost]
 have hn100 : n ≤ 100 := by omega
 obtain ⟨R, hR⟩ : ∃ R, R = Xcn ps left := ⟨_, rfl⟩
 rw [← hR]
 have HR := lh hR
 clear hR hmost
 go_wp2
 go_loopw [2, 7] (fun l i wr => ∃ (j : Nat) (ll : Int), j ≤ n ∧ i = .int .i64 j ∧ l = .int .i64 ll ∧ -10000000 - 4 * (j : Int) ≤ ll ∧ ll ≤ 100000 ∧ Hid (Xcn (ps.drop j) ll = R) ∧ Hid (Below w.heap.size w wr)) (fun _ i _ => n - (intOf i).toNat)
 case atStart => exact ⟨0, left, Nat.zero_le _, rfl, rfl, by omega, hl, lh HR.out.symm, lh (Below.refl _ _)⟩
 case round =>
  obtain ⟨wo, rfl⟩ : ∃ wo : World, wo = wr := ⟨_, rfl⟩
  obtain ⟨j, ll, hj, rfl, rfl, hl1, hl2, HQ, HBL⟩ := hrel
  by_cases hlt : j < n
  · have hje : j < ps.length := by rw [← HN.out]; exact hlt
    obtain ⟨b, off, rfl, hbB, hnm, hty, p0, p1⟩ := HA.out j hje
    have hsj := HSM.out ps[j] (List.getElem_mem hje)
    have hdr := Xlo hje
    have hq := HQ.out
    rw [hdr, Xcn] at hq
    obtain ⟨Y, hY⟩ : ∃ Y, Y = ps[j] := ⟨_, rfl⟩
    rw [← hY] at p0 p1 hsj hq
    have hbw : Below B w0 wo := HB.out.trans (HBL.out.mono hB)
    have r0 := (hbw.cell (p := ⟨b, off + j * 2, none⟩) hbB).trans p0
    have r1 := (hbw.cell (p := ⟨b, off + j * 2 + 1, none⟩) hbB).trans p1
    have hbo : b < wo.heap.size := by have := HBL.out.size; omega
    have HTY := lh (Xkl wo Y.type hsj.2)
    obtain ⟨tn, htn⟩ : ∃ tn, tn = tyN Y.type := ⟨_, rfl⟩
    have ht3 : tn ≤ 3 := by rw [htn]; exact Xxh _
    have hpos : 0 < tn ↔ (tyT Y.type).isSome = true := by rw [htn]; exact Xpz
    have HPOST : Hid (∀ e w', TyPost wo Y.type e w' → ∃ A c, e = .returned (.slice A tn c) ∧ Below wo.heap.size wo w') := lh (by
     rw [htn]
     rintro e w' ⟨A, c, h1, _, h2⟩
     exact ⟨A, c, h1, h2⟩)
    have HNM : Hid (∀ wx, Calls Tryz.prog 30 #[.string (Xaa Y.name)] wx fun e w' => e = .returned (.bool (Xam Y.name)) ∧ Below wx.heap.size wx w') := lh fun wx => Xhn wx Y.name hsj.1
    rw [← htn] at hq
    obtain ⟨bn, hbn⟩ : ∃ bn, bn = Xam Y.name := ⟨_, rfl⟩
    rw [← hbn] at HNM hq
    obtain ⟨SN, hSN⟩ : ∃ x, x = Xaa Y.name := ⟨_, rfl⟩
    obtain ⟨ST, hST⟩ : ∃ x, x = Xaa Y.type := ⟨_, rfl⟩
    rw [← hSN] at r0 HNM
    rw [← hST] at r1 HTY
    have hwj : IntKind.i64.wrap ((j : Int) + 1) = (j : Int) + 1 := IntWalk.i64_in _ ⟨by omega, by omega⟩
    have HR0 := lh r0
    have HQ2 := lh hq
    have HPOS := lh hpos
    clear hdr hY hsj htn hbn hSN hST p0 p1 hq hpos hnm hty r0 HA hbw
    by_cases hok : bn = true ∧ 0 < tn
    · obtain ⟨rfl, ht0⟩ := hok
      have HQ3 : Hid (Xcn (ps.drop (j + 1)) (ll - (1 + (tn : Int))) = R) := lh (by
       have := HQ2.out
       rw [if_pos ⟨rfl, HPOS.out.1 ht0⟩, Int.natCast_add] at this
       exact this)
      have d2 : ((tn : Int) == 0) = false := by simp; omega
      have d3 : (tn == 0) = false := by simp; omega
      clear HQ HQ2
      go_wp2_with (first
       | ((with_reducible refine HTY.out.mono ?_); intro e w1 hp; obtain ⟨A1, c1, rfl, hb1⟩ := HPOST.out e w1 hp; have r0 := (hb1.cell (p := ⟨b, off + j * 2, none⟩) hbo).trans HR0.out; have HB1 := lh hb1; clear hp hb1)
       | ((with_reducible refine (HNM.out _).mono ?_); rintro e w2 ⟨rfl, hb2⟩; have HB2 := lh (HB1.out.trans (hb2.mono HB1.out.size)); clear hb2))
      go_roundw
      case rel => exact ⟨j + 1, _, by omega, by go_num, rfl, by omega, by omega, HQ3, lh (HBL.out.trans (HB2.out.mono HBL.out.size))⟩
      case measure => simp [intOf]; omega
    · have HQ3 : Hid (R = -1) := lh (by
       have := HQ2.out
       rw [if_neg (fun h => hok ⟨h.1, HPOS.out.2 h.2⟩)] at this
       exact this.symm)
      clear HQ HQ2
      have hcase : bn = false ∨ (bn = true ∧ tn = 0) := by
       cases bn with
       | false => exact .inl rfl
       | true => exact .inr ⟨rfl, by
          rcases Nat.eq_zero_or_pos tn with h | h
          · exact h
          · exact absurd ⟨rfl, h⟩ hok⟩
      clear hok
      rcases hcase with rfl | ⟨rfl, rfl⟩
      all_goals
       go_wp2_with (first
        | ((with_reducible refine HTY.out.mono ?_); intro e w1 hp; obtain ⟨A1, c1, rfl, hb1⟩ := HPOST.out e w1 hp; have r0 := (hb1.cell (p := ⟨b, off + j * 2, none⟩) hbo).trans HR0.out; have HB1 := lh hb1; clear hp hb1)
        | ((with_reducible refine (HNM.out _).mono ?_); rintro e w2 ⟨rfl, hb2⟩; have HB2 := lh (HB1.out.trans (hb2.mono HB1.out.size)); clear hb2))
       go_ret
       exact ⟨by rw [HQ3.out]; rfl, HBL.out.trans (HB2.out.mono HBL.out.size)⟩
  · have hje : j = n := by omega
    have HRE : Hid (ll = R) := lh (by
     have := HQ.out
     rw [List.drop_of_length_le (by rw [hje, HN.out]; exact Nat.le_refl _), Xcn] at this
     exact this)
    clear HA HQ hje
    go_wp2
    go_ret
    exact ⟨by rw [← HRE.out]; rfl, HBL.out⟩
end Go.Proofs.YtodociiaobjfgaaGreatDoor
