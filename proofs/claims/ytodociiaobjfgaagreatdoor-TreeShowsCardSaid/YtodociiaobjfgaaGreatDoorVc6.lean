/- Kd -/
import Derived.Test.YtodociiaobjfgaaGreatDoorVa4
import Derived.Test.YtodociiaobjfgaaGreatDoorVc7
import Derived.Deep.CutRange
import Derived.Deep.CutBlock
set_option linter.unusedVariables false
set_option linter.unusedSimpArgs false
namespace Go.Proofs.YtodociiaobjfgaaGreatDoor
open Go.RowKit
theorem Xdw {B : Nat} {a w : World} (h : Below B a w) (n : Nat) : Below B a (w.drewN n) := ⟨h.os, h.tape, h.output, h.size, h.block⟩
theorem Xrr (es : List Ex) (b : Bool) (d c l : Int) (h : l < 0) : Xcb es b d c l = l := by
 cases es with
 | nil => rw [Xcb]
 | cons e es => rw [Xcb, if_pos h]
theorem Xfl {e : Ex} {d c l : Int} (hc : c ≤ 8) (hl : 0 ≤ l) : Xdb e d c l ≤ l := by
 have h := (Xgd e d c l hc).1
 cases hp : (penE e d c).map List.length with
 | none => rw [hp] at h; have h' : Xdb e d c l < 0 := h; omega
 | some n =>
   rw [hp] at h
   have h' : if (n : Int) ≤ l then Xdb e d c l = l - n else Xdb e d c l < 0 := h
   split at h' <;> omega
def ownA : Array Value := #[.int .i64 0, .int .i64 1, .int .i64 1, .int .i64 1, .int .i64 1, .int .i64 2, .int .i64 2, .int .i64 3, .int .i64 3, .int .i64 3, .int .i64 3, .int .i64 2, .int .i64 3, .int .i64 2]
def ownZ : Array Value := Array.replicate 14 (.int .i64 0)
theorem own_cell (w : World) {k : Int} (h1 : 1 ≤ k) (h2 : k ≤ 13) : (w.alloc (.cells ownA 111)).cell? ⟨w.heap.size, k.toNat, none⟩ = some (.int .i64 (ownN k)) := by
 rw [cell_of_row _ _ k.toNat _ _ (0, 0) (heap_alloc_new w _)]
 rcases Xse h1 h2 with rfl | rfl | rfl | rfl | rfl | rfl | rfl | rfl | rfl | rfl | rfl | rfl | rfl <;> rfl
theorem Xuk {es : List Ex} {j : Nat} (hj : j < es.length) (b : Bool) (d c l : Int) (hl : 0 ≤ l) : Xcb (es.drop j) b d c l = if b = true then (if c = 8 then -1 else Xcb (es.drop (j + 1)) false d c (Xdb es[j] d (c + 1) l)) else Xcb (es.drop (j + 1)) false d c (Xdb es[j] (d + 1) 0 l) := by
 rw [Xln hj, Xcb, if_neg (by omega)]
def RefE (w0 : World) (B : Nat) (es : List Ex) (v : Value) : Prop :=
 ∀ (k p num depth chain left : Int) (name : List UInt8) (w : World), Below B w0 w → B ≤ w.heap.size → name.length ≤ 40000 → Xbu 40000 es → -1 ≤ depth → depth ≤ 100 → 0 ≤ chain → chain ≤ 8 → left ≤ 100000 →
  Calls Tryz.prog 62 #[.agg #[.int .i64 k, .int .i64 p, .int .i64 num, .string (Xaa name), v], .int .i64 depth, .int .i64 chain, .int .i64 left] w
   fun e w' => e = .returned (.int .i64 (Xdb (.mk k p num name es) depth chain left)) ∧ Below w.heap.size w w'
set_option maxHeartbeats 4000000 in
set_option maxRecDepth 100000 in
theorem Xjy {w0 : World} {B : Nat} {es : List Ex} {v : Value} (h : Xbm w0 (· < B) es v) : RefE w0 B es v := by
 induction h with
 | mk es A c f hc hM hA hr ih =>
   intro k p num depth chain left name w hb hB hname hsm hd0 hd hc0 hc8 hl
   obtain ⟨ne, hne⟩ : ∃ ne, ne = es.length := ⟨_, rfl⟩
   obtain ⟨S, hS⟩ : ∃ S, S = Xaa name := ⟨_, rfl⟩
   have hex := Xdb.eq_1 depth chain left k p num name es
   obtain ⟨R, hR⟩ : ∃ R, R = Xdb (.mk k p num name es) depth chain left := ⟨_, rfl⟩
   rw [← hR] at hex ⊢
   rw [← hne] at hc hex ⊢
   rw [← hS]
   have HS := lh hS
   have HN := lh hne
   have HX := lh hex
   have HB := lh hb
   have HA := lh hA
   have HIH := lh ih
   have HSM := lh hsm
   clear hS hne hR hex hb hA hr ih hsm
   go_enter Tryz.func62, Tryz.ntmps62
   go_wp2
   have hrow := heap_alloc_new w (.cells #[.int .i64 k, .int .i64 p, .int .i64 num, .string S, .slice A ne c] 35)
   have hbX : Below w.heap.size w (w.alloc (.cells #[.int .i64 k, .int .i64 p, .int .i64 num, .string S, .slice A ne c] 35)) := (Below.refl _ _).alloc (Nat.le_refl _) _
   have hsX : (w.alloc (.cells #[.int .i64 k, .int .i64 p, .int .i64 num, .string S, .slice A ne c] 35)).heap.size = w.heap.size + 1 := by simp
   generalize w.alloc (.cells #[.int .i64 k, .int .i64 p, .int .i64 num, .string S, .slice A ne c] 35) = X at hrow hbX hsX ⊢
   obtain ⟨g, hg⟩ : ∃ g, g = w.heap.size := ⟨_, rfl⟩
   rw [← hg] at hrow hsX ⊢
   have HG := lh hg
   have HBX := lh hbX
   have HROW := lh hrow
   have HSX := lh hsX
   have hcells : ∀ V : World, Below X.heap.size X V → V.cell? ⟨g, 0, none⟩ = some (.int .i64 k) ∧ V.cell? ⟨g, 2, none⟩ = some (.int .i64 num) ∧ V.cell? ⟨g, 3, none⟩ = some (.string S) ∧ V.cell? ⟨g, 4, none⟩ = some (.slice A ne c) := fun V hV => by
    have e := (hV.block g (by omega)).trans hrow
    exact ⟨cell_of_row V g 0 _ _ (0, 0) e, cell_of_row V g 2 _ _ (0, 0) e, cell_of_row V g 3 _ _ (0, 0) e, cell_of_row V g 4 _ _ (0, 0) e⟩
   obtain ⟨c0, c2, c3, c4⟩ := hcells X (Below.refl _ _)
   have HC := lh hcells
   clear hg hbX hrow hsX hcells
   by_cases hbad : left < 1 ∨ 24 < depth ∨ k < 1 ∨ 13 < k ∨ ne ≠ argsN k
   · have HR : Hid (R = -1) := lh (by rw [HX.out, if_pos (by omega)])
     have hcase : left < 1 ∨ (1 ≤ left ∧ 24 < depth) ∨ (1 ≤ left ∧ depth ≤ 24 ∧ k < 1) ∨ (1 ≤ left ∧ depth ≤ 24 ∧ 1 ≤ k ∧ 13 < k) ∨ (1 ≤ left ∧ depth ≤ 24 ∧ 1 ≤ k ∧ k ≤ 13 ∧ ne ≠ argsN k) := by omega
     clear hbad HX HC
     rcases hcase with h1 | ⟨h1, h2⟩ | ⟨h1, h2, h3⟩ | ⟨h1, h2, h3, h4⟩ | ⟨h1, h2, h3, h4, h5⟩
     · have d1 : decide (left < 1) = true := decide_eq_true h1
       go_quiet (fail)
       go_wp2
       go_ret
       exact ⟨by rw [HR.out]; rfl, HG.out ▸ Xdw HBX.out _⟩
     · have d1 : decide (left < 1) = false := decide_eq_false (by omega)
       have d2 : decide (24 < depth) = true := decide_eq_true h2
       go_quiet (fail)
       go_wp2
       go_ret
       exact ⟨by rw [HR.out]; rfl, HG.out ▸ Xdw HBX.out _⟩
     · have d1 : decide (left < 1) = false := decide_eq_false (by omega)
       have d2 : decide (24 < depth) = false := decide_eq_false (by omega)
       have d3 : decide (k < 1) = true := decide_eq_true h3
       go_quiet (fail)
       go_wp2
       go_ret
       exact ⟨by rw [HR.out]; rfl, HG.out ▸ Xdw HBX.out _⟩
     · have d1 : decide (left < 1) = false := decide_eq_false (by omega)
       have d2 : decide (24 < depth) = false := decide_eq_false (by omega)
       have d3 : decide (k < 1) = false := decide_eq_false (by omega)
       have d4 : decide (13 < k) = true := decide_eq_true h4
       go_quiet (fail)
       go_wp2
       go_ret
       exact ⟨by rw [HR.out]; rfl, HG.out ▸ Xdw HBX.out _⟩
     · have d1 : decide (left < 1) = false := decide_eq_false (by omega)
       have d2 : decide (24 < depth) = false := decide_eq_false (by omega)
       have d3 : decide (k < 1) = false := decide_eq_false (by omega)
       have d4 : decide (13 < k) = false := decide_eq_false (by omega)
       have d5 : ((ne : Int) != ((argsN k : Nat) : Int)) = true := by rw [bne_iff_ne]; omega
       go_quiet ((go_at_call 75; with_reducible exact Calls.quiet_of_same (Xjx k _)))
       go_wp2
       go_ret
       exact ⟨by rw [HR.out]; rfl, HG.out ▸ Xdw HBX.out _⟩
   · have h1 : 1 ≤ left := by omega
     have h2 : depth ≤ 24 := by omega
     have h3 : 1 ≤ k := by omega
     have h4 : k ≤ 13 := by omega
     have h5 : ne = argsN k := by omega
     clear hbad
     have HR : Hid (R = if numB k num = true ∧ Xcm k name = true then Xcb es (Xbb k) depth chain (left - ownN k) else -1) := lh (by rw [HX.out, if_neg (by omega)])
     clear HX
     have d1 : decide (left < 1) = false := decide_eq_false (by omega)
     have d2 : decide (24 < depth) = false := decide_eq_false (by omega)
     have d3 : decide (k < 1) = false := decide_eq_false (by omega)
     have d4 : decide (13 < k) = false := decide_eq_false (by omega)
     have d5 : ((ne : Int) != ((argsN k : Nat) : Int)) = false := by rw [bne_eq_false_iff_eq]; omega
     have HLEN := lh h5
     clear h5
     go_quiet ((go_at_call 75; with_reducible exact Calls.quiet_of_same (Xjx k _)))
     clear d1 d2 d3 d4 d5
     obtain ⟨Y, hY⟩ : ∃ Y, Y = X.drewN nq := ⟨_, rfl⟩
     rw [← hY]
     have hbY : Below X.heap.size X Y := hY ▸ Xdw (Below.refl _ _) _
     clear hY c0 c2 c3 c4
     obtain ⟨c0, c2, c3, c4⟩ := HC.out Y hbY
     have HBY := lh hbY
     clear hbY
     go_upto_region 3 with fail
     go_cut [0, 9] from 13 (fun s0 s9 wx => s0 = .agg #[.int .i64 k, .int .i64 p, .int .i64 num, .string S, .slice A ne c] ∧ s9 = .bool (numB k num) ∧ wx = Y)
     case first => as_aux_lemma =>
      by_cases n0 : num = 0
      · have q_n0 : (num == 0) = true := by simp; omega
        have HQ : Hid (numB k num = true) := lh (decide_eq_true (by omega))
        go_wp2
        go_meet
        case rel => exact ⟨by first | rfl | rw [K1.out], by first | rw [HQ.out] | rw [← HQ.out, K1.out], rfl⟩
      · have q_n0 : (num == 0) = false := by simp; omega
        by_cases k1 : k = 1
        · have q_k1 : (k == 1) = true := by simp; omega
          have q_k2 : (k == 2) = false := by simp; omega
          have K1 := lh k1
          by_cases n1 : 0 < num
          · have q_n1 : decide (0 < num) = true := decide_eq_true n1
            by_cases n2 : num < 1000000000000000000
            · have q_n2 : decide (num < 1000000000000000000) = true := decide_eq_true n2
              have HQ : Hid (numB k num = true) := lh (decide_eq_true (by omega))
              go_wp2
              go_meet
              case rel => exact ⟨by first | rfl | rw [K1.out], by first | rw [HQ.out] | rw [← HQ.out, K1.out], rfl⟩
            · have q_n2 : decide (num < 1000000000000000000) = false := decide_eq_false n2
              have HQ : Hid (numB k num = false) := lh (decide_eq_false (by omega))
              go_wp2
              go_meet
              case rel => exact ⟨by first | rfl | rw [K1.out], by first | rw [HQ.out] | rw [← HQ.out, K1.out], rfl⟩
          · have q_n1 : decide (0 < num) = false := decide_eq_false n1
            have HQ : Hid (numB k num = false) := lh (decide_eq_false (by omega))
            go_wp2
            go_meet
            case rel => exact ⟨by first | rfl | rw [K1.out], by first | rw [HQ.out] | rw [← HQ.out, K1.out], rfl⟩
        · have q_k1 : (k == 1) = false := by simp; omega
          by_cases k2 : k = 2
          · have q_k2 : (k == 2) = true := by simp; omega
            by_cases n1 : num = 1
            · have q_n1 : (num == 1) = true := by simp; omega
              have HQ : Hid (numB k num = true) := lh (decide_eq_true (by omega))
              go_wp2
              go_meet
              case rel => exact ⟨by first | rfl | rw [K1.out], by first | rw [HQ.out] | rw [← HQ.out, K1.out], rfl⟩
            · have q_n1 : (num == 1) = false := by simp; omega
              have HQ : Hid (numB k num = false) := lh (decide_eq_false (by omega))
              go_wp2
              go_meet
              case rel => exact ⟨by first | rfl | rw [K1.out], by first | rw [HQ.out] | rw [← HQ.out, K1.out], rfl⟩
          · have q_k2 : (k == 2) = false := by simp; omega
            have HQ : Hid (numB k num = false) := lh (decide_eq_false (by omega))
            go_wp2
            go_meet
            case rel => exact ⟨by first | rfl | rw [K1.out], by first | rw [HQ.out] | rw [← HQ.out, K1.out], rfl⟩
     case rest =>
      obtain ⟨rfl, rfl, rfl⟩ := hcut
      go_upto_block 0 with fail
      go_cut [10] from 13 (fun s10 wx => s10 = .bool (Xcm k name) ∧ Below X.heap.size X wx)
      case first => as_aux_lemma =>
       have hst : S.toList = name := by rw [HS.out, Xaf]
       have hnm : ∀ V : World, Below X.heap.size X V → Calls Tryz.prog 30 #[.string S] V fun e w' => e = .returned (.bool (Xam name)) ∧ Below X.heap.size X w' := fun V hV => by
        have := Xkb S V (by rw [HS.out, Lib.size_eq, Xak]; exact hname)
        rw [HS.out, Xak] at this
        rw [HS.out]
        exact this.mono fun e w' h => ⟨h.1, hV.trans (h.2.mono hV.size)⟩
       have HNM := lh hnm
       have HTL := lh hst
       clear hst hnm
       have hcs : (k = 4 ∨ k = 5 ∨ k = 11 ∨ k = 13) ∨ k = 9 ∨ k = 10 ∨ (k = 1 ∨ k = 2 ∨ k = 3 ∨ k = 6 ∨ k = 7 ∨ k = 8 ∨ k = 12) := by omega
       rcases hcs with h | h | h | h
       · have HK : Hid (∀ kk, (kk = 4 ∨ kk = 5 ∨ kk = 11 ∨ kk = 13) → Xcm kk name = Xam name) := lh (fun kk h => by unfold Xcm; rw [if_pos h])
         rcases h with rfl | rfl | rfl | rfl
         all_goals
          go_wp2_with (first | (go_at_call 30; refine (HNM.out _ HBY.out).mono ?_; rintro e w2 ⟨rfl, hb2⟩))
          go_meet
          case rel => exact ⟨by rw [HK.out _ (by omega)], hb2⟩
       · subst h
         by_cases s1 : name = [45]
         · have t1 : S.toList = [45] := HTL.out.trans s1
           have HQ : Hid (Xcm 9 name = true) := lh (by unfold Xcm; simp [s1])
           clear s1
           go_wp2
           go_meet
           case rel => exact ⟨by rw [HQ.out], HBY.out⟩
         · have q1 : (S.toList == [45]) = false := by rw [HTL.out]; simpa using s1
           by_cases s2 : name = [33]
           · have t2 : S.toList = [33] := HTL.out.trans s2
             have HQ : Hid (Xcm 9 name = true) := lh (by unfold Xcm; simp [s2])
             clear s1 s2
             go_wp2
             go_meet
             case rel => exact ⟨by rw [HQ.out], HBY.out⟩
           · have q2 : (S.toList == [33]) = false := by rw [HTL.out]; simpa using s2
             have HQ : Hid (Xcm 9 name = false) := lh (by unfold Xcm; simp [s1, s2])
             clear s1 s2
             go_wp2
             go_meet
             case rel => exact ⟨by rw [HQ.out], HBY.out⟩
       · subst h
         by_cases s1 : name = [43]
         · have t1 : S.toList = [43] := HTL.out.trans s1
           have HQ : Hid (Xcm 10 name = true) := lh (by unfold Xcm; simp [s1, opsL])
           clear s1
           go_wp2
           go_meet
           case rel => exact ⟨by rw [HQ.out], HBY.out⟩
         have q1 : (S.toList == [43]) = false := by rw [HTL.out]; simpa using s1
         by_cases s2 : name = [45]
         · have t2 : S.toList = [45] := HTL.out.trans s2
           have HQ : Hid (Xcm 10 name = true) := lh (by unfold Xcm; simp [s2, opsL])
           clear s1 s2
           go_wp2
           go_meet
           case rel => exact ⟨by rw [HQ.out], HBY.out⟩
         have q2 : (S.toList == [45]) = false := by rw [HTL.out]; simpa using s2
         by_cases s3 : name = [42]
         · have t3 : S.toList = [42] := HTL.out.trans s3
           have HQ : Hid (Xcm 10 name = true) := lh (by unfold Xcm; simp [s3, opsL])
           clear s1 s2 s3
           go_wp2
           go_meet
           case rel => exact ⟨by rw [HQ.out], HBY.out⟩
         have q3 : (S.toList == [42]) = false := by rw [HTL.out]; simpa using s3
         by_cases s4 : name = [47]
         · have t4 : S.toList = [47] := HTL.out.trans s4
           have HQ : Hid (Xcm 10 name = true) := lh (by unfold Xcm; simp [s4, opsL])
           clear s1 s2 s3 s4
           go_wp2
           go_meet
           case rel => exact ⟨by rw [HQ.out], HBY.out⟩
         have q4 : (S.toList == [47]) = false := by rw [HTL.out]; simpa using s4
         by_cases s5 : name = [37]
         · have t5 : S.toList = [37] := HTL.out.trans s5
           have HQ : Hid (Xcm 10 name = true) := lh (by unfold Xcm; simp [s5, opsL])
           clear s1 s2 s3 s4 s5
           go_wp2
           go_meet
           case rel => exact ⟨by rw [HQ.out], HBY.out⟩
         have q5 : (S.toList == [37]) = false := by rw [HTL.out]; simpa using s5
         by_cases s6 : name = [38]
         · have t6 : S.toList = [38] := HTL.out.trans s6
           have HQ : Hid (Xcm 10 name = true) := lh (by unfold Xcm; simp [s6, opsL])
           clear s1 s2 s3 s4 s5 s6
           go_wp2
           go_meet
           case rel => exact ⟨by rw [HQ.out], HBY.out⟩
         have q6 : (S.toList == [38]) = false := by rw [HTL.out]; simpa using s6
         by_cases s7 : name = [124]
         · have t7 : S.toList = [124] := HTL.out.trans s7
           have HQ : Hid (Xcm 10 name = true) := lh (by unfold Xcm; simp [s7, opsL])
           clear s1 s2 s3 s4 s5 s6 s7
           go_wp2
           go_meet
           case rel => exact ⟨by rw [HQ.out], HBY.out⟩
         have q7 : (S.toList == [124]) = false := by rw [HTL.out]; simpa using s7
         by_cases s8 : name = [60]
         · have t8 : S.toList = [60] := HTL.out.trans s8
           have HQ : Hid (Xcm 10 name = true) := lh (by unfold Xcm; simp [s8, opsL])
           clear s1 s2 s3 s4 s5 s6 s7 s8
           go_wp2
           go_meet
           case rel => exact ⟨by rw [HQ.out], HBY.out⟩
         have q8 : (S.toList == [60]) = false := by rw [HTL.out]; simpa using s8
         by_cases s9 : name = [60, 61]
         · have t9 : S.toList = [60, 61] := HTL.out.trans s9
           have HQ : Hid (Xcm 10 name = true) := lh (by unfold Xcm; simp [s9, opsL])
           clear s1 s2 s3 s4 s5 s6 s7 s8 s9
           go_wp2
           go_meet
           case rel => exact ⟨by rw [HQ.out], HBY.out⟩
         have q9 : (S.toList == [60, 61]) = false := by rw [HTL.out]; simpa using s9
         by_cases s10 : name = [61, 61]
         · have t10 : S.toList = [61, 61] := HTL.out.trans s10
           have HQ : Hid (Xcm 10 name = true) := lh (by unfold Xcm; simp [s10, opsL])
           clear s1 s2 s3 s4 s5 s6 s7 s8 s9 s10
           go_wp2
           go_meet
           case rel => exact ⟨by rw [HQ.out], HBY.out⟩
         have q10 : (S.toList == [61, 61]) = false := by rw [HTL.out]; simpa using s10
         by_cases s11 : name = [33, 61]
         · have t11 : S.toList = [33, 61] := HTL.out.trans s11
           have HQ : Hid (Xcm 10 name = true) := lh (by unfold Xcm; simp [s11, opsL])
           clear s1 s2 s3 s4 s5 s6 s7 s8 s9 s10 s11
           go_wp2
           go_meet
           case rel => exact ⟨by rw [HQ.out], HBY.out⟩
         have q11 : (S.toList == [33, 61]) = false := by rw [HTL.out]; simpa using s11
         have HQ : Hid (Xcm 10 name = false) := lh (by unfold Xcm; simp [opsL, s1, s2, s3, s4, s5, s6, s7, s8, s9, s10, s11])
         clear s1 s2 s3 s4 s5 s6 s7 s8 s9 s10 s11
         go_wp2
         go_meet
         case rel => exact ⟨by rw [HQ.out], HBY.out⟩
       · have HQ : Hid (S.toList.isEmpty = Xcm k name) := lh (by rw [HTL.out]; unfold Xcm; rw [if_neg (by omega), if_neg (by omega), if_neg (by omega)]; cases name <;> simp)
         rcases h with rfl | rfl | rfl | rfl | rfl | rfl | rfl
         all_goals
          go_wp2
          go_meet
          case rel => exact ⟨by rw [← HQ.out], HBY.out⟩
      case rest =>
       obtain ⟨rfl, hbV⟩ := hcut
       have HBV := lh hbV
       clear hbV c0 c2 c3 c4
       obtain ⟨c0, c2, c3, c4⟩ := HC.out wc HBV.out
       obtain ⟨b1, hb1⟩ : ∃ b, b = numB k num := ⟨_, rfl⟩
       obtain ⟨b2, hb2⟩ : ∃ b, b = Xcm k name := ⟨_, rfl⟩
       have HR2 := HR.out
       rw [← hb1, ← hb2] at HR2 ⊢
       clear hb1 hb2 HR
       have HR3 := lh HR2
       clear HR2
       cases b1
       · go_wp2
         go_ret
         exact ⟨by rw [HR3.out]; rfl, HG.out ▸ HBX.out.trans (HBV.out.mono HBX.out.size)⟩
       cases b2
       · go_wp2
         go_ret
         exact ⟨by rw [HR3.out]; rfl, HG.out ▸ HBX.out.trans (HBV.out.mono HBX.out.size)⟩
       have HR4 : Hid (R = Xcb es (Xbb k) depth chain (left - ownN k)) := lh (by rw [HR3.out]; rfl)
       clear HR3
       have hcell := fun w => own_cell w h3 h4
       have ho : 1 ≤ ownN k ∧ ownN k ≤ 3 := by unfold ownN; split <;> (try split) <;> omega
       obtain ⟨on, hon⟩ : ∃ on, on = ownN k := ⟨_, rfl⟩
       rw [← hon] at hcell ho
       have HO := lh hon
       obtain ⟨kn, hkn⟩ : ∃ kn : Nat, k = kn := ⟨k.toNat, by omega⟩
       subst hkn
       obtain ⟨wA, hwA⟩ : ∃ wA, wA = ownA := ⟨_, rfl⟩
       rw [← hwA] at hcell
       have hbu : ∀ vs : List (Nat × Value), Tryz.prog.built 111 vs = some ownA → Tryz.prog.built 111 vs = some wA := fun vs h => by rw [h, hwA]
       have hsz : (Tryz.prog.info? 111).map (·.size) = some wA.size := by rw [hwA]; kernel_rfl
       have hsz2 : ownZ.size = wA.size := by rw [hwA]; rfl
       have hone : wA.all (·.oneCell') = true := by rw [hwA]; kernel_rfl
       obtain ⟨zA, hzA⟩ : ∃ zA, zA = ownZ := ⟨_, rfl⟩
       have hz : (Tryz.prog.info? 111).map (fun i => (i.zero, i.size)) = some (some (.agg zA), 14) := by rw [hzA]; kernel_rfl
       rw [← hzA] at hsz2
       have HBU := lh hbu
       have HSZ := lh hsz
       have HZ := lh hz
       have HS2 := lh hsz2
       have HONE := lh hone
       have hc1 := hcell wc
       have hw1 : IntKind.i64.wrap (left - on) = left - on := IntWalk.i64_in _ ⟨by omega, by omega⟩
       have c0' : (wc.alloc (.cells wA 111)).cell? ⟨g, 0, none⟩ = some (.int .i64 kn) := (HC.out _ (HBV.out.alloc HBV.out.size _)).1
       rw [show ((kn : Int)).toNat = kn from rfl] at hc1
       have hk14 : kn < 14 := by omega
       clear hbu hsz hz hsz2 hone hwA hzA hcell hon
       go_upto_region 19 with (first
        | (with_reducible refine Xfs rfl 111 _ rfl _ rfl wA (HBU.out _ (by kernel_rfl)) ?_)
        | (with_reducible refine Xfq rfl 111 rfl (.agg zA) 14 HZ.out zA rfl ?_)
        | (with_reducible refine Xft rfl 111 _ _ rfl rfl zA wA rfl HSZ.out HS2.out HONE.out ?_))
       obtain ⟨V, hV⟩ : ∃ V, V = wc.alloc (.cells wA 111) := ⟨_, rfl⟩
       rw [← hV]
       have hbV2 : Below X.heap.size X V := hV ▸ (HBV.out.alloc HBV.out.size _)
       have HBV2 := lh hbV2
       clear hbV2 hV c0' hc1
       have hih : ∀ (j : Nat) (hj : j < es.length), ∃ b off, A = some ⟨b, off, none⟩ ∧ b < B ∧
         w0.cell? ⟨b, off + j * 5, none⟩ = some (.int .i64 es[j].kind) ∧ w0.cell? ⟨b, off + j * 5 + 1, none⟩ = some (.int .i64 es[j].pl) ∧ w0.cell? ⟨b, off + j * 5 + 2, none⟩ = some (.int .i64 es[j].num) ∧
         w0.cell? ⟨b, off + j * 5 + 3, none⟩ = some (.string (Xaa es[j].name)) ∧ w0.cell? ⟨b, off + j * 5 + 4, none⟩ = some (f j) ∧
         ∀ (d c l : Int) (w : World), Below B w0 w → B ≤ w.heap.size → -1 ≤ d → d ≤ 100 → 0 ≤ c → c ≤ 8 → l ≤ 100000 →
          Calls Tryz.prog 62 #[.agg #[.int .i64 es[j].kind, .int .i64 es[j].pl, .int .i64 es[j].num, .string (Xaa es[j].name), f j], .int .i64 d, .int .i64 c, .int .i64 l] w
           fun e w' => e = .returned (.int .i64 (Xdb es[j] d c l)) ∧ Below w.heap.size w w' := fun j hj => by
        obtain ⟨b, off, h1, h2, h3, h4, h5, h6, h7, h8⟩ := HA.out j hj
        refine ⟨b, off, h1, h2, h4, h5, h6, h7, h8, fun d c l w a1 a2 a3 a4 a5 a6 a7 => ?_⟩
        have hs := Xdy (Xde HSM.out j hj)
        have := HIH.out j hj es[j].kind es[j].pl es[j].num d c l es[j].name w a1 a2 hs.1 hs.2.2 a3 a4 a5 a6 a7
        rw [Ex.eta] at this
        exact this
       have HH := lh hih
       clear hih HA HIH HSM HBU HSZ HZ HS2 HONE hk14 hw1
       have HR5 : Hid (Xcb (es.drop 0) (Xbb kn && decide (0 = 0)) depth chain (left - on) = R) := lh (by rw [HR4.out, HO.out]; simp)
       clear HR4 HO c0 c2 c3 c4 HBY
       have hon1 := ho.1
       have hon3 := ho.2
       clear ho
       go_wp2
       go_loopw [3, 12] (fun l i wr => ∃ (j : Nat) (ll : Int), j ≤ ne ∧ i = .int .i64 j ∧ l = .int .i64 ll ∧ ll ≤ 100000 ∧ Hid (Xcb (es.drop j) (Xbb kn && decide (j = 0)) depth chain ll = R) ∧ Hid (Below X.heap.size X wr)) (fun _ i _ => ne - (intOf i).toNat)
       case atStart => exact ⟨0, left - on, Nat.zero_le _, rfl, rfl, by omega, HR5, HBV2⟩
       case round =>
        obtain ⟨wo, rfl⟩ : ∃ wo : World, wo = wr := ⟨_, rfl⟩
        obtain ⟨j, ll, hj, rfl, rfl, hll, HSJ, HBL⟩ := hrel
        obtain ⟨c0, c2, c3, c4⟩ := HC.out wo HBL.out
        clear c2 c3
        by_cases hlt : j < ne
        · by_cases hl0 : 0 ≤ ll
          · have hje : j < es.length := by rw [← HN.out]; exact hlt
            obtain ⟨b, off, rfl, hbB, p0, p1, p2, p3, p4, hcc⟩ := HH.out j hje
            have hgo := Xuk hje (Xbb kn && decide (j = 0)) depth chain ll hl0
            rw [HSJ.out] at hgo
            have hdf : (Xbb kn && decide (j + 1 = 0)) = false := by simp
            obtain ⟨Z, hZ⟩ : ∃ Z, Z = es[j] := ⟨_, rfl⟩
            rw [← hZ] at p0 p1 p2 p3 hcc hgo
            have hbw : Below B w0 wo := HB.out.trans ((HBX.out.trans (HBL.out.mono HBX.out.size)).mono hB)
            have hsx : B ≤ wo.heap.size := Nat.le_trans hB (Nat.le_trans HBX.out.size HBL.out.size)
            have r0 := (hbw.cell (p := ⟨b, off + j * 5, none⟩) hbB).trans p0
            have r1 := (hbw.cell (p := ⟨b, off + j * 5 + 1, none⟩) hbB).trans p1
            have r2 := (hbw.cell (p := ⟨b, off + j * 5 + 2, none⟩) hbB).trans p2
            have r3 := (hbw.cell (p := ⟨b, off + j * 5 + 3, none⟩) hbB).trans p3
            have r4 := (hbw.cell (p := ⟨b, off + j * 5 + 4, none⟩) hbB).trans p4
            obtain ⟨yk, hyk⟩ : ∃ x, x = Z.kind := ⟨_, rfl⟩
            obtain ⟨yp, hyp⟩ : ∃ x, x = Z.pl := ⟨_, rfl⟩
            obtain ⟨yn, hyn⟩ : ∃ x, x = Z.num := ⟨_, rfl⟩
            obtain ⟨ys, hys⟩ : ∃ x, x = Xaa Z.name := ⟨_, rfl⟩
            obtain ⟨yv, hyv⟩ : ∃ x, x = f j := ⟨_, rfl⟩
            rw [← hyk, ← hyp, ← hyn, ← hys, ← hyv] at hcc
            rw [← hyk] at r0
            rw [← hyp] at r1
            rw [← hyn] at r2
            rw [← hys] at r3
            rw [← hyv] at r4
            clear hyk hyp hyn hys hyv HH HSJ hZ hje p0 p1 p2 p3 p4
            by_cases hj0 : j = 0 ∧ Xbb kn = true
            · obtain ⟨rfl, hbk⟩ := hj0
              rw [Nat.zero_mul, Nat.add_zero] at r0 r1 r2 r3 r4
              have hbeh : ∀ V : World, Calls Tryz.prog 76 #[.int .i64 (kn : Int)] V fun e w' => e = .returned (.bool true) ∧ w' = V := fun V => hbk ▸ Xht _ V
              have HBE := lh hbeh
              rw [if_pos (by simp [hbk])] at hgo
              by_cases h8 : chain = 8
              · rw [if_pos h8] at hgo
                have HG2 := lh hgo
                have q8 : (chain == 8) = true := by simp; exact h8
                clear hgo hbk hbeh hcc hbw h8 hdf
                go_wp2_with (first
                 | (with_reducible refine (HBE.out _).mono ?_; rintro e w2 ⟨rfl, rfl⟩))
                go_ret
                exact ⟨by rw [HG2.out] <;> rfl, HG.out ▸ HBX.out.trans (HBL.out.mono HBX.out.size)⟩
              · rw [if_neg h8] at hgo
                have q8 : (chain == 8) = false := by simp; exact h8
                have hcall := hcc depth (chain + 1) ll wo hbw hsx hd0 hd (by omega) (by omega) hll
                have hle : Xdb Z depth (chain + 1) ll ≤ ll := Xfl (by omega) hl0
                obtain ⟨yr, hyr⟩ : ∃ x, x = Xdb Z depth (chain + 1) ll := ⟨_, rfl⟩
                rw [← hyr] at hcall hle hgo
                have HCC := lh hcall
                have HS2 : Hid (Xcb (es.drop (0 + 1)) (Xbb kn && decide (0 + 1 = 0)) depth chain yr = R) := lh (by rw [hdf]; exact hgo.symm)
                clear hgo hbk hbeh hcc hcall hyr hbw h8 hdf
                go_wp2_with (first
                 | (with_reducible refine (HBE.out _).mono ?_; rintro e w2 ⟨rfl, rfl⟩)
                 | ((with_reducible refine HCC.out.mono ?_); rintro e w1 ⟨rfl, hb1⟩))
                go_roundw
                case rel => exact ⟨0 + 1, yr, by omega, by go_num, rfl, by omega, HS2, lh (HBL.out.trans (hb1.mono HBL.out.size))⟩
                case measure => simp [intOf]; omega
            · rw [if_neg (by simp; intro h1 h2; exact hj0 ⟨h2, h1⟩)] at hgo
              have hcall := hcc (depth + 1) 0 ll wo hbw hsx (by omega) (by omega) (by omega) (by omega) hll
              have hle : Xdb Z (depth + 1) 0 ll ≤ ll := Xfl (by omega) hl0
              obtain ⟨yr, hyr⟩ : ∃ x, x = Xdb Z (depth + 1) 0 ll := ⟨_, rfl⟩
              rw [← hyr] at hcall hle hgo
              have HCC := lh hcall
              have HS2 : Hid (Xcb (es.drop (j + 1)) (Xbb kn && decide (j + 1 = 0)) depth chain yr = R) := lh (by rw [hdf]; exact hgo.symm)
              have hw1 : IntKind.i64.wrap (depth + 1) = depth + 1 := IntWalk.i64_in _ ⟨by omega, by omega⟩
              clear hgo hcc hcall hyr hbw hdf
              by_cases hj1 : j = 0
              · subst hj1
                rw [Nat.zero_mul, Nat.add_zero] at r0 r1 r2 r3 r4
                have hbk : Xbb kn = false := by
                 cases hq : Xbb (kn : Int) with
                 | false => rfl
                 | true => exact absurd ⟨rfl, hq⟩ hj0
                have hbeh : ∀ V : World, Calls Tryz.prog 76 #[.int .i64 (kn : Int)] V fun e w' => e = .returned (.bool false) ∧ w' = V := fun V => hbk ▸ Xht _ V
                have HBE := lh hbeh
                clear hbk hbeh hj0
                go_wp2_with (first
                 | (with_reducible refine (HBE.out _).mono ?_; rintro e w2 ⟨rfl, rfl⟩)
                 | ((with_reducible refine HCC.out.mono ?_); rintro e w1 ⟨rfl, hb1⟩))
                go_roundw
                case rel => exact ⟨0 + 1, yr, by omega, by go_num, rfl, by omega, HS2, lh (HBL.out.trans (hb1.mono HBL.out.size))⟩
                case measure => simp [intOf]; omega
              · have qj : ((j : Int) == 0) = false := by simp; omega
                clear hj0 hj1
                go_wp2_with (first
                 | ((with_reducible refine HCC.out.mono ?_); rintro e w1 ⟨rfl, hb1⟩))
                go_roundw
                case rel => exact ⟨j + 1, yr, by omega, by go_num, rfl, by omega, HS2, lh (HBL.out.trans (hb1.mono HBL.out.size))⟩
                case measure => simp [intOf]; omega
          · have HRE : Hid (R = ll) := lh (by rw [← HSJ.out]; exact Xrr _ _ _ _ _ (by omega))
            have q0 : decide (0 ≤ ll) = false := decide_eq_false hl0
            clear HH HSJ
            go_wp2
            go_ret
            exact ⟨by rw [HRE.out] <;> rfl, HG.out ▸ HBX.out.trans (HBL.out.mono HBX.out.size)⟩
        · have HRE : Hid (R = ll) := lh (by
           have := HSJ.out
           rw [List.drop_of_length_le (by rw [← HN.out]; omega), Xcb] at this
           exact this.symm)
          clear HH HSJ
          go_wp2
          go_ret
          exact ⟨by rw [HRE.out] <;> rfl, HG.out ▸ HBX.out.trans (HBL.out.mono HBX.out.size)⟩
end Go.Proofs.YtodociiaobjfgaaGreatDoor
