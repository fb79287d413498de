/- Ep -/
import Derived.Test.YtbckeljbpknbdaaGreatDoorYe6
import Derived.Test.YtbckeljbpknbdaaGreatDoorYf0
import Derived.Test.YtbckeljbpknbdaaGreatDoorRows
set_option linter.unusedVariables false
set_option linter.unusedSimpArgs false
namespace Go.Proofs.YtbckeljbpknbdaaGreatDoor
open Go.RowKit
theorem varsS_len (s : Sm) : (varsS s).length = (if s.kind = 1 then 1 else 0) + (varsSs s.body).length + (varsSs s.els).length := by
 cases s with
 | mk k p nm ty ex bd el =>
   rw [varsS]
   show ((if k = 1 then [(⟨nm, ty⟩ : Pr)] else []) ++ varsSs bd ++ varsSs el).length = (if k = 1 then 1 else 0) + (varsSs bd).length + (varsSs el).length
   rw [List.length_append, List.length_append]
   split <;> rfl
theorem varsSs_app (a b : List Sm) : varsSs (a ++ b) = varsSs a ++ varsSs b := by
 induction a with
 | nil => rw [List.nil_append, varsSs]; rfl
 | cons s a ih => rw [List.cons_append, varsSs, varsSs, ih, List.append_assoc]
theorem varsSs_take {ss : List Sm} {j : Nat} (hj : j < ss.length) : (varsSs (ss.take (j + 1))).length = (varsSs (ss.take j)).length + ((if ss[j].kind = 1 then 1 else 0) + (varsSs ss[j].body).length + (varsSs ss[j].els).length) := by
 have e : varsSs [ss[j]] = varsS ss[j] := by rw [varsSs, varsSs, List.append_nil]
 rw [List.take_succ_eq_append_getElem hj, varsSs_app, List.length_append, e, varsS_len]
mutual
theorem varsS_le : ∀ s : Sm, (varsS s).length ≤ smW s
 | .mk k p nm ty ex bd el => by
   rw [varsS, smW, List.length_append, List.length_append]
   have h1 := varsSs_le bd
   have h2 := varsSs_le el
   have h3 : (if k = 1 then [(⟨nm, ty⟩ : Pr)] else []).length ≤ 1 := by split <;> simp
   omega
theorem varsSs_le : ∀ ss : List Sm, (varsSs ss).length ≤ smWs ss
 | [] => by rw [varsSs]; exact Nat.zero_le _
 | s :: ss => by
   rw [varsSs, smWs, List.length_append]
   have h1 := varsS_le s
   have h2 := varsSs_le ss
   omega
end
theorem varsSs_take_le (ss : List Sm) (j : Nat) : (varsSs (ss.take j)).length ≤ (varsSs ss).length := by
 have := varsSs_app (ss.take j) (ss.drop j)
 rw [List.take_append_drop] at this
 rw [this, List.length_append]
 omega
theorem smW_le : ∀ (ss : List Sm) (j : Nat) (hj : j < ss.length), smW ss[j] ≤ smWs ss
 | s :: ss, 0, _ => by rw [smWs]; exact Nat.le_add_right _ _
 | s :: ss, j + 1, hj => by
   have := smW_le ss j (by simpa using hj)
   rw [smWs]
   simp only [List.getElem_cons_succ]
   omega
theorem sm_parts {ss : List Sm} {j : Nat} (hj : j < ss.length) : smWs ss[j].body ≤ smWs ss ∧ smWs ss[j].els ≤ smWs ss := by
 have h : smW ss[j] ≤ smWs ss := smW_le ss j hj
 generalize ss[j] = s at h
 cases s with
 | mk k p nm ty ex bd el =>
   rw [smW] at h
   show smWs bd ≤ _ ∧ smWs el ≤ _
   omega
set_option maxHeartbeats 4000000 in
theorem declared6_any {w0 : World} {B : Nat} {ss : List Sm} {v : Value} (h : IsSms w0 (· < B) ss v) : ∀ w : World, smWs ss ≤ 1000000 → Below B w0 w → Calls Tryz.prog 15 #[v] w fun e w' => e = .returned (.int .i64 ((varsSs ss).length : Nat)) ∧ ∃ m, w' = w.drewN m := by
 induction h with
 | mk ss A c fe fb fl hc hM hA he hb hl ihb ihl =>
   intro w hs hB
   obtain ⟨n, hn⟩ : ∃ n, n = ss.length := ⟨_, rfl⟩
   rw [← hn] at hc ⊢
   have hvs := varsSs_le ss
   obtain ⟨t, ht⟩ : ∃ t, t = (varsSs ss).length := ⟨_, rfl⟩
   rw [← ht] at hvs ⊢
   have HN := Lib.hid hn
   have HT := Lib.hid ht
   have HS := Lib.hid hs
   have HA := Lib.hid hA
   have HB := Lib.hid hB
   have HIB := Lib.hid ihb
   have HIL := Lib.hid ihl
   have HVB : Hid (∀ (k : Nat) (hk : k < ss.length), ∃ A n c, fb k = .slice A n c) := Lib.hid fun k hk => by obtain ⟨A, c, h, -⟩ := IsSms.slice (hb k hk); exact ⟨A, _, c, h⟩
   have HVL : Hid (∀ (k : Nat) (hk : k < ss.length), ∃ A n c, fl k = .slice A n c) := Lib.hid fun k hk => by obtain ⟨A, c, h, -⟩ := IsSms.slice (hl k hk); exact ⟨A, _, c, h⟩
   clear hn ht hA he hb hl ihb ihl hB
   go_enter Tryz.func15, Tryz.ntmps15
   go_wp2
   go_loopw [3, 4] (fun s3 s4 wr => ∃ j q : Nat, j ≤ n ∧ q ≤ t ∧ s3 = .int .i64 q ∧ s4 = .int .i64 j ∧ Hid (q = (varsSs (ss.take j)).length) ∧ Hid (∃ m, wr = w.drewN m)) (fun _ s4 _ => n - (intOf s4).toNat)
   case atStart => exact ⟨0, 0, Nat.zero_le _, Nat.zero_le _, rfl, rfl, Lib.hid (by rw [List.take_zero, varsSs]; rfl), Lib.hid ⟨0, rfl⟩⟩
   case round =>
    obtain ⟨wo, rfl⟩ : ∃ wo : World, wo = wr := ⟨_, rfl⟩
    obtain ⟨j, q, hj, hqt, rfl, rfl, HQ, HD⟩ := hrel
    by_cases hlt : j < n
    · have hjl : j < ss.length := by rw [← HN.out]; exact hlt
      obtain ⟨b, off, rfl, hb, hz1, hz2, c0, c1, c2, c3, c4, c5, c6⟩ := HA.out j hjl
      obtain ⟨A5, n5, k5, e5⟩ := HVB.out j hjl
      obtain ⟨A6, n6, k6, e6⟩ := HVL.out j hjl
      obtain ⟨m, hm⟩ := HD.out
      have hcell : ∀ p : Addr, wo.cell? p = w.cell? p := fun p => by rw [hm]; rfl
      have r0 := (hcell _).trans ((HB.out.cell (p := ⟨b, off + j * 7, none⟩) hb).trans c0)
      have r5 := (hcell _).trans ((HB.out.cell (p := ⟨b, off + j * 7 + 5, none⟩) hb).trans c5)
      have r6 := (hcell _).trans ((HB.out.cell (p := ⟨b, off + j * 7 + 6, none⟩) hb).trans c6)
      obtain ⟨hp1, hp2⟩ := sm_parts hjl
      have hbel : ∀ i, Below B w0 (wo.drewN i) := fun i => by
       have h := HB.out
       rw [hm]
       exact ⟨h.os, h.tape, h.output, h.size, h.block⟩
      have hib := fun i => HIB.out j hjl (wo.drewN i) (Nat.le_trans hp1 HS.out) (hbel i)
      have hil := fun i => HIL.out j hjl (wo.drewN i) (Nat.le_trans hp2 HS.out) (hbel i)
      have htk := varsSs_take hjl
      rw [← HQ.out] at htk
      have htl := varsSs_take_le ss (j + 1)
      rw [← HT.out, htk] at htl
      rw [e5] at r5 hib
      rw [e6] at r6 hil
      obtain ⟨vb, hvb⟩ : ∃ vb, vb = (varsSs ss[j].body).length := ⟨_, rfl⟩
      obtain ⟨vl, hvl⟩ : ∃ vl, vl = (varsSs ss[j].els).length := ⟨_, rfl⟩
      rw [← hvb] at hib htk htl
      rw [← hvl] at hil htk htl
      generalize ss[j].kind = kd at r0 htk htl
      have HIB2 := Lib.hid hib
      have HIL2 := Lib.hid hil
      have HTK := Lib.hid htk
      have hs1 := HS.out
      have hw1 : IntKind.i64.wrap ((vb : Int) + (vl : Int)) = (vb : Int) + (vl : Int) := IntWalk.i64_in _ ⟨by split at htl <;> omega, by split at htl <;> omega⟩
      have hwj : IntKind.i64.wrap ((j : Int) + 1) = (j : Int) + 1 := IntWalk.i64_in _ ⟨by omega, by omega⟩
      clear hm hcell hbel hib hil htk c0 c1 c2 c3 c4 c5 c6 e5 e6 hp1 hp2 hvb hvl hb hz1 hz2 hjl
      by_cases hk : kd = 1
      · subst hk
        rw [if_pos rfl] at htl
        have hw2 : IntKind.i64.wrap ((q : Int) + 1) = (q : Int) + 1 := IntWalk.i64_in _ ⟨by omega, by omega⟩
        have hw3 : IntKind.i64.wrap ((q : Int) + 1 + ((vb : Int) + (vl : Int))) = (q : Int) + 1 + ((vb : Int) + (vl : Int)) := IntWalk.i64_in _ ⟨by omega, by omega⟩
        go_wp2
        go_quiet (first | (go_at_call 15; with_reducible exact Calls.quiet_of (HIB2.out _)) | (go_at_call 15; with_reducible exact Calls.quiet_of (HIL2.out _)))
        go_wp2
        go_roundw
        case rel => exact ⟨j + 1, q + (1 + vb + vl), by omega, by omega, by go_num, by go_num, Lib.hid (by rw [HTK.out]; simp), Lib.hid (by obtain ⟨m, hm⟩ := HD.out; exact ⟨_, by rw [hm, World.drewN_drewN]⟩)⟩
        case measure => first | (simp [intOf]; done) | (simp [intOf]; omega)
      · rw [if_neg hk] at htl
        have hw3 : IntKind.i64.wrap ((q : Int) + ((vb : Int) + (vl : Int))) = (q : Int) + ((vb : Int) + (vl : Int)) := IntWalk.i64_in _ ⟨by omega, by omega⟩
        have hkb : (kd == 1) = false := by simpa using hk
        go_wp2
        go_quiet (first | (go_at_call 15; with_reducible exact Calls.quiet_of (HIB2.out _)) | (go_at_call 15; with_reducible exact Calls.quiet_of (HIL2.out _)))
        go_wp2
        go_roundw
        case rel => exact ⟨j + 1, q + (vb + vl), by omega, by omega, by go_num, by go_num, Lib.hid (by rw [HTK.out, if_neg hk]; omega), Lib.hid (by obtain ⟨m, hm⟩ := HD.out; exact ⟨_, by rw [hm, World.drewN_drewN]⟩)⟩
        case measure => first | (simp [intOf]; done) | (simp [intOf]; omega)
    · have hq : q = t := by rw [HQ.out, HT.out, List.take_of_length_le (by rw [← HN.out]; omega)]
      subst hq
      go_wp2
      go_ret
      exact ⟨rfl, HD.out⟩
end Go.Proofs.YtbckeljbpknbdaaGreatDoor
