/- The walk of SameExpr, where both are alike. -/
import Derived.Test.YtadkimnpeachpaaGreatDoorUe
import Derived.StillTailTactics
import Derived.IntWalk
set_option linter.unusedVariables false
namespace Go.Proofs.YtadkimnpeachpaaGreatDoor
open Go.RowKit

mutual
/-- alike in all fields, but where they stand, if at is false -/
def likeE (at_ : Bool) : Ex → Ex → Prop
  | .mk k p n s xs, .mk k' p' n' s' bs => k = k' ∧ (at_ = true → p = p') ∧ n = n' ∧ s = s' ∧ likeEs at_ xs bs
def likeEs (at_ : Bool) : List Ex → List Ex → Prop
  | [], [] => True
  | a :: xs, b :: bs => likeE at_ a b ∧ likeEs at_ xs bs
  | [], _ :: _ => False
  | _ :: _, [] => False
end
theorem likeEs_len {t : Bool} : ∀ {xs bs : List Ex}, likeEs t xs bs → xs.length = bs.length
  | [], [], _ => rfl
  | a :: xs, b :: bs, h => by rw [likeEs] at h; rw [List.length_cons, List.length_cons, likeEs_len h.2]
  | [], _ :: _, h => by rw [likeEs] at h; exact h.elim
  | _ :: _, [], h => by rw [likeEs] at h; exact h.elim
theorem likeEs_get {t : Bool} : ∀ {xs bs : List Ex}, likeEs t xs bs → ∀ (k : Nat) (h1 : k < xs.length) (h2 : k < bs.length), likeE t xs[k] bs[k]
  | [], [], _, k, h1, _ => absurd h1 (by simp)
  | a :: xs, b :: bs, h, 0, _, _ => by rw [likeEs] at h; exact h.1
  | a :: xs, b :: bs, h, k + 1, h1, h2 => by rw [likeEs] at h; exact likeEs_get h.2 k (by simpa using h1) (by simpa using h2)
  | [], _ :: _, h, _, _, _ => by rw [likeEs] at h; exact h.elim
  | _ :: _, [], h, _, _, _ => by rw [likeEs] at h; exact h.elim
theorem likeE_parts {t : Bool} {a b : Ex} (h : likeE t a b) : a.kind = b.kind ∧ (t = true → a.pl = b.pl) ∧ a.num = b.num ∧ a.name = b.name ∧ likeEs t a.args b.args := by
  cases a; cases b
  rw [likeE] at h
  exact h
mutual
theorem likeE_refl (t : Bool) : ∀ e : Ex, likeE t e e
  | .mk k p n s xs => by rw [likeE]; exact ⟨rfl, fun _ => rfl, rfl, rfl, likeEs_refl t xs⟩
theorem likeEs_refl (t : Bool) : ∀ es : List Ex, likeEs t es es
  | [] => by rw [likeEs]; trivial
  | e :: es => by rw [likeEs]; exact ⟨likeE_refl t e, likeEs_refl t es⟩
end

def Sames (w0 : World) (B : Nat) (es : List Ex) (v : Value) : Prop :=
  ∀ (t : Bool) (bs : List Ex) (u : Value), IsExs w0 (· < B) bs u → likeEs t es bs → es.length ≤ 1000000 → smallEs 1000000 es → ∀ (k p p' num deep : Int) (name : ByteArray) (w : World), (t = true → p = p') → Below B w0 w → B ≤ w.heap.size → -100000 ≤ deep → deep ≤ 100000 →
    Calls Tryz.prog 13 #[.agg #[.int .i64 k, .int .i64 p, .int .i64 num, .string name, v], .agg #[.int .i64 k, .int .i64 p', .int .i64 num, .string name, u], .bool t, .int .i64 deep] w
      fun e w' => e = .returned (.bool true) ∧ Below w.heap.size w w'

set_option maxHeartbeats 4000000 in
set_option maxRecDepth 100000 in
theorem sameex_any {w0 : World} {B : Nat} {es : List Ex} {v : Value} (h : IsExs w0 (· < B) es v) : Sames w0 B es v := by
  induction h with
  | mk es A c f hc hM hA hr ih =>
    intro t bs u hu hlk hne6 hsm k p p' num deep name w hpp hb hB hd0 hd
    have hlen := likeEs_len hlk
    cases hu with
    | mk bs D d f' hc' hM' hA' hr' =>
    obtain ⟨ne, hne⟩ : ∃ ne, ne = es.length := ⟨_, rfl⟩
    rw [← hlen] at hc' ⊢
    rw [← hne] at hc hc' hne6 ⊢
    rw [← hne] at hlen
    have HNE := Lib.hid hne
    have HNB := Lib.hid hlen
    have HLK := Lib.hid hlk
    have HB0 := Lib.hid hb
    have HIH := Lib.hid ih
    have HA1 := Lib.hid hA
    have HA2 := Lib.hid hA'
    have HR2 := Lib.hid hr'
    have HSM := Lib.hid hsm
    have hpt : (t && (p != p')) = false := by
      cases t with
      | false => rfl
      | true => rw [hpp rfl]; simp
    have hpp1 : t = true → (p != p') = false := fun h => by rw [hpp h]; simp
    have HPP := Lib.hid hpp1
    have e2 : (name.toList != name.toList) = false := by simp
    clear hne hlen hlk hb ih hA hr hA' hr' hsm hpt hpp1
    have key : ∀ (tt : Bool), tt = t → ((tt = true → (p != p') = false) → Calls Tryz.prog 13 #[.agg #[.int .i64 k, .int .i64 p, .int .i64 num, .string name, .slice A ne c], .agg #[.int .i64 k, .int .i64 p', .int .i64 num, .string name, .slice D ne d], .bool tt, .int .i64 deep] w
      fun e w' => e = .returned (.bool true) ∧ Below w.heap.size w w') := by
      intro tt htt hq
      have HTT := Lib.hid htt
      clear htt
      cases tt
      all_goals
        first
        | (have hq1 := hq rfl)
        | skip
        clear hq
        go_enter Tryz.func13, Tryz.ntmps13
        go_wp2
        obtain ⟨X, hX⟩ : ∃ X : World, X = (w.alloc (.cells #[.int .i64 k, .int .i64 p, .int .i64 num, .string name, .slice A ne c] 24)).alloc (.cells #[.int .i64 k, .int .i64 p', .int .i64 num, .string name, .slice D ne d] 24) := ⟨_, rfl⟩
        obtain ⟨g, hg⟩ : ∃ g, g = w.heap.size := ⟨_, rfl⟩
        have hx1 : ExBlk X g k p num name (.slice A ne c) := by
          rw [hX, hg]; exact (ExBlk.new w _ _ _ _ _).alloc (by simp) _
        have hx2 : ExBlk X (g + 1) k p' num name (.slice D ne d) := by
          rw [hX, hg]
          have h := ExBlk.new (w.alloc (.cells #[.int .i64 k, .int .i64 p, .int .i64 num, .string name, .slice A ne c] 24)) k p' num name (.slice D ne d)
          rw [show (w.alloc (.cells #[.int .i64 k, .int .i64 p, .int .i64 num, .string name, .slice A ne c] 24)).heap.size = w.heap.size + 1 from by simp] at h
          exact h
        have hxs : X.heap.size = g + 2 := by rw [hX, hg]; simp
        have hxb : Below g w X := by rw [hX, hg]; exact ((Below.refl _ w).alloc (Nat.le_refl _) _).alloc (by simp) _
        rw [← hX, ← hg]
        have HX1 := Lib.hid hx1
        have HX2 := Lib.hid hx2
        have HXS := Lib.hid hxs
        have HXB := Lib.hid hxb
        have HG := Lib.hid hg
        clear hX hx1 hx2 hxs hxb hg
        go_loopw [9] (fun i wr => ∃ j : Nat, j ≤ ne ∧ i = .int .i64 j ∧ Hid (Below (g + 2) X wr)) (fun i _ => ne - (intOf i).toNat)
        case atStart => exact ⟨0, Nat.zero_le _, rfl, Lib.hid (Below.refl _ _)⟩
        case round =>
          obtain ⟨wo, rfl⟩ : ∃ wo : World, wo = wr := ⟨_, rfl⟩
          obtain ⟨j, hj, rfl, HBL⟩ := hrel
          have hb1 := HX1.out.below HBL.out (by omega)
          have hb2 := HX2.out.below HBL.out (by omega)
          have k0 := hb1.c0
          have k4 := hb1.c4
          have m0 := hb2.c0
          have m4 := hb2.c4
          by_cases hgo : j < ne ∧ 0 < deep
          · obtain ⟨hlt, hdp⟩ := hgo
            have hje : j < es.length := by rw [← HNE.out]; exact hlt
            have hjb : j < bs.length := by rw [← HNB.out]; exact hlt
            obtain ⟨b, off, rfl, hbB, _, p0, p1, p2, p3, p4⟩ := HA1.out j hje
            obtain ⟨b', off', rfl, hbB', _, q0, q1, q2, q3, q4⟩ := HA2.out j hjb
            have hbw : Below B w0 wo := HB0.out.trans ((HXB.out.trans (HBL.out.mono (by omega))).mono (by rw [HG.out]; exact hB))
            have hsx : B ≤ wo.heap.size := by have := HG.out; have := HBL.out.size; have := HXS.out; omega
            obtain ⟨l1, l2, l3, l4, l5⟩ := likeE_parts (likeEs_get HLK.out j hje hjb)
            have hsmj := smallE_args (smallEs_get HSM.out j hje)
            have hcc := HIH.out j hje t bs[j].args (f' j) (HR2.out j hjb) l5 hsmj.2.1 hsmj.2.2 es[j].kind es[j].pl bs[j].pl es[j].num (deep - 1) (strOf es[j].name) wo.drew l2 hbw.drew (by simpa using hsx) (by omega) (by omega)
            have r0 := (hbw.cell (p := ⟨b, off + j * 5, none⟩) hbB).trans p0
            have r1 := (hbw.cell (p := ⟨b, off + j * 5 + 1, none⟩) hbB).trans p1
            have r2 := (hbw.cell (p := ⟨b, off + j * 5 + 2, none⟩) hbB).trans p2
            have r3 := (hbw.cell (p := ⟨b, off + j * 5 + 3, none⟩) hbB).trans p3
            have r4 := (hbw.cell (p := ⟨b, off + j * 5 + 4, none⟩) hbB).trans p4
            have s0 := (hbw.cell (p := ⟨b', off' + j * 5, none⟩) hbB').trans q0
            have s1 := (hbw.cell (p := ⟨b', off' + j * 5 + 1, none⟩) hbB').trans q1
            have s2 := (hbw.cell (p := ⟨b', off' + j * 5 + 2, none⟩) hbB').trans q2
            have s3 := (hbw.cell (p := ⟨b', off' + j * 5 + 3, none⟩) hbB').trans q3
            have s4 := (hbw.cell (p := ⟨b', off' + j * 5 + 4, none⟩) hbB').trans q4
            rw [← l1] at s0
            rw [← l3] at s2
            rw [← l4] at s3
            obtain ⟨yk, hyk⟩ : ∃ x, x = es[j].kind := ⟨_, rfl⟩
            obtain ⟨yp, hyp⟩ : ∃ x, x = es[j].pl := ⟨_, rfl⟩
            obtain ⟨zp, hzp⟩ : ∃ x, x = bs[j].pl := ⟨_, rfl⟩
            obtain ⟨yn, hyn⟩ : ∃ x, x = es[j].num := ⟨_, rfl⟩
            obtain ⟨ys, hys⟩ : ∃ x, x = strOf es[j].name := ⟨_, rfl⟩
            obtain ⟨yv, hyv⟩ : ∃ x, x = f j := ⟨_, rfl⟩
            obtain ⟨zv, hzv⟩ : ∃ x, x = f' j := ⟨_, rfl⟩
            rw [← hyk, ← hyp, ← hzp, ← hyn, ← hys, ← hyv, ← hzv] at hcc
            rw [← hyk] at r0 s0
            rw [← hyp] at r1
            rw [← hzp] at s1
            rw [← hyn] at r2 s2
            rw [← hys] at r3 s3
            rw [← hyv] at r4
            rw [← hzv] at s4
            rw [← HTT.out] at hcc
            have HCC := Lib.hid hcc
            clear hcc l1 l2 l3 l4 l5 hsmj hyk hyp hzp hyn hys hyv hzv p0 p1 p2 p3 p4 q0 q1 q2 q3 q4 hbw HIH HA1 HA2
            have bb : -9223372036854775808 ≤ deep - 1 ∧ deep - 1 ≤ 9223372036854775807 := by omega
            have rr := IntWalk.i64_in _ bb
            clear bb
            go_wp2
            go_still_tail 13, (by kernel_rfl)
            change wpList _ _ _ _ _ wo.drew
            clear rr
            go_wp2_with (first
              | ((with_reducible refine HCC.out.mono ?_); rintro e w1 ⟨rfl, hb1'⟩))
            have hs1 := hb1'.size
            go_roundw
            case rel => exact ⟨j + 1, by omega, by go_num, Lib.hid ((HBL.out.drew).trans (hb1'.mono (by have h1 := HBL.out.size; have h2 := HXS.out; simp; omega)))⟩
            case measure => simp [intOf]; omega
          · clear HIH HA1 HA2
            have hcase : j = ne ∨ (j < ne ∧ deep ≤ 0) := by
              rcases Nat.lt_or_ge j ne with h | h
              · exact .inr ⟨h, by
                  rcases Int.lt_or_le 0 deep with h2 | h2
                  · exact absurd ⟨h, h2⟩ hgo
                  · exact h2⟩
              · exact .inl (by omega)
            have hend : Below w.heap.size w wo := by rw [← HG.out]; exact HXB.out.trans (HBL.out.mono (by omega))
            clear hgo
            rcases hcase with h | ⟨h, h'⟩
            all_goals
              go_wp2
              go_ret
              exact ⟨rfl, hend⟩
    exact key t rfl HPP.out

end Go.Proofs.YtadkimnpeachpaaGreatDoor
