/- Ha Hb Uy Hc Uz Hd -/
import Derived.Test.YtodociiaobjfgaaGreatDoorVe0
set_option linter.unusedVariables false
set_option linter.unusedSimpArgs false
namespace Go.Proofs.YtodociiaobjfgaaGreatDoor
open Go.RowKit
def SamesL (w0 : World) (B : Nat) (es : List Ex) (v : Value) : Prop :=
 ∀ (t : Bool) (bs : List Ex) (u : Value), Xbm w0 (· < B) bs u → Xdj t es bs → ∀ (k p p' num deep : Int) (name : ByteArray) (w : World), (t = true → p = p') → Below B w0 w → B ≤ w.heap.size → -100000 ≤ deep → deep ≤ 100000 →
  Calls Tryz.prog 51 #[.agg #[.int .i64 k, .int .i64 p, .int .i64 num, .string name, v], .agg #[.int .i64 k, .int .i64 p', .int .i64 num, .string name, u], .bool t, .int .i64 deep] w
   fun e w' => e = .returned (.bool true) ∧ Below w.heap.size w w'
set_option maxHeartbeats 4000000 in
set_option maxRecDepth 100000 in
theorem Xpr {w0 : World} {B : Nat} {es : List Ex} {v : Value} (h : Xbm w0 (· < B) es v) : SamesL w0 B es v := by
 induction h with
 | mk es A c f hc hM hA hr ih =>
   intro t bs u hu hlk k p p' num deep name w hpp hb hB hd0 hd
   have hlen := Xfd hlk
   cases hu with
   | mk bs D d f' hc' hM' hA' hr' =>
   obtain ⟨ne, hne⟩ : ∃ ne, ne = es.length := ⟨_, rfl⟩
   rw [← hlen] at hc' ⊢
   rw [← hne] at hc hc' ⊢
   have hne6 : ne ≤ 9223372036854775807 := Nat.le_trans hc hM
   rw [← hne] at hlen
   have HNE := lh hne
   have HNB := lh hlen
   have HLK := lh hlk
   have HB0 := lh hb
   have HIH := lh ih
   have HA1 := lh hA
   have HA2 := lh hA'
   have HR2 := lh hr'
   have hpt : (t && (p != p')) = false := by
    cases t with
    | false => rfl
    | true => rw [hpp rfl]; simp
   have hpp1 : t = true → (p != p') = false := fun h => by rw [hpp h]; simp
   have HPP := lh hpp1
   have e2 : (name.toList != name.toList) = false := by simp
   clear hne hlen hlk hb ih hA hr hA' hr' hpt hpp1
   have key : ∀ (tt : Bool), tt = t → ((tt = true → (p != p') = false) → Calls Tryz.prog 51 #[.agg #[.int .i64 k, .int .i64 p, .int .i64 num, .string name, .slice A ne c], .agg #[.int .i64 k, .int .i64 p', .int .i64 num, .string name, .slice D ne d], .bool tt, .int .i64 deep] w
    fun e w' => e = .returned (.bool true) ∧ Below w.heap.size w w') := by
    intro tt htt hq
    have HTT := lh htt
    clear htt
    cases tt
    all_goals
     first
     | (have hq1 := hq rfl)
     | skip
     clear hq
     go_enter Tryz.func51, Tryz.ntmps51
     go_wp2
     obtain ⟨X, hX⟩ : ∃ X : World, X = (w.alloc (.cells #[.int .i64 k, .int .i64 p, .int .i64 num, .string name, .slice A ne c] 35)).alloc (.cells #[.int .i64 k, .int .i64 p', .int .i64 num, .string name, .slice D ne d] 35) := ⟨_, rfl⟩
     obtain ⟨g, hg⟩ : ∃ g, g = w.heap.size := ⟨_, rfl⟩
     have hx1 : Xbx X g k p num name (.slice A ne c) := by
      rw [hX, hg]; exact (Xbx.new w _ _ _ _ _).alloc (by simp) _
     have hx2 : Xbx X (g + 1) k p' num name (.slice D ne d) := by
      rw [hX, hg]
      have h := Xbx.new (w.alloc (.cells #[.int .i64 k, .int .i64 p, .int .i64 num, .string name, .slice A ne c] 35)) k p' num name (.slice D ne d)
      rw [show (w.alloc (.cells #[.int .i64 k, .int .i64 p, .int .i64 num, .string name, .slice A ne c] 35)).heap.size = w.heap.size + 1 from by simp] at h
      exact h
     have hxs : X.heap.size = g + 2 := by rw [hX, hg]; simp
     have hxb : Below g w X := by rw [hX, hg]; exact ((Below.refl _ w).alloc (Nat.le_refl _) _).alloc (by simp) _
     rw [← hX, ← hg]
     have HX1 := lh hx1
     have HX2 := lh hx2
     have HXS := lh hxs
     have HXB := lh hxb
     have HG := lh hg
     clear hX hx1 hx2 hxs hxb hg
     go_loopw [9] (fun i wr => ∃ j : Nat, j ≤ ne ∧ i = .int .i64 j ∧ Hid (Below (g + 2) X wr)) (fun i _ => ne - (intOf i).toNat)
     case atStart => exact ⟨0, Nat.zero_le _, rfl, lh (Below.refl _ _)⟩
     case round =>
      obtain ⟨wo, rfl⟩ : ∃ wo : World, wo = wr := ⟨_, rfl⟩
      obtain ⟨j, hj, rfl, HBL⟩ := hrel
      have hb1 := HX1.out.below HBL.out (by omega)
      have hb2 := HX2.out.below HBL.out (by omega)
      have k0 := hb1.c0
      have k4 := hb1.c4
      have m0 := hb2.c0
      have m4 := hb2.c4
      by_cases hgo : j < ne ∧ 0 < deep
      · obtain ⟨hlt, hdp⟩ := hgo
        have hje : j < es.length := by rw [← HNE.out]; exact hlt
        have hjb : j < bs.length := by rw [← HNB.out]; exact hlt
        obtain ⟨b, off, rfl, hbB, _, p0, p1, p2, p3, p4⟩ := HA1.out j hje
        obtain ⟨b', off', rfl, hbB', _, q0, q1, q2, q3, q4⟩ := HA2.out j hjb
        have hbw : Below B w0 wo := HB0.out.trans ((HXB.out.trans (HBL.out.mono (by omega))).mono (by rw [HG.out]; exact hB))
        have hsx : B ≤ wo.heap.size := by have := HG.out; have := HBL.out.size; have := HXS.out; omega
        obtain ⟨l1, l2, l3, l4, l5⟩ := Xhf (Xgp HLK.out j hje hjb)
        have hcc := HIH.out j hje t bs[j].args (f' j) (HR2.out j hjb) l5 es[j].kind es[j].pl bs[j].pl es[j].num (deep - 1) (Xaa es[j].name) wo.drew l2 hbw.drew (by simpa using hsx) (by omega) (by omega)
        have r0 := (hbw.cell (p := ⟨b, off + j * 5, none⟩) hbB).trans p0
        have r1 := (hbw.cell (p := ⟨b, off + j * 5 + 1, none⟩) hbB).trans p1
        have r2 := (hbw.cell (p := ⟨b, off + j * 5 + 2, none⟩) hbB).trans p2
        have r3 := (hbw.cell (p := ⟨b, off + j * 5 + 3, none⟩) hbB).trans p3
        have r4 := (hbw.cell (p := ⟨b, off + j * 5 + 4, none⟩) hbB).trans p4
        have s0 := (hbw.cell (p := ⟨b', off' + j * 5, none⟩) hbB').trans q0
        have s1 := (hbw.cell (p := ⟨b', off' + j * 5 + 1, none⟩) hbB').trans q1
        have s2 := (hbw.cell (p := ⟨b', off' + j * 5 + 2, none⟩) hbB').trans q2
        have s3 := (hbw.cell (p := ⟨b', off' + j * 5 + 3, none⟩) hbB').trans q3
        have s4 := (hbw.cell (p := ⟨b', off' + j * 5 + 4, none⟩) hbB').trans q4
        rw [← l1] at s0
        rw [← l3] at s2
        rw [← l4] at s3
        obtain ⟨yk, hyk⟩ : ∃ x, x = es[j].kind := ⟨_, rfl⟩
        obtain ⟨yp, hyp⟩ : ∃ x, x = es[j].pl := ⟨_, rfl⟩
        obtain ⟨zp, hzp⟩ : ∃ x, x = bs[j].pl := ⟨_, rfl⟩
        obtain ⟨yn, hyn⟩ : ∃ x, x = es[j].num := ⟨_, rfl⟩
        obtain ⟨ys, hys⟩ : ∃ x, x = Xaa es[j].name := ⟨_, rfl⟩
        obtain ⟨yv, hyv⟩ : ∃ x, x = f j := ⟨_, rfl⟩
        obtain ⟨zv, hzv⟩ : ∃ x, x = f' j := ⟨_, rfl⟩
        rw [← hyk, ← hyp, ← hzp, ← hyn, ← hys, ← hyv, ← hzv] at hcc
        rw [← hyk] at r0 s0
        rw [← hyp] at r1
        rw [← hzp] at s1
        rw [← hyn] at r2 s2
        rw [← hys] at r3 s3
        rw [← hyv] at r4
        rw [← hzv] at s4
        rw [← HTT.out] at hcc
        have HCC := lh hcc
        clear hcc l1 l2 l3 l4 l5 hyk hyp hzp hyn hys hyv hzv p0 p1 p2 p3 p4 q0 q1 q2 q3 q4 hbw HIH HA1 HA2
        have bb : -9223372036854775808 ≤ deep - 1 ∧ deep - 1 ≤ 9223372036854775807 := by omega
        have rr := IntWalk.i64_in _ bb
        clear bb
        go_wp2
        go_still_tail 13, (by kernel_rfl)
        change wpList _ _ _ _ _ wo.drew
        clear rr
        go_wp2_with (first
         | ((with_reducible refine HCC.out.mono ?_); rintro e w1 ⟨rfl, hb1'⟩))
        have hs1 := hb1'.size
        go_roundw
        case rel => exact ⟨j + 1, by omega, by go_num, lh ((HBL.out.drew).trans (hb1'.mono (by have h1 := HBL.out.size; have h2 := HXS.out; simp; omega)))⟩
        case measure => simp [intOf]; omega
      · clear HIH HA1 HA2
        have hcase : j = ne ∨ (j < ne ∧ deep ≤ 0) := by
         rcases Nat.lt_or_ge j ne with h | h
         · exact .inr ⟨h, by
            rcases Int.lt_or_le 0 deep with h2 | h2
            · exact absurd ⟨h, h2⟩ hgo
            · exact h2⟩
         · exact .inl (by omega)
        have hend : Below w.heap.size w wo := by rw [← HG.out]; exact HXB.out.trans (HBL.out.mono (by omega))
        clear hgo
        rcases hcase with h | ⟨h, h'⟩
        all_goals
         go_wp2
         go_ret
         exact ⟨rfl, hend⟩
   exact key t rfl HPP.out
set_option maxHeartbeats 4000000 in
set_option maxRecDepth 100000 in
theorem Xsy {w0 : World} {B : Nat} {es bs : List Ex} {v u : Value} (h : Xbm w0 (· < B) es v) (hu : Xbm w0 (· < B) bs u) (t : Bool) (hlk : Xdj t es bs) (deep : Int) (w : World) (hb : Below B w0 w) (hB : B ≤ w.heap.size) (hd0 : -100000 ≤ deep) (hd : deep ≤ 100000) :
  Calls Tryz.prog 36 #[v, u, .bool t, .int .i64 deep] w fun e w' => e = .returned (.bool true) ∧ Below w.heap.size w w' := by
 cases h with
 | mk es A c f hc hM hA hr =>
   have hlen := Xfd hlk
   cases hu with
   | mk bs D d f' hc' hM' hA' hr' =>
   obtain ⟨ne, hne⟩ : ∃ ne, ne = es.length := ⟨_, rfl⟩
   rw [← hlen] at hc' ⊢
   rw [← hne] at hc hc' ⊢
   have hne6 : ne ≤ 9223372036854775807 := Nat.le_trans hc hM
   rw [← hne] at hlen
   have HNE := lh hne
   have HNB := lh hlen
   have HLK := lh hlk
   have HB0 := lh hb
   have HA1 := lh hA
   have HA2 := lh hA'
   have HR1 := lh hr
   have HR2 := lh hr'
   clear hne hlen hlk hb hA hr hA' hr'
   go_enter Tryz.func36, Tryz.ntmps36
   go_wp2
   go_loopw [9] (fun i wr => ∃ j : Nat, j ≤ ne ∧ i = .int .i64 j ∧ Hid (Below w.heap.size w wr)) (fun i _ => ne - (intOf i).toNat)
   case atStart => exact ⟨0, Nat.zero_le _, rfl, lh (Below.refl _ _)⟩
   case round =>
    obtain ⟨wo, rfl⟩ : ∃ wo : World, wo = wr := ⟨_, rfl⟩
    obtain ⟨j, hj, rfl, HBL⟩ := hrel
    by_cases hlt : j < ne
    · have hje : j < es.length := by rw [← HNE.out]; exact hlt
      have hjb : j < bs.length := by rw [← HNB.out]; exact hlt
      obtain ⟨b, off, rfl, hbB, _, p0, p1, p2, p3, p4⟩ := HA1.out j hje
      obtain ⟨b', off', rfl, hbB', _, q0, q1, q2, q3, q4⟩ := HA2.out j hjb
      have hbw : Below B w0 wo := HB0.out.trans (HBL.out.mono hB)
      have hsx : B ≤ wo.heap.size := by have := HBL.out.size; omega
      obtain ⟨l1, l2, l3, l4, l5⟩ := Xhf (Xgp HLK.out j hje hjb)
      have hcc := Xpr (HR1.out j hje) t bs[j].args (f' j) (HR2.out j hjb) l5 es[j].kind es[j].pl bs[j].pl es[j].num deep (Xaa es[j].name) wo.drew l2 hbw.drew (by simpa using hsx) (by omega) (by omega)
      have r0 := (hbw.cell (p := ⟨b, off + j * 5, none⟩) hbB).trans p0
      have r1 := (hbw.cell (p := ⟨b, off + j * 5 + 1, none⟩) hbB).trans p1
      have r2 := (hbw.cell (p := ⟨b, off + j * 5 + 2, none⟩) hbB).trans p2
      have r3 := (hbw.cell (p := ⟨b, off + j * 5 + 3, none⟩) hbB).trans p3
      have r4 := (hbw.cell (p := ⟨b, off + j * 5 + 4, none⟩) hbB).trans p4
      have s0 := (hbw.cell (p := ⟨b', off' + j * 5, none⟩) hbB').trans q0
      have s1 := (hbw.cell (p := ⟨b', off' + j * 5 + 1, none⟩) hbB').trans q1
      have s2 := (hbw.cell (p := ⟨b', off' + j * 5 + 2, none⟩) hbB').trans q2
      have s3 := (hbw.cell (p := ⟨b', off' + j * 5 + 3, none⟩) hbB').trans q3
      have s4 := (hbw.cell (p := ⟨b', off' + j * 5 + 4, none⟩) hbB').trans q4
      rw [← l1] at s0
      rw [← l3] at s2
      rw [← l4] at s3
      obtain ⟨yk, hyk⟩ : ∃ x, x = es[j].kind := ⟨_, rfl⟩
      obtain ⟨yp, hyp⟩ : ∃ x, x = es[j].pl := ⟨_, rfl⟩
      obtain ⟨zp, hzp⟩ : ∃ x, x = bs[j].pl := ⟨_, rfl⟩
      obtain ⟨yn, hyn⟩ : ∃ x, x = es[j].num := ⟨_, rfl⟩
      obtain ⟨ys, hys⟩ : ∃ x, x = Xaa es[j].name := ⟨_, rfl⟩
      obtain ⟨yv, hyv⟩ : ∃ x, x = f j := ⟨_, rfl⟩
      obtain ⟨zv, hzv⟩ : ∃ x, x = f' j := ⟨_, rfl⟩
      rw [← hyk, ← hyp, ← hzp, ← hyn, ← hys, ← hyv, ← hzv] at hcc
      rw [← hyk] at r0 s0
      rw [← hyp] at r1
      rw [← hzp] at s1
      rw [← hyn] at r2 s2
      rw [← hys] at r3 s3
      rw [← hyv] at r4
      rw [← hzv] at s4
      have HCC := lh hcc
      clear hcc l1 l2 l3 l4 l5 hyk hyp hzp hyn hys hyv hzv p0 p1 p2 p3 p4 q0 q1 q2 q3 q4 hbw HA1 HA2
      go_wp2
      go_still_tail 10, (by kernel_rfl)
      change wpList _ _ _ _ _ wo.drew
      go_wp2_with (first
       | ((with_reducible refine HCC.out.mono ?_); rintro e w1 ⟨rfl, hb1'⟩))
      have hs1 := hb1'.size
      go_roundw
      case rel => exact ⟨j + 1, by omega, by go_num, lh ((HBL.out.drew).trans (hb1'.mono (by have h1 := HBL.out.size; simp; omega)))⟩
      case measure => simp [intOf]; omega
    · have hend := HBL.out
      clear HA1 HA2
      go_wp2
      go_ret
      exact ⟨rfl, hend⟩
mutual
def Xsj (at_ : Bool) : Sm → Sm → Prop
 | .mk k p n t ex bd el, .mk k' p' n' t' ex' bd' el' => k = k' ∧ (at_ = true → p = p') ∧ n = n' ∧ t = t' ∧ Xdj at_ ex ex' ∧ Xdn at_ bd bd' ∧ Xdn at_ el el'
def Xdn (at_ : Bool) : List Sm → List Sm → Prop
 | [], [] => True
 | a :: xs, b :: bs => Xsj at_ a b ∧ Xdn at_ xs bs
 | [], _ :: _ => False
 | _ :: _, [] => False
end
theorem Xlc {t : Bool} : ∀ {xs bs : List Sm}, Xdn t xs bs → xs.length = bs.length
 | [], [], _ => rfl
 | a :: xs, b :: bs, h => by rw [Xdn] at h; rw [List.length_cons, List.length_cons, Xlc h.2]
 | [], _ :: _, h => by rw [Xdn] at h; exact h.elim
 | _ :: _, [], h => by rw [Xdn] at h; exact h.elim
theorem Xlb {t : Bool} : ∀ {xs bs : List Sm}, Xdn t xs bs → ∀ (k : Nat) (h1 : k < xs.length) (h2 : k < bs.length), Xsj t xs[k] bs[k]
 | [], [], _, k, h1, _ => absurd h1 (by simp)
 | a :: xs, b :: bs, h, 0, _, _ => by rw [Xdn] at h; exact h.1
 | a :: xs, b :: bs, h, k + 1, h1, h2 => by rw [Xdn] at h; exact Xlb h.2 k (by simpa using h1) (by simpa using h2)
 | [], _ :: _, h, _, _, _ => by rw [Xdn] at h; exact h.elim
 | _ :: _, [], h, _, _, _ => by rw [Xdn] at h; exact h.elim
theorem Xpi {t : Bool} {a b : Sm} (h : Xsj t a b) : a.kind = b.kind ∧ (t = true → a.pl = b.pl) ∧ a.name = b.name ∧ a.type = b.type ∧ Xdj t a.exprs b.exprs ∧ Xdn t a.body b.body ∧ Xdn t a.els b.els := by
 cases a; cases b
 rw [Xsj] at h
 exact h
mutual
theorem Xsk (t : Bool) : ∀ e : Sm, Xsj t e e
 | .mk k p n s ex bd el => by rw [Xsj]; exact ⟨rfl, fun _ => rfl, rfl, rfl, Xhg t ex, Xfm t bd, Xfm t el⟩
theorem Xfm (t : Bool) : ∀ es : List Sm, Xdn t es es
 | [] => by rw [Xdn]; trivial
 | e :: es => by rw [Xdn]; exact ⟨Xsk t e, Xfm t es⟩
end
def SamesBL (w0 : World) (B : Nat) (ss : List Sm) (v : Value) : Prop :=
 ∀ (t : Bool) (bs : List Sm) (u : Value), Xcc w0 (· < B) bs u → Xdn t ss bs → ∀ (deep : Int) (w : World), Below B w0 w → B ≤ w.heap.size → -100000 ≤ deep → deep ≤ 100000 →
  Calls Tryz.prog 21 #[v, u, .bool t, .int .i64 deep] w
   fun e w' => e = .returned (.bool true) ∧ Below w.heap.size w w'
set_option maxHeartbeats 4000000 in
set_option maxRecDepth 100000 in
theorem Xsw {w0 : World} {B : Nat} {ss : List Sm} {v : Value} (h : Xcc w0 (· < B) ss v) : SamesBL w0 B ss v := by
 induction h with
 | mk ss A c fe fb fl hc hM hA he hbd hel ihb ihl =>
   intro t bs u hu hlk deep w hb hB hd0 hd
   have hlen := Xlc hlk
   cases hu with
   | mk bs D d fe' fb' fl' hc' hM' hA' he' hbd' hel' =>
   obtain ⟨ns, hns⟩ : ∃ ns, ns = ss.length := ⟨_, rfl⟩
   rw [← hlen] at hc' ⊢
   rw [← hns] at hc hc' ⊢
   have hns6 : ns ≤ 9223372036854775807 := Nat.le_trans hc hM
   rw [← hns] at hlen
   have HNS := lh hns
   have HNB := lh hlen
   have HLK := lh hlk
   have HB0 := lh hb
   have HE := lh he
   have HBD := lh hbd
   have HEL := lh hel
   have HIB := lh ihb
   have HIL := lh ihl
   have HA1 := lh hA
   have HA2 := lh hA'
   have HE2 := lh he'
   have HBD2 := lh hbd'
   have HEL2 := lh hel'
   clear hns hlen hlk hb he hbd hel ihb ihl hA hA' he' hbd' hel'
   go_enter Tryz.func21, Tryz.ntmps21
   go_wp2
   go_loopw [9] (fun i wr => ∃ j : Nat, j ≤ ns ∧ i = .int .i64 j ∧ Hid (Below w.heap.size w wr)) (fun i _ => ns - (intOf i).toNat)
   case atStart => exact ⟨0, Nat.zero_le _, rfl, lh (Below.refl _ _)⟩
   case round =>
    obtain ⟨wo, rfl⟩ : ∃ wo : World, wo = wr := ⟨_, rfl⟩
    obtain ⟨j, hj, rfl, HBL⟩ := hrel
    by_cases hgo : j < ns ∧ 0 < deep
    · obtain ⟨hlt, hdp⟩ := hgo
      have hje : j < ss.length := by rw [← HNS.out]; exact hlt
      have hjb : j < bs.length := by rw [← HNB.out]; exact hlt
      obtain ⟨b, off, rfl, hbB, _, _, p0, p1, p2, p3, p4, p5, p6⟩ := HA1.out j hje
      obtain ⟨b', off', rfl, hbB', _, _, q0, q1, q2, q3, q4, q5, q6⟩ := HA2.out j hjb
      have hbw : Below B w0 wo := HB0.out.trans (HBL.out.mono hB)
      have hsx : B ≤ wo.heap.size := by have := HBL.out.size; omega
      obtain ⟨l1, l2, l3, l4, l5, l6, l7⟩ := Xpi (Xlb HLK.out j hje hjb)
      have hn := Xfd l5
      have hce := HE.out j hje
      have hce2 := HE2.out j hjb
      have hcb := HIB.out j hje t bs[j].body (fb' j) (HBD2.out j hjb) l6
      have hcl := HIL.out j hje t bs[j].els (fl' j) (HEL2.out j hjb) l7
      have hcc : ∀ wx, Below B w0 wx → B ≤ wx.heap.size → Calls Tryz.prog 36 #[fe j, fe' j, .bool t, .int .i64 deep] wx fun e w' => e = .returned (.bool true) ∧ Below wx.heap.size wx w' :=
       fun wx h1 h2 => Xsy hce hce2 t l5 deep wx h1 h2 hd0 hd
      have r0 := (hbw.cell (p := ⟨b, off + j * 7, none⟩) hbB).trans p0
      have r1 := (hbw.cell (p := ⟨b, off + j * 7 + 1, none⟩) hbB).trans p1
      have r2 := (hbw.cell (p := ⟨b, off + j * 7 + 2, none⟩) hbB).trans p2
      have r3 := (hbw.cell (p := ⟨b, off + j * 7 + 3, none⟩) hbB).trans p3
      have r4 := (hbw.cell (p := ⟨b, off + j * 7 + 4, none⟩) hbB).trans p4
      have r5 := (hbw.cell (p := ⟨b, off + j * 7 + 5, none⟩) hbB).trans p5
      have r6 := (hbw.cell (p := ⟨b, off + j * 7 + 6, none⟩) hbB).trans p6
      have s0 := (hbw.cell (p := ⟨b', off' + j * 7, none⟩) hbB').trans q0
      have s1 := (hbw.cell (p := ⟨b', off' + j * 7 + 1, none⟩) hbB').trans q1
      have s2 := (hbw.cell (p := ⟨b', off' + j * 7 + 2, none⟩) hbB').trans q2
      have s3 := (hbw.cell (p := ⟨b', off' + j * 7 + 3, none⟩) hbB').trans q3
      have s4 := (hbw.cell (p := ⟨b', off' + j * 7 + 4, none⟩) hbB').trans q4
      have s5 := (hbw.cell (p := ⟨b', off' + j * 7 + 5, none⟩) hbB').trans q5
      have s6 := (hbw.cell (p := ⟨b', off' + j * 7 + 6, none⟩) hbB').trans q6
      rw [← l1] at s0
      rw [← l3] at s2
      rw [← l4] at s3
      obtain ⟨yk, hyk⟩ : ∃ x, x = ss[j].kind := ⟨_, rfl⟩
      obtain ⟨yp, hyp⟩ : ∃ x, x = ss[j].pl := ⟨_, rfl⟩
      obtain ⟨zp, hzp⟩ : ∃ x, x = bs[j].pl := ⟨_, rfl⟩
      obtain ⟨yn, hyn⟩ : ∃ x, x = Xaa ss[j].name := ⟨_, rfl⟩
      obtain ⟨yt, hyt⟩ : ∃ x, x = Xaa ss[j].type := ⟨_, rfl⟩
      obtain ⟨A1, m1, d1, hye⟩ : ∃ A n c, fe j = .slice A n c := by
       obtain ⟨A, c, h, -⟩ := hce.slice
       exact ⟨A, _, c, h⟩
      obtain ⟨A2, m2, d2, hyb⟩ : ∃ A n c, fb j = .slice A n c := by
       obtain ⟨A, c, h, -⟩ := (HBD.out j hje).slice
       exact ⟨A, _, c, h⟩
      obtain ⟨A3, m3, d3, hyl⟩ : ∃ A n c, fl j = .slice A n c := by
       obtain ⟨A, c, h, -⟩ := (HEL.out j hje).slice
       exact ⟨A, _, c, h⟩
      obtain ⟨C1, n1, c1, hze⟩ : ∃ A n c, fe' j = .slice A n c := by
       obtain ⟨A, c, h, -⟩ := hce2.slice
       exact ⟨A, _, c, h⟩
      obtain ⟨C2, n2, c2, hzb⟩ : ∃ A n c, fb' j = .slice A n c := by
       obtain ⟨A, c, h, -⟩ := (HBD2.out j hjb).slice
       exact ⟨A, _, c, h⟩
      obtain ⟨C3, n3, c3, hzl⟩ : ∃ A n c, fl' j = .slice A n c := by
       obtain ⟨A, c, h, -⟩ := (HEL2.out j hjb).slice
       exact ⟨A, _, c, h⟩
      rw [← hyp, ← hzp] at l2
      rw [hye, hze] at hcc
      rw [hzb] at hcb
      rw [hzl] at hcl
      rw [hyb] at hcb
      rw [hyl] at hcl
      rw [← hyk] at r0 s0
      rw [← hyp] at r1
      rw [← hzp] at s1
      rw [← hyn] at r2 s2
      rw [← hyt] at r3 s3
      rw [hye] at r4
      rw [hze] at s4
      rw [hyb] at r5
      rw [hzb] at s5
      rw [hyl] at r6
      rw [hzl] at s6
      have a0 : ∀ o, (wo.alloc o).cell? ⟨b', off' + j * 7, none⟩ = _ := fun o => (((Below.refl _ wo).alloc (Nat.le_refl _) o).cell (p := ⟨b', off' + j * 7, none⟩) (show b' < wo.heap.size by omega)).trans s0
      have a1 : ∀ o, (wo.alloc o).cell? ⟨b', off' + j * 7 + 1, none⟩ = _ := fun o => (((Below.refl _ wo).alloc (Nat.le_refl _) o).cell (p := ⟨b', off' + j * 7 + 1, none⟩) (show b' < wo.heap.size by omega)).trans s1
      have a2 : ∀ o, (wo.alloc o).cell? ⟨b', off' + j * 7 + 2, none⟩ = _ := fun o => (((Below.refl _ wo).alloc (Nat.le_refl _) o).cell (p := ⟨b', off' + j * 7 + 2, none⟩) (show b' < wo.heap.size by omega)).trans s2
      have a3 : ∀ o, (wo.alloc o).cell? ⟨b', off' + j * 7 + 3, none⟩ = _ := fun o => (((Below.refl _ wo).alloc (Nat.le_refl _) o).cell (p := ⟨b', off' + j * 7 + 3, none⟩) (show b' < wo.heap.size by omega)).trans s3
      have a4 : ∀ o, (wo.alloc o).cell? ⟨b', off' + j * 7 + 4, none⟩ = _ := fun o => (((Below.refl _ wo).alloc (Nat.le_refl _) o).cell (p := ⟨b', off' + j * 7 + 4, none⟩) (show b' < wo.heap.size by omega)).trans s4
      have a5 : ∀ o, (wo.alloc o).cell? ⟨b', off' + j * 7 + 5, none⟩ = _ := fun o => (((Below.refl _ wo).alloc (Nat.le_refl _) o).cell (p := ⟨b', off' + j * 7 + 5, none⟩) (show b' < wo.heap.size by omega)).trans s5
      have a6 : ∀ o, (wo.alloc o).cell? ⟨b', off' + j * 7 + 6, none⟩ = _ := fun o => (((Below.refl _ wo).alloc (Nat.le_refl _) o).cell (p := ⟨b', off' + j * 7 + 6, none⟩) (show b' < wo.heap.size by omega)).trans s6
      have HCC := lh hcc
      have HCB := lh hcb
      have HCL := lh hcl
      have HL2 := lh l2
      have hx1 := Xbp.new wo yk yp yn yt (.slice A1 m1 d1) (.slice A2 m2 d2) (.slice A3 m3 d3)
      have hx2 := Xbp.new (wo.alloc (.cells #[.int .i64 yk, .int .i64 yp, .string yn, .string yt, .slice A1 m1 d1, .slice A2 m2 d2, .slice A3 m3 d3] 38)) yk zp yn yt (.slice C1 n1 c1) (.slice C2 n2 c2) (.slice C3 n3 c3)
      clear s0 s1 s2 s3 s4 s5 s6 l1 l2 l3 l4 l5 l6 l7 hn hce hce2 hcc hcb hcl hyk hyp hzp hyn hyt hye hyb hyl hze hzb hzl p0 p1 p2 p3 p4 p5 p6 q0 q1 q2 q3 q4 q5 q6 HA1 HA2 HIB HIL HE HE2 HBD2 HEL2 HBD HEL
      have e2 : (yn.toList != yn.toList) = false := by simp
      have e3 : (yt.toList != yt.toList) = false := by simp
      cases t
      all_goals
       first
       | (have hq1 : yp = zp := HL2.out rfl
          subst hq1)
       | skip
       clear HL2
       go_wp2_with fail
       generalize hX : World.alloc (World.alloc wo (.cells #[.int .i64 yk, .int .i64 yp, .string yn, .string yt, .slice A1 m1 d1, .slice A2 m2 d2, .slice A3 m3 d3] 38)) (.cells #[.int .i64 yk, .int .i64 _, .string yn, .string yt, .slice C1 n1 c1, .slice C2 n2 c2, .slice C3 n3 c3] 38) = X at hx2 ⊢
       have hxs : X.heap.size = wo.heap.size + 2 := by rw [← hX]; simp
       have hxb : Below wo.heap.size wo X := by rw [← hX]; exact ((Below.refl _ wo).alloc (Nat.le_refl _) _).alloc (by simp) _
       have h1 : Xbp X wo.heap.size yk yp yn yt (.slice A1 m1 d1) (.slice A2 m2 d2) (.slice A3 m3 d3) := by
        rw [← hX]; exact hx1.below ((Below.refl _ _).alloc (Nat.le_refl _) _) (by simp)
       have hsz : (wo.alloc (.cells #[.int .i64 yk, .int .i64 yp, .string yn, .string yt, .slice A1 m1 d1, .slice A2 m2 d2, .slice A3 m3 d3] 38)).heap.size = wo.heap.size + 1 := by simp
       rw [hsz] at hx2
       clear hsz hx1 hX
       refine (HCC.out X (hbw.trans (hxb.mono hsx)) (by omega)).mono ?_
       rintro e w1 ⟨rfl, hb1⟩
       have hs1 := hb1.size
       have g1 := h1.below hb1 (by omega)
       have g2 := hx2.below hb1 (by omega)
       have y0 := g1.c0
       have y5 := g1.c5
       have y6 := g1.c6
       have z0 := g2.c0
       have z5 := g2.c5
       have z6 := g2.c6
       have hxb1 := hxb.trans (hb1.mono (by omega))
       clear h1 hx2 hb1 hxb a0 a1 a2 a3 a4 a5 a6 r0 r1 r2 r3 r4 r5 r6
       go_wp2_with fail
       refine (HCB.out (deep - 1) w1 (hbw.trans (hxb1.mono hsx)) (by omega) (by omega) (by omega)).mono ?_
       rintro e w2 ⟨rfl, hb2⟩
       have hs2 := hb2.size
       have f1 := g1.below hb2 (by omega)
       have f2 := g2.below hb2 (by omega)
       clear y0 y5 y6 z0 z5 z6 g1 g2
       have y0 := f1.c0
       have y6 := f1.c6
       have z0 := f2.c0
       have z6 := f2.c6
       have hxb2 := hxb1.trans (hb2.mono (by omega))
       clear hb2 hxb1
       go_wp2_with fail
       refine (HCL.out (deep - 1) w2 (hbw.trans (hxb2.mono hsx)) (by omega) (by omega) (by omega)).mono ?_
       rintro e w3 ⟨rfl, hb3⟩
       have hs3 := hb3.size
       have hxb3 := hxb2.trans (hb3.mono (by omega))
       clear hb3 hxb2 f1 f2 y0 y6 z0 z6
       go_wp2_with fail
       go_roundw
       case rel => exact ⟨j + 1, by omega, by go_num, lh (HBL.out.trans (hxb3.mono (by have := HBL.out.size; omega)))⟩
       case measure => simp [intOf]; omega
    · have hcase : j = ns ∨ (j < ns ∧ deep ≤ 0) := by
       rcases Nat.lt_or_ge j ns with h | h
       · exact .inr ⟨h, by
          rcases Int.lt_or_le 0 deep with h2 | h2
          · exact absurd ⟨h, h2⟩ hgo
          · exact h2⟩
       · exact .inl (by omega)
      have hend := HBL.out
      clear hgo HA1 HA2 HIB HIL HE HE2 HBD2 HEL2 HBD HEL
      rcases hcase with h | ⟨h, h'⟩
      all_goals
       go_wp2
       go_ret
       exact ⟨rfl, hend⟩
def likeD (t : Bool) (a b : Dc) : Prop := a.kind = b.kind ∧ (t = true → a.pl = b.pl) ∧ a.num = b.num ∧ a.name = b.name ∧ a.type = b.type ∧ a.pairs = b.pairs ∧ Xdn t a.body b.body
def Xnj (t : Bool) (xs bs : List Dc) : Prop := xs.length = bs.length ∧ ∀ (k : Nat) (h1 : k < xs.length) (h2 : k < bs.length), likeD t xs[k] bs[k]
theorem Xph (t : Bool) (ds : List Dc) : Xnj t ds ds := ⟨rfl, fun _ _ _ => ⟨rfl, fun _ => rfl, rfl, rfl, rfl, rfl, Xfm t _⟩⟩
@[go_sem] theorem eq_prL (a b x y : ByteArray) (w : World) : (Op.equalIn 10000 44 (.agg #[.string a, .string b]) (.agg #[.string x, .string y])).run Tryz.prog w = .ok (a.toList == x.toList && b.toList == y.toList) w := by
 have u9 := Tryz.underlying9
 have a9 := Tryz.isAgg9
 have z9 := Tryz.sizeOf9
 rw [show (10000 : Nat) = 9999 + 1 from rfl, Op.equalIn]
 simp only [Sem.run_bind, run_underlying Tryz.underlying44, Result.andThen_ok]
 have hs : Tryz.prog.stoodInHeld 44 = false := by kernel_rfl
 have hp : (Sem.run Tryz.prog program w) = .ok Tryz.prog w := rfl
 simp only [hp, Result.andThen_ok, hs, Bool.false_eq_true, if_false, Sem.run_bind, List.forIn_toArray, List.forIn_cons, List.forIn_nil]
 go_simp
 by_cases h1 : a.toList = x.toList <;> by_cases h2 : b.toList = y.toList <;> simp [h1, h2]
set_option maxHeartbeats 400000 in
theorem Xkq {w0 : World} {B : Nat} {ps : List Pr} {v u : Value} (h : Xcl w0 (· < B) ps v) (hu : Xcl w0 (· < B) ps u) (w : World) (hb : Below B w0 w) (hB : B ≤ w.heap.size) :
  Calls Tryz.prog 20 #[v, u] w fun e w' => e = .returned (.bool true) ∧ Below w.heap.size w w' := by
 obtain ⟨A, c, rfl, hc, hM, hA⟩ := h
 obtain ⟨D, d, rfl, hc', hM', hA'⟩ := hu
 obtain ⟨m, hm⟩ : ∃ m, m = ps.length := ⟨_, rfl⟩
 rw [← hm] at hc hc' ⊢
 have hn6 : m ≤ 9223372036854775807 := Nat.le_trans hc hM
 have HM := lh hm
 have HA1 := lh hA
 have HA2 := lh hA'
 have HB0 := lh hb
 clear hm hA hA' hb
 go_enter Tryz.func20, Tryz.ntmps20
 go_wp2
 go_loopw [5] (fun i wr => ∃ k : Nat, k ≤ m ∧ i = .int .i64 k ∧ Xfu w wr) (fun i _ => m - (intOf i).toNat)
 case atStart => exact ⟨0, Nat.zero_le _, rfl, Xfu.refl w⟩
 case round =>
  obtain ⟨k, hk, rfl, hq⟩ := hrel
  by_cases hlt : k < m
  · have hkl : k < ps.length := by rw [← HM.out]; exact hlt
    obtain ⟨b, off, rfl, hbB, -, -, p0, p1⟩ := HA1.out k hkl
    obtain ⟨b', off', rfl, hbB', -, -, q0, q1⟩ := HA2.out k hkl
    obtain ⟨x, hx⟩ : ∃ x, x = Xaa ps[k].name := ⟨_, rfl⟩
    obtain ⟨y, hy⟩ : ∃ y, y = Xaa ps[k].type := ⟨_, rfl⟩
    rw [← hx] at p0 q0
    rw [← hy] at p1 q1
    have r0 := (hq.cell _).trans ((HB0.out.cell (p := ⟨b, off + k * 2, none⟩) hbB).trans p0)
    have r1 := (hq.cell _).trans ((HB0.out.cell (p := ⟨b, off + k * 2 + 1, none⟩) hbB).trans p1)
    have s0 := (hq.cell _).trans ((HB0.out.cell (p := ⟨b', off' + k * 2, none⟩) hbB').trans q0)
    have s1 := (hq.cell _).trans ((HB0.out.cell (p := ⟨b', off' + k * 2 + 1, none⟩) hbB').trans q1)
    clear hx hy p0 p1 q0 q1 hkl HA1 HA2
    have e1 : (x.toList == x.toList && y.toList == y.toList) = true := by simp
    go_wp2
    go_region
    all_goals
     go_wp2
     go_roundw
     case rel => exact ⟨k + 1, by omega, by go_num, hq.drew⟩
     case measure => simp [intOf]; omega
  · have hend : Below w.heap.size w wr := hq.below
    clear HA1 HA2
    go_wp2
    go_ret
    exact ⟨rfl, hend⟩
set_option maxHeartbeats 4000000 in
set_option maxRecDepth 100000 in
theorem Xsx {w0 : World} {B : Nat} {ds bs : List Dc} {v u : Value} (h : Xdl w0 (· < B) ds v) (hu : Xdl w0 (· < B) bs u) (t : Bool) (hlk : Xnj t ds bs) (deep : Int) (w : World) (hb : Below B w0 w) (hB : B ≤ w.heap.size) (hd0 : -100000 ≤ deep) (hd : deep ≤ 100000) :
  Calls Tryz.prog 10 #[.agg #[v], .agg #[u], .bool t, .int .i64 deep] w fun e w' => e = .returned (.bool true) ∧ Below w.heap.size w w' := by
 obtain ⟨A, c, fp, fb, rfl, hc, hM, hA, hp, hbd⟩ := h
 obtain ⟨D, d, fp', fb', rfl, hc', hM', hA', hp', hbd'⟩ := hu
 obtain ⟨hlen, hlike⟩ := hlk
 obtain ⟨ns, hns⟩ : ∃ ns, ns = ds.length := ⟨_, rfl⟩
 rw [← hlen] at hc' ⊢
 rw [← hns] at hc hc' ⊢
 have hn6 : ns ≤ 9223372036854775807 := Nat.le_trans hc hM
 rw [← hns] at hlen
 have HNS := lh hns
 have HNB := lh hlen
 have HLK := lh hlike
 have HB0 := lh hb
 have HP := lh hp
 have HBD := lh hbd
 have HA1 := lh hA
 have HA2 := lh hA'
 have HP2 := lh hp'
 have HBD2 := lh hbd'
 clear hns hlen hlike hb hp hbd hA hA' hp' hbd'
 go_enter Tryz.func10, Tryz.ntmps10
 go_wp2
 obtain ⟨X0, hX0⟩ : ∃ X0 : World, X0 = (w.alloc (.cells #[.slice A ns c] 24)).alloc (.cells #[.slice D ns d] 24) := ⟨_, rfl⟩
 obtain ⟨g, hg⟩ : ∃ g, g = w.heap.size := ⟨_, rfl⟩
 have hx1 : Xbv X0 g (.slice A ns c) := by
  rw [hX0, hg]
  exact (Xbv.new w _).below ((Below.refl _ _).alloc (Nat.le_refl _) _) (by simp)
 have hx2 : Xbv X0 (g + 1) (.slice D ns d) := by
  rw [hX0, hg]
  have h := Xbv.new (w.alloc (.cells #[.slice A ns c] 24)) (.slice D ns d)
  rw [show (w.alloc (.cells #[.slice A ns c] 24)).heap.size = w.heap.size + 1 from by simp] at h
  exact h
 have hxs : X0.heap.size = g + 2 := by rw [hX0, hg]; simp
 have hxb : Below g w X0 := by rw [hX0, hg]; exact ((Below.refl _ w).alloc (Nat.le_refl _) _).alloc (by simp) _
 rw [← hX0, ← hg]
 have HX1 := lh hx1
 have HX2 := lh hx2
 have HXS := lh hxs
 have HXB := lh hxb
 have HG := lh hg
 clear hX0 hx1 hx2 hxs hxb hg
 go_loopw [9] (fun i wr => ∃ j : Nat, j ≤ ns ∧ i = .int .i64 j ∧ Hid (Below (g + 2) X0 wr)) (fun i _ => ns - (intOf i).toNat)
 case atStart => exact ⟨0, Nat.zero_le _, rfl, lh (Below.refl _ _)⟩
 case round =>
  obtain ⟨wo, rfl⟩ : ∃ wo : World, wo = wr := ⟨_, rfl⟩
  obtain ⟨j, hj, rfl, HBL⟩ := hrel
  have hws : g + 2 ≤ wo.heap.size := by have := HBL.out.size; have := HXS.out; omega
  have k0 := (HX1.out.below HBL.out (by omega)).c0
  have k1 := (HX2.out.below HBL.out (by omega)).c0
  by_cases hlt : j < ns
  · have hje : j < ds.length := by rw [← HNS.out]; exact hlt
    have hjb : j < bs.length := by rw [← HNB.out]; exact hlt
    obtain ⟨b, off, rfl, hbB, -, -, p0, p1, p2, p3, p4, p5, p6⟩ := HA1.out j hje
    obtain ⟨b', off', rfl, hbB', -, -, q0, q1, q2, q3, q4, q5, q6⟩ := HA2.out j hjb
    have hbw : Below B w0 wo := HB0.out.trans ((HXB.out.trans (HBL.out.mono (by omega))).mono (by rw [HG.out]; exact hB))
    have hsx : B ≤ wo.heap.size := by have := HG.out; omega
    obtain ⟨l1, l2, l3, l4, l5, l6, l7⟩ := HLK.out j hje hjb
    have hp1 := HP.out j hje
    have hp2 := HP2.out j hjb
    rw [← l6] at hp2
    have hcb := Xsw (HBD.out j hje) t bs[j].body (fb' j) (HBD2.out j hjb) l7
    have r0 := (hbw.cell (p := ⟨b, off + j * 7, none⟩) hbB).trans p0
    have r1 := (hbw.cell (p := ⟨b, off + j * 7 + 1, none⟩) hbB).trans p1
    have r2 := (hbw.cell (p := ⟨b, off + j * 7 + 2, none⟩) hbB).trans p2
    have r3 := (hbw.cell (p := ⟨b, off + j * 7 + 3, none⟩) hbB).trans p3
    have r4 := (hbw.cell (p := ⟨b, off + j * 7 + 4, none⟩) hbB).trans p4
    have r5 := (hbw.cell (p := ⟨b, off + j * 7 + 5, none⟩) hbB).trans p5
    have r6 := (hbw.cell (p := ⟨b, off + j * 7 + 6, none⟩) hbB).trans p6
    have s0 := (hbw.cell (p := ⟨b', off' + j * 7, none⟩) hbB').trans q0
    have s1 := (hbw.cell (p := ⟨b', off' + j * 7 + 1, none⟩) hbB').trans q1
    have s2 := (hbw.cell (p := ⟨b', off' + j * 7 + 2, none⟩) hbB').trans q2
    have s3 := (hbw.cell (p := ⟨b', off' + j * 7 + 3, none⟩) hbB').trans q3
    have s4 := (hbw.cell (p := ⟨b', off' + j * 7 + 4, none⟩) hbB').trans q4
    have s5 := (hbw.cell (p := ⟨b', off' + j * 7 + 5, none⟩) hbB').trans q5
    have s6 := (hbw.cell (p := ⟨b', off' + j * 7 + 6, none⟩) hbB').trans q6
    rw [← l1] at s0
    rw [← l3] at s2
    rw [← l4] at s3
    rw [← l5] at s4
    obtain ⟨yk, hyk⟩ : ∃ x, x = ds[j].kind := ⟨_, rfl⟩
    obtain ⟨yp, hyp⟩ : ∃ x, x = ds[j].pl := ⟨_, rfl⟩
    obtain ⟨zp, hzp⟩ : ∃ x, x = bs[j].pl := ⟨_, rfl⟩
    obtain ⟨yu, hyu⟩ : ∃ x, x = ds[j].num := ⟨_, rfl⟩
    obtain ⟨yn, hyn⟩ : ∃ x, x = Xaa ds[j].name := ⟨_, rfl⟩
    obtain ⟨yt, hyt⟩ : ∃ x, x = Xaa ds[j].type := ⟨_, rfl⟩
    obtain ⟨A1, m1, d1, hye⟩ : ∃ A n c, fp j = .slice A n c := by
     obtain ⟨A, c, h, -⟩ := hp1
     exact ⟨A, _, c, h⟩
    obtain ⟨A2, m2, d2, hyb⟩ : ∃ A n c, fb j = .slice A n c := by
     obtain ⟨A, c, h, -⟩ := (HBD.out j hje).slice
     exact ⟨A, _, c, h⟩
    obtain ⟨C1, n1, c1, hze⟩ : ∃ A n c, fp' j = .slice A n c := by
     obtain ⟨A, c, h, -⟩ := hp2
     exact ⟨A, _, c, h⟩
    obtain ⟨C2, n2, c2, hzb⟩ : ∃ A n c, fb' j = .slice A n c := by
     obtain ⟨A, c, h, -⟩ := (HBD2.out j hjb).slice
     exact ⟨A, _, c, h⟩
    rw [← hyp, ← hzp] at l2
    rw [hye] at hp1 r5
    rw [hze] at hp2 s5
    rw [hyb] at hcb r6
    rw [hzb] at hcb s6
    rw [← hyk] at r0 s0
    rw [← hyp] at r1
    rw [← hzp] at s1
    rw [← hyu] at r2 s2
    rw [← hyn] at r3 s3
    rw [← hyt] at r4 s4
    have hcc : ∀ wx, Below B w0 wx → B ≤ wx.heap.size → Calls Tryz.prog 20 #[.slice A1 m1 d1, .slice C1 n1 c1] wx fun e w' => e = .returned (.bool true) ∧ Below wx.heap.size wx w' :=
     fun wx h1 h2 => Xkq hp1 hp2 wx h1 h2
    have k1' : ∀ o, (wo.alloc o).cell? ⟨g + 1, 0, none⟩ = _ := fun o => (((Below.refl _ wo).alloc (Nat.le_refl _) o).cell (p := ⟨g + 1, 0, none⟩) (show g + 1 < wo.heap.size by omega)).trans k1
    have a0 : ∀ o, (wo.alloc o).cell? ⟨b', off' + j * 7, none⟩ = _ := fun o => (((Below.refl _ wo).alloc (Nat.le_refl _) o).cell (p := ⟨b', off' + j * 7, none⟩) (show b' < wo.heap.size by omega)).trans s0
    have a1 : ∀ o, (wo.alloc o).cell? ⟨b', off' + j * 7 + 1, none⟩ = _ := fun o => (((Below.refl _ wo).alloc (Nat.le_refl _) o).cell (p := ⟨b', off' + j * 7 + 1, none⟩) (show b' < wo.heap.size by omega)).trans s1
    have a2 : ∀ o, (wo.alloc o).cell? ⟨b', off' + j * 7 + 2, none⟩ = _ := fun o => (((Below.refl _ wo).alloc (Nat.le_refl _) o).cell (p := ⟨b', off' + j * 7 + 2, none⟩) (show b' < wo.heap.size by omega)).trans s2
    have a3 : ∀ o, (wo.alloc o).cell? ⟨b', off' + j * 7 + 3, none⟩ = _ := fun o => (((Below.refl _ wo).alloc (Nat.le_refl _) o).cell (p := ⟨b', off' + j * 7 + 3, none⟩) (show b' < wo.heap.size by omega)).trans s3
    have a4 : ∀ o, (wo.alloc o).cell? ⟨b', off' + j * 7 + 4, none⟩ = _ := fun o => (((Below.refl _ wo).alloc (Nat.le_refl _) o).cell (p := ⟨b', off' + j * 7 + 4, none⟩) (show b' < wo.heap.size by omega)).trans s4
    have a5 : ∀ o, (wo.alloc o).cell? ⟨b', off' + j * 7 + 5, none⟩ = _ := fun o => (((Below.refl _ wo).alloc (Nat.le_refl _) o).cell (p := ⟨b', off' + j * 7 + 5, none⟩) (show b' < wo.heap.size by omega)).trans s5
    have a6 : ∀ o, (wo.alloc o).cell? ⟨b', off' + j * 7 + 6, none⟩ = _ := fun o => (((Below.refl _ wo).alloc (Nat.le_refl _) o).cell (p := ⟨b', off' + j * 7 + 6, none⟩) (show b' < wo.heap.size by omega)).trans s6
    have HCC := lh hcc
    have HCB := lh hcb
    have HL2 := lh l2
    have hx1 := Xar.new wo yk yp yu yn yt (.slice A1 m1 d1) (.slice A2 m2 d2)
    have hx2 := Xar.new (wo.alloc (.cells #[.int .i64 yk, .int .i64 yp, .int .i64 yu, .string yn, .string yt, .slice A1 m1 d1, .slice A2 m2 d2] 41)) yk zp yu yn yt (.slice C1 n1 c1) (.slice C2 n2 c2)
    clear s0 s1 s2 s3 s4 s5 s6 l1 l2 l3 l4 l5 l6 l7 hp1 hp2 hcc hcb hyk hyp hzp hyu hyn hyt hye hyb hze hzb p0 p1 p2 p3 p4 p5 p6 q0 q1 q2 q3 q4 q5 q6 HA1 HA2 HP HP2 HBD HBD2 HLK
    have e2 : (yn.toList != yn.toList) = false := by simp
    have e3 : (yt.toList != yt.toList) = false := by simp
    cases t
    all_goals
     first
     | (have hq1 : yp = zp := HL2.out rfl
        subst hq1)
     | skip
     clear HL2
     go_wp2_with fail
     generalize hX : World.alloc (World.alloc wo (.cells #[.int .i64 yk, .int .i64 yp, .int .i64 yu, .string yn, .string yt, .slice A1 m1 d1, .slice A2 m2 d2] 41)) (.cells #[.int .i64 yk, .int .i64 _, .int .i64 yu, .string yn, .string yt, .slice C1 n1 c1, .slice C2 n2 c2] 41) = X at hx2 ⊢
     have hxs : X.heap.size = wo.heap.size + 2 := by rw [← hX]; simp
     have hxb : Below wo.heap.size wo X := by rw [← hX]; exact ((Below.refl _ wo).alloc (Nat.le_refl _) _).alloc (by simp) _
     have h1 : Xar X wo.heap.size yk yp yu yn yt (.slice A1 m1 d1) (.slice A2 m2 d2) := by
      rw [← hX]; exact hx1.below ((Below.refl _ _).alloc (Nat.le_refl _) _) (by simp)
     have hsz : (wo.alloc (.cells #[.int .i64 yk, .int .i64 yp, .int .i64 yu, .string yn, .string yt, .slice A1 m1 d1, .slice A2 m2 d2] 41)).heap.size = wo.heap.size + 1 := by simp
     rw [hsz] at hx2
     clear hsz hx1 hX
     refine (HCC.out X (hbw.trans (hxb.mono hsx)) (by omega)).mono ?_
     rintro e w1 ⟨rfl, hb1⟩
     have hs1 := hb1.size
     have g1 := h1.below hb1 (by omega)
     have g2 := hx2.below hb1 (by omega)
     have y0 := g1.c0
     have y6 := g1.c6
     have z0 := g2.c0
     have z6 := g2.c6
     have hxb1 := hxb.trans (hb1.mono (by omega))
     clear h1 hx2 hb1 hxb g1 g2 a0 a1 a2 a3 a4 a5 a6 r0 r1 r2 r3 r4 r5 r6
     go_wp2_with fail
     refine (HCB.out deep w1 (hbw.trans (hxb1.mono hsx)) (by omega) (by omega) (by omega)).mono ?_
     rintro e w2 ⟨rfl, hb2⟩
     have hs2 := hb2.size
     have hxb2 := hxb1.trans (hb2.mono (by omega))
     clear hb2 hxb1 y0 y6 z0 z6
     go_wp2_with fail
     go_roundw
     case rel => exact ⟨j + 1, by omega, by go_num, lh (HBL.out.trans (hxb2.mono hws))⟩
     case measure => simp [intOf]; omega
  · have hend : Below w.heap.size w wo := by rw [← HG.out]; exact HXB.out.trans (HBL.out.mono (by omega))
    clear HA1 HA2 HP HP2 HBD HBD2 HLK
    go_wp2
    go_ret
    exact ⟨rfl, hend⟩
end Go.Proofs.YtodociiaobjfgaaGreatDoor
