/- Hd -/
import Derived.Test.YtkmpnlbppdekaaaDoorZf0
import Derived.StillTailTactics
import Derived.IntWalk
import Derived.OwnWalk
import Derived.Deep.AppendLies
import Derived.Laws.AppendOwnNone
import Derived.Shelf.Small.Strs
import Derived.Shelf.LaysM
import Derived.Shelf.Strconv.Clone
import Derived.Shelf.Strings.Search1
import Derived.Shelf.Strings.Prefix
import Derived.Test.YtkmpnlbppdekaaaDoorRows
import Derived.Lib.IndexAny
import Derived.WalkKit
import Derived.WalkSpells
import Derived.WalkLawsBesides
import Derived.Lib.Hide
import Derived.Deep.QuietTactic
import Derived.BigQuiet
set_option linter.unusedVariables false
namespace Go.Proofs.YtkmpnlbppdekaaaDoor
open Go.RowKit
@[go_sem] theorem eq_prL (a b x y : ByteArray) (w : World) : (Op.equalIn 10000 73 (.agg #[.string a, .string b]) (.agg #[.string x, .string y])).run Tryd.prog w = .ok (a.toList == x.toList && b.toList == y.toList) w := by
  have u9 := Tryd.underlying9
  have a9 := Tryd.isAgg9
  have z9 := Tryd.sizeOf9
  rw [show (10000 : Nat) = 9999 + 1 from rfl, Op.equalIn]
  simp only [Sem.run_bind, run_underlying Tryd.underlying73, Result.andThen_ok]
  have hs : Tryd.prog.stoodInHeld 73 = false := by kernel_rfl
  have hp : (Sem.run Tryd.prog program w) = .ok Tryd.prog w := rfl
  simp only [hp, Result.andThen_ok, hs, Bool.false_eq_true, if_false, Sem.run_bind, List.forIn_toArray, List.forIn_cons, List.forIn_nil]
  go_simp
  by_cases h1 : a.toList = x.toList <;> by_cases h2 : b.toList = y.toList <;> simp [h1, h2]
set_option maxHeartbeats 400000 in
theorem samepairsL_any {w0 : World} {B : Nat} {ps : List Pr} {v u : Value} (h : PrsIn w0 (· < B) ps v) (hu : PrsIn w0 (· < B) ps u) (w : World) (hb : Below B w0 w) (hB : B ≤ w.heap.size) :
    Calls Tryd.prog 18 #[v, u] w fun e w' => e = .returned (.bool true) ∧ Below w.heap.size w w' := by
  obtain ⟨A, c, rfl, hc, hM, hA⟩ := h
  obtain ⟨D, d, rfl, hc', hM', hA'⟩ := hu
  obtain ⟨m, hm⟩ : ∃ m, m = ps.length := ⟨_, rfl⟩
  rw [← hm] at hc hc' ⊢
  have hn6 : m ≤ 9223372036854775807 := Nat.le_trans hc hM
  have HM := Lib.hid hm
  have HA1 := Lib.hid hA
  have HA2 := Lib.hid hA'
  have HB0 := Lib.hid hb
  clear hm hA hA' hb
  go_enter Tryd.func18, Tryd.ntmps18
  go_wp2
  go_loopw [5] (fun i wr => ∃ k : Nat, k ≤ m ∧ i = .int .i64 k ∧ Drawn w wr) (fun i _ => m - (intOf i).toNat)
  case atStart => exact ⟨0, Nat.zero_le _, rfl, Drawn.refl w⟩
  case round =>
    obtain ⟨k, hk, rfl, hq⟩ := hrel
    by_cases hlt : k < m
    · have hkl : k < ps.length := by rw [← HM.out]; exact hlt
      obtain ⟨b, off, rfl, hbB, -, -, p0, p1⟩ := HA1.out k hkl
      obtain ⟨b', off', rfl, hbB', -, -, q0, q1⟩ := HA2.out k hkl
      obtain ⟨x, hx⟩ : ∃ x, x = strOf ps[k].name := ⟨_, rfl⟩
      obtain ⟨y, hy⟩ : ∃ y, y = strOf ps[k].type := ⟨_, rfl⟩
      rw [← hx] at p0 q0
      rw [← hy] at p1 q1
      have r0 := (hq.cell _).trans ((HB0.out.cell (p := ⟨b, off + k * 2, none⟩) hbB).trans p0)
      have r1 := (hq.cell _).trans ((HB0.out.cell (p := ⟨b, off + k * 2 + 1, none⟩) hbB).trans p1)
      have s0 := (hq.cell _).trans ((HB0.out.cell (p := ⟨b', off' + k * 2, none⟩) hbB').trans q0)
      have s1 := (hq.cell _).trans ((HB0.out.cell (p := ⟨b', off' + k * 2 + 1, none⟩) hbB').trans q1)
      clear hx hy p0 p1 q0 q1 hkl HA1 HA2
      have e1 : (x.toList == x.toList && y.toList == y.toList) = true := by simp
      go_wp2
      go_region
      all_goals
        go_wp2
        go_roundw
        case rel => exact ⟨k + 1, by omega, by go_num, hq.drew⟩
        case measure => simp [intOf]; omega
    · have hend : Below w.heap.size w wr := hq.below
      clear HA1 HA2
      go_wp2
      go_ret
      exact ⟨rfl, hend⟩
set_option maxHeartbeats 4000000 in
set_option maxRecDepth 100000 in
theorem samepL_any {w0 : World} {B : Nat} {ds bs : List Dc} {v u : Value} (h : DcsIn w0 (· < B) ds v) (hu : DcsIn w0 (· < B) bs u) (t : Bool) (hlk : likeDs t ds bs) (deep : Int) (w : World) (hb : Below B w0 w) (hB : B ≤ w.heap.size) (hd0 : -100000 ≤ deep) (hd : deep ≤ 100000) :
    Calls Tryd.prog 10 #[.agg #[v], .agg #[u], .bool t, .int .i64 deep] w fun e w' => e = .returned (.bool true) ∧ Below w.heap.size w w' := by
  obtain ⟨A, c, fp, fb, rfl, hc, hM, hA, hp, hbd⟩ := h
  obtain ⟨D, d, fp', fb', rfl, hc', hM', hA', hp', hbd'⟩ := hu
  obtain ⟨hlen, hlike⟩ := hlk
  obtain ⟨ns, hns⟩ : ∃ ns, ns = ds.length := ⟨_, rfl⟩
  rw [← hlen] at hc' ⊢
  rw [← hns] at hc hc' ⊢
  have hn6 : ns ≤ 9223372036854775807 := Nat.le_trans hc hM
  rw [← hns] at hlen
  have HNS := Lib.hid hns
  have HNB := Lib.hid hlen
  have HLK := Lib.hid hlike
  have HB0 := Lib.hid hb
  have HP := Lib.hid hp
  have HBD := Lib.hid hbd
  have HA1 := Lib.hid hA
  have HA2 := Lib.hid hA'
  have HP2 := Lib.hid hp'
  have HBD2 := Lib.hid hbd'
  clear hns hlen hlike hb hp hbd hA hA' hp' hbd'
  go_enter Tryd.func10, Tryd.ntmps10
  go_wp2
  obtain ⟨X0, hX0⟩ : ∃ X0 : World, X0 = (w.alloc (.cells #[.slice A ns c] 25)).alloc (.cells #[.slice D ns d] 25) := ⟨_, rfl⟩
  obtain ⟨g, hg⟩ : ∃ g, g = w.heap.size := ⟨_, rfl⟩
  have hx1 : OneBlk X0 g (.slice A ns c) := by
    rw [hX0, hg]
    exact (OneBlk.new w _).below ((Below.refl _ _).alloc (Nat.le_refl _) _) (by simp)
  have hx2 : OneBlk X0 (g + 1) (.slice D ns d) := by
    rw [hX0, hg]
    have h := OneBlk.new (w.alloc (.cells #[.slice A ns c] 25)) (.slice D ns d)
    rw [show (w.alloc (.cells #[.slice A ns c] 25)).heap.size = w.heap.size + 1 from by simp] at h
    exact h
  have hxs : X0.heap.size = g + 2 := by rw [hX0, hg]; simp
  have hxb : Below g w X0 := by rw [hX0, hg]; exact ((Below.refl _ w).alloc (Nat.le_refl _) _).alloc (by simp) _
  rw [← hX0, ← hg]
  have HX1 := Lib.hid hx1
  have HX2 := Lib.hid hx2
  have HXS := Lib.hid hxs
  have HXB := Lib.hid hxb
  have HG := Lib.hid hg
  clear hX0 hx1 hx2 hxs hxb hg
  go_loopw [9] (fun i wr => ∃ j : Nat, j ≤ ns ∧ i = .int .i64 j ∧ Hid (Below (g + 2) X0 wr)) (fun i _ => ns - (intOf i).toNat)
  case atStart => exact ⟨0, Nat.zero_le _, rfl, Lib.hid (Below.refl _ _)⟩
  case round =>
    obtain ⟨wo, rfl⟩ : ∃ wo : World, wo = wr := ⟨_, rfl⟩
    obtain ⟨j, hj, rfl, HBL⟩ := hrel
    have hws : g + 2 ≤ wo.heap.size := by have := HBL.out.size; have := HXS.out; omega
    have k0 := (HX1.out.below HBL.out (by omega)).c0
    have k1 := (HX2.out.below HBL.out (by omega)).c0
    by_cases hlt : j < ns
    · have hje : j < ds.length := by rw [← HNS.out]; exact hlt
      have hjb : j < bs.length := by rw [← HNB.out]; exact hlt
      obtain ⟨b, off, rfl, hbB, -, -, p0, p1, p2, p3, p4, p5, p6⟩ := HA1.out j hje
      obtain ⟨b', off', rfl, hbB', -, -, q0, q1, q2, q3, q4, q5, q6⟩ := HA2.out j hjb
      have hbw : Below B w0 wo := HB0.out.trans ((HXB.out.trans (HBL.out.mono (by omega))).mono (by rw [HG.out]; exact hB))
      have hsx : B ≤ wo.heap.size := by have := HG.out; omega
      obtain ⟨l1, l2, l3, l4, l5, l6, l7⟩ := HLK.out j hje hjb
      have hp1 := HP.out j hje
      have hp2 := HP2.out j hjb
      rw [← l6] at hp2
      have hcb := samebL_any (HBD.out j hje) t bs[j].body (fb' j) (HBD2.out j hjb) l7
      have r0 := (hbw.cell (p := ⟨b, off + j * 7, none⟩) hbB).trans p0
      have r1 := (hbw.cell (p := ⟨b, off + j * 7 + 1, none⟩) hbB).trans p1
      have r2 := (hbw.cell (p := ⟨b, off + j * 7 + 2, none⟩) hbB).trans p2
      have r3 := (hbw.cell (p := ⟨b, off + j * 7 + 3, none⟩) hbB).trans p3
      have r4 := (hbw.cell (p := ⟨b, off + j * 7 + 4, none⟩) hbB).trans p4
      have r5 := (hbw.cell (p := ⟨b, off + j * 7 + 5, none⟩) hbB).trans p5
      have r6 := (hbw.cell (p := ⟨b, off + j * 7 + 6, none⟩) hbB).trans p6
      have s0 := (hbw.cell (p := ⟨b', off' + j * 7, none⟩) hbB').trans q0
      have s1 := (hbw.cell (p := ⟨b', off' + j * 7 + 1, none⟩) hbB').trans q1
      have s2 := (hbw.cell (p := ⟨b', off' + j * 7 + 2, none⟩) hbB').trans q2
      have s3 := (hbw.cell (p := ⟨b', off' + j * 7 + 3, none⟩) hbB').trans q3
      have s4 := (hbw.cell (p := ⟨b', off' + j * 7 + 4, none⟩) hbB').trans q4
      have s5 := (hbw.cell (p := ⟨b', off' + j * 7 + 5, none⟩) hbB').trans q5
      have s6 := (hbw.cell (p := ⟨b', off' + j * 7 + 6, none⟩) hbB').trans q6
      rw [← l1] at s0
      rw [← l3] at s2
      rw [← l4] at s3
      rw [← l5] at s4
      obtain ⟨yk, hyk⟩ : ∃ x, x = ds[j].kind := ⟨_, rfl⟩
      obtain ⟨yp, hyp⟩ : ∃ x, x = ds[j].pl := ⟨_, rfl⟩
      obtain ⟨zp, hzp⟩ : ∃ x, x = bs[j].pl := ⟨_, rfl⟩
      obtain ⟨yu, hyu⟩ : ∃ x, x = ds[j].num := ⟨_, rfl⟩
      obtain ⟨yn, hyn⟩ : ∃ x, x = strOf ds[j].name := ⟨_, rfl⟩
      obtain ⟨yt, hyt⟩ : ∃ x, x = strOf ds[j].type := ⟨_, rfl⟩
      obtain ⟨A1, m1, d1, hye⟩ : ∃ A n c, fp j = .slice A n c := by
        obtain ⟨A, c, h, -⟩ := hp1
        exact ⟨A, _, c, h⟩
      obtain ⟨A2, m2, d2, hyb⟩ : ∃ A n c, fb j = .slice A n c := by
        obtain ⟨A, c, h, -⟩ := (HBD.out j hje).slice
        exact ⟨A, _, c, h⟩
      obtain ⟨C1, n1, c1, hze⟩ : ∃ A n c, fp' j = .slice A n c := by
        obtain ⟨A, c, h, -⟩ := hp2
        exact ⟨A, _, c, h⟩
      obtain ⟨C2, n2, c2, hzb⟩ : ∃ A n c, fb' j = .slice A n c := by
        obtain ⟨A, c, h, -⟩ := (HBD2.out j hjb).slice
        exact ⟨A, _, c, h⟩
      rw [← hyp, ← hzp] at l2
      rw [hye] at hp1 r5
      rw [hze] at hp2 s5
      rw [hyb] at hcb r6
      rw [hzb] at hcb s6
      rw [← hyk] at r0 s0
      rw [← hyp] at r1
      rw [← hzp] at s1
      rw [← hyu] at r2 s2
      rw [← hyn] at r3 s3
      rw [← hyt] at r4 s4
      have hcc : ∀ wx, Below B w0 wx → B ≤ wx.heap.size → Calls Tryd.prog 18 #[.slice A1 m1 d1, .slice C1 n1 c1] wx fun e w' => e = .returned (.bool true) ∧ Below wx.heap.size wx w' :=
        fun wx h1 h2 => samepairsL_any hp1 hp2 wx h1 h2
      have k1' : ∀ o, (wo.alloc o).cell? ⟨g + 1, 0, none⟩ = _ := fun o => (((Below.refl _ wo).alloc (Nat.le_refl _) o).cell (p := ⟨g + 1, 0, none⟩) (show g + 1 < wo.heap.size by omega)).trans k1
      have a0 : ∀ o, (wo.alloc o).cell? ⟨b', off' + j * 7, none⟩ = _ := fun o => (((Below.refl _ wo).alloc (Nat.le_refl _) o).cell (p := ⟨b', off' + j * 7, none⟩) (show b' < wo.heap.size by omega)).trans s0
      have a1 : ∀ o, (wo.alloc o).cell? ⟨b', off' + j * 7 + 1, none⟩ = _ := fun o => (((Below.refl _ wo).alloc (Nat.le_refl _) o).cell (p := ⟨b', off' + j * 7 + 1, none⟩) (show b' < wo.heap.size by omega)).trans s1
      have a2 : ∀ o, (wo.alloc o).cell? ⟨b', off' + j * 7 + 2, none⟩ = _ := fun o => (((Below.refl _ wo).alloc (Nat.le_refl _) o).cell (p := ⟨b', off' + j * 7 + 2, none⟩) (show b' < wo.heap.size by omega)).trans s2
      have a3 : ∀ o, (wo.alloc o).cell? ⟨b', off' + j * 7 + 3, none⟩ = _ := fun o => (((Below.refl _ wo).alloc (Nat.le_refl _) o).cell (p := ⟨b', off' + j * 7 + 3, none⟩) (show b' < wo.heap.size by omega)).trans s3
      have a4 : ∀ o, (wo.alloc o).cell? ⟨b', off' + j * 7 + 4, none⟩ = _ := fun o => (((Below.refl _ wo).alloc (Nat.le_refl _) o).cell (p := ⟨b', off' + j * 7 + 4, none⟩) (show b' < wo.heap.size by omega)).trans s4
      have a5 : ∀ o, (wo.alloc o).cell? ⟨b', off' + j * 7 + 5, none⟩ = _ := fun o => (((Below.refl _ wo).alloc (Nat.le_refl _) o).cell (p := ⟨b', off' + j * 7 + 5, none⟩) (show b' < wo.heap.size by omega)).trans s5
      have a6 : ∀ o, (wo.alloc o).cell? ⟨b', off' + j * 7 + 6, none⟩ = _ := fun o => (((Below.refl _ wo).alloc (Nat.le_refl _) o).cell (p := ⟨b', off' + j * 7 + 6, none⟩) (show b' < wo.heap.size by omega)).trans s6
      have HCC := Lib.hid hcc
      have HCB := Lib.hid hcb
      have HL2 := Lib.hid l2
      have hx1 := DcBlk.new wo yk yp yu yn yt (.slice A1 m1 d1) (.slice A2 m2 d2)
      have hx2 := DcBlk.new (wo.alloc (.cells #[.int .i64 yk, .int .i64 yp, .int .i64 yu, .string yn, .string yt, .slice A1 m1 d1, .slice A2 m2 d2] 38)) yk zp yu yn yt (.slice C1 n1 c1) (.slice C2 n2 c2)
      clear s0 s1 s2 s3 s4 s5 s6 l1 l2 l3 l4 l5 l6 l7 hp1 hp2 hcc hcb hyk hyp hzp hyu hyn hyt hye hyb hze hzb p0 p1 p2 p3 p4 p5 p6 q0 q1 q2 q3 q4 q5 q6 HA1 HA2 HP HP2 HBD HBD2 HLK
      have e2 : (yn.toList != yn.toList) = false := by simp
      have e3 : (yt.toList != yt.toList) = false := by simp
      cases t
      all_goals
        first
        | (have hq1 : yp = zp := HL2.out rfl
           subst hq1)
        | skip
        clear HL2
        go_wp2_with fail
        generalize hX : World.alloc (World.alloc wo (.cells #[.int .i64 yk, .int .i64 yp, .int .i64 yu, .string yn, .string yt, .slice A1 m1 d1, .slice A2 m2 d2] 38)) (.cells #[.int .i64 yk, .int .i64 _, .int .i64 yu, .string yn, .string yt, .slice C1 n1 c1, .slice C2 n2 c2] 38) = X at hx2 ⊢
        have hxs : X.heap.size = wo.heap.size + 2 := by rw [← hX]; simp
        have hxb : Below wo.heap.size wo X := by rw [← hX]; exact ((Below.refl _ wo).alloc (Nat.le_refl _) _).alloc (by simp) _
        have h1 : DcBlk X wo.heap.size yk yp yu yn yt (.slice A1 m1 d1) (.slice A2 m2 d2) := by
          rw [← hX]; exact hx1.below ((Below.refl _ _).alloc (Nat.le_refl _) _) (by simp)
        have hsz : (wo.alloc (.cells #[.int .i64 yk, .int .i64 yp, .int .i64 yu, .string yn, .string yt, .slice A1 m1 d1, .slice A2 m2 d2] 38)).heap.size = wo.heap.size + 1 := by simp
        rw [hsz] at hx2
        clear hsz hx1 hX
        refine (HCC.out X (hbw.trans (hxb.mono hsx)) (by omega)).mono ?_
        rintro e w1 ⟨rfl, hb1⟩
        have hs1 := hb1.size
        have g1 := h1.below hb1 (by omega)
        have g2 := hx2.below hb1 (by omega)
        have y0 := g1.c0
        have y6 := g1.c6
        have z0 := g2.c0
        have z6 := g2.c6
        have hxb1 := hxb.trans (hb1.mono (by omega))
        clear h1 hx2 hb1 hxb g1 g2 a0 a1 a2 a3 a4 a5 a6 r0 r1 r2 r3 r4 r5 r6
        go_wp2_with fail
        refine (HCB.out deep w1 (hbw.trans (hxb1.mono hsx)) (by omega) (by omega) (by omega)).mono ?_
        rintro e w2 ⟨rfl, hb2⟩
        have hs2 := hb2.size
        have hxb2 := hxb1.trans (hb2.mono (by omega))
        clear hb2 hxb1 y0 y6 z0 z6
        go_wp2_with fail
        go_roundw
        case rel => exact ⟨j + 1, by omega, by go_num, Lib.hid (HBL.out.trans (hxb2.mono hws))⟩
        case measure => simp [intOf]; omega
    · have hend : Below w.heap.size w wo := by rw [← HG.out]; exact HXB.out.trans (HBL.out.mono (by omega))
      clear HA1 HA2 HP HP2 HBD HBD2 HLK
      go_wp2
      go_ret
      exact ⟨rfl, hend⟩
end Go.Proofs.YtkmpnlbppdekaaaDoor
