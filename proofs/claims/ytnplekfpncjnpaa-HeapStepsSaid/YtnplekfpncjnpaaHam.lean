/- The walk of HeapKeeps. -/
import Derived.Test.YtnplekfpncjnpaaHai
import Derived.Test.YtnplekfpncjnpaaHaj
import Derived.StillTailTactics
set_option linter.unusedVariables false
set_option linter.unusedSimpArgs false
namespace Go.Proofs.Ytnplekfpncjnpaa
open Go.RowKit

theorem eqW (a c x z : Int) (w : World) : (binOp .eql 40 (.agg #[.int .i64 a, .int .i64 c]) (.agg #[.int .i64 x, .int .i64 z])).run Try.prog w = .ok (.bool (a == x && c == z)) w := by
  have u3 := Try.underlying3
  have a3 := Try.isAgg3
  have z3 := Try.sizeOf3
  rw [run_eql_struct, show (10000 : Nat) = 9999 + 1 from rfl, Op.equalIn]
  simp only [Sem.run_bind, run_underlying Try.underlying40, Result.andThen_ok]
  have hs : Try.prog.stoodInHeld 40 = false := by kernel_rfl
  have hp : (Sem.run Try.prog program w) = .ok Try.prog w := rfl
  simp only [hp, Result.andThen_ok, hs, Bool.false_eq_true, if_false, Sem.run_bind, List.forIn_toArray, List.forIn_cons, List.forIn_nil]
  go_simp
  by_cases h1 : a = x <;> by_cases h2 : c = z <;> simp [h1, h2]
theorem neqW (a c x z : Int) (w : World) : (binOp .neq 40 (.agg #[.int .i64 a, .int .i64 c]) (.agg #[.int .i64 x, .int .i64 z])).run Try.prog w = .ok (.bool !(a == x && c == z)) w := by
  have h := eqW a c x z w
  rw [run_eql_struct] at h
  rw [run_neq_struct]
  cases hr : (Op.equalIn 10000 40 (.agg #[.int .i64 a, .int .i64 c]) (.agg #[.int .i64 x, .int .i64 z])).run Try.prog w with
  | ok b w' => rw [hr] at h; simp [Result.andThen] at h ⊢; obtain ⟨rfl, rfl⟩ := h; exact ⟨rfl, rfl⟩
  | _ => rw [hr] at h; simp [Result.andThen] at h

theorem place_inj {H : Hp} {a b : Int} {q : Nat × Nat} (ha : place H a = some q) (hb : place H b = some q) : a = b := by
  obtain ⟨t, k⟩ := q
  obtain ⟨-, h1, -⟩ := place_some ha
  obtain ⟨-, h2, -⟩ := place_some hb
  omega
theorem place_set {H : Hp} {t : Nat} (ht : t < H.length) (m : Mm) (hm : m.ws.length = (getM H t).ws.length) (a : Int) : place (H.set t m) a = place H a := by
  unfold place
  rw [getM_set ht]
  by_cases e : t = (a - 1).toNat / 64
  · rw [if_pos e, hm, e]
  · rw [if_neg e]
/-- what is stored is there, and nothing else has changed -/
theorem load_stored {H : Hp} {a : Int} {x : Wd} (h : (storeM H a x).2 = true) : loadM (storeM H a x).1 a = (x, true) ∧ ∀ b, b ≠ a → loadM (storeM H a x).1 b = loadM H b := by
  unfold storeM at h ⊢
  cases hp : place H a with
  | none => rw [hp] at h; simp at h
  | some q =>
    obtain ⟨t, k⟩ := q
    obtain ⟨-, -, ht, hk⟩ := place_some hp
    dsimp only
    have hl : (getM H t).ws.length = ((getM H t).ws.set k x).length := by rw [List.length_set]
    refine ⟨?_, fun b hb => ?_⟩
    · unfold loadM
      rw [place_set ht _ (by simp), hp]
      dsimp only
      rw [getM_set ht, if_pos rfl]
      dsimp only
      rw [List.getElem?_set, if_pos rfl, if_pos hk]
      rfl
    · unfold loadM
      rw [place_set ht _ (by simp)]
      cases hq : place H b with
      | none => rfl
      | some r =>
        obtain ⟨u, j⟩ := r
        dsimp only
        rw [getM_set ht]
        by_cases e : t = u
        · subst e
          rw [if_pos rfl]
          dsimp only
          rw [List.getElem?_set, if_neg (fun e2 => hb (place_inj hq (by rw [hp, e2])))]
        · rw [if_neg e]
theorem store_none {H : Hp} {a : Int} {x : Wd} (h : (storeM H a x).2 = false) : (storeM H a x).1 = H ∧ loadM H a = (noWd, false) := by
  unfold storeM at h ⊢
  unfold loadM
  cases hp : place H a with
  | none => exact ⟨rfl, rfl⟩
  | some q => rw [hp] at h; simp at h

set_option maxRecDepth 100000 in
set_option maxHeartbeats 4000000 in
theorem keeps_walk (w : World) (zs : List Cl) (sv : Value) (hv : Scr KC w (· < w.heap.size) zs sv) (a : Int) (ha : In64 a) (b : Int) (hb : In64 b) (v : Int) (hv' : In64 v) (x : Int) (hx : In64 x) :
    Calls Try.prog 5 #[sv, .int .i64 a, .int .i64 b, .int .i64 v, .int .i64 x] w fun e w' => e = .returned (.bool true) ∧ Below w.heap.size w w' := by
  obtain ⟨A, cz, rfl, hzc, hz63⟩ := hv.form
  have HAL := Lib.hid (alive_any w)
  have HV := Lib.hid hv
  have HIA := Lib.hid ha
  have HIB := Lib.hid hb
  obtain ⟨n, hn⟩ : ∃ n, n = zs.length := ⟨_, rfl⟩
  rw [← hn] at hzc ⊢
  have HN := Lib.hid hn
  clear hv hn ha hb hv' hx
  by_cases hbig : 200 < n
  · go_enter Try.func5, Try.ntmps5
    go_wp2_with fail
    refine HAL.out.mono ?_
    rintro e w1 ⟨rfl, hb1⟩
    have HB1 := Lib.hid hb1
    clear hb1
    go_wp2
    go_ret
    exact ⟨rfl, HB1.out⟩
  by_cases hab : a = b
  · subst hab
    have hsm : n ≤ 200 := by omega
    go_enter Try.func5, Try.ntmps5
    go_wp2_with fail
    refine HAL.out.mono ?_
    rintro e w1 ⟨rfl, hb1⟩
    have HB1 := Lib.hid hb1
    clear hb1
    go_wp2
    go_ret
    exact ⟨rfl, HB1.out⟩
  · have hsm : n ≤ 200 := by omega
    have hab2 : (a == b) = false := by simp [hab]
    clear hbig
    go_enter Try.func5, Try.ntmps5
    go_wp2_with fail
    refine HAL.out.mono ?_
    rintro e w1 ⟨rfl, hb1⟩
    have HB1 := Lib.hid hb1
    have HNEW := Lib.hid (new_any w1 4 (by unfold In64; omega))
    clear hb1 HAL
    go_wp2_with fail
    refine HNEW.out.mono ?_
    rintro e w2 ⟨h, g, c, A0, rfl, X0, hb2⟩
    have HX0 := Lib.hid X0
    have HB2 := Lib.hid (HB1.out.trans (hb2.mono HB1.out.size))
    obtain ⟨base, hbase⟩ : ∃ base, base = w1.heap.size := ⟨_, rfl⟩
    rw [← hbase] at HX0
    have HBASE := Lib.hid (show base ≤ w2.heap.size ∧ w.heap.size ≤ base from ⟨by rw [hbase]; exact hb2.size, by rw [hbase]; exact HB1.out.size⟩)
    clear X0 hb2 HNEW hbase HB1
    go_wp2_with fail
    go_loopw [12] (fun i wr => ∃ (j : Nat) (H : Hp) (A' : List Value), j ≤ n ∧ i = .int .i64 (j : Nat) ∧ Hid (HpAt wr base h g c A' H) ∧ Hid (base ≤ wr.heap.size) ∧ Hid (Below w.heap.size w wr)) (fun i _ => n - (intOf i).toNat)
    case atStart => exact ⟨0, _, A0, Nat.zero_le _, rfl, HX0, Lib.hid HBASE.out.1, HB2⟩
    case round =>
      obtain ⟨wo, rfl⟩ : ∃ wo : World, wo = wr := ⟨_, rfl⟩
      obtain ⟨j, H, A', hj, rfl, HX, HBS, HB⟩ := hrel
      by_cases hlt : j < n
      · have hjl : j < zs.length := by rw [← HN.out]; exact hlt
        obtain ⟨gz, off, rfl, hgz, k0, k1, k2, k3, k4, hin⟩ := HV.out.call j hjl
        have c0 := (HB.out.cell (p := ⟨gz, off + j * 5, none⟩) hgz).trans k0
        have c1 := (HB.out.cell (p := ⟨gz, off + j * 5 + 1, none⟩) hgz).trans k1
        have c2 := (HB.out.cell (p := ⟨gz, off + j * 5 + 2, none⟩) hgz).trans k2
        have c3 := (HB.out.cell (p := ⟨gz, off + j * 5 + 3, none⟩) hgz).trans k3
        have c4 := (HB.out.cell (p := ⟨gz, off + j * 5 + 4, none⟩) hgz).trans k4
        obtain ⟨y, hy⟩ : ∃ y, y = zs[j] := ⟨_, rfl⟩
        rw [← hy] at c0 c1 c2 c3 c4
        obtain ⟨y0, y1, y2, y3, y4⟩ := y
        dsimp only at c0 c1 c2 c3 c4
        clear k0 k1 k2 k3 k4 hin hy hjl
        by_cases hw1 : y0 = 1
        · subst hw1
          have HM := make_any (HX.out.keep (w' := wo.drew) (fun b _ _ => rfl)) HBS.out y1 y2 y3 y4
          have HM := Lib.hid HM
          go_wp2
          go_still_tail 21, (by kernel_rfl)
          change wpList _ _ _ _ _ wo.drew
          go_wp2_with fail
          refine HM.out.mono ?_
          rintro e w3 ⟨A3, rfl, X3, hb3, -, -⟩
          have HX3 := Lib.hid X3
          have HBS3 : Hid (base ≤ w3.heap.size) := Lib.hid (Nat.le_trans HBS.out hb3.size)
          have HB3 := Lib.hid (HB.out.drew.trans (hb3.mono HBASE.out.2))
          clear hb3 X3 HM HX HB c0 c1 c2 c3 c4
          go_wp2
          go_roundw
          case rel => exact ⟨j + 1, _, A3, by omega, by go_num, HX3, HBS3, HB3⟩
          case measure => simp [intOf]; omega
        · have hw2 : (y0 == 1) = false := by simp [hw1]
          go_wp2
          go_roundw
          case rel => exact ⟨j + 1, H, A', by omega, by go_num, HX, HBS, HB⟩
          case measure => simp [intOf]; omega
      · obtain rfl : j = n := by omega
        have HL := load_any HX.out b HIB.out
        obtain ⟨L, hL⟩ : ∃ L, L = loadM H b := ⟨_, rfl⟩
        rw [← hL] at HL
        obtain ⟨⟨l0, l1⟩, lk⟩ := L
        unfold LoadV wagg at HL
        dsimp only at HL
        have HL := Lib.hid HL
        have HLB := Lib.hid hL
        clear hL
        go_wp2_with fail
        refine HL.out.mono ?_
        rintro e w3 ⟨rfl, hb3⟩
        have r0 := two_c0 w3 (.int .i64 l0) (.int .i64 l1) 40
        have r1 := two_c1 w3 (.int .i64 l0) (.int .i64 l1) 40
        have hb3a : Below wo.heap.size wo (w3.alloc (.cells #[.int .i64 l0, .int .i64 l1] 40)) := hb3.alloc hb3.size _
        have hsz : w3.heap.size < (w3.alloc (.cells #[.int .i64 l0, .int .i64 l1] 40)).heap.size := by simp
        go_wp2_with fail
        generalize w3.alloc (.cells #[.int .i64 l0, .int .i64 l1] 40) = V at r0 r1 hb3a hsz ⊢
        obtain ⟨z, hz⟩ : ∃ z, z = w3.heap.size := ⟨_, rfl⟩
        rw [← hz] at r0 r1 hsz ⊢
        have hzb : base ≤ z := by rw [hz]; exact Nat.le_trans HBS.out hb3.size
        have hnm : NotMine h g A' z := HX.out.toHpRaw.notMine (by rw [hz]; exact hb3.size)
        have HNM := Lib.hid hnm
        have HX2 := Lib.hid (HX.out.below hb3a)
        have HBV := Lib.hid (HB.out.trans (hb3a.mono HB.out.size))
        have HBS2 : Hid (base ≤ V.heap.size) := Lib.hid (Nat.le_trans HBS.out hb3a.size)
        have HST := store_any HX2.out HBS2.out a HIA.out ⟨v, x⟩
        unfold wagg at HST
        dsimp only at HST
        clear hb3 hb3a hz HL HB HX hnm
        cases hok : (storeM H a ⟨v, x⟩).2 with
        | false =>
          obtain ⟨e1, e2⟩ := store_none hok
          unfold StorePost at HST
          rw [hok, e1] at HST
          have HST := Lib.hid HST
          have HE2 := Lib.hid e2
          clear e1 e2 hok
          refine HST.out.mono ?_
          rintro e w4 ⟨rfl, X4, hb4, -⟩
          have HX4 := Lib.hid X4
          have HB4 := Lib.hid (HBV.out.trans (hb4.mono HBASE.out.2))
          have HL := load_any X4 a HIA.out
          rw [HE2.out] at HL
          unfold LoadV wagg noWd at HL
          dsimp only at HL
          have HL := Lib.hid HL
          clear X4 hb4 HST HBV HX2
          go_wp2_with fail
          refine HL.out.mono ?_
          rintro e w5 ⟨rfl, hb5⟩
          have HB5 := Lib.hid ((HB4.out.trans (hb5.mono HB4.out.size)).alloc (Nat.le_trans HB4.out.size hb5.size) (.cells #[.int .i64 0, .int .i64 0] 40))
          clear hb5 HL
          go_wp2
          go_ret
          exact ⟨rfl, HB5.out⟩
        | true =>
          obtain ⟨e1, e2⟩ := load_stored hok
          have e2 := e2 b (fun e => hab e.symm)
          unfold StorePost at HST
          rw [hok] at HST
          rw [← HLB.out] at e2
          obtain ⟨H2, hH2⟩ : ∃ H2, H2 = (storeM H a ⟨v, x⟩).1 := ⟨_, rfl⟩
          rw [← hH2] at HST e1 e2
          have HST := Lib.hid HST
          have HE1 := Lib.hid e1
          have HE2 := Lib.hid e2
          clear e1 e2 hok hH2
          refine HST.out.mono ?_
          rintro e w4 ⟨rfl, X4, hb4, hf4⟩
          have hzz := hf4.at_ hsz HNM.out
          have s0 := (World.cell?_of_block (a := ⟨z, 0, none⟩) hzz).trans r0
          have s1 := (World.cell?_of_block (a := ⟨z, 1, none⟩) hzz).trans r1
          have HX4 := Lib.hid X4
          have HB4 := Lib.hid (HBV.out.trans (hb4.mono HBASE.out.2))
          have hz4 : z < w4.heap.size := Nat.lt_of_lt_of_le hsz hb4.size
          have HL := load_any X4 b HIB.out
          rw [HE2.out] at HL
          unfold LoadV wagg at HL
          dsimp only at HL
          have HL := Lib.hid HL
          clear X4 hb4 hf4 HST HBV HX2 hzz r0 r1 hsz
          go_wp2_with fail
          refine HL.out.mono ?_
          rintro e w5 ⟨rfl, hb5⟩
          have t0 := two_c0 w5 (.int .i64 l0) (.int .i64 l1) 40
          have t1 := two_c1 w5 (.int .i64 l0) (.int .i64 l1) 40
          have hb5a : Below w4.heap.size w4 (w5.alloc (.cells #[.int .i64 l0, .int .i64 l1] 40)) := hb5.alloc hb5.size _
          have hsz5 : w5.heap.size < (w5.alloc (.cells #[.int .i64 l0, .int .i64 l1] 40)).heap.size := by simp
          go_wp2_with fail
          generalize w5.alloc (.cells #[.int .i64 l0, .int .i64 l1] 40) = V5 at t0 t1 hb5a hsz5 ⊢
          obtain ⟨z5, hz5⟩ : ∃ z, z = w5.heap.size := ⟨_, rfl⟩
          rw [← hz5] at t0 t1 hsz5 ⊢
          have s0 := (hb5a.cell (p := ⟨z, 0, none⟩) hz4).trans s0
          have s1 := (hb5a.cell (p := ⟨z, 1, none⟩) hz4).trans s1
          have hzV : z < V5.heap.size := Nat.lt_of_lt_of_le hz4 hb5a.size
          have HX5 := Lib.hid (HX4.out.below hb5a)
          have HB5 := Lib.hid (HB4.out.trans (hb5a.mono HB4.out.size))
          have HL := load_any HX5.out a HIA.out
          rw [HE1.out] at HL
          unfold LoadV wagg at HL
          dsimp only at HL
          have HL := Lib.hid HL
          clear hb5 hb5a hz5 hz4 HX4 HB4
          refine HL.out.mono ?_
          rintro e w6 ⟨rfl, hb6⟩
          have q0 := two_c0 w6 (.int .i64 v) (.int .i64 x) 40
          have q1 := two_c1 w6 (.int .i64 v) (.int .i64 x) 40
          have hb6a : Below V5.heap.size V5 (w6.alloc (.cells #[.int .i64 v, .int .i64 x] 40)) := hb6.alloc hb6.size _
          have hsz6 : w6.heap.size < (w6.alloc (.cells #[.int .i64 v, .int .i64 x] 40)).heap.size := by simp
          have s0 := (hb6a.cell (p := ⟨z, 0, none⟩) hzV).trans s0
          have s1 := (hb6a.cell (p := ⟨z, 1, none⟩) hzV).trans s1
          have t0 := (hb6a.cell (p := ⟨z5, 0, none⟩) hsz5).trans t0
          have t1 := (hb6a.cell (p := ⟨z5, 1, none⟩) hsz5).trans t1
          have HB6 := Lib.hid (HB5.out.trans (hb6a.mono HB5.out.size))
          have heq : ∀ w : World, (binOp .eql 40 (.agg #[.int .i64 l0, .int .i64 l1]) (.agg #[.int .i64 l0, .int .i64 l1])).run Try.prog w = .ok (.bool true) w := fun w => by rw [eqW]; simp
          have hbb : (lk == lk) = true := by simp
          clear hb6 hb6a HB5 HX5 hzV hsz5 HL
          go_wp2
          go_ret
          exact ⟨rfl, HB6.out⟩

end Go.Proofs.Ytnplekfpncjnpaa
