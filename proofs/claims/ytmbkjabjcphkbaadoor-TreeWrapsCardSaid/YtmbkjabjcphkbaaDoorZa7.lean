/- Wb; Wc; We; Wf; Wg -/
import Derived.Test.YtmbkjabjcphkbaaDoorZa6
section
/- The walks of comma, isPlace, args. -/
set_option linter.unusedVariables false
namespace Go.Proofs.YtmbkjabjcphkbaaDoor
open Go.RowKit

theorem comma_any {w : World} {Bc Ba B : Nat} {u : Value} {T : List (List UInt8)} (hp : PenAt w Bc Ba B u T) (hB : B ≤ w.heap.size) (i : Nat) (C : Ts) (hC : C = some (if i = 0 then [] else [[44]])) :
    Calls Tryd.prog 115 #[penV Bc Ba, .int .i64 i] w (PenPost w Bc Ba B u (adv T C)) := by
  unfold penV
  by_cases hi : i = 0
  · subst hi
    have HP := Lib.hid hp
    have HC : Hid (C = some []) := Lib.hid (hC.trans (by rw [if_pos rfl]))
    clear hp hC
    go_enter Tryd.func115, Tryd.ntmps115
    go_wp2_with fail
    go_end0
    rw [HC.out, adv_nil HP.out.fit]
    exact ⟨rfl, u, Went.refl HP.out⟩
  · have h0 : 0 < i := by omega
    have HC : Hid (C = some [[44]]) := Lib.hid (hC.trans (by rw [if_neg hi]))
    have HP := Lib.hid (put_new (Went.refl hp) hB [[44]] (by simp) (by simp))
    clear hi hp hC
    go_enter Tryd.func115, Tryd.ntmps115
    go_wp2_with fail
    refine HP.out.mono ?_
    rintro e w9 hpost
    cases hR : adv T (some [[44]]) with
    | none =>
      rw [hR] at hpost
      obtain ⟨rfl, hch⟩ := hpost
      unfold boom
      go_wp2
      refine ⟨rfl, ?_⟩
      rw [HC.out, hR]
      exact ⟨rfl, hch⟩
    | some U =>
      rw [hR] at hpost
      obtain ⟨rfl, u1, hwent⟩ := hpost
      have HWF := Lib.hid hwent
      clear hwent
      go_wp2
      go_end0
      rw [HC.out, hR]
      exact ⟨rfl, u1, HWF.out⟩
theorem place_any (k p n : Int) (s : ByteArray) (A : Option Addr) (m c : Nat) (w : World) (t : Bool) (ht : t = decide (k = 4 ∨ k = 5 ∨ k = 6)) :
    Calls Tryd.prog 133 #[.agg #[.int .i64 k, .int .i64 p, .int .i64 n, .string s, .slice A m c]] w fun e w' => e = .returned (.bool t) ∧ Below w.heap.size w w' := by
  have HT := Lib.hid ht
  clear ht
  go_enter Tryd.func133, Tryd.ntmps133
  go_wp2_with fail
  all_goals
    go_ret
    refine ⟨ret_bool ?_, (Below.refl _ w).alloc (Nat.le_refl _) _⟩
    rw [HT.out]
    first | rfl | (rw [Bool.eq_iff_iff]; simp; try omega)

theorem elemsC_drop {es : List Ex} {j : Nat} (h : j < es.length) (D : Int) : elemsC (es.drop j) j D = cat (some (if j = 0 then [] else [[44]])) (cat (penE es[j] D 0) (elemsC (es.drop (j + 1)) (j + 1) D)) := by
  rw [List.drop_eq_getElem_cons h, elemsC, cat_assoc]
set_option maxRecDepth 100000 in
set_option maxHeartbeats 2000000 in
theorem args_any {w0 w : World} {Bc Ba B : Nat} {u : Value} {T : List (List UInt8)} (hb : Below B w0 w) (hB : B ≤ w.heap.size) (hp : PenAt w Bc Ba B u T) (es : List Ex) {V : Value} (hr : Reads w0 B es V) (D : Int) (hD0 : 0 ≤ D) (hD : D ≤ 100) :
    Calls Tryd.prog 145 #[penV Bc Ba, V, .int .i64 D] w (PenPost w Bc Ba B u (adv T (argsC es D))) := by
  obtain ⟨A, c, rfl, hc, hM, hA⟩ := hr
  obtain ⟨n, hn⟩ : ∃ n, n = es.length := ⟨_, rfl⟩
  rw [← hn] at hc ⊢
  by_cases h4 : n ≤ 4
  · have h4' : decide ((n : Int) ≤ 4) = true := by rw [decide_eq_true_eq]; omega
    have HEQ : Hid (adv T (argsC es D) = adv T (cat (some [[40]]) (cat (elemsC es 0 D) (some [[41]])))) := Lib.hid (congrArg (adv T) (need_yes (p := es.length ≤ 4) (by omega) (cat (some [[40]]) (cat (elemsC es 0 D) (some [[41]])))))
    have HN := Lib.hid hn
    have HA := Lib.hid hA
    have HP := Lib.hid hp
    have HBB := Lib.hid hb
    unfold penV
    clear hn hA h4 hp hb
    go_enter Tryd.func145, Tryd.ntmps145
    go_wp2_with fail
    refine (must_yes _).mono ?_
    rintro e w1 ⟨rfl, rfl⟩
    go_wp2_with fail
    refine (put_new (Went.refl HP.out) hB [[40]] (by simp) (by simp)).mono ?_
    rintro e1 w1 hpost
    cases hR : adv T (some [[40]]) with
    | none =>
      rw [hR] at hpost
      obtain ⟨rfl, hch⟩ := hpost
      have HNO := Lib.hid (HEQ.out.trans (adv_cat_none hR _))
      clear hR
      unfold boom
      go_wp2
      refine ⟨rfl, ?_⟩
      rw [HNO.out]
      exact ⟨rfl, hch⟩
    | some T1 =>
      rw [hR] at hpost
      obtain ⟨rfl, u1, hwent⟩ := hpost
      have HW1 := Lib.hid hwent
      have HEQ1 := Lib.hid (HEQ.out.trans (adv_cat_some hR _))
      clear hwent hR
      go_wp2_with fail
      go_loopw [17] (fun i wr => ∃ (j : Nat) (u' : Value) (T' : List (List UInt8)), j ≤ n ∧ i = .int .i64 j ∧ Hid (Went w Bc Ba B u wr u' T') ∧ Hid (adv T (argsC es D) = adv T' (cat (elemsC (es.drop j) j D) (some [[41]])))) (fun i _ => n - (intOf i).toNat)
      case atStart => exact ⟨0, u1, T1, Nat.zero_le _, rfl, HW1, HEQ1⟩
      case round =>
        obtain ⟨wo, rfl⟩ : ∃ wo : World, wo = wr := ⟨_, rfl⟩
        obtain ⟨j, u2, T2, hj, rfl, HW2, HEQ2⟩ := hrel
        by_cases hlt : j < n
        · have hjt : j < es.length := by rw [← HN.out]; exact hlt
          obtain ⟨b, off, A5, n5, c5, rfl, hbB, hnm, r0, r1, r2, r3, r4, hWr⟩ := HA.out j hjt
          have hbw : Below B w0 wo := HBB.out.trans (HW2.out.2.2.below hB (fun x hx => (HP.out.mine hx).1))
          have up : ∀ {i : Nat} {v : Value}, w0.cell? ⟨b, i, none⟩ = some v → wo.cell? ⟨b, i, none⟩ = some v := fun h => (hbw.cell hbB).trans h
          have r0 := up r0
          have r1 := up r1
          have r2 := up r2
          have r3 := up r3
          have r4 := up r4
          have hdr := elemsC_drop hjt D
          obtain ⟨E, hE⟩ : ∃ E, E = es[j] := ⟨_, rfl⟩
          rw [← hE] at r0 r1 r2 r3 hWr hnm hdr
          clear up hE
          have HDR := Lib.hid hdr
          have HWR := Lib.hid hWr
          have HBW := Lib.hid hbw
          clear hdr hWr hbw hnm
          obtain ⟨C, hC⟩ : ∃ C : Ts, C = some (if j = 0 then [] else [[44]]) := ⟨_, rfl⟩
          obtain ⟨Y, hY⟩ : ∃ Y : World, Y = wo.alloc (.cells #[.int .i64 E.kind, .int .i64 E.pl, .int .i64 E.num, .string (strOf E.name), .slice A5 n5 c5] 24) := ⟨_, rfl⟩
          have hwy : Went w Bc Ba B u Y u2 T2 := by rw [hY]; exact HW2.out.alloc _
          have hblk : ExBlk Y wo.heap.size E.kind E.pl E.num (strOf E.name) (.slice A5 n5 c5) := by rw [hY]; exact ExBlk.new wo _ _ _ _ _
          have hBy : B ≤ Y.heap.size := Nat.le_trans hB hwy.2.2.size
          have hcm := comma_any hwy.1 hBy j C hC
          have HDR2 : Hid (elemsC (es.drop j) j D = cat C (cat (penE E D 0) (elemsC (es.drop (j + 1)) (j + 1) D))) := Lib.hid (by rw [HDR.out, hC])
          have hmn : ∀ x, Mine Bc Ba u2 x → x < wo.heap.size := fun x hx => (HW2.out.1.mine hx).2
          have HEQ3 : Hid (adv T (argsC es D) = adv T2 (cat C (cat (penE E D 0) (cat (elemsC (es.drop (j + 1)) (j + 1) D) (some [[41]]))))) := Lib.hid (by rw [HEQ2.out, HDR2.out, cat_assoc, cat_assoc])
          have HWY := Lib.hid hwy
          have HBLK := Lib.hid hblk
          have HY := Lib.hid hY
          have HCM := Lib.hid hcm
          have HMN := Lib.hid hmn
          clear hwy hblk hY hcm hC HDR HDR2 hmn
          unfold penV at HCM
          go_wp2_with fail
          rw [← HY.out]
          refine HCM.out.mono ?_
          rintro e3 w3 hpost
          cases hR : adv T2 C with
          | none =>
            rw [hR] at hpost
            obtain ⟨rfl, hch⟩ := hpost
            have HNO := Lib.hid (HEQ3.out.trans (adv_cat_none hR _))
            have HCH := Lib.hid (HWY.out.fell hch)
            clear hR hch
            unfold boom
            go_wp2
            refine ⟨rfl, ?_⟩
            rw [HNO.out]
            exact ⟨rfl, HCH.out⟩
          | some T3 =>
            rw [hR] at hpost
            obtain ⟨rfl, u3, hwent⟩ := hpost
            have HW3 := Lib.hid (HWY.out.trans hwent)
            have HEQ4 := Lib.hid (HEQ3.out.trans (adv_cat_some hR _))
            have hb3 : ExBlk w3 wo.heap.size E.kind E.pl E.num (strOf E.name) (.slice A5 n5 c5) := (hwent.2.2.block _ (lt_of_heap HBLK.out) (fun hm => by have := HMN.out _ hm; omega)).trans HBLK.out
            have hb03 : Below B w0 w3 := HBB.out.trans (HW3.out.2.2.below hB (fun x hx => (HP.out.mine hx).1))
            have hcall := HWR.out w3 Bc Ba u3 T3 D 0 hb03 (Nat.le_trans hB HW3.out.2.2.size) HW3.out.1 hD0 hD (by omega) (by omega)
            have k0 := hb3.c0
            have k1 := hb3.c1
            have k2 := hb3.c2
            have k3 := hb3.c3
            have k4 := hb3.c4
            have HCALL := Lib.hid hcall
            clear hwent hR hb3 hb03 hcall
            unfold penV at HCALL
            go_wp2_with fail
            refine HCALL.out.mono ?_
            rintro e4 w4 hpost
            cases hR : adv T3 (penE E D 0) with
            | none =>
              rw [hR] at hpost
              obtain ⟨rfl, hch⟩ := hpost
              have HNO := Lib.hid (HEQ4.out.trans (adv_cat_none hR _))
              have HCH := Lib.hid (HW3.out.fell hch)
              clear hR hch
              unfold boom
              go_wp2
              refine ⟨rfl, ?_⟩
              rw [HNO.out]
              exact ⟨rfl, HCH.out⟩
            | some T4 =>
              rw [hR] at hpost
              obtain ⟨rfl, u4, hwent⟩ := hpost
              have HW4 := Lib.hid (HW3.out.trans hwent)
              have HEQ5 := Lib.hid (HEQ4.out.trans (adv_cat_some hR _))
              clear hwent hR
              go_wp2_with fail
              go_roundw
              case rel => exact ⟨j + 1, u4, T4, by omega, by go_num, HW4, HEQ5⟩
              case measure => simp [intOf]; omega
        · have hjn : j = n := by omega
          subst hjn
          have hdn : es.drop j = [] := List.drop_of_length_le (by rw [HN.out]; exact Nat.le_refl _)
          have HEQ3 : Hid (adv T (argsC es D) = adv T2 (some [[41]])) := Lib.hid (by rw [HEQ2.out, hdn, elemsC, cat_nil_l])
          clear hdn
          go_wp2_with fail
          refine (put_new (Went.refl HW2.out.1) (Nat.le_trans hB HW2.out.2.2.size) [[41]] (by simp) (by simp)).mono ?_
          rintro e4 w4 hpost
          cases hR : adv T2 (some [[41]]) with
          | none =>
            rw [hR] at hpost
            obtain ⟨rfl, hch⟩ := hpost
            have HNO := Lib.hid (HEQ3.out.trans hR)
            have HCH := Lib.hid (HW2.out.fell hch)
            clear hR hch
            unfold boom
            go_wp2
            refine ⟨rfl, ?_⟩
            rw [HNO.out]
            exact ⟨rfl, HCH.out⟩
          | some T4 =>
            rw [hR] at hpost
            obtain ⟨rfl, u4, hwent⟩ := hpost
            have HW4 := Lib.hid (HW2.out.trans hwent)
            have HFIN := Lib.hid (HEQ3.out.trans hR)
            clear hwent hR
            go_wp2
            go_end0
            rw [HFIN.out]
            exact ⟨rfl, u4, HW4.out⟩
  · have h4' : decide ((n : Int) ≤ 4) = false := by rw [decide_eq_false_iff_not]; omega
    have HNO : Hid (adv T (argsC es D) = none) := Lib.hid (by unfold argsC; rw [need_no (by omega)]; rfl)
    clear hn hA h4 hp hb
    unfold penV
    go_enter Tryd.func145, Tryd.ntmps145
    go_wp2_with fail
    refine (must_no _).mono ?_
    rintro e w1 ⟨rfl, rfl⟩
    unfold boom
    go_wp2
    refine ⟨rfl, ?_⟩
    rw [HNO.out]
    exact ⟨rfl, Chg.refl _ _⟩

end Go.Proofs.YtmbkjabjcphkbaaDoor
end
section
/- The closure block of a statement's writer; the walk of call. -/
set_option linter.unusedVariables false
namespace Go.Proofs.YtmbkjabjcphkbaaDoor
open Go.RowKit

/-- how block() of a statement's writer ends -/
def BlPost5 (w : World) (g Bc Ba B : Nat) (u : Value) (k p : Int) (nm ty : List UInt8) (V ev : Value) (d : Int) (R : Ts) (e : Ending) (w' : World) : Prop := match R with
  | none => e = boom ∧ Chg (fun b => Mine Bc Ba u b ∨ b = g + 1) w w'
  | some T' => e = .returned (.tuple #[]) ∧ ∃ u', PenAt w' Bc Ba B u' T' ∧ (∀ b, u'.ownBlock = some b → u.ownBlock = some b ∨ w.heap.size ≤ b) ∧ Chg (fun b => Mine Bc Ba u b ∨ b = g + 1) w w' ∧
      StFr w' g Bc Ba k p nm ty V (.slice none 0 0) ev d
set_option maxRecDepth 100000 in
set_option maxHeartbeats 2000000 in
theorem stb5_any {w0 w : World} {g Bc Ba B : Nat} {u : Value} {T : List (List UInt8)} {k p : Int} {nm ty : List UInt8} {V ev : Value} {A : Option Addr} {m c : Nat} {d : Int} {ss : List Sm} (hb : Below B w0 w) (hB : B ≤ g) (hg1 : Bc < g) (hg2 : Ba < g) (hp : PenAt w Bc Ba B u T)
    (hf : StFr w g Bc Ba k p nm ty V (.slice A m c) ev d) (hW : WritesB w0 B ss (.slice A m c)) (hd0 : 0 ≤ d) (hd : d ≤ 50) :
    Calls Tryd.prog 130 #[.pointer (some ⟨g + 1, 5, none⟩), .pointer (some ⟨g, 0, none⟩), .pointer (some ⟨g + 1 + 1, 0, none⟩)] w (BlPost5 w g Bc Ba B u k p nm ty V ev d (adv T (penB ss (d + 1)))) := by
  have q0 := hf.pc
  have q1 := hf.dc
  have htf := take_stmts ⟨g + 1, 5, none⟩ A m c w.drew hf.sm.c5 (hf.sm.fr 5)
  have hwr : IntKind.i64.wrap (d + 1) = d + 1 := IntWalk.i64_in _ ⟨by omega, by omega⟩
  have HTF := Lib.hid htf
  clear htf
  go_enter Tryd.func130, Tryd.ntmps130
  go_wp2_with fail
  refine wp_region_held_drew (S := fun w' => w'.cell? ⟨g, 0, none⟩ = some (.func (.func 47) #[] #[.pointer (some ⟨Bc, 0, none⟩), .pointer (some ⟨Ba, 0, none⟩)]) ∧ w'.cell? ⟨g + 1 + 1, 0, none⟩ = some (.int .i64 d)) (by kernel_rfl) ⟨q0, q1⟩ (fun hHeld => ?_)
  refine wpAnyH_take (i := 0) (oi := _) (v := .func (.func 47) #[] #[.pointer (some ⟨Bc, 0, none⟩), .pointer (some ⟨Ba, 0, none⟩)]) rfl (by kernel_rfl) (by kernel_rfl) (by kernel_rfl) (fun _ _ _ h => h) (Or.inl ⟨by rfl, fun w hS => ?_⟩) hHeld ?_
  · obtain ⟨h1, h2⟩ := hS
    go_simp
  simp only [Act.put]
  refine wpAnyH_take (i := 1) (oi := _) (v := .pointer (some ⟨g + 1, 5, none⟩)) rfl (by kernel_rfl) (by kernel_rfl) (by kernel_rfl) (fun _ _ _ h => h) (Or.inl ⟨by rfl, fun w hS => ?_⟩) hHeld ?_
  · go_simp
  simp only [Act.put]
  refine wpAnyH_take (i := 3) (oi := _) (v := .int .i64 d) rfl (by kernel_rfl) (by kernel_rfl) (by kernel_rfl) (fun _ _ _ h => h) (Or.inl ⟨by rfl, fun w hS => ?_⟩) hHeld ?_
  · obtain ⟨h1, h2⟩ := hS
    go_simp
  simp only [Act.put]
  refine wpAnyH_take (i := 4) (oi := _) (v := .int .i64 (d + 1)) rfl (by kernel_rfl) (by kernel_rfl) (by kernel_rfl) (fun _ _ _ h => h) (Or.inl ⟨by rfl, fun w hS => ?_⟩) hHeld ?_
  · go_simp
  simp only [Act.put]
  refine wpAnyH_ready (rs := [2]) (by kernel_rfl) (by simp) ?_
  refine AllReadyH.cons rfl (fun K hK => ?_) AllReadyH.nil
  go_simp
  refine HTF.out.mono ?_
  rintro e1 w1 ⟨rfl, hw1⟩
  have hnm1 := hf.apart hp hg1 hg2 (b := g + 1) (.inr (.inl rfl))
  have hf1 : StFr w1 g Bc Ba k p nm ty V (.slice none 0 0) ev d := by rw [hw1]; exact hf.drew.set5 _
  have hp1 : PenAt w1 Bc Ba B u T := by rw [hw1]; exact hp.drew.setCell _ _ hnm1
  have hch1 : Chg (fun b => Mine Bc Ba u b ∨ b = g + 1) w w1 := by rw [hw1]; exact (Chg.refl _ w).drew.setCell _ _ (fun _ => .inr rfl)
  have hBw : B ≤ w.heap.size := Nat.le_trans hB (Nat.le_of_lt (hf.lt (.inl rfl)))
  have hmB : ∀ x, (Mine Bc Ba u x ∨ x = g + 1) → B ≤ x := fun x hx => by
    rcases hx with hx | hx
    · exact (hp.mine hx).1
    · omega
  have hb1 : Below B w0 w1 := hb.trans (hch1.below hBw hmB)
  have k0 := hf1.pc
  have k1 := hf1.dc
  have hcall := hW w1 Bc Ba u T (d + 1) hb1 (Nat.le_trans hBw hch1.size) hp1 (by omega) (by omega)
  have HF1 := Lib.hid hf1
  have HP1 := Lib.hid hp1
  have HC1 := Lib.hid hch1
  have HCALL := Lib.hid hcall
  clear hf1 hp1 hch1 hcall hw1 hb1 q0 q1
  unfold penV at HCALL
  go_wp2_with fail
  refine hK.out _ _ ⟨k0, k1⟩ (fun hHeld => ?_)
  clear hK K
  refine wpAnyH_ready (rs := [5]) (by kernel_rfl) (by simp) ?_
  refine AllReadyH.cons rfl (fun K hK => ?_) AllReadyH.nil
  go_simp
  refine HCALL.out.mono ?_
  rintro e2 w2 hpost
  cases hR : adv T (penB ss (d + 1)) with
  | none =>
    rw [hR] at hpost
    obtain ⟨rfl, hch2⟩ := hpost
    have hch : Chg (fun b => Mine Bc Ba u b ∨ b = g + 1) w w2 := HC1.out.trans hch2 (fun x _ hx => .inl hx)
    have HCH := Lib.hid hch
    clear hR hch2 hch
    unfold boom
    go_wp2
    refine ⟨rfl, ?_⟩
    exact ⟨rfl, HCH.out⟩
  | some T2 =>
    rw [hR] at hpost
    obtain ⟨rfl, u2, hwent⟩ := hpost
    have HR := Lib.hid hR
    have hf2 := HF1.out.went HP1.out hg1 hg2 hwent
    have k02 := hf2.pc
    have k12 := hf2.dc
    have HF2 := Lib.hid hf2
    have HW2 := Lib.hid hwent
    clear hR hwent hf2 k0 k1
    go_wp2_with fail
    refine hK.out _ _ ⟨k02, k12⟩ (fun hHeld => ?_)
    clear hK K
    refine wpAnyH_done (by kernel_rfl) ?_ _
    go_wp2
    go_end0
    rw [HR.out]
    refine ⟨rfl, u2, HW2.out.1, fun x hx => ?_, HC1.out.trans HW2.out.2.2 (fun x _ hx => .inl hx), HF2.out⟩
    have hsz := HC1.out.size
    rcases HW2.out.2.1 x hx with h | h
    · exact .inl h
    · exact .inr (by omega)
/-- how block() of a statement's writer ends -/
def BlPost6 (w : World) (g Bc Ba B : Nat) (u : Value) (k p : Int) (nm ty : List UInt8) (V bv : Value) (d : Int) (R : Ts) (e : Ending) (w' : World) : Prop := match R with
  | none => e = boom ∧ Chg (fun b => Mine Bc Ba u b ∨ b = g + 1) w w'
  | some T' => e = .returned (.tuple #[]) ∧ ∃ u', PenAt w' Bc Ba B u' T' ∧ (∀ b, u'.ownBlock = some b → u.ownBlock = some b ∨ w.heap.size ≤ b) ∧ Chg (fun b => Mine Bc Ba u b ∨ b = g + 1) w w' ∧
      StFr w' g Bc Ba k p nm ty V bv (.slice none 0 0) d
set_option maxRecDepth 100000 in
set_option maxHeartbeats 2000000 in
theorem stb6_any {w0 w : World} {g Bc Ba B : Nat} {u : Value} {T : List (List UInt8)} {k p : Int} {nm ty : List UInt8} {V bv : Value} {A : Option Addr} {m c : Nat} {d : Int} {ss : List Sm} (hb : Below B w0 w) (hB : B ≤ g) (hg1 : Bc < g) (hg2 : Ba < g) (hp : PenAt w Bc Ba B u T)
    (hf : StFr w g Bc Ba k p nm ty V bv (.slice A m c) d) (hW : WritesB w0 B ss (.slice A m c)) (hd0 : 0 ≤ d) (hd : d ≤ 50) :
    Calls Tryd.prog 130 #[.pointer (some ⟨g + 1, 6, none⟩), .pointer (some ⟨g, 0, none⟩), .pointer (some ⟨g + 1 + 1, 0, none⟩)] w (BlPost6 w g Bc Ba B u k p nm ty V bv d (adv T (penB ss (d + 1)))) := by
  have q0 := hf.pc
  have q1 := hf.dc
  have htf := take_stmts ⟨g + 1, 6, none⟩ A m c w.drew hf.sm.c6 (hf.sm.fr 6)
  have hwr : IntKind.i64.wrap (d + 1) = d + 1 := IntWalk.i64_in _ ⟨by omega, by omega⟩
  have HTF := Lib.hid htf
  clear htf
  go_enter Tryd.func130, Tryd.ntmps130
  go_wp2_with fail
  refine wp_region_held_drew (S := fun w' => w'.cell? ⟨g, 0, none⟩ = some (.func (.func 47) #[] #[.pointer (some ⟨Bc, 0, none⟩), .pointer (some ⟨Ba, 0, none⟩)]) ∧ w'.cell? ⟨g + 1 + 1, 0, none⟩ = some (.int .i64 d)) (by kernel_rfl) ⟨q0, q1⟩ (fun hHeld => ?_)
  refine wpAnyH_take (i := 0) (oi := _) (v := .func (.func 47) #[] #[.pointer (some ⟨Bc, 0, none⟩), .pointer (some ⟨Ba, 0, none⟩)]) rfl (by kernel_rfl) (by kernel_rfl) (by kernel_rfl) (fun _ _ _ h => h) (Or.inl ⟨by rfl, fun w hS => ?_⟩) hHeld ?_
  · obtain ⟨h1, h2⟩ := hS
    go_simp
  simp only [Act.put]
  refine wpAnyH_take (i := 1) (oi := _) (v := .pointer (some ⟨g + 1, 6, none⟩)) rfl (by kernel_rfl) (by kernel_rfl) (by kernel_rfl) (fun _ _ _ h => h) (Or.inl ⟨by rfl, fun w hS => ?_⟩) hHeld ?_
  · go_simp
  simp only [Act.put]
  refine wpAnyH_take (i := 3) (oi := _) (v := .int .i64 d) rfl (by kernel_rfl) (by kernel_rfl) (by kernel_rfl) (fun _ _ _ h => h) (Or.inl ⟨by rfl, fun w hS => ?_⟩) hHeld ?_
  · obtain ⟨h1, h2⟩ := hS
    go_simp
  simp only [Act.put]
  refine wpAnyH_take (i := 4) (oi := _) (v := .int .i64 (d + 1)) rfl (by kernel_rfl) (by kernel_rfl) (by kernel_rfl) (fun _ _ _ h => h) (Or.inl ⟨by rfl, fun w hS => ?_⟩) hHeld ?_
  · go_simp
  simp only [Act.put]
  refine wpAnyH_ready (rs := [2]) (by kernel_rfl) (by simp) ?_
  refine AllReadyH.cons rfl (fun K hK => ?_) AllReadyH.nil
  go_simp
  refine HTF.out.mono ?_
  rintro e1 w1 ⟨rfl, hw1⟩
  have hnm1 := hf.apart hp hg1 hg2 (b := g + 1) (.inr (.inl rfl))
  have hf1 : StFr w1 g Bc Ba k p nm ty V bv (.slice none 0 0) d := by rw [hw1]; exact hf.drew.set6 _
  have hp1 : PenAt w1 Bc Ba B u T := by rw [hw1]; exact hp.drew.setCell _ _ hnm1
  have hch1 : Chg (fun b => Mine Bc Ba u b ∨ b = g + 1) w w1 := by rw [hw1]; exact (Chg.refl _ w).drew.setCell _ _ (fun _ => .inr rfl)
  have hBw : B ≤ w.heap.size := Nat.le_trans hB (Nat.le_of_lt (hf.lt (.inl rfl)))
  have hmB : ∀ x, (Mine Bc Ba u x ∨ x = g + 1) → B ≤ x := fun x hx => by
    rcases hx with hx | hx
    · exact (hp.mine hx).1
    · omega
  have hb1 : Below B w0 w1 := hb.trans (hch1.below hBw hmB)
  have k0 := hf1.pc
  have k1 := hf1.dc
  have hcall := hW w1 Bc Ba u T (d + 1) hb1 (Nat.le_trans hBw hch1.size) hp1 (by omega) (by omega)
  have HF1 := Lib.hid hf1
  have HP1 := Lib.hid hp1
  have HC1 := Lib.hid hch1
  have HCALL := Lib.hid hcall
  clear hf1 hp1 hch1 hcall hw1 hb1 q0 q1
  unfold penV at HCALL
  go_wp2_with fail
  refine hK.out _ _ ⟨k0, k1⟩ (fun hHeld => ?_)
  clear hK K
  refine wpAnyH_ready (rs := [5]) (by kernel_rfl) (by simp) ?_
  refine AllReadyH.cons rfl (fun K hK => ?_) AllReadyH.nil
  go_simp
  refine HCALL.out.mono ?_
  rintro e2 w2 hpost
  cases hR : adv T (penB ss (d + 1)) with
  | none =>
    rw [hR] at hpost
    obtain ⟨rfl, hch2⟩ := hpost
    have hch : Chg (fun b => Mine Bc Ba u b ∨ b = g + 1) w w2 := HC1.out.trans hch2 (fun x _ hx => .inl hx)
    have HCH := Lib.hid hch
    clear hR hch2 hch
    unfold boom
    go_wp2
    refine ⟨rfl, ?_⟩
    exact ⟨rfl, HCH.out⟩
  | some T2 =>
    rw [hR] at hpost
    obtain ⟨rfl, u2, hwent⟩ := hpost
    have HR := Lib.hid hR
    have hf2 := HF1.out.went HP1.out hg1 hg2 hwent
    have k02 := hf2.pc
    have k12 := hf2.dc
    have HF2 := Lib.hid hf2
    have HW2 := Lib.hid hwent
    clear hR hwent hf2 k0 k1
    go_wp2_with fail
    refine hK.out _ _ ⟨k02, k12⟩ (fun hHeld => ?_)
    clear hK K
    refine wpAnyH_done (by kernel_rfl) ?_ _
    go_wp2
    go_end0
    rw [HR.out]
    refine ⟨rfl, u2, HW2.out.1, fun x hx => ?_, HC1.out.trans HW2.out.2.2 (fun x _ hx => .inl hx), HF2.out⟩
    have hsz := HC1.out.size
    rcases HW2.out.2.1 x hx with h | h
    · exact .inl h
    · exact .inr (by omega)

end Go.Proofs.YtmbkjabjcphkbaaDoor
end
section
/- The steps of a statement's writer. -/
set_option linter.unusedVariables false
namespace Go.Proofs.YtmbkjabjcphkbaaDoor
open Go.RowKit

theorem need_iff {p q : Prop} [Decidable p] [Decidable q] (h : p ↔ q) (c : Ts) : need p c = need q c := by
  by_cases hp : p
  · rw [need_yes hp, need_yes (h.1 hp)]
  · rw [need_no hp, need_no (fun e => hp (h.2 e))]
theorem st_new {w X : World} {g Bc Ba : Nat} {k p d : Int} {nm ty : List UInt8} {V bv ev : Value} (hX : X = ((w.alloc (.cells #[penV Bc Ba] 63)).alloc (.cells #[.int .i64 k, .int .i64 p, .string (strOf nm), .string (strOf ty), V, bv, ev] 55)).alloc (.cells #[.int .i64 d] 3))
    (hg : g = w.heap.size) : StFr X g Bc Ba k p nm ty V bv ev d ∧ X.heap.size = g + 3 := by
  subst hg
  refine ⟨⟨?_, ?_, ?_⟩, by rw [hX]; simp⟩
  · rw [hX, Below.heap_alloc _ _ _ (by simp; omega), Below.heap_alloc _ _ _ (by simp)]; exact heap_alloc_new _ _
  · unfold SmBlk
    rw [hX, Below.heap_alloc _ _ _ (by simp)]
    have := heap_alloc_new (w.alloc (.cells #[penV Bc Ba] 63)) (.cells #[.int .i64 k, .int .i64 p, .string (strOf nm), .string (strOf ty), V, bv, ev] 55)
    simpa using this
  · rw [hX]
    have := heap_alloc_new ((w.alloc (.cells #[penV Bc Ba] 63)).alloc (.cells #[.int .i64 k, .int .i64 p, .string (strOf nm), .string (strOf ty), V, bv, ev] 55)) (.cells #[.int .i64 d] 3)
    simpa using this
section
variable {w0 w : World} {g Bc Ba B : Nat} {k p : Int} {nm ty : List UInt8} {V bv ev u : Value} {d : Int} {T : List (List UInt8)} {ex : List Ex}
/-- how name() ends -/
theorem stn_yes (hf : StFr w g Bc Ba k p nm ty V bv ev d) (hs : nm.length ≤ 40000) (hn : nameB nm = true) :
    Calls Tryd.prog 131 #[.pointer (some ⟨g + 1, 0, none⟩)] w fun e w' => e = .returned (.string (strOf nm)) ∧ Chg (fun b => b = g + 1) w w' ∧ StFr w' g Bc Ba k p [] ty V bv ev d := by
  have hc := hf.sm.c2
  have hz := hf.sm.fr 2
  have hsz : (strOf nm).size ≤ 40000 := by rw [Lib.size_eq, strOf_data]; exact hs
  have HN := Lib.hid (takeName_yes ⟨g + 1, 2, none⟩ (strOf nm) w hc hz hsz hn)
  clear hc hz hsz hn hs
  go_enter Tryd.func131, Tryd.ntmps131
  go_wp2_with fail
  refine HN.out.mono ?_
  rintro e w1 ⟨rfl, wm, hb, hw⟩
  have HB := Lib.hid hb
  clear hb
  go_wp2_with fail
  go_ret
  refine ⟨rfl, ?_, ?_⟩
  · exact (Chg.of_below HB.out).setCell _ _ (fun _ => rfl)
  · exact (hf.below HB.out).set2 []
theorem stn_no (hf : StFr w g Bc Ba k p nm ty V bv ev d) (hs : nm.length ≤ 40000) (hn : nameB nm = false) :
    Calls Tryd.prog 131 #[.pointer (some ⟨g + 1, 0, none⟩)] w fun e w' => e = boom ∧ Below w.heap.size w w' := by
  have hc := hf.sm.c2
  have hsz : (strOf nm).size ≤ 40000 := by rw [Lib.size_eq, strOf_data]; exact hs
  have HN := Lib.hid (takeName_no ⟨g + 1, 2, none⟩ (strOf nm) w hc hsz hn)
  clear hc hsz hn hs
  go_enter Tryd.func131, Tryd.ntmps131
  go_wp2_with fail
  refine HN.out.mono ?_
  rintro e w1 ⟨rfl, hb⟩
  have HB := Lib.hid hb
  clear hb
  unfold boom
  go_wp2
  exact ⟨rfl, rfl, HB.out⟩
theorem stt_yes (hf : StFr w g Bc Ba k p nm ty V bv ev d) (hs : ty.length ≤ 40000) (hn : nameB ty = true) :
    Calls Tryd.prog 50 #[.pointer (some ⟨g + 1, 3, none⟩)] w fun e w' => e = .returned (.string (strOf ty)) ∧ Chg (fun b => b = g + 1) w w' ∧ StFr w' g Bc Ba k p nm [] V bv ev d := by
  have hsz : (strOf ty).size ≤ 40000 := by rw [Lib.size_eq, strOf_data]; exact hs
  refine (takeName_yes ⟨g + 1, 3, none⟩ (strOf ty) w hf.sm.c3 (hf.sm.fr 3) hsz hn).mono ?_
  rintro e w' ⟨rfl, w1, hb, rfl⟩
  exact ⟨rfl, (Chg.of_below hb).setCell _ _ (fun _ => rfl), (hf.below hb).set3 []⟩
theorem stt_no (hf : StFr w g Bc Ba k p nm ty V bv ev d) (hs : ty.length ≤ 40000) (hn : nameB ty = false) :
    Calls Tryd.prog 50 #[.pointer (some ⟨g + 1, 3, none⟩)] w fun e w' => e = boom ∧ Below w.heap.size w w' :=
  takeName_no ⟨g + 1, 3, none⟩ (strOf ty) w hf.sm.c3 (by rw [Lib.size_eq, strOf_data]; exact hs) hn
theorem stt_take (hf : StFr w g Bc Ba k p nm ty V bv ev d) :
    Calls Tryd.prog 80 #[.pointer (some ⟨g + 1, 3, none⟩)] w fun e w' => e = .returned (.string (strOf ty)) ∧ Chg (fun b => b = g + 1) w w' ∧ StFr w' g Bc Ba k p nm [] V bv ev d := by
  refine (take_string ⟨g + 1, 3, none⟩ (strOf ty) w hf.sm.c3 (hf.sm.fr 3)).mono ?_
  rintro e w' ⟨rfl, rfl⟩
  exact ⟨rfl, (Chg.refl _ w).setCell _ _ (fun _ => rfl), hf.set3 []⟩
theorem stx_take {A : Option Addr} {m c : Nat} (hf : StFr w g Bc Ba k p nm ty (.slice A m c) bv ev d) :
    Calls Tryd.prog 135 #[.pointer (some ⟨g + 1, 4, none⟩)] w fun e w' => e = .returned (.slice A m c) ∧ Chg (fun b => b = g + 1) w w' ∧ StFr w' g Bc Ba k p nm ty (.slice none 0 0) bv ev d := by
  refine (take_exprs ⟨g + 1, 4, none⟩ A m c w hf.sm.c4 (hf.sm.fr 4)).mono ?_
  rintro e w' ⟨rfl, rfl⟩
  exact ⟨rfl, (Chg.refl _ w).setCell _ _ (fun _ => rfl), hf.set4 _⟩
theorem StPost.alloc_ {w w' : World} {o : Obj} {rest : List Ex} {R : Ts} {e : Ending} (h : StPost w0 (w.alloc o) g Bc Ba B u k p nm ty bv ev d rest R e w') : StPost w0 w g Bc Ba B u k p nm ty bv ev d rest R e w' := by
  have ha : ∀ P, Chg P w (w.alloc o) := fun P => (Chg.refl P w).alloc o
  cases R with
  | none => exact ⟨h.1, (ha _).trans h.2 (fun _ _ hx => hx)⟩
  | some T' =>
    obtain ⟨h1, u', V', h2, h3, h4, h5, h6⟩ := h
    refine ⟨h1, u', V', h2, fun b hb => ?_, (ha _).trans h4 (fun _ _ hx => hx), h5, h6⟩
    rcases h3 b hb with h | h
    · exact .inl h
    · right; simp at h; omega
theorem ste_new (hb : Below B w0 w) (hB : B ≤ g) (hg1 : Bc < g) (hg2 : Ba < g) (hp : PenAt w Bc Ba B u T) (hf : StFr w g Bc Ba k p nm ty V bv ev d) (hr : Reads w0 B ex V) (hd0 : 0 ≤ d) (hd : d ≤ 50) (ts : List (List UInt8)) (hl : ∀ t ∈ ts, t.length ≤ 40000) (hn : ts.length ≤ 1000) :
    Calls Tryd.prog 132 #[.slice (some ⟨w.heap.size, 0, none⟩) ts.length ts.length, .pointer (some ⟨g, 0, none⟩), .pointer (some ⟨g + 1, 0, none⟩), .pointer (some ⟨g + 1 + 1, 0, none⟩)] (w.alloc (.cells (strCells ts) 9))
      (StPost w0 w g Bc Ba B u k p nm ty bv ev d ex.tail (adv T (argC ex d ts))) := by
  have hBw : B ≤ w.heap.size := Nat.le_trans hB (Nat.le_of_lt (hf.lt (.inl rfl)))
  have hb' : Below B w0 (w.alloc (.cells (strCells ts) 9)) := hb.alloc hBw _
  have hf' : StFr (w.alloc (.cells (strCells ts) 9)) g Bc Ba k p nm ty V bv ev d := hf.below ((Below.refl _ w).alloc (Nat.le_refl _) _)
  have hs := strs_new w (fun b => Mine Bc Ba u b ∨ b = g + 1) ts hl (by omega) (fun hm => by
    rcases hm with hm | hm
    · have := (hp.mine hm).2; omega
    · have := hf.lt (b := g + 1) (.inr (.inl rfl)); omega)
  cases ex with
  | nil => exact (ste_no hb' hB hg1 hg2 (hp.alloc _) hf' hr hd0 hd ts _ hs).mono fun e w' h => h.alloc_
  | cons e es => exact (ste_yes hb' hB hg1 hg2 (hp.alloc _) hf' hr hd0 hd ts _ hs).mono fun e w' h => h.alloc_
theorem ste_nil (hb : Below B w0 w) (hB : B ≤ g) (hg1 : Bc < g) (hg2 : Ba < g) (hp : PenAt w Bc Ba B u T) (hf : StFr w g Bc Ba k p nm ty V bv ev d) (hr : Reads w0 B ex V) (hd0 : 0 ≤ d) (hd : d ≤ 50) :
    Calls Tryd.prog 132 #[.slice none 0 0, .pointer (some ⟨g, 0, none⟩), .pointer (some ⟨g + 1, 0, none⟩), .pointer (some ⟨g + 1 + 1, 0, none⟩)] w
      (StPost w0 w g Bc Ba B u k p nm ty bv ev d ex.tail (adv T (argC ex d []))) := by
  have hs : StrsAt w (fun b => Mine Bc Ba u b ∨ b = g + 1) (.slice none 0 0) [] := ⟨none, 0, rfl, Nat.le_refl _, by omega, fun k hk => absurd hk (by simp)⟩
  cases ex with
  | nil => exact ste_no hb hB hg1 hg2 hp hf hr hd0 hd [] _ hs
  | cons e es => exact ste_yes hb hB hg1 hg2 hp hf hr hd0 hd [] _ hs
end

end Go.Proofs.YtmbkjabjcphkbaaDoor
end
section
/- The walks of a statement, kind by kind. -/
set_option linter.unusedVariables false
namespace Go.Proofs.YtmbkjabjcphkbaaDoor
open Go.RowKit

set_option maxRecDepth 100000 in
set_option maxHeartbeats 4000000 in
theorem stmt_5_yes {w0 w : World} {Bc Ba B : Nat} {u : Value} {T : List (List UInt8)} {p : Int} {nm ty : List UInt8} {V bv ev : Value} {ex : List Ex} {bd el : List Sm} {d : Int} (hb : Below B w0 w) (hB : B ≤ w.heap.size) (hp : PenAt w Bc Ba B u T) (hd0 : 0 ≤ d) (hd : d ≤ 24) (hr : Reads w0 B ex V) (hnl : nm.length ≤ 40000) (htl : ty.length ≤ 40000)
    (hbd : WritesB w0 B bd bv) (hel : WritesB w0 B el ev) (hbs : ∃ A c, bv = .slice A bd.length c) (hes : ∃ A c, ev = .slice A el.length c) (hq : nameB nm = true) :
    Calls Tryd.prog 116 #[penV Bc Ba, .agg #[.int .i64 5, .int .i64 p, .string (strOf nm), .string (strOf ty), V, bv, ev], .int .i64 d] w (PenPost w Bc Ba B u (adv T (penS (.mk 5 p nm ty ex bd el) d))) := by
  have hmf : ∀ (fn : Fn) (first cap : Array Value) (w : World), (Instr.makeFunc fn first cap).run Tryd.prog w = .ok (.func fn first cap) w := fun _ _ _ _ => rfl
  obtain ⟨A, c, hrv, _, _, _⟩ := id hr
  subst hrv
  obtain ⟨Ab, cb, hbv⟩ := hbs
  subst hbv
  obtain ⟨Ae, ce, hev⟩ := hes
  subst hev
  obtain ⟨X, hX⟩ : ∃ X : World, X = ((w.alloc (.cells #[penV Bc Ba] 63)).alloc (.cells #[.int .i64 5, .int .i64 p, .string (strOf nm), .string (strOf ty), .slice A ex.length c, .slice Ab bd.length cb, .slice Ae el.length ce] 55)).alloc (.cells #[.int .i64 d] 3) := ⟨_, rfl⟩
  obtain ⟨g, hg⟩ : ∃ g, g = w.heap.size := ⟨_, rfl⟩
  obtain ⟨hf, hsz⟩ := st_new hX hg
  have hw : Went w Bc Ba B u X u T := by rw [hX]; exact (((Went.refl hp).alloc _).alloc _).alloc _
  have e0 := hf.sm.c0
  have hg1 : Bc < g := by rw [hg]; exact lt_of_heap hp.cnt
  have hg2 : Ba < g := by rw [hg]; exact lt_of_heap hp.buf
  have hBg : B ≤ g := by rw [hg]; exact hB
  have hwg : w.heap.size ≤ g := by rw [hg]; exact Nat.le_refl _
  have hd50 : d ≤ 50 := by omega
  have HEQ := Lib.hid (congrArg (adv T) ((penS_lock p nm ty ex bd el d 5 (.inl rfl)).trans (need_cat_yes hq _)))
  have HXS : Hid (g + 1 + 1 + 1 = X.heap.size) := Lib.hid (by rw [hsz])
  have HX := Lib.hid hX
  have HG := Lib.hid hg
  have HF := Lib.hid hf
  have HW := Lib.hid hw
  have HR := Lib.hid hr
  clear hX hg hf hw hsz hr
  unfold penV at HX ⊢
  go_enter Tryd.func116, Tryd.ntmps116
  have pc1 := (HF.out).pc
  have dc1 := (HF.out).dc
  go_wp2_with fail
  rw [← HX.out, ← HG.out]
  refine wp_region_held_drew (S := fun w' => w'.cell? ⟨g, 0, none⟩ = some (.func (.func 47) #[] #[.pointer (some ⟨Bc, 0, none⟩), .pointer (some ⟨Ba, 0, none⟩)])) (by kernel_rfl) pc1 (fun hHeld => ?_)
  have HWd2 := Lib.hid ((HW.out).drew)
  have HFd2 := Lib.hid ((HF.out).drew)
  refine wpAnyH_take (i := 0) (oi := _) (v := .func (.func 47) #[] #[.pointer (some ⟨Bc, 0, none⟩), .pointer (some ⟨Ba, 0, none⟩)]) rfl (by kernel_rfl) (by kernel_rfl) (by kernel_rfl) (fun _ _ _ h => h) (Or.inl ⟨by rfl, fun w hS => ?_⟩) hHeld ?_
  · go_simp
  simp only [Act.put]
  refine wpAnyH_take (i := 1) (oi := _) (v := .func (.func 131) #[] #[.pointer (some ⟨g + 1, 0, none⟩)]) rfl (by kernel_rfl) (by kernel_rfl) (by kernel_rfl) (fun _ _ _ h => h) (Or.inl ⟨by rfl, fun w hS => ?_⟩) hHeld ?_
  · go_simp
  simp only [Act.put]
  refine wpAnyH_ready (rs := [2]) (by kernel_rfl) (by simp) ?_
  refine AllReadyH.cons rfl (fun K hK => ?_) AllReadyH.nil
  go_simp
  refine (stn_yes (HFd2.out) hnl hq).mono ?_
  rintro e3 w3 ⟨rfl, hch, hfr⟩
  have HW3 := Lib.hid ((HWd2.out).loc (w2 := w3) (hch) (Nat.le_succ_of_le hwg) ((HFd2.out).apart (HWd2.out).1 hg1 hg2 (.inr (.inl rfl))))
  have HF3 := Lib.hid (hfr)
  clear hch hfr
  have hk4 := (HF3.out).pc
  go_wp2_with fail
  refine hK.out _ _ hk4 (fun hHeld => ?_)
  clear hK K
  refine wpAnyH_ready (rs := [3]) (by kernel_rfl) (by simp) ?_
  refine AllReadyH.cons rfl (fun K hK => ?_) AllReadyH.nil
  go_simp
  refine hK.out _ _ ((HF3.out).below ((Below.refl _ _).alloc (Nat.le_refl _) _)).pc (fun hHeld => ?_)
  clear hK K
  refine wpAnyH_ready (rs := [4]) (by kernel_rfl) (by simp) ?_
  refine AllReadyH.cons rfl (fun K hK => ?_) AllReadyH.nil
  go_simp
  refine (put_new (Went.refl (HW3.out).1) (Nat.le_trans hB (HW3.out).2.2.size) [wordS 5, nm, [59]] (by intro t ht; simp at ht; have := hnl; have := htl; first | (rcases ht with rfl | rfl | rfl | rfl <;> first | decide | assumption | simp) | (rcases ht with rfl | rfl | rfl <;> first | decide | assumption | simp) | (rcases ht with rfl | rfl <;> first | decide | assumption | simp) | (rw [ht]; first | decide | assumption) | (rw [ht]; simp)) (by simp)).mono ?_
  rintro e5 w5 hpost
  cases hR : adv T (some [wordS 5, nm, [59]]) with
  | none =>
    rw [hR] at hpost
    obtain ⟨rfl, hch⟩ := hpost
    have HNO := Lib.hid ((HEQ.out).trans (adv_cat_none hR _))
    have HCH := Lib.hid ((HW3.out).fell hch)
    clear hR hch
    unfold boom
    go_wp2
    refine ⟨rfl, ?_⟩
    rw [HNO.out]
    exact ⟨rfl, HCH.out⟩
  | some T5 =>
    rw [hR] at hpost
    obtain ⟨rfl, u5, hwent⟩ := hpost
    have HW5 := Lib.hid ((HW3.out).trans hwent)
    have HF5 := Lib.hid ((HF3.out).went (HW3.out).1 hg1 hg2 hwent)
    have HEQ5 := Lib.hid ((HEQ.out).trans (adv_cat_some hR _))
    clear hwent hR
    have hk6 := (HF5.out).pc
    go_wp2_with fail
    refine hK.out _ _ hk6 (fun hHeld => ?_)
    clear hK K
    refine wpAnyH_done (by kernel_rfl) ?_ _
    have c2 := (HF5.out).sm.c2
    have c3 := (HF5.out).sm.c3
    have c4 := (HF5.out).sm.c4
    have c5 := (HF5.out).sm.c5
    have c6 := (HF5.out).sm.c6
    have hz0 : (strOf []).toList = [] := strOf_toList []
    obtain ⟨m, hm⟩ : ∃ m, m = (ex).length := ⟨_, rfl⟩
    rw [← hm] at c4
    obtain ⟨nb, hnb⟩ : ∃ m, m = bd.length := ⟨_, rfl⟩
    rw [← hnb] at c5
    obtain ⟨ne, hne⟩ : ∃ m, m = el.length := ⟨_, rfl⟩
    rw [← hne] at c6
    by_cases ht : ty = []
    case neg =>
      have HNO := Lib.hid ((HEQ5.out).trans (show adv T5 (need _ (some [])) = none from by rw [need_no (fun h => ht h.1)]; rfl))
      have hs1 : ¬ (strOf ty).toList = [] := by rw [strOf_toList]; exact ht
      clear hm hnb hne ht
      go_wp2_with fail
      refine (must_no _).mono ?_
      rintro e9 w9 ⟨rfl, rfl⟩
      unfold boom
      go_wp2
      refine ⟨rfl, ?_⟩
      rw [HNO.out]
      exact ⟨rfl, (HW5.out).2.2⟩
    by_cases hx : (ex).length = 0
    case neg =>
      have HNO := Lib.hid ((HEQ5.out).trans (show adv T5 (need _ (some [])) = none from by rw [need_no (fun h => hx h.2.1)]; rfl))
      subst ht
      have hl1 : (m == 0) = false := by rw [beq_eq_false_iff_ne]; omega
      have hl2 : ((m : Int) == 0) = false := by rw [beq_eq_false_iff_ne]; omega
      clear hm hnb hne hx
      go_wp2_with fail
      refine (must_no _).mono ?_
      rintro e9 w9 ⟨rfl, rfl⟩
      unfold boom
      go_wp2
      refine ⟨rfl, ?_⟩
      rw [HNO.out]
      exact ⟨rfl, (HW5.out).2.2⟩
    by_cases hbl0 : bd.length = 0
    case neg =>
      have HNO := Lib.hid ((HEQ5.out).trans (show adv T5 (need _ (some [])) = none from by rw [need_no (fun h => hbl0 h.2.2.1)]; rfl))
      subst ht
      obtain rfl : m = 0 := by omega
      have hl1 : (nb == 0) = false := by rw [beq_eq_false_iff_ne]; omega
      have hl2 : ((nb : Int) == 0) = false := by rw [beq_eq_false_iff_ne]; omega
      clear hm hnb hne hx hbl0
      go_wp2_with fail
      refine (must_no _).mono ?_
      rintro e9 w9 ⟨rfl, rfl⟩
      unfold boom
      go_wp2
      refine ⟨rfl, ?_⟩
      rw [HNO.out]
      exact ⟨rfl, (HW5.out).2.2⟩
    by_cases hel0 : el.length = 0
    case neg =>
      have HNO := Lib.hid ((HEQ5.out).trans (show adv T5 (need _ (some [])) = none from by rw [need_no (fun h => hel0 h.2.2.2)]; rfl))
      subst ht
      obtain rfl : m = 0 := by omega
      obtain rfl : nb = 0 := by omega
      have hl1 : (ne == 0) = false := by rw [beq_eq_false_iff_ne]; omega
      have hl2 : ((ne : Int) == 0) = false := by rw [beq_eq_false_iff_ne]; omega
      clear hm hnb hne hx hbl0 hel0
      go_wp2_with fail
      refine (must_no _).mono ?_
      rintro e9 w9 ⟨rfl, rfl⟩
      unfold boom
      go_wp2
      refine ⟨rfl, ?_⟩
      rw [HNO.out]
      exact ⟨rfl, (HW5.out).2.2⟩
    have HFIN := Lib.hid ((HEQ5.out).trans (show adv T5 (need _ (some [])) = some T5 from by rw [need_yes ⟨ht, hx, hbl0, hel0⟩]; exact adv_nil (HW5.out).1.fit))
    subst ht
    obtain rfl : m = 0 := by omega
    obtain rfl : nb = 0 := by omega
    obtain rfl : ne = 0 := by omega
    clear hm hnb hne hx hbl0 hel0
    go_wp2_with fail
    refine (must_yes _).mono ?_
    rintro e9 w9 ⟨rfl, rfl⟩
    go_wp2
    go_end0
    rw [HFIN.out]
    exact ⟨rfl, _, HW5.out⟩

set_option maxRecDepth 100000 in
set_option maxHeartbeats 4000000 in
theorem stmt_5_no {w0 w : World} {Bc Ba B : Nat} {u : Value} {T : List (List UInt8)} {p : Int} {nm ty : List UInt8} {V bv ev : Value} {ex : List Ex} {bd el : List Sm} {d : Int} (hb : Below B w0 w) (hB : B ≤ w.heap.size) (hp : PenAt w Bc Ba B u T) (hd0 : 0 ≤ d) (hd : d ≤ 24) (hr : Reads w0 B ex V) (hnl : nm.length ≤ 40000) (htl : ty.length ≤ 40000)
    (hbd : WritesB w0 B bd bv) (hel : WritesB w0 B el ev) (hbs : ∃ A c, bv = .slice A bd.length c) (hes : ∃ A c, ev = .slice A el.length c) (hq : ¬ nameB nm = true) :
    Calls Tryd.prog 116 #[penV Bc Ba, .agg #[.int .i64 5, .int .i64 p, .string (strOf nm), .string (strOf ty), V, bv, ev], .int .i64 d] w (PenPost w Bc Ba B u (adv T (penS (.mk 5 p nm ty ex bd el) d))) := by
  have hmf : ∀ (fn : Fn) (first cap : Array Value) (w : World), (Instr.makeFunc fn first cap).run Tryd.prog w = .ok (.func fn first cap) w := fun _ _ _ _ => rfl
  obtain ⟨A, c, hrv, _, _, _⟩ := id hr
  subst hrv
  obtain ⟨Ab, cb, hbv⟩ := hbs
  subst hbv
  obtain ⟨Ae, ce, hev⟩ := hes
  subst hev
  obtain ⟨X, hX⟩ : ∃ X : World, X = ((w.alloc (.cells #[penV Bc Ba] 63)).alloc (.cells #[.int .i64 5, .int .i64 p, .string (strOf nm), .string (strOf ty), .slice A ex.length c, .slice Ab bd.length cb, .slice Ae el.length ce] 55)).alloc (.cells #[.int .i64 d] 3) := ⟨_, rfl⟩
  obtain ⟨g, hg⟩ : ∃ g, g = w.heap.size := ⟨_, rfl⟩
  obtain ⟨hf, hsz⟩ := st_new hX hg
  have hw : Went w Bc Ba B u X u T := by rw [hX]; exact (((Went.refl hp).alloc _).alloc _).alloc _
  have e0 := hf.sm.c0
  have hg1 : Bc < g := by rw [hg]; exact lt_of_heap hp.cnt
  have hg2 : Ba < g := by rw [hg]; exact lt_of_heap hp.buf
  have hBg : B ≤ g := by rw [hg]; exact hB
  have hwg : w.heap.size ≤ g := by rw [hg]; exact Nat.le_refl _
  have hd50 : d ≤ 50 := by omega
  have HEQ := Lib.hid (congrArg (adv T) ((penS_lock p nm ty ex bd el d 5 (.inl rfl)).trans (need_cat_no hq _)))
  have HXS : Hid (g + 1 + 1 + 1 = X.heap.size) := Lib.hid (by rw [hsz])
  have HX := Lib.hid hX
  have HG := Lib.hid hg
  have HF := Lib.hid hf
  have HW := Lib.hid hw
  have HR := Lib.hid hr
  clear hX hg hf hw hsz hr
  unfold penV at HX ⊢
  go_enter Tryd.func116, Tryd.ntmps116
  have HNO := HEQ
  have pc1 := (HF.out).pc
  have dc1 := (HF.out).dc
  go_wp2_with fail
  rw [← HX.out, ← HG.out]
  refine wp_region_held_drew (S := fun w' => w'.cell? ⟨g, 0, none⟩ = some (.func (.func 47) #[] #[.pointer (some ⟨Bc, 0, none⟩), .pointer (some ⟨Ba, 0, none⟩)])) (by kernel_rfl) pc1 (fun hHeld => ?_)
  have HWd2 := Lib.hid ((HW.out).drew)
  have HFd2 := Lib.hid ((HF.out).drew)
  refine wpAnyH_take (i := 0) (oi := _) (v := .func (.func 47) #[] #[.pointer (some ⟨Bc, 0, none⟩), .pointer (some ⟨Ba, 0, none⟩)]) rfl (by kernel_rfl) (by kernel_rfl) (by kernel_rfl) (fun _ _ _ h => h) (Or.inl ⟨by rfl, fun w hS => ?_⟩) hHeld ?_
  · go_simp
  simp only [Act.put]
  refine wpAnyH_take (i := 1) (oi := _) (v := .func (.func 131) #[] #[.pointer (some ⟨g + 1, 0, none⟩)]) rfl (by kernel_rfl) (by kernel_rfl) (by kernel_rfl) (fun _ _ _ h => h) (Or.inl ⟨by rfl, fun w hS => ?_⟩) hHeld ?_
  · go_simp
  simp only [Act.put]
  refine wpAnyH_ready (rs := [2]) (by kernel_rfl) (by simp) ?_
  refine AllReadyH.cons rfl (fun K hK => ?_) AllReadyH.nil
  go_simp
  refine (stn_no (HFd2.out) hnl (by simpa using hq)).mono ?_
  rintro e3 w3 ⟨rfl, hbl⟩
  have HCH := Lib.hid ((HWd2.out).2.2.trans (Chg.of_below (P := fun _ => False) hbl) (fun _ _ e => e.elim))
  unfold boom
  go_wp2
  refine ⟨rfl, ?_⟩
  rw [HNO.out]
  exact ⟨rfl, HCH.out⟩

end Go.Proofs.YtmbkjabjcphkbaaDoor
end
section
/- The walks of a statement, kind by kind. -/
set_option linter.unusedVariables false
namespace Go.Proofs.YtmbkjabjcphkbaaDoor
open Go.RowKit

set_option maxRecDepth 100000 in
set_option maxHeartbeats 4000000 in
theorem stmt_4 {w0 w : World} {Bc Ba B : Nat} {u : Value} {T : List (List UInt8)} {p : Int} {nm ty : List UInt8} {V bv ev : Value} {ex : List Ex} {bd el : List Sm} {d : Int} (hb : Below B w0 w) (hB : B ≤ w.heap.size) (hp : PenAt w Bc Ba B u T) (hd0 : 0 ≤ d) (hd : d ≤ 24) (hr : Reads w0 B ex V) (hnl : nm.length ≤ 40000) (htl : ty.length ≤ 40000)
    (hbd : WritesB w0 B bd bv) (hel : WritesB w0 B el ev) (hbs : ∃ A c, bv = .slice A bd.length c) (hes : ∃ A c, ev = .slice A el.length c) :
    Calls Tryd.prog 116 #[penV Bc Ba, .agg #[.int .i64 4, .int .i64 p, .string (strOf nm), .string (strOf ty), V, bv, ev], .int .i64 d] w (PenPost w Bc Ba B u (adv T (penS (.mk 4 p nm ty ex bd el) d))) := by
  have hmf : ∀ (fn : Fn) (first cap : Array Value) (w : World), (Instr.makeFunc fn first cap).run Tryd.prog w = .ok (.func fn first cap) w := fun _ _ _ _ => rfl
  obtain ⟨A, c, hrv, _, _, _⟩ := id hr
  subst hrv
  obtain ⟨Ab, cb, hbv⟩ := hbs
  subst hbv
  obtain ⟨Ae, ce, hev⟩ := hes
  subst hev
  obtain ⟨X, hX⟩ : ∃ X : World, X = ((w.alloc (.cells #[penV Bc Ba] 63)).alloc (.cells #[.int .i64 4, .int .i64 p, .string (strOf nm), .string (strOf ty), .slice A ex.length c, .slice Ab bd.length cb, .slice Ae el.length ce] 55)).alloc (.cells #[.int .i64 d] 3) := ⟨_, rfl⟩
  obtain ⟨g, hg⟩ : ∃ g, g = w.heap.size := ⟨_, rfl⟩
  obtain ⟨hf, hsz⟩ := st_new hX hg
  have hw : Went w Bc Ba B u X u T := by rw [hX]; exact (((Went.refl hp).alloc _).alloc _).alloc _
  have e0 := hf.sm.c0
  have hg1 : Bc < g := by rw [hg]; exact lt_of_heap hp.cnt
  have hg2 : Ba < g := by rw [hg]; exact lt_of_heap hp.buf
  have hBg : B ≤ g := by rw [hg]; exact hB
  have hwg : w.heap.size ≤ g := by rw [hg]; exact Nat.le_refl _
  have hd50 : d ≤ 50 := by omega
  have HEQ := Lib.hid (congrArg (adv T) (penS_4 p nm ty ex bd el d))
  have HXS : Hid (g + 1 + 1 + 1 = X.heap.size) := Lib.hid (by rw [hsz])
  have HX := Lib.hid hX
  have HG := Lib.hid hg
  have HF := Lib.hid hf
  have HW := Lib.hid hw
  have HR := Lib.hid hr
  clear hX hg hf hw hsz hr
  unfold penV at HX ⊢
  go_enter Tryd.func116, Tryd.ntmps116
  have pc1 := (HF.out).pc
  have dc1 := (HF.out).dc
  go_wp2_with fail
  rw [← HX.out, ← HG.out, HXS.out]
  refine (put_new (Went.refl (HW.out).1) (Nat.le_trans hB (HW.out).2.2.size) [wordS 4] (by intro t ht; simp at ht; have := hnl; have := htl; first | (rcases ht with rfl | rfl | rfl | rfl <;> first | decide | assumption | simp) | (rcases ht with rfl | rfl | rfl <;> first | decide | assumption | simp) | (rcases ht with rfl | rfl <;> first | decide | assumption | simp) | (rw [ht]; first | decide | assumption) | (rw [ht]; simp)) (by simp)).mono ?_
  rintro e2 w2 hpost
  cases hR : adv T (some [wordS 4]) with
  | none =>
    rw [hR] at hpost
    obtain ⟨rfl, hch⟩ := hpost
    have HNO := Lib.hid ((HEQ.out).trans (adv_cat_none hR _))
    have HCH := Lib.hid ((HW.out).fell hch)
    clear hR hch
    unfold boom
    go_wp2
    refine ⟨rfl, ?_⟩
    rw [HNO.out]
    exact ⟨rfl, HCH.out⟩
  | some T2 =>
    rw [hR] at hpost
    obtain ⟨rfl, u2, hwent⟩ := hpost
    have HW2 := Lib.hid ((HW.out).trans hwent)
    have HF2 := Lib.hid ((HF.out).went (HW.out).1 hg1 hg2 hwent)
    have HEQ2 := Lib.hid ((HEQ.out).trans (adv_cat_some hR _))
    clear hwent hR
    have pc3 := (HF2.out).pc
    have dc3 := (HF2.out).dc
    go_wp2_with fail
    refine (ste_nil (hb.trans ((HW2.out).2.2.below hB (fun x hx => (hp.mine hx).1))) hBg hg1 hg2 (HW2.out).1 (HF2.out) (HR.out) hd0 hd50).mono ?_
    rintro e4 w4 hpost
    cases hR : adv T2 (argC ex d []) with
    | none =>
      rw [hR] at hpost
      obtain ⟨rfl, hch⟩ := hpost
      have HNO := Lib.hid ((HEQ2.out).trans (adv_cat_none hR _))
      have HCH := Lib.hid ((HW2.out).fell_fr hwg hch)
      clear hR hch
      unfold boom
      go_wp2
      refine ⟨rfl, ?_⟩
      rw [HNO.out]
      exact ⟨rfl, HCH.out⟩
    | some T4 =>
      rw [hR] at hpost
      obtain ⟨rfl, u4, V4, hpA, hown, hch, hfr, hrd⟩ := hpost
      obtain ⟨A4, c4, hV, _, _, _⟩ := id hrd
      subst hV
      have HW4 := Lib.hid ((HW2.out).fr hwg hpA hown hch)
      have HF4 := Lib.hid hfr
      have HR4 := Lib.hid hrd
      have HEQ4 := Lib.hid ((HEQ2.out).trans (adv_cat_some hR _))
      clear hpA hown hch hfr hrd hR
      have pc5 := (HF4.out).pc
      have dc5 := (HF4.out).dc
      go_wp2_with fail
      refine (stb5_any (hb.trans ((HW4.out).2.2.below hB (fun x hx => (hp.mine hx).1))) hBg hg1 hg2 (HW4.out).1 (HF4.out) hbd hd0 hd50).mono ?_
      rintro e6 w6 hpost
      cases hR : adv T4 (penB bd (d + 1)) with
      | none =>
        rw [hR] at hpost
        obtain ⟨rfl, hch⟩ := hpost
        have HNO := Lib.hid ((HEQ4.out).trans (adv_cat_none hR _))
        have HCH := Lib.hid ((HW4.out).fell_fr hwg hch)
        clear hR hch
        unfold boom
        go_wp2
        refine ⟨rfl, ?_⟩
        rw [HNO.out]
        exact ⟨rfl, HCH.out⟩
      | some T6 =>
        rw [hR] at hpost
        obtain ⟨rfl, u6, hpA, hown, hch, hfr⟩ := hpost
        have HW6 := Lib.hid ((HW4.out).fr hwg hpA hown hch)
        have HF6 := Lib.hid hfr
        have HEQ6 := Lib.hid ((HEQ4.out).trans (adv_cat_some hR _))
        clear hpA hown hch hfr hR
        have c2 := (HF6.out).sm.c2
        have c3 := (HF6.out).sm.c3
        have c4 := (HF6.out).sm.c4
        have c5 := (HF6.out).sm.c5
        have c6 := (HF6.out).sm.c6
        have hz0 : (strOf []).toList = [] := strOf_toList []
        obtain ⟨m, hm⟩ : ∃ m, m = (ex.tail).length := ⟨_, rfl⟩
        rw [← hm] at c4
        obtain ⟨ne, hne⟩ : ∃ m, m = el.length := ⟨_, rfl⟩
        rw [← hne] at c6
        by_cases hn : nm = []
        case neg =>
          have HNO := Lib.hid ((HEQ6.out).trans (show adv T6 (need _ (some [])) = none from by rw [need_no (fun h => hn h.1)]; rfl))
          have hs1 : ¬ (strOf nm).toList = [] := by rw [strOf_toList]; exact hn
          clear hm hne hn
          go_wp2_with fail
          refine (must_no _).mono ?_
          rintro e9 w9 ⟨rfl, rfl⟩
          unfold boom
          go_wp2
          refine ⟨rfl, ?_⟩
          rw [HNO.out]
          exact ⟨rfl, (HW6.out).2.2⟩
        by_cases ht : ty = []
        case neg =>
          have HNO := Lib.hid ((HEQ6.out).trans (show adv T6 (need _ (some [])) = none from by rw [need_no (fun h => ht h.2.1)]; rfl))
          subst hn
          have hs1 : ¬ (strOf ty).toList = [] := by rw [strOf_toList]; exact ht
          clear hm hne ht
          go_wp2_with fail
          refine (must_no _).mono ?_
          rintro e9 w9 ⟨rfl, rfl⟩
          unfold boom
          go_wp2
          refine ⟨rfl, ?_⟩
          rw [HNO.out]
          exact ⟨rfl, (HW6.out).2.2⟩
        by_cases hx : (ex.tail).length = 0
        case neg =>
          have HNO := Lib.hid ((HEQ6.out).trans (show adv T6 (need _ (some [])) = none from by rw [need_no (fun h => hx h.2.2.1)]; rfl))
          subst hn
          subst ht
          have hl1 : (m == 0) = false := by rw [beq_eq_false_iff_ne]; omega
          have hl2 : ((m : Int) == 0) = false := by rw [beq_eq_false_iff_ne]; omega
          clear hm hne hx
          go_wp2_with fail
          refine (must_no _).mono ?_
          rintro e9 w9 ⟨rfl, rfl⟩
          unfold boom
          go_wp2
          refine ⟨rfl, ?_⟩
          rw [HNO.out]
          exact ⟨rfl, (HW6.out).2.2⟩
        by_cases hel0 : el.length = 0
        case neg =>
          have HNO := Lib.hid ((HEQ6.out).trans (show adv T6 (need _ (some [])) = none from by rw [need_no (fun h => hel0 h.2.2.2)]; rfl))
          subst hn
          subst ht
          obtain rfl : m = 0 := by omega
          have hl1 : (ne == 0) = false := by rw [beq_eq_false_iff_ne]; omega
          have hl2 : ((ne : Int) == 0) = false := by rw [beq_eq_false_iff_ne]; omega
          clear hm hne hx hel0
          go_wp2_with fail
          refine (must_no _).mono ?_
          rintro e9 w9 ⟨rfl, rfl⟩
          unfold boom
          go_wp2
          refine ⟨rfl, ?_⟩
          rw [HNO.out]
          exact ⟨rfl, (HW6.out).2.2⟩
        have HFIN := Lib.hid ((HEQ6.out).trans (show adv T6 (need _ (some [])) = some T6 from by rw [need_yes ⟨hn, ht, hx, hel0⟩]; exact adv_nil (HW6.out).1.fit))
        subst hn
        subst ht
        obtain rfl : m = 0 := by omega
        obtain rfl : ne = 0 := by omega
        clear hm hne hx hel0
        go_wp2_with fail
        refine (must_yes _).mono ?_
        rintro e9 w9 ⟨rfl, rfl⟩
        go_wp2
        go_end0
        rw [HFIN.out]
        exact ⟨rfl, _, HW6.out⟩

end Go.Proofs.YtmbkjabjcphkbaaDoor
end
