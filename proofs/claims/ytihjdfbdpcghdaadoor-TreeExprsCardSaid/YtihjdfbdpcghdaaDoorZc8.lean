/- Wc -/
import Derived.Test.YtihjdfbdpcghdaaDoorZe0
import Derived.IntWalk
set_option linter.unusedVariables false
namespace Go.Proofs.YtihjdfbdpcghdaaDoor
open Go.RowKit
def BlPost5 (w : World) (g Bc Ba B : Nat) (u : Value) (k p : Int) (nm ty : List UInt8) (V ev : Value) (d : Int) (R : Ts) (e : Ending) (w' : World) : Prop := match R with
  | none => e = boom ∧ Chg (fun b => Mine Bc Ba u b ∨ b = g + 1) w w'
  | some T' => e = .returned (.tuple #[]) ∧ ∃ u', PenAt w' Bc Ba B u' T' ∧ (∀ b, u'.ownBlock = some b → u.ownBlock = some b ∨ w.heap.size ≤ b) ∧ Chg (fun b => Mine Bc Ba u b ∨ b = g + 1) w w' ∧
      StFr w' g Bc Ba k p nm ty V (.slice none 0 0) ev d
set_option maxRecDepth 100000 in
set_option maxHeartbeats 2000000 in
theorem stb5_any {w0 w : World} {g Bc Ba B : Nat} {u : Value} {T : List (List UInt8)} {k p : Int} {nm ty : List UInt8} {V ev : Value} {A : Option Addr} {m c : Nat} {d : Int} {ss : List Sm} (hb : Below B w0 w) (hB : B ≤ g) (hg1 : Bc < g) (hg2 : Ba < g) (hp : PenAt w Bc Ba B u T)
    (hf : StFr w g Bc Ba k p nm ty V (.slice A m c) ev d) (hW : WritesB w0 B ss (.slice A m c)) (hd0 : 0 ≤ d) (hd : d ≤ 50) :
    Calls Tryd.prog 69 #[.pointer (some ⟨g + 1, 5, none⟩), .pointer (some ⟨g, 0, none⟩), .pointer (some ⟨g + 1 + 1, 0, none⟩)] w (BlPost5 w g Bc Ba B u k p nm ty V ev d (adv T (penB ss (d + 1)))) := by
  have q0 := hf.pc
  have q1 := hf.dc
  have htf := take_stmts ⟨g + 1, 5, none⟩ A m c w.drew hf.sm.c5 (hf.sm.fr 5)
  have hwr : IntKind.i64.wrap (d + 1) = d + 1 := IntWalk.i64_in _ ⟨by omega, by omega⟩
  have HTF := Lib.hid htf
  clear htf
  go_enter Tryd.func69, Tryd.ntmps69
  go_wp2_with fail
  refine wp_region_held_drew (S := fun w' => w'.cell? ⟨g, 0, none⟩ = some (.func (.func 26) #[] #[.pointer (some ⟨Bc, 0, none⟩), .pointer (some ⟨Ba, 0, none⟩)]) ∧ w'.cell? ⟨g + 1 + 1, 0, none⟩ = some (.int .i64 d)) (by kernel_rfl) ⟨q0, q1⟩ (fun hHeld => ?_)
  refine wpAnyH_take (i := 0) (oi := _) (v := .func (.func 26) #[] #[.pointer (some ⟨Bc, 0, none⟩), .pointer (some ⟨Ba, 0, none⟩)]) rfl (by kernel_rfl) (by kernel_rfl) (by kernel_rfl) (fun _ _ _ h => h) (Or.inl ⟨by rfl, fun w hS => ?_⟩) hHeld ?_
  · obtain ⟨h1, h2⟩ := hS
    go_simp
  simp only [Act.put]
  refine wpAnyH_take (i := 1) (oi := _) (v := .pointer (some ⟨g + 1, 5, none⟩)) rfl (by kernel_rfl) (by kernel_rfl) (by kernel_rfl) (fun _ _ _ h => h) (Or.inl ⟨by rfl, fun w hS => ?_⟩) hHeld ?_
  · go_simp
  simp only [Act.put]
  refine wpAnyH_take (i := 3) (oi := _) (v := .int .i64 d) rfl (by kernel_rfl) (by kernel_rfl) (by kernel_rfl) (fun _ _ _ h => h) (Or.inl ⟨by rfl, fun w hS => ?_⟩) hHeld ?_
  · obtain ⟨h1, h2⟩ := hS
    go_simp
  simp only [Act.put]
  refine wpAnyH_take (i := 4) (oi := _) (v := .int .i64 (d + 1)) rfl (by kernel_rfl) (by kernel_rfl) (by kernel_rfl) (fun _ _ _ h => h) (Or.inl ⟨by rfl, fun w hS => ?_⟩) hHeld ?_
  · go_simp
  simp only [Act.put]
  refine wpAnyH_ready (rs := [2]) (by kernel_rfl) (by simp) ?_
  refine AllReadyH.cons rfl (fun K hK => ?_) AllReadyH.nil
  go_simp
  refine HTF.out.mono ?_
  rintro e1 w1 ⟨rfl, hw1⟩
  have hnm1 := hf.apart hp hg1 hg2 (b := g + 1) (.inr (.inl rfl))
  have hf1 : StFr w1 g Bc Ba k p nm ty V (.slice none 0 0) ev d := by rw [hw1]; exact hf.drew.set5 _
  have hp1 : PenAt w1 Bc Ba B u T := by rw [hw1]; exact hp.drew.setCell _ _ hnm1
  have hch1 : Chg (fun b => Mine Bc Ba u b ∨ b = g + 1) w w1 := by rw [hw1]; exact (Chg.refl _ w).drew.setCell _ _ (fun _ => .inr rfl)
  have hBw : B ≤ w.heap.size := Nat.le_trans hB (Nat.le_of_lt (hf.lt (.inl rfl)))
  have hmB : ∀ x, (Mine Bc Ba u x ∨ x = g + 1) → B ≤ x := fun x hx => by
    rcases hx with hx | hx
    · exact (hp.mine hx).1
    · omega
  have hb1 : Below B w0 w1 := hb.trans (hch1.below hBw hmB)
  have k0 := hf1.pc
  have k1 := hf1.dc
  have hcall := hW w1 Bc Ba u T (d + 1) hb1 (Nat.le_trans hBw hch1.size) hp1 (by omega) (by omega)
  have HF1 := Lib.hid hf1
  have HP1 := Lib.hid hp1
  have HC1 := Lib.hid hch1
  have HCALL := Lib.hid hcall
  clear hf1 hp1 hch1 hcall hw1 hb1 q0 q1
  unfold penV at HCALL
  go_wp2_with fail
  refine hK.out _ _ ⟨k0, k1⟩ (fun hHeld => ?_)
  clear hK K
  refine wpAnyH_ready (rs := [5]) (by kernel_rfl) (by simp) ?_
  refine AllReadyH.cons rfl (fun K hK => ?_) AllReadyH.nil
  go_simp
  refine HCALL.out.mono ?_
  rintro e2 w2 hpost
  cases hR : adv T (penB ss (d + 1)) with
  | none =>
    rw [hR] at hpost
    obtain ⟨rfl, hch2⟩ := hpost
    have hch : Chg (fun b => Mine Bc Ba u b ∨ b = g + 1) w w2 := HC1.out.trans hch2 (fun x _ hx => .inl hx)
    have HCH := Lib.hid hch
    clear hR hch2 hch
    unfold boom
    go_wp2
    refine ⟨rfl, ?_⟩
    exact ⟨rfl, HCH.out⟩
  | some T2 =>
    rw [hR] at hpost
    obtain ⟨rfl, u2, hwent⟩ := hpost
    have HR := Lib.hid hR
    have hf2 := HF1.out.went HP1.out hg1 hg2 hwent
    have k02 := hf2.pc
    have k12 := hf2.dc
    have HF2 := Lib.hid hf2
    have HW2 := Lib.hid hwent
    clear hR hwent hf2 k0 k1
    go_wp2_with fail
    refine hK.out _ _ ⟨k02, k12⟩ (fun hHeld => ?_)
    clear hK K
    refine wpAnyH_done (by kernel_rfl) ?_ _
    go_wp2
    go_end0
    rw [HR.out]
    refine ⟨rfl, u2, HW2.out.1, fun x hx => ?_, HC1.out.trans HW2.out.2.2 (fun x _ hx => .inl hx), HF2.out⟩
    have hsz := HC1.out.size
    rcases HW2.out.2.1 x hx with h | h
    · exact .inl h
    · exact .inr (by omega)
def BlPost6 (w : World) (g Bc Ba B : Nat) (u : Value) (k p : Int) (nm ty : List UInt8) (V bv : Value) (d : Int) (R : Ts) (e : Ending) (w' : World) : Prop := match R with
  | none => e = boom ∧ Chg (fun b => Mine Bc Ba u b ∨ b = g + 1) w w'
  | some T' => e = .returned (.tuple #[]) ∧ ∃ u', PenAt w' Bc Ba B u' T' ∧ (∀ b, u'.ownBlock = some b → u.ownBlock = some b ∨ w.heap.size ≤ b) ∧ Chg (fun b => Mine Bc Ba u b ∨ b = g + 1) w w' ∧
      StFr w' g Bc Ba k p nm ty V bv (.slice none 0 0) d
set_option maxRecDepth 100000 in
set_option maxHeartbeats 2000000 in
theorem stb6_any {w0 w : World} {g Bc Ba B : Nat} {u : Value} {T : List (List UInt8)} {k p : Int} {nm ty : List UInt8} {V bv : Value} {A : Option Addr} {m c : Nat} {d : Int} {ss : List Sm} (hb : Below B w0 w) (hB : B ≤ g) (hg1 : Bc < g) (hg2 : Ba < g) (hp : PenAt w Bc Ba B u T)
    (hf : StFr w g Bc Ba k p nm ty V bv (.slice A m c) d) (hW : WritesB w0 B ss (.slice A m c)) (hd0 : 0 ≤ d) (hd : d ≤ 50) :
    Calls Tryd.prog 69 #[.pointer (some ⟨g + 1, 6, none⟩), .pointer (some ⟨g, 0, none⟩), .pointer (some ⟨g + 1 + 1, 0, none⟩)] w (BlPost6 w g Bc Ba B u k p nm ty V bv d (adv T (penB ss (d + 1)))) := by
  have q0 := hf.pc
  have q1 := hf.dc
  have htf := take_stmts ⟨g + 1, 6, none⟩ A m c w.drew hf.sm.c6 (hf.sm.fr 6)
  have hwr : IntKind.i64.wrap (d + 1) = d + 1 := IntWalk.i64_in _ ⟨by omega, by omega⟩
  have HTF := Lib.hid htf
  clear htf
  go_enter Tryd.func69, Tryd.ntmps69
  go_wp2_with fail
  refine wp_region_held_drew (S := fun w' => w'.cell? ⟨g, 0, none⟩ = some (.func (.func 26) #[] #[.pointer (some ⟨Bc, 0, none⟩), .pointer (some ⟨Ba, 0, none⟩)]) ∧ w'.cell? ⟨g + 1 + 1, 0, none⟩ = some (.int .i64 d)) (by kernel_rfl) ⟨q0, q1⟩ (fun hHeld => ?_)
  refine wpAnyH_take (i := 0) (oi := _) (v := .func (.func 26) #[] #[.pointer (some ⟨Bc, 0, none⟩), .pointer (some ⟨Ba, 0, none⟩)]) rfl (by kernel_rfl) (by kernel_rfl) (by kernel_rfl) (fun _ _ _ h => h) (Or.inl ⟨by rfl, fun w hS => ?_⟩) hHeld ?_
  · obtain ⟨h1, h2⟩ := hS
    go_simp
  simp only [Act.put]
  refine wpAnyH_take (i := 1) (oi := _) (v := .pointer (some ⟨g + 1, 6, none⟩)) rfl (by kernel_rfl) (by kernel_rfl) (by kernel_rfl) (fun _ _ _ h => h) (Or.inl ⟨by rfl, fun w hS => ?_⟩) hHeld ?_
  · go_simp
  simp only [Act.put]
  refine wpAnyH_take (i := 3) (oi := _) (v := .int .i64 d) rfl (by kernel_rfl) (by kernel_rfl) (by kernel_rfl) (fun _ _ _ h => h) (Or.inl ⟨by rfl, fun w hS => ?_⟩) hHeld ?_
  · obtain ⟨h1, h2⟩ := hS
    go_simp
  simp only [Act.put]
  refine wpAnyH_take (i := 4) (oi := _) (v := .int .i64 (d + 1)) rfl (by kernel_rfl) (by kernel_rfl) (by kernel_rfl) (fun _ _ _ h => h) (Or.inl ⟨by rfl, fun w hS => ?_⟩) hHeld ?_
  · go_simp
  simp only [Act.put]
  refine wpAnyH_ready (rs := [2]) (by kernel_rfl) (by simp) ?_
  refine AllReadyH.cons rfl (fun K hK => ?_) AllReadyH.nil
  go_simp
  refine HTF.out.mono ?_
  rintro e1 w1 ⟨rfl, hw1⟩
  have hnm1 := hf.apart hp hg1 hg2 (b := g + 1) (.inr (.inl rfl))
  have hf1 : StFr w1 g Bc Ba k p nm ty V bv (.slice none 0 0) d := by rw [hw1]; exact hf.drew.set6 _
  have hp1 : PenAt w1 Bc Ba B u T := by rw [hw1]; exact hp.drew.setCell _ _ hnm1
  have hch1 : Chg (fun b => Mine Bc Ba u b ∨ b = g + 1) w w1 := by rw [hw1]; exact (Chg.refl _ w).drew.setCell _ _ (fun _ => .inr rfl)
  have hBw : B ≤ w.heap.size := Nat.le_trans hB (Nat.le_of_lt (hf.lt (.inl rfl)))
  have hmB : ∀ x, (Mine Bc Ba u x ∨ x = g + 1) → B ≤ x := fun x hx => by
    rcases hx with hx | hx
    · exact (hp.mine hx).1
    · omega
  have hb1 : Below B w0 w1 := hb.trans (hch1.below hBw hmB)
  have k0 := hf1.pc
  have k1 := hf1.dc
  have hcall := hW w1 Bc Ba u T (d + 1) hb1 (Nat.le_trans hBw hch1.size) hp1 (by omega) (by omega)
  have HF1 := Lib.hid hf1
  have HP1 := Lib.hid hp1
  have HC1 := Lib.hid hch1
  have HCALL := Lib.hid hcall
  clear hf1 hp1 hch1 hcall hw1 hb1 q0 q1
  unfold penV at HCALL
  go_wp2_with fail
  refine hK.out _ _ ⟨k0, k1⟩ (fun hHeld => ?_)
  clear hK K
  refine wpAnyH_ready (rs := [5]) (by kernel_rfl) (by simp) ?_
  refine AllReadyH.cons rfl (fun K hK => ?_) AllReadyH.nil
  go_simp
  refine HCALL.out.mono ?_
  rintro e2 w2 hpost
  cases hR : adv T (penB ss (d + 1)) with
  | none =>
    rw [hR] at hpost
    obtain ⟨rfl, hch2⟩ := hpost
    have hch : Chg (fun b => Mine Bc Ba u b ∨ b = g + 1) w w2 := HC1.out.trans hch2 (fun x _ hx => .inl hx)
    have HCH := Lib.hid hch
    clear hR hch2 hch
    unfold boom
    go_wp2
    refine ⟨rfl, ?_⟩
    exact ⟨rfl, HCH.out⟩
  | some T2 =>
    rw [hR] at hpost
    obtain ⟨rfl, u2, hwent⟩ := hpost
    have HR := Lib.hid hR
    have hf2 := HF1.out.went HP1.out hg1 hg2 hwent
    have k02 := hf2.pc
    have k12 := hf2.dc
    have HF2 := Lib.hid hf2
    have HW2 := Lib.hid hwent
    clear hR hwent hf2 k0 k1
    go_wp2_with fail
    refine hK.out _ _ ⟨k02, k12⟩ (fun hHeld => ?_)
    clear hK K
    refine wpAnyH_done (by kernel_rfl) ?_ _
    go_wp2
    go_end0
    rw [HR.out]
    refine ⟨rfl, u2, HW2.out.1, fun x hx => ?_, HC1.out.trans HW2.out.2.2 (fun x _ hx => .inl hx), HF2.out⟩
    have hsz := HC1.out.size
    rcases HW2.out.2.1 x hx with h | h
    · exact .inl h
    · exact .inr (by omega)
end Go.Proofs.YtihjdfbdpcghdaaDoor
