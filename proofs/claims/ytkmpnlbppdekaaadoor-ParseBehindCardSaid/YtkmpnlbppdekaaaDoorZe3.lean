/- Gf Gg Ta Tb Da Gh Gn -/
import Derived.Test.YtkmpnlbppdekaaaDoorZd5
import Derived.Test.YtkmpnlbppdekaaaDoorZd6
import Derived.StillTailTactics
import Derived.IntWalk
section
set_option linter.unusedVariables false
set_option linter.unusedSimpArgs false
namespace Go.Proofs.YtkmpnlbppdekaaaDoor
open Go.RowKit
set_option maxRecDepth 100000 in
theorem decl_none {w : World} {B R L : Nat} {us : List Tok} (h : RdAt w B R L us) (hB : B ≤ w.heap.size) (k : Nat) {p c : Nat} (hx : takeM L dcWords us = .bad p c) :
    Calls Tryd.prog 24 #[.pointer (some ⟨R, 0, none⟩), .int .i64 (k : Nat)] w (RdPost (DcB w.heap.size) w B R L (.bad p c)) := by
  obtain ⟨X, hX⟩ : ∃ X : World, X = w.alloc (.cells #[.int .i64 0, .int .i64 0, .int .i64 0, .string ⟨#[]⟩, .string ⟨#[]⟩, .slice none 0 0, .slice none 0 0] 38) := ⟨_, rfl⟩
  have hbX : Below w.heap.size w X := by rw [hX]; exact below_new _ _
  have HP := Lib.hid (take_new (h.below' hB hbX) (Nat.le_trans hB hbX.size) [[108, 111, 99, 107], [99, 104, 97, 110], [115, 116, 114, 117, 99, 116], [118, 97, 114], [105, 110, 112, 117, 116], [115, 105, 110, 107], [102, 117, 110, 99], [116, 104, 114, 101, 97, 100]] (by simp) (by decide))
  have hx' : takeM L [[108, 111, 99, 107], [99, 104, 97, 110], [115, 116, 114, 117, 99, 116], [118, 97, 114], [105, 110, 112, 117, 116], [115, 105, 110, 107], [102, 117, 110, 99], [116, 104, 114, 101, 97, 100]] us = .bad p c := hx
  rw [hx', show X.heap.size = w.heap.size + 1 by rw [hX]; simp] at HP
  have HX := Lib.hid hX
  have HBX := Lib.hid hbX
  clear h hB hbX hX hx hx'
  go_enter Tryd.func24, Tryd.ntmps24
  go_wp2_with fail
  rw [← HX.out]
  refine HP.out.mono ?_
  rintro e w1 ⟨rfl, hc⟩
  have HC := Lib.hid (chg_below HBX.out hc)
  clear hc
  unfold thrown
  go_wp2
  exact ⟨rfl, rfl, HC.out⟩
set_option maxRecDepth 100000 in
theorem decl_room {w : World} {B R L : Nat} {t : Tok} {r : List Tok} (h : RdAt w B R L (t :: r)) (hB : B ≤ w.heap.size) (k : Nat) {p c : Nat} (ht : t.text ∈ dcWords) (hx : roomM L (decide (kd r = 1)) k 64 r = .bad p c) :
    Calls Tryd.prog 24 #[.pointer (some ⟨R, 0, none⟩), .int .i64 (k : Nat)] w (RdPost (DcB w.heap.size) w B R L (.bad p c)) := by
  obtain ⟨X, hX⟩ : ∃ X : World, X = w.alloc (.cells #[.int .i64 0, .int .i64 0, .int .i64 0, .string ⟨#[]⟩, .string ⟨#[]⟩, .slice none 0 0, .slice none 0 0] 38) := ⟨_, rfl⟩
  have hbX : Below w.heap.size w X := by rw [hX]; exact below_new _ _
  have HP := Lib.hid (take_new (h.below' hB hbX) (Nat.le_trans hB hbX.size) [[108, 111, 99, 107], [99, 104, 97, 110], [115, 116, 114, 117, 99, 116], [118, 97, 114], [105, 110, 112, 117, 116], [115, 105, 110, 107], [102, 117, 110, 99], [116, 104, 114, 101, 97, 100]] (by simp) (by decide))
  have hx' : takeM L [[108, 111, 99, 107], [99, 104, 97, 110], [115, 116, 114, 117, 99, 116], [118, 97, 114], [105, 110, 112, 117, 116], [115, 105, 110, 107], [102, 117, 110, 99], [116, 104, 114, 101, 97, 100]] (t :: r) = .ok t r := by rw [takeM]; exact if_pos ht
  rw [hx', show X.heap.size = w.heap.size + 1 by rw [hX]; simp] at HP
  obtain ⟨K, hK⟩ : ∃ K : Int, K = (t.kind : Nat) := ⟨_, rfl⟩
  obtain ⟨S, hS⟩ : ∃ S, S = strOf t.text := ⟨_, rfl⟩
  obtain ⟨U0, hU0⟩ : ∃ U : Int, U = (t.pl : Nat) := ⟨_, rfl⟩
  have HTV : Hid (∀ v, TokV X t v → v = .agg #[.int .i64 K, .string S, .int .i64 U0]) := Lib.hid fun v hv => by rw [hK, hS, hU0]; exact hv.1
  have HX := Lib.hid hX
  have HBX := Lib.hid hbX
  have HB := Lib.hid hB
  have HXX := Lib.hid hx
  have hfT := tokF1
  clear h hB hbX hX hx hx' hK hS hU0 ht
  go_enter Tryd.func24, Tryd.ntmps24
  go_wp2_with fail
  rw [← HX.out]
  refine HP.out.mono ?_
  rintro e w1 ⟨⟨v1, rfl, hv1⟩, hr, hc⟩
  obtain rfl := HTV.out _ hv1
  have HR1 := Lib.hid hr
  have HC1 := Lib.hid hc
  have HS1 : Hid (B ≤ w1.heap.size) := Lib.hid (Nat.le_trans HB.out (Nat.le_trans HBX.out.size hc.size))
  clear hr hc hv1 HP HTV
  obtain ⟨bb, hbb⟩ : ∃ b, b = decide (kd r = 1) := ⟨_, rfl⟩
  have HIN := Lib.hid (isName_any HR1.out)
  rw [← hbb] at HIN HXX
  clear hbb
  go_wp2_with fail
  refine HIN.out.mono ?_
  rintro e w2 ⟨rfl, hb⟩
  have HR2 := Lib.hid (HR1.out.below' HS1.out hb)
  have HC2 := Lib.hid (HC1.out.up (Chg.of_below hb))
  clear hb
  go_wp2_with fail
  have HRO := Lib.hid (room_any HR2.out bb k 64)
  rw [HXX.out] at HRO
  refine HRO.out.mono ?_
  rintro e w3 ⟨rfl, hc⟩
  have HC := Lib.hid (chg_below HBX.out (HC2.out.up hc))
  clear hc HRO
  unfold thrown
  go_wp2
  exact ⟨rfl, rfl, HC.out⟩
theorem declR_any {w : World} {B R L : Nat} {us : List Tok} (k : Nat) (h : RdAt w B R L us) (hB : B ≤ w.heap.size) :
    Calls Tryd.prog 24 #[.pointer (some ⟨R, 0, none⟩), .int .i64 (k : Nat)] w (RdPost (DcB w.heap.size) w B R L (declM L k us)) := by
  have e0 : declM L k us = (takeM L dcWords us).bind fun t r => (roomM L (decide (kd r = 1)) k 64 r).bind fun _ r2 => declM1 L t.text (plc L r2) (tx r2) r2.tail := rfl
  cases hx : takeM L dcWords us with
  | bad p c => rw [e0.trans (bind_bad' hx)]; exact decl_none h hB k hx
  | ok t r =>
    have e1 := e0.trans (bind_ok' hx)
    have hm := take_text hx
    obtain rfl : us = t :: r := by
      cases us with
      | nil => cases hx
      | cons u v =>
        rw [takeM] at hx
        split at hx
        · cases hx; rfl
        · cases hx
    cases hy : roomM L (decide (kd r = 1)) k 64 r with
    | bad p c => rw [e1.trans (bind_bad' hy)]; exact decl_room h hB k hm hy
    | ok u r2 =>
      have e2 := e1.trans (bind_ok' hy)
      have hr2 := roomM_ok hy
      subst hr2
      have hk : k < 64 ∧ kd r2 = 1 := by
        unfold roomM at hy
        split at hy
        · rename_i h1
          split at hy
          · exact ⟨by assumption, of_decide_eq_true h1⟩
          · cases hy
        · cases hy
      obtain ⟨nt, r, rfl⟩ : ∃ nt r, r2 = nt :: r := by
        cases r2 with
        | nil => exact absurd hk.2 (by decide)
        | cons a b => exact ⟨a, b, rfl⟩
      have hnk : nt.kind = 1 := hk.2
      unfold declM1 at e2
      have ng : ∀ {a b : List UInt8}, t.text = a → a ≠ b → ¬ t.text = b := fun h1 h2 h3 => h2 (h1.symm.trans h3)
      simp only [dcWords, List.mem_cons, List.not_mem_nil, or_false] at hm
      rcases hm with e | e | e | e | e | e | e | e
      · exact decl_lock h hB hk.1 hnk e (e2.trans ((if_neg (ng e (by decide))).trans ((if_neg (ng e (by decide))).trans ((if_neg (ng e (by decide))).trans (if_pos e)))))
      · exact decl_chan h hB hk.1 hnk e (e2.trans ((if_neg (ng e (by decide))).trans ((if_neg (ng e (by decide))).trans ((if_neg (ng e (by decide))).trans ((if_neg (ng e (by decide))).trans (if_pos e))))))
      · exact decl_struct h hB hk.1 hnk e (e2.trans (if_pos e))
      · exact decl_var h hB hk.1 hnk e (e2.trans ((if_neg (ng e (by decide))).trans ((if_neg (ng e (by decide))).trans ((if_neg (ng e (by decide))).trans ((if_neg (ng e (by decide))).trans ((if_neg (ng e (by decide))).trans (if_pos e)))))))
      · exact decl_input h hB hk.1 hnk e (e2.trans ((if_neg (ng e (by decide))).trans ((if_neg (ng e (by decide))).trans ((if_neg (ng e (by decide))).trans ((if_neg (ng e (by decide))).trans ((if_neg (ng e (by decide))).trans ((if_neg (ng e (by decide))).trans (if_pos e))))))))
      · exact decl_sink h hB hk.1 hnk e (e2.trans ((if_neg (ng e (by decide))).trans ((if_neg (ng e (by decide))).trans ((if_neg (ng e (by decide))).trans ((if_neg (ng e (by decide))).trans ((if_neg (ng e (by decide))).trans ((if_neg (ng e (by decide))).trans (if_neg (ng e (by decide))))))))))
      · exact decl_func h hB hk.1 hnk e (e2.trans ((if_neg (ng e (by decide))).trans (if_pos e)))
      · exact decl_thread h hB hk.1 hnk e (e2.trans ((if_neg (ng e (by decide))).trans ((if_neg (ng e (by decide))).trans (if_pos e))))
theorem prog_read {w : World} {B R L : Nat} {us : List Tok} (h : RdAt w B R L us) (hB : B ≤ w.heap.size) : Calls Tryd.prog 13 #[.pointer (some ⟨R, 0, none⟩)] w (ProgPost w R (programM L us)) :=
  programR_any h hB fun w us k h hB => declR_any k h hB
end Go.Proofs.YtkmpnlbppdekaaaDoor
end
section
set_option linter.unusedVariables false
set_option linter.unusedSimpArgs false
namespace Go.Proofs.YtkmpnlbppdekaaaDoor
open Go.RowKit
theorem assert_fault (p c : Int) (w : World) : (Instr.typeAssert (.iface 60 (.agg #[.int .i64 p, .int .i64 c])) 20 60 true).run Tryd.prog w = .ok (.tuple #[.agg #[.int .i64 p, .int .i64 c], .bool true]) w := by kernel_rfl
theorem assert_nilF (w : World) : (Instr.typeAssert .nilIface 20 60 true).run Tryd.prog w = .ok (.tuple #[.agg #[.int .i64 0, .int .i64 0], .bool false]) w := by kernel_rfl
theorem tmps_catchR (a b x : Value) : #[a, b] ++ ((Array.replicate 17 undef).setIfInBounds 3 x).setIfInBounds 0 x = #[a, b, x, undef, undef, x, undef, undef, undef, undef, undef, undef, undef, undef, undef, undef, undef, undef, undef] := by kernel_rfl
set_option maxHeartbeats 2000000 in
theorem pcatch_idle (p q : Addr) (w : World) :
    CallsD Tryd.prog 21 #[.pointer (some p), .pointer (some q)] .returning w fun e u' w' => e = .returned (.tuple #[]) ∧ u' = .returning ∧ Below w.heap.size w w' := by
  refine callsD_of_wpS Tryd.func21 rfl fun c₀ cs hu => ?_
  have h1 := assert_nilF
  have h2 : ∀ w : World, (binOp .neq 20 .nilIface .nilIface).run Tryd.prog w = .ok (.bool false) w := fun _ => by kernel_rfl
  have HB := Lib.hid (below_new w (.cells #[.int .i64 0, .int .i64 0] 60))
  apply wpS_seq
  apply wpS_region
  simp [wpOpsS, go_sem, recoverD, hu, Tryd.ntmps21, Exit.thenS]
  refine wpS_of_wp ?_
  rw [tmps_catchR]
  go_wp2
  clear h1 h2
  cases c₀
  simp_all [bodyPostS, results, Tryd.results21]
  exact HB.out
set_option maxHeartbeats 2000000 in
theorem pcatch_panicking (p q : Addr) (w : World) (x y : Int) (s n : Int) (hp : w.cell? p = some (.int .i64 s)) (hq : w.cell? q = some (.int .i64 n)) (zp : w.frozen? p = false) (zq : w.frozen? q = false) (hne : ¬ p.block = q.block) (hne' : ¬ q.block = p.block) :
    CallsD Tryd.prog 21 #[.pointer (some p), .pointer (some q)] (.panicking [{ v := .iface 60 (.agg #[.int .i64 x, .int .i64 y]), recovered := false }]) w fun e u' w' => e = .returned (.tuple #[]) ∧ u' = .panicking [{ v := .iface 60 (.agg #[.int .i64 x, .int .i64 y]), recovered := true }] ∧
      w' = (((w.alloc (.cells #[.int .i64 x, .int .i64 y] 60)).setCell p (.int .i64 x)).drew.setCell q (.int .i64 y)) := by
  refine callsD_of_wpS Tryd.func21 rfl fun c₀ cs hu => ?_
  have h1 := assert_fault
  have hrow := heap_alloc_new w (.cells #[.int .i64 x, .int .i64 y] 60)
  have c0 : (w.alloc (.cells #[.int .i64 x, .int .i64 y] 60)).cell? ⟨w.heap.size, 0, none⟩ = some (.int .i64 x) := by rw [cell_of_row _ _ 0 _ _ (0, 0) hrow]; rfl
  have c1 : (w.alloc (.cells #[.int .i64 x, .int .i64 y] 60)).cell? ⟨w.heap.size, 1, none⟩ = some (.int .i64 y) := by rw [cell_of_row _ _ 1 _ _ (0, 0) hrow]; rfl
  clear hrow
  apply wpS_seq
  apply wpS_region
  simp [wpOpsS, go_sem, recoverD, hu, Tryd.ntmps21, Exit.thenS]
  refine wpS_of_wp ?_
  rw [tmps_catchR]
  go_wp2_with fail
  refine wp_region_held_drew (S := fun W => W.cell? ⟨w.heap.size, 0, none⟩ = some (.int .i64 x) ∧ W.cell? ⟨w.heap.size, 1, none⟩ = some (.int .i64 y)) (by kernel_rfl) ⟨c0, c1⟩ (fun hHeld => ?_)
  refine wpAnyH_take (i := 0) (oi := _) (v := .pointer (some ⟨w.heap.size, 0, none⟩)) rfl (by kernel_rfl) (by kernel_rfl) (by kernel_rfl) (fun _ _ _ h => h) (Or.inl ⟨by rfl, fun W hS => ?_⟩) hHeld ?_
  · obtain ⟨s0, s1⟩ := hS
    go_simp
  simp only [Act.put]
  refine wpAnyH_take (i := 1) (oi := _) (v := .int .i64 x) rfl (by kernel_rfl) (by kernel_rfl) (by kernel_rfl) (fun _ _ _ h => h) (Or.inl ⟨by rfl, fun W hS => ?_⟩) hHeld ?_
  · obtain ⟨s0, s1⟩ := hS
    go_simp
  simp only [Act.put]
  refine wpAnyH_take (i := 2) (oi := _) (v := .pointer (some ⟨w.heap.size, 1, none⟩)) rfl (by kernel_rfl) (by kernel_rfl) (by kernel_rfl) (fun _ _ _ h => h) (Or.inl ⟨by rfl, fun W hS => ?_⟩) hHeld ?_
  · obtain ⟨s0, s1⟩ := hS
    go_simp
  simp only [Act.put]
  refine wpAnyH_take (i := 3) (oi := _) (v := .int .i64 y) rfl (by kernel_rfl) (by kernel_rfl) (by kernel_rfl) (fun _ _ _ h => h) (Or.inl ⟨by rfl, fun W hS => ?_⟩) hHeld ?_
  · obtain ⟨s0, s1⟩ := hS
    go_simp
  simp only [Act.put]
  have p0 : (w.alloc (.cells #[.int .i64 x, .int .i64 y] 60)).drew.cell? p = some (.int .i64 s) := alloc_cell hp _
  have p1 : (w.alloc (.cells #[.int .i64 x, .int .i64 y] 60)).drew.frozen? p = false := alloc_frozen hp zp _
  have hlp := World.block_lt_of_cell? _ _ hp
  have hlq := World.block_lt_of_cell? _ _ hq
  have q0 : (w.alloc (.cells #[.int .i64 x, .int .i64 y] 60)).drew.cell? q = some (.int .i64 n) := alloc_cell hq _
  have q1 : (w.alloc (.cells #[.int .i64 x, .int .i64 y] 60)).drew.frozen? q = false := alloc_frozen hq zq _
  refine wpAnyH_ready (rs := [4]) (by kernel_rfl) (by simp) ?_
  refine AllReadyH.cons rfl (fun K hK => ?_) AllReadyH.nil
  go_simp
  obtain ⟨W1, hW1⟩ : ∃ W, W = ((w.alloc (.cells #[.int .i64 x, .int .i64 y] 60)).setCell p (.int .i64 x)).drew := ⟨_, rfl⟩
  have e0 : W1.cell? ⟨w.heap.size, 0, none⟩ = some (.int .i64 x) := by rw [hW1]; exact (World.cell?_of_block (Below.heap_setCell _ _ _ _ (by show w.heap.size ≠ p.block; omega))).trans c0
  have e1 : W1.cell? ⟨w.heap.size, 1, none⟩ = some (.int .i64 y) := by rw [hW1]; exact (World.cell?_of_block (Below.heap_setCell _ _ _ _ (by show w.heap.size ≠ p.block; omega))).trans c1
  have e2 : W1.cell? q = some (.int .i64 n) := by rw [hW1]; exact (World.cell?_of_block (Below.heap_setCell _ _ _ _ hne')).trans q0
  have e3 : W1.frozen? q = false := by rw [hW1]; exact (World.frozen?_of_block (Below.heap_setCell _ _ _ _ hne')).trans q1
  rw [← hW1]
  have HW1 := Lib.hid hW1
  clear hW1 p0 p1 q0 q1
  refine hK.out _ _ ⟨e0, e1⟩ (fun hHeld => ?_)
  clear hK K
  refine wpAnyH_ready (rs := [5]) (by kernel_rfl) (by simp) ?_
  refine AllReadyH.cons rfl (fun K hK => ?_) AllReadyH.nil
  go_simp
  refine hK.out _ _ ⟨(World.cell?_of_block (Below.heap_setCell _ _ _ _ (by show w.heap.size ≠ q.block; omega))).trans e0, (World.cell?_of_block (Below.heap_setCell _ _ _ _ (by show w.heap.size ≠ q.block; omega))).trans e1⟩ (fun hHeld => ?_)
  clear hK K
  refine wpAnyH_done (by kernel_rfl) ?_ _
  clear hHeld e0 e1 e2 e3
  go_wp2
  simp [bodyPostS, results, Tryd.results21, HW1.out]
  rfl
end Go.Proofs.YtkmpnlbppdekaaaDoor
end
section
namespace Go.Proofs.YtkmpnlbppdekaaaDoor
theorem take_run (p : UInt8 → Bool) (l : List UInt8) : ∃ t r, l = t ++ r ∧ t.length = runOf p l ∧ (∀ c ∈ t, p c = true) ∧ ∀ c, r.head? = some c → p c = false := by
  induction l with
  | nil => exact ⟨[], [], rfl, rfl, by simp, by simp⟩
  | cons c l ih =>
    by_cases hc : p c = true
    · obtain ⟨t, r, h1, h2, h3, h4⟩ := ih
      refine ⟨c :: t, r, by rw [h1]; rfl, ?_, ?_, h4⟩
      · unfold runOf at h2 ⊢
        rw [List.takeWhile_cons, if_pos hc, List.length_cons, List.length_cons, h2]
      · intro d hd
        rcases List.mem_cons.1 hd with e | e
        · rw [e]; exact hc
        · exact h3 d e
    · refine ⟨[], c :: l, rfl, ?_, by simp, ?_⟩
      · unfold runOf
        rw [List.takeWhile_cons, if_neg hc]
      · intro d hd
        have e : c = d := by simpa using hd
        rw [← e]; simpa using hc
theorem run_app {p : UInt8 → Bool} {t r : List UInt8} (h : ∀ c ∈ t, p c = true) (hs : ∀ c, r.head? = some c → p c = false) : runOf p (t ++ r) = t.length := by
  unfold runOf
  rw [List.takeWhile_append_of_pos h]
  cases r with
  | nil => simp
  | cons c r =>
    have hc : ¬ p c = true := by simp [hs c rfl]
    rw [List.takeWhile_cons, if_neg hc]
    simp
def Shape (k : Nat) (t : List UInt8) (h : Option UInt8) : Prop :=
  (k = (if isWord t then 4 else 1) ∧ (∃ c u, t = c :: u ∧ small c = true) ∧ (∀ c ∈ t, tailB c = true) ∧ ∀ c, h = some c → tailB c = false) ∨
  (k = 2 ∧ t ≠ [] ∧ (∀ c ∈ t, digit c = true) ∧ ∀ c, h = some c → digit c = false) ∨
  (k = 3 ∧ (t = [60, 61] ∨ t = [61, 61] ∨ t = [33, 61])) ∨
  (k = 3 ∧ ∃ c, t = [c] ∧ signsL.contains c = true ∧ (h = some 61 → c ≠ 60 ∧ c ≠ 61 ∧ c ≠ 33))
theorem fName {l : List UInt8} (h : 0 < nameLen l) : firstOf l = (if isWord (l.take (nameLen l)) then 4 else 1, nameLen l) := by
  unfold firstOf; rw [if_pos h]
theorem fDigit {l : List UInt8} (h : nameLen l = 0) (h1 : 0 < runOf digit l) : firstOf l = (2, runOf digit l) := by
  unfold firstOf; rw [if_neg (by omega), if_pos h1]
theorem fSign {l : List UInt8} (h : nameLen l = 0) (h1 : runOf digit l = 0) (h2 : 0 < signLen l) : firstOf l = (3, signLen l) := by
  unfold firstOf; rw [if_neg (by omega), if_neg (by omega), if_pos h2]
theorem fNone {l : List UInt8} (h : nameLen l = 0) (h1 : runOf digit l = 0) (h2 : signLen l = 0) : firstOf l = (0, 0) := by
  unfold firstOf; rw [if_neg (by omega), if_neg (by omega), if_neg (by omega)]
theorem signs_plain : ∀ c ∈ signsL, small c = false ∧ digit c = false ∧ 32 < c.toNat := by decide
theorem sign_plain {c : UInt8} (h : signsL.contains c = true) : small c = false ∧ digit c = false ∧ 32 < c.toNat := signs_plain c (List.contains_iff_mem.1 h)
theorem digit_small {c : UInt8} (h : digit c = true) : small c = false := by
  unfold digit at h; unfold small
  simp only [Bool.and_eq_true, decide_eq_true_eq] at h
  rw [Bool.eq_false_iff]
  simp only [ne_eq, Bool.and_eq_true, decide_eq_true_eq]
  omega
theorem nameLen_no {c : UInt8} {r : List UInt8} (h : small c = false) : nameLen (c :: r) = 0 := by rw [nameLen_cons, if_neg (by simp [h])]
theorem runD_no {c : UInt8} {r : List UInt8} (h : digit c = false) : runOf digit (c :: r) = 0 := by
  unfold runOf; rw [List.takeWhile_cons, if_neg (by simp [h])]; rfl
theorem signLen_cons' (c : UInt8) (r : List UInt8) : signLen (c :: r) = if twoB (c :: r) then 2 else if signsL.contains c then 1 else 0 := rfl
theorem two_cons (c : UInt8) (r : List UInt8) : twoB (c :: r) = true ↔ r.head? = some 61 ∧ (c = 60 ∨ c = 61 ∨ c = 33) := by
  unfold twoB
  cases r with
  | nil => simp [List.isPrefixOf]
  | cons d r =>
    simp only [List.isPrefixOf, Bool.and_true, Bool.or_eq_true, Bool.and_eq_true, beq_iff_eq, List.head?_cons, Option.some.injEq]
    constructor
    · rintro ((⟨h1, h2⟩ | ⟨h1, h2⟩) | ⟨h1, h2⟩)
      · exact ⟨h2.symm, .inl h1.symm⟩
      · exact ⟨h2.symm, .inr (.inl h1.symm)⟩
      · exact ⟨h2.symm, .inr (.inr h1.symm)⟩
    · rintro ⟨h2, h1 | h1 | h1⟩
      · exact .inl (.inl ⟨h1.symm, h2.symm⟩)
      · exact .inl (.inr ⟨h1.symm, h2.symm⟩)
      · exact .inr ⟨h1.symm, h2.symm⟩
theorem shape_first {k : Nat} {t r : List UInt8} (h : Shape k t r.head?) : firstOf (t ++ r) = (k, t.length) := by
  rcases h with ⟨hk, ⟨c, u, hc, hs⟩, ha, hst⟩ | ⟨hk, hne, ha, hst⟩ | ⟨hk, ht⟩ | ⟨hk, c, ht, hc, hs⟩
  · have hn : nameLen (t ++ r) = t.length := by
      rw [← run_app ha hst, hc]
      show nameLen (c :: (u ++ r)) = _
      rw [nameLen_cons, if_pos hs]
      rfl
    have h0 : 0 < nameLen (t ++ r) := by rw [hn, hc]; simp
    rw [fName h0, hn, List.take_left, hk]
  · have hd : runOf digit (t ++ r) = t.length := run_app ha hst
    obtain ⟨c, u, rfl⟩ := List.exists_cons_of_ne_nil hne
    have h1 := digit_small (ha c (by simp))
    have hn0 : nameLen (c :: u ++ r) = 0 := nameLen_no (r := u ++ r) h1
    have hr0 : 0 < runOf digit (c :: u ++ r) := by rw [hd]; simp
    rw [fDigit hn0 hr0, hd, hk]
  · rcases ht with rfl | rfl | rfl
    all_goals
      rw [hk]
      show firstOf (_ :: 61 :: r) = (3, 2)
      rw [fSign (nameLen_no (by decide)) (runD_no (by decide)) (by rw [signLen_cons', if_pos ((two_cons _ _).2 ⟨rfl, by decide⟩)]; omega), signLen_cons', if_pos ((two_cons _ _).2 ⟨rfl, by decide⟩)]
  · subst ht
    obtain ⟨h1, h2, _⟩ := sign_plain hc
    have ht : ¬ twoB (c :: r) = true := by
      rw [two_cons]
      rintro ⟨h3, h4⟩
      obtain ⟨a, b, d⟩ := hs h3
      rcases h4 with e | e | e
      · exact a e
      · exact b e
      · exact d e
    have hl : signLen (c :: r) = 1 := by rw [signLen_cons', if_neg ht, if_pos hc]
    show firstOf (c :: r) = (k, 1)
    rw [fSign (nameLen_no h1) (runD_no h2) (by omega), hl, hk]
theorem first_shape {l : List UInt8} {k z : Nat} (h : firstOf l = (k, z)) (hz : z ≠ 0) : ∃ t r, l = t ++ r ∧ t.length = z ∧ Shape k t r.head? := by
  by_cases hn : 0 < nameLen l
  · rw [fName hn] at h
    cases l with
    | nil => simp [nameLen] at hn
    | cons c l =>
      by_cases hc : small c = true
      · rw [nameLen_cons, if_pos hc] at h
        obtain ⟨t, r, h1, h2, h3, h4⟩ := take_run tailB (c :: l)
        simp only [Prod.mk.injEq] at h
        obtain ⟨hk, hzz⟩ := h
        have ht : (c :: l).take (runOf tailB (c :: l)) = t := by rw [← h2, h1]; exact List.take_left
        rw [ht] at hk
        refine ⟨t, r, h1, by omega, .inl ⟨hk.symm, ?_, h3, h4⟩⟩
        cases t with
        | nil => simp at h2; omega
        | cons d u =>
          have e : c = d := by simpa using (List.cons.inj h1).1
          exact ⟨d, u, rfl, e ▸ hc⟩
      · rw [nameLen_cons, if_neg hc] at hn; omega
  · by_cases hd : 0 < runOf digit l
    · rw [fDigit (by omega) hd] at h
      simp only [Prod.mk.injEq] at h
      obtain ⟨hk, hzz⟩ := h
      obtain ⟨t, r, h1, h2, h3, h4⟩ := take_run digit l
      refine ⟨t, r, h1, by omega, .inr (.inl ⟨hk.symm, ?_, h3, h4⟩)⟩
      intro e; rw [e] at h2; simp at h2; omega
    · by_cases hs : 0 < signLen l
      · rw [fSign (by omega) (by omega) hs] at h
        simp only [Prod.mk.injEq] at h
        obtain ⟨hk, hzz⟩ := h
        cases l with
        | nil => simp [signLen, twoB, List.isPrefixOf] at hs
        | cons c r =>
          by_cases ht : twoB (c :: r) = true
          · rw [signLen_cons', if_pos ht] at hzz
            obtain ⟨h1, h2⟩ := (two_cons c r).1 ht
            cases r with
            | nil => simp at h1
            | cons d r =>
              have e : d = 61 := by simpa using h1
              subst e
              refine ⟨[c, 61], r, rfl, hzz, .inr (.inr (.inl ⟨hk.symm, ?_⟩))⟩
              rcases h2 with rfl | rfl | rfl
              · exact .inl rfl
              · exact .inr (.inl rfl)
              · exact .inr (.inr rfl)
          · rw [signLen_cons', if_neg ht] at hzz
            by_cases hc : signsL.contains c = true
            · rw [if_pos hc] at hzz
              refine ⟨[c], r, rfl, hzz, .inr (.inr (.inr ⟨hk.symm, c, rfl, hc, ?_⟩))⟩
              intro h61
              refine ⟨?_, ?_, ?_⟩ <;> (intro e; exact ht ((two_cons c r).2 ⟨h61, by simp [e]⟩))
            · rw [if_neg hc] at hzz; omega
      · rw [fNone (by omega) (by omega) (by omega)] at h
        simp only [Prod.mk.injEq] at h
        omega
theorem first_none {c : UInt8} {r : List UInt8} : (firstOf (c :: r)).2 = 0 ↔ small c = false ∧ digit c = false ∧ signsL.contains c = false := by
  constructor
  · intro h
    have hn : nameLen (c :: r) = 0 := by
      rcases Nat.eq_zero_or_pos (nameLen (c :: r)) with h0 | h0
      · exact h0
      · rw [fName h0] at h; exact h
    have hs : small c = false := by
      cases hc : small c
      · rfl
      · rw [nameLen_cons, if_pos hc] at hn
        unfold runOf at hn
        rw [List.takeWhile_cons, if_pos (by simp [tailB, hc])] at hn
        simp at hn
    have hd0 : runOf digit (c :: r) = 0 := by
      rcases Nat.eq_zero_or_pos (runOf digit (c :: r)) with h0 | h0
      · exact h0
      · rw [fDigit hn h0] at h; exact h
    have hd : digit c = false := by
      cases hc : digit c
      · rfl
      · unfold runOf at hd0
        rw [List.takeWhile_cons, if_pos hc] at hd0
        simp at hd0
    have hg : signLen (c :: r) = 0 := by
      rcases Nat.eq_zero_or_pos (signLen (c :: r)) with h0 | h0
      · exact h0
      · rw [fSign hn hd0 h0] at h; exact h
    refine ⟨hs, hd, ?_⟩
    rw [signLen_cons'] at hg
    split at hg
    · omega
    · split at hg
      · omega
      · rename_i h2; simpa using h2
  · rintro ⟨h1, h2, h3⟩
    have ht : ¬ twoB (c :: r) = true := by
      rw [two_cons]
      rintro ⟨_, e | e | e⟩ <;> (rw [e] at h3; revert h3; decide)
    rw [fNone (nameLen_no h1) (runD_no h2) (by rw [signLen_cons', if_neg ht, if_neg (by rw [h3]; simp)])]
theorem shape_bytes {k : Nat} {t : List UInt8} {h : Option UInt8} (hs : Shape k t h) : t ≠ [] ∧ ∀ c ∈ t, 32 < c.toNat := by
  rcases hs with ⟨hk, ⟨c, u, hc, hsm⟩, ha, hst⟩ | ⟨hk, hne, ha, hst⟩ | ⟨hk, ht⟩ | ⟨hk, c, ht, hc, hst⟩
  · refine ⟨by rw [hc]; simp, fun d hd => ?_⟩
    have := ha d hd
    simp only [tailB, small, digit, Bool.or_eq_true, Bool.and_eq_true, decide_eq_true_eq, beq_iff_eq] at this
    omega
  · refine ⟨hne, fun d hd => ?_⟩
    have := ha d hd
    simp only [digit, Bool.and_eq_true, decide_eq_true_eq] at this
    omega
  · rcases ht with rfl | rfl | rfl <;> exact ⟨by simp, by decide⟩
  · subst ht
    refine ⟨by simp, fun d hd => ?_⟩
    rw [List.mem_singleton.1 hd]
    exact (sign_plain hc).2.2
theorem blank_not {c : UInt8} (h : 32 < c.toNat) : blankB c = false := by
  unfold blankB
  rw [Bool.or_eq_false_iff, beq_eq_false_iff_ne, beq_eq_false_iff_ne]
  omega
theorem blank_of {c : UInt8} (h : blankB c = true) : tailB c = false ∧ digit c = false ∧ c ≠ 61 := by
  have h' : c.toNat = 32 ∨ c.toNat = 10 := by simpa [blankB] using h
  refine ⟨?_, ?_, ?_⟩
  · rw [Bool.eq_false_iff]
    intro ht
    simp only [tailB, small, digit, Bool.or_eq_true, Bool.and_eq_true, decide_eq_true_eq, beq_iff_eq] at ht
    omega
  · rw [Bool.eq_false_iff]
    intro ht
    simp only [digit, Bool.and_eq_true, decide_eq_true_eq] at ht
    omega
  · rintro rfl
    revert h'; decide
theorem shape_soft {k : Nat} {t : List UInt8} {h h' : Option UInt8} (hs : Shape k t h) (hb : ∀ c, h' = some c → blankB c = true) : Shape k t h' := by
  rcases hs with ⟨hk, hc, ha, hst⟩ | ⟨hk, hne, ha, hst⟩ | ⟨hk, ht⟩ | ⟨hk, c, ht, hc, hst⟩
  · exact .inl ⟨hk, hc, ha, fun c e => (blank_of (hb c e)).1⟩
  · exact .inr (.inl ⟨hk, hne, ha, fun c e => (blank_of (hb c e)).2.1⟩)
  · exact .inr (.inr (.inl ⟨hk, ht⟩))
  · exact .inr (.inr (.inr ⟨hk, c, ht, hc, fun e => absurd rfl (blank_of (hb 61 e)).2.2⟩))
theorem sc_none {c : UInt8} {r : List UInt8} (p n : Nat) (h0 : blankB c = false) (h1 : small c = false) (h2 : digit c = false) (h3 : signsL.contains c = false) : sc (c :: r) 0 p n = .err p 10 := by
  have hz := first_none (r := r) |>.2 ⟨h1, h2, h3⟩
  have hk := (firstOf_zero (c :: r)).2 hz
  have he : wrongOf (firstOf (c :: r)).1 ((c :: r).take (firstOf (c :: r)).2) n = 10 := by rw [hk]; rfl
  rw [sc_err h0 (by rw [he]; decide), he]
theorem sc_shape {k : Nat} {t r : List UInt8} (p n : Nat) (h : Shape k t r.head?) : sc (t ++ r) 0 p n =
    if wrongOf k t n = 0 then (sc r 0 (p + t.length) (n + 1)).pre [⟨k, t, p⟩] else .err p (wrongOf k t n) := by
  obtain ⟨hne, hb⟩ := shape_bytes h
  have hf := shape_first h
  obtain ⟨c, u, rfl⟩ := List.exists_cons_of_ne_nil hne
  have h0 := blank_not (hb c (by simp))
  have hf' : firstOf (c :: (u ++ r)) = (k, (c :: u).length) := hf
  have ht : (c :: (u ++ r)).take (c :: u).length = c :: u := List.take_left (l₁ := c :: u) (l₂ := r)
  have hd : (c :: (u ++ r)).drop (c :: u).length = r := List.drop_left (l₁ := c :: u) (l₂ := r)
  show sc (c :: (u ++ r)) 0 p n = _
  by_cases he : wrongOf k (c :: u) n = 0
  · rw [if_pos he, sc_tok h0 (by rw [hf', ht]; exact he), hf', ht, hd]
  · rw [if_neg he, sc_err h0 (by rw [hf', ht]; exact he), hf', ht]
theorem sc_ways (l : List UInt8) : l = [] ∨ (∃ c r, l = c :: r ∧ blankB c = true) ∨ (∃ c r, l = c :: r ∧ blankB c = false ∧ small c = false ∧ digit c = false ∧ signsL.contains c = false) ∨
    ∃ k t r, l = t ++ r ∧ Shape k t r.head? := by
  cases l with
  | nil => exact .inl rfl
  | cons c r =>
    cases hb : blankB c with
    | true => exact .inr (.inl ⟨c, r, rfl, hb⟩)
    | false =>
      by_cases hz : (firstOf (c :: r)).2 = 0
      · exact .inr (.inr (.inl ⟨c, r, rfl, hb, first_none.1 hz⟩))
      · obtain ⟨t, r', h1, _, h3⟩ := first_shape (l := c :: r) (k := (firstOf (c :: r)).1) (z := (firstOf (c :: r)).2) rfl hz
        exact .inr (.inr (.inr ⟨_, t, r', h1, h3⟩))
end Go.Proofs.YtkmpnlbppdekaaaDoor
end
section
set_option linter.unusedVariables false
namespace Go.Proofs.YtkmpnlbppdekaaaDoor
theorem sc_ind {P : List UInt8 → Prop} (h0 : P []) (h1 : ∀ c r, blankB c = true → P r → P (c :: r))
    (h2 : ∀ c r, blankB c = false → small c = false → digit c = false → signsL.contains c = false → P (c :: r))
    (h3 : ∀ k t r, Shape k t r.head? → P r → P (t ++ r)) : ∀ l, P l := by
  have : ∀ n, ∀ l : List UInt8, l.length ≤ n → P l := by
    intro n
    induction n with
    | zero =>
      intro l hl
      obtain rfl : l = [] := List.eq_nil_of_length_eq_zero (by omega)
      exact h0
    | succ n ih =>
      intro l hl
      rcases sc_ways l with rfl | ⟨c, r, rfl, hb⟩ | ⟨c, r, rfl, a, b, d, e⟩ | ⟨k, t, r, rfl, hs⟩
      · exact h0
      · exact h1 c r hb (ih r (by simpa using hl))
      · exact h2 c r a b d e
      · have hne := (shape_bytes hs).1
        refine h3 k t r hs (ih r ?_)
        cases t with
        | nil => exact absurd rfl hne
        | cons c u => simp at hl; omega
  exact fun l => this l.length l (Nat.le_refl _)
theorem pre_ok {acc y : List Tok} {x : Res} (h : x.pre acc = .ok y) : ∃ z, x = .ok z ∧ y = acc ++ z := by
  cases x with
  | ok z => exact ⟨z, rfl, by simp only [Res.pre, Res.ok.injEq] at h; exact h.symm⟩
  | err p e => simp [Res.pre] at h
theorem pre_err {acc : List Tok} {x : Res} {p e : Nat} (h : x.pre acc = .err p e) : x = .err p e := by
  cases x with
  | ok z => simp [Res.pre] at h
  | err q f => simpa [Res.pre] using h
def Alike : List Tok → List Tok → Prop
  | [], [] => True
  | s :: x, t :: y => s.kind = t.kind ∧ s.text = t.text ∧ Alike x y
  | _, _ => False
theorem Alike.len : ∀ {x y : List Tok}, Alike x y → x.length = y.length
  | [], [], _ => rfl
  | _ :: _, _ :: _, h => by rw [List.length_cons, List.length_cons, Alike.len h.2.2]
def Placed (s : List UInt8) : Nat → List Tok → Prop
  | _, [] => True
  | last, t :: y => last ≤ t.pl ∧ t.pl + t.text.length ≤ s.length ∧ (s.drop t.pl).take t.text.length = t.text ∧ t.text ≠ [] ∧ (∀ c ∈ t.text, 32 < c.toNat) ∧ Placed s (t.pl + t.text.length) y
theorem Placed.less {s : List UInt8} {a b : Nat} {y : List Tok} (h : Placed s a y) (hb : b ≤ a) : Placed s b y := by
  cases y with
  | nil => trivial
  | cons t y => exact ⟨by have := h.1; omega, h.2⟩
theorem sc_err_ne : ∀ (l : List UInt8) (p n q c : Nat), sc l 0 p n = .err q c → c ≠ 0 := by
  intro l
  refine sc_ind (P := fun l => ∀ (p n q c : Nat), sc l 0 p n = .err q c → c ≠ 0) ?_ ?_ ?_ ?_ l
  · intro p n q c h
    have e : Res.ok [] = .err q c := h
    cases e
  · intro d r hb ih p n q c h
    rw [sc_blank hb] at h
    exact ih _ _ _ _ h
  · intro d r a b' e f p n q c h
    rw [sc_none p n a b' e f] at h
    simp only [Res.err.injEq] at h
    omega
  · intro k t r hs ih p n q c h
    rw [sc_shape p n hs] at h
    by_cases he : wrongOf k t n = 0
    · rw [if_pos he] at h
      exact ih _ _ _ _ (pre_err h)
    · rw [if_neg he] at h
      simp only [Res.err.injEq] at h
      omega
theorem toks_err_ne {l : List UInt8} {q c : Nat} (h : toks l = .err q c) : c ≠ 0 := by
  unfold toks at h
  split at h
  · simp only [Res.err.injEq] at h; omega
  · exact sc_err_ne _ _ _ _ _ h
end Go.Proofs.YtkmpnlbppdekaaaDoor
end
section
set_option linter.unusedVariables false
namespace Go.Proofs.YtkmpnlbppdekaaaDoor
open Go.RowKit
theorem sc_okT : ∀ (l : List UInt8) (p n : Nat) (y : List Tok), l.length ≤ 16384 → sc l 0 p n = .ok y → ∀ t ∈ y, TokOk t := by
  intro l
  refine sc_ind (P := fun l => ∀ (p n : Nat) (y : List Tok), l.length ≤ 16384 → sc l 0 p n = .ok y → ∀ t ∈ y, TokOk t) ?_ ?_ ?_ ?_ l
  · intro p n y hl h
    have e : Res.ok [] = .ok y := h
    simp only [Res.ok.injEq] at e
    subst e
    intro t ht; cases ht
  · intro d r hb ih p n y hl h
    rw [sc_blank hb] at h
    exact ih _ _ _ (by simp at hl; omega) h
  · intro d r a b' e f p n y hl h
    rw [sc_none p n a b' e f] at h
    cases h
  · intro k t r hs ih p n y hl h
    rw [sc_shape p n hs] at h
    by_cases he : wrongOf k t n = 0
    · rw [if_pos he] at h
      obtain ⟨z, hz, rfl⟩ := pre_ok h
      intro u hu
      rcases List.mem_append.1 hu with hu | hu
      · obtain rfl : u = ⟨k, t, p⟩ := by simpa using hu
        have hk := wrongOf_kind he
        have hn := wrongOf_n he
        refine ⟨(shape_bytes hs).1, by simp at hl ⊢; omega, fun h1 => ?_, fun h2 => ?_⟩
        · have hs0 : Shape k t ([] : List UInt8).head? := shape_soft hs nofun
          have hf := shape_first hs0
          rw [List.append_nil] at hf
          have h1' : k = 1 := h1
          have h16 : t.length ≤ 16 := by
            by_cases h16 : t.length ≤ 16
            · exact h16
            · exfalso
              unfold wrongOf at he
              rw [if_neg hk, if_pos (.inl ⟨h1', by omega⟩)] at he
              cases he
          unfold nameB
          rw [hf]
          exact decide_eq_true ⟨h1', rfl, h16⟩
        · have h2' : k = 2 := h2
          refine ⟨?_, ?_⟩
          · rcases hs with ⟨hk', -⟩ | ⟨-, -, ha, -⟩ | ⟨hk', -⟩ | ⟨hk', -⟩
            · exfalso; rw [h2'] at hk'; split at hk' <;> omega
            · exact ha
            · omega
            · omega
          · show t.length ≤ 18
            by_cases h18 : t.length ≤ 18
            · exact h18
            · exfalso
              unfold wrongOf at he
              rw [if_neg hk, if_neg (by omega), if_pos ⟨h2', .inl (by omega)⟩] at he
              cases he
      · exact ih _ _ _ (by simp at hl; omega) hz u hu
    · rw [if_neg he] at h
      cases h
theorem toks_okT {l : List UInt8} {y : List Tok} (h : toks l = .ok y) : ∀ t ∈ y, TokOk t := by
  unfold toks at h
  split at h
  · cases h
  · exact sc_okT l 0 0 y (by omega) h
section
variable {a b : List UInt8}
end
end Go.Proofs.YtkmpnlbppdekaaaDoor
end
section
set_option linter.unusedVariables false
set_option linter.unusedSimpArgs false
namespace Go.Proofs.YtkmpnlbppdekaaaDoor
open Go.RowKit
set_option maxHeartbeats 2000000 in
theorem xcatch_idle (p q : Addr) (w : World) :
    CallsD Tryd.prog 25 #[.pointer (some p), .pointer (some q)] .returning w fun e u' w' => e = .returned (.tuple #[]) ∧ u' = .returning ∧ Below w.heap.size w w' := by
  refine callsD_of_wpS Tryd.func25 rfl fun c₀ cs hu => ?_
  have h1 := assert_nilF
  have h2 : ∀ w : World, (binOp .neq 20 .nilIface .nilIface).run Tryd.prog w = .ok (.bool false) w := fun _ => by kernel_rfl
  have HB := Lib.hid (below_new w (.cells #[.int .i64 0, .int .i64 0] 60))
  apply wpS_seq
  apply wpS_region
  simp [wpOpsS, go_sem, recoverD, hu, Tryd.ntmps25, Exit.thenS]
  refine wpS_of_wp ?_
  rw [tmps_catchR]
  go_wp2
  clear h1 h2
  cases c₀
  simp_all [bodyPostS, results, Tryd.results25]
  exact HB.out
set_option maxHeartbeats 2000000 in
theorem xcatch_panicking (p q : Addr) (w : World) (x y : Int) (s n : Int) (hp : w.cell? p = some (.int .i64 s)) (hq : w.cell? q = some (.int .i64 n)) (zp : w.frozen? p = false) (zq : w.frozen? q = false) (hne : ¬ p.block = q.block) (hne' : ¬ q.block = p.block) :
    CallsD Tryd.prog 25 #[.pointer (some p), .pointer (some q)] (.panicking [{ v := .iface 60 (.agg #[.int .i64 x, .int .i64 y]), recovered := false }]) w fun e u' w' => e = .returned (.tuple #[]) ∧ u' = .panicking [{ v := .iface 60 (.agg #[.int .i64 x, .int .i64 y]), recovered := true }] ∧
      w' = (((w.alloc (.cells #[.int .i64 x, .int .i64 y] 60)).setCell p (.int .i64 x)).drew.setCell q (.int .i64 y)) := by
  refine callsD_of_wpS Tryd.func25 rfl fun c₀ cs hu => ?_
  have h1 := assert_fault
  have hrow := heap_alloc_new w (.cells #[.int .i64 x, .int .i64 y] 60)
  have c0 : (w.alloc (.cells #[.int .i64 x, .int .i64 y] 60)).cell? ⟨w.heap.size, 0, none⟩ = some (.int .i64 x) := by rw [cell_of_row _ _ 0 _ _ (0, 0) hrow]; rfl
  have c1 : (w.alloc (.cells #[.int .i64 x, .int .i64 y] 60)).cell? ⟨w.heap.size, 1, none⟩ = some (.int .i64 y) := by rw [cell_of_row _ _ 1 _ _ (0, 0) hrow]; rfl
  clear hrow
  apply wpS_seq
  apply wpS_region
  simp [wpOpsS, go_sem, recoverD, hu, Tryd.ntmps25, Exit.thenS]
  refine wpS_of_wp ?_
  rw [tmps_catchR]
  go_wp2_with fail
  refine wp_region_held_drew (S := fun W => W.cell? ⟨w.heap.size, 0, none⟩ = some (.int .i64 x) ∧ W.cell? ⟨w.heap.size, 1, none⟩ = some (.int .i64 y)) (by kernel_rfl) ⟨c0, c1⟩ (fun hHeld => ?_)
  refine wpAnyH_take (i := 0) (oi := _) (v := .pointer (some ⟨w.heap.size, 0, none⟩)) rfl (by kernel_rfl) (by kernel_rfl) (by kernel_rfl) (fun _ _ _ h => h) (Or.inl ⟨by rfl, fun W hS => ?_⟩) hHeld ?_
  · obtain ⟨s0, s1⟩ := hS
    go_simp
  simp only [Act.put]
  refine wpAnyH_take (i := 1) (oi := _) (v := .int .i64 x) rfl (by kernel_rfl) (by kernel_rfl) (by kernel_rfl) (fun _ _ _ h => h) (Or.inl ⟨by rfl, fun W hS => ?_⟩) hHeld ?_
  · obtain ⟨s0, s1⟩ := hS
    go_simp
  simp only [Act.put]
  refine wpAnyH_take (i := 2) (oi := _) (v := .pointer (some ⟨w.heap.size, 1, none⟩)) rfl (by kernel_rfl) (by kernel_rfl) (by kernel_rfl) (fun _ _ _ h => h) (Or.inl ⟨by rfl, fun W hS => ?_⟩) hHeld ?_
  · obtain ⟨s0, s1⟩ := hS
    go_simp
  simp only [Act.put]
  refine wpAnyH_take (i := 3) (oi := _) (v := .int .i64 y) rfl (by kernel_rfl) (by kernel_rfl) (by kernel_rfl) (fun _ _ _ h => h) (Or.inl ⟨by rfl, fun W hS => ?_⟩) hHeld ?_
  · obtain ⟨s0, s1⟩ := hS
    go_simp
  simp only [Act.put]
  have p0 : (w.alloc (.cells #[.int .i64 x, .int .i64 y] 60)).drew.cell? p = some (.int .i64 s) := alloc_cell hp _
  have p1 : (w.alloc (.cells #[.int .i64 x, .int .i64 y] 60)).drew.frozen? p = false := alloc_frozen hp zp _
  have hlp := World.block_lt_of_cell? _ _ hp
  have hlq := World.block_lt_of_cell? _ _ hq
  have q0 : (w.alloc (.cells #[.int .i64 x, .int .i64 y] 60)).drew.cell? q = some (.int .i64 n) := alloc_cell hq _
  have q1 : (w.alloc (.cells #[.int .i64 x, .int .i64 y] 60)).drew.frozen? q = false := alloc_frozen hq zq _
  refine wpAnyH_ready (rs := [4]) (by kernel_rfl) (by simp) ?_
  refine AllReadyH.cons rfl (fun K hK => ?_) AllReadyH.nil
  go_simp
  obtain ⟨W1, hW1⟩ : ∃ W, W = ((w.alloc (.cells #[.int .i64 x, .int .i64 y] 60)).setCell p (.int .i64 x)).drew := ⟨_, rfl⟩
  have e0 : W1.cell? ⟨w.heap.size, 0, none⟩ = some (.int .i64 x) := by rw [hW1]; exact (World.cell?_of_block (Below.heap_setCell _ _ _ _ (by show w.heap.size ≠ p.block; omega))).trans c0
  have e1 : W1.cell? ⟨w.heap.size, 1, none⟩ = some (.int .i64 y) := by rw [hW1]; exact (World.cell?_of_block (Below.heap_setCell _ _ _ _ (by show w.heap.size ≠ p.block; omega))).trans c1
  have e2 : W1.cell? q = some (.int .i64 n) := by rw [hW1]; exact (World.cell?_of_block (Below.heap_setCell _ _ _ _ hne')).trans q0
  have e3 : W1.frozen? q = false := by rw [hW1]; exact (World.frozen?_of_block (Below.heap_setCell _ _ _ _ hne')).trans q1
  rw [← hW1]
  have HW1 := Lib.hid hW1
  clear hW1 p0 p1 q0 q1
  refine hK.out _ _ ⟨e0, e1⟩ (fun hHeld => ?_)
  clear hK K
  refine wpAnyH_ready (rs := [5]) (by kernel_rfl) (by simp) ?_
  refine AllReadyH.cons rfl (fun K hK => ?_) AllReadyH.nil
  go_simp
  refine hK.out _ _ ⟨(World.cell?_of_block (Below.heap_setCell _ _ _ _ (by show w.heap.size ≠ q.block; omega))).trans e0, (World.cell?_of_block (Below.heap_setCell _ _ _ _ (by show w.heap.size ≠ q.block; omega))).trans e1⟩ (fun hHeld => ?_)
  clear hK K
  refine wpAnyH_done (by kernel_rfl) ?_ _
  clear hHeld e0 e1 e2 e3
  go_wp2
  simp [bodyPostS, results, Tryd.results25, HW1.out]
  rfl
end Go.Proofs.YtkmpnlbppdekaaaDoor
end
section
set_option linter.unusedVariables false
namespace Go.Proofs.YtkmpnlbppdekaaaDoor
open Go.RowKit
def alA : List UInt8 := [116, 104, 114, 101, 97, 100, 32, 116, 32, 123, 32, 111, 117, 116, 32, 115, 32, 40, 32, 97, 32, 43, 32, 49, 32, 41, 32, 59, 32, 125]
def alB : List UInt8 := [116, 104, 114, 101, 97, 100, 32, 116, 32, 123, 32, 111, 117, 116, 32, 115, 32, 40, 32, 97, 32, 43, 32, 49, 32, 41, 32, 59]
def alC : List UInt8 := [97, 46, 98, 91, 49, 93]
theorem al_a : (progM alA).2 = (0, 0) := by kernel_rfl
theorem al_b : (progM alB).2 = (28, 20) := by kernel_rfl
theorem al_c : (exprP alC).2 = (0, 0) := by kernel_rfl
theorem al_a1 : (progM alA).1.map (fun d => d.body.map (fun m => m.exprs.map (fun e => e.name))) = [[[[43]]]] := by kernel_rfl
theorem al_c1 : (exprP alC).1.kind = 6 ∧ (exprP alC).1.pl = 3 := by constructor <;> kernel_rfl
end Go.Proofs.YtkmpnlbppdekaaaDoor
end
