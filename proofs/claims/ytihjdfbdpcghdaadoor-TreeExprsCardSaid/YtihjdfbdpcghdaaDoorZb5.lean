/- Vf Vs -/
import Derived.Test.YtihjdfbdpcghdaaDoorZb0
import Derived.IntWalk
import Derived.Shelf.Small.Strs
import Derived.Shelf.Small.Wraps
import Derived.Shelf.Strconv.Itoa0
import Derived.Shelf.Strconv.Itoa1
import Derived.Shelf.LaysM
import Derived.Shelf.Strconv.Itoa2
import Derived.Shelf.Strconv.Itoa3
import Derived.Shelf.Strconv.Clone
import Derived.Shelf.Strings.Search1
import Derived.Shelf.Strings.Prefix
import Derived.Shelf.Slices.Turned
import Derived.Test.YtihjdfbdpcghdaaDoorRows
section
set_option linter.unusedVariables false
namespace Go.Proofs.YtihjdfbdpcghdaaDoor
open Go.RowKit
theorem assert_errno (n : Int) (w : World) : (Instr.typeAssert (.iface 28 (.int .i64 n)) 20 28 true).run Tryd.prog w = .ok (.tuple #[.int .i64 n, .bool true]) w := by kernel_rfl
theorem assert_nil (w : World) : (Instr.typeAssert .nilIface 20 28 true).run Tryd.prog w = .ok (.tuple #[.int .i64 0, .bool false]) w := by kernel_rfl
theorem tmps_catch (a b x : Value) : #[a, b] ++ ((Array.replicate 14 undef).setIfInBounds 3 x).setIfInBounds 0 x = #[a, b, x, undef, undef, x, undef, undef, undef, undef, undef, undef, undef, undef, undef, undef] := rfl
set_option maxHeartbeats 2000000 in
theorem catch_idle (p q : Addr) (w : World) :
    CallsD Tryd.prog 25 #[.pointer (some p), .pointer (some q)] .returning w fun e u' w' => e = .returned (.tuple #[]) ∧ u' = .returning ∧ w' = w := by
  refine callsD_of_wpS Tryd.func25 rfl fun c₀ cs hu => ?_
  have h1 := assert_nil
  have h2 : ∀ w : World, (binOp .neq 20 .nilIface .nilIface).run Tryd.prog w = .ok (.bool false) w := fun _ => by kernel_rfl
  apply wpS_seq
  apply wpS_region
  simp [wpOpsS, go_sem, recoverD, hu, Tryd.ntmps25, Exit.thenS]
  refine wpS_of_wp ?_
  rw [tmps_catch]
  go_wp2
  clear h1 h2
  cases c₀
  simp_all [bodyPostS, results, Tryd.results25]
set_option maxHeartbeats 2000000 in
theorem catch_panicking (p q : Addr) (w : World) (s : ByteArray) (n : Int) (hp : w.cell? p = some (.string s)) (hq : w.cell? q = some (.int .i64 n)) (zp : w.frozen? p = false) (zq : w.frozen? q = false) (hne : ¬ p.block = q.block) (hne' : ¬ q.block = p.block) :
    CallsD Tryd.prog 25 #[.pointer (some p), .pointer (some q)] (.panicking [{ v := .iface 28 (.int .i64 23), recovered := false }]) w fun e u' w' => e = .returned (.tuple #[]) ∧ u' = .panicking [{ v := .iface 28 (.int .i64 23), recovered := true }] ∧
      w' = (w.setCell p (.string ⟨#[]⟩)).setCell q (.int .i64 23) := by
  refine callsD_of_wpS Tryd.func25 rfl fun c₀ cs hu => ?_
  have h1 := assert_errno
  have hq2 : (w.setCell p (.string ⟨#[]⟩)).cell? q = some (.int .i64 n) := (World.cell?_of_block (Below.heap_setCell _ _ _ _ hne')).trans hq
  have zq2 : (w.setCell p (.string ⟨#[]⟩)).frozen? q = false := (World.frozen?_of_block (Below.heap_setCell _ _ _ _ hne')).trans zq
  apply wpS_seq
  apply wpS_region
  simp [wpOpsS, go_sem, recoverD, hu, Tryd.ntmps25, Exit.thenS]
  refine wpS_of_wp ?_
  rw [tmps_catch]
  go_wp2
  simp [bodyPostS, results, Tryd.results25]
def penV (Bc Ba : Nat) : Value := .func (.func 26) #[] #[.pointer (some ⟨Bc, 0, none⟩), .pointer (some ⟨Ba, 0, none⟩)]
def Writes (F : FuncId) (caps : Array Value) (w : World) (C : Ts) : Prop := ∀ (wx : World) (Bc Ba : Nat), Below w.heap.size w wx → w.heap.size ≤ wx.heap.size → PenAt wx Bc Ba w.heap.size (.slice none 0 0) [] →
  Calls Tryd.prog F (#[penV Bc Ba] ++ caps) wx (PenPost wx Bc Ba w.heap.size (.slice none 0 0) (adv [] C))
theorem own_none {Bc Ba b : Nat} (h : Mine Bc Ba (.slice none 0 0) b) : b = Bc ∨ b = Ba := by
  rcases h with h | h | h
  · exact .inl h
  · exact .inr h
  · cases h
set_option maxRecDepth 100000 in
set_option maxHeartbeats 2000000 in
theorem written_any (F : FuncId) (caps : Array Value) (w : World) (C : Ts) (hent : ∀ args w, (callFunc F args).run Tryd.prog w = .ok (.enter F args) w) (hw : Writes F caps w C) :
    Calls Tryd.prog 15 #[.func (.func F) #[] caps] w fun e w' => e = .returned (.tuple #[.string (strOf (fin C).1), .int .i64 (fin C).2]) ∧ Below w.heap.size w w' := by
  have hmf : ∀ (fn : Fn) (first cap : Array Value) (w : World), (Instr.makeFunc fn first cap).run Tryd.prog w = .ok (.func fn first cap) w := fun _ _ _ _ => rfl
  have HW := Lib.hid hw
  clear hw
  go_enter_defers Tryd.func15, Tryd.ntmps15
  go_wp2_with fail
  obtain ⟨X, hX⟩ : ∃ X : World, X = (((w.alloc (.cells #[.string ⟨#[]⟩] 9)).alloc (.cells #[.int .i64 0] 28)).alloc (.cells #[.slice none 0 0] 56)).alloc (.cells #[.int .i64 0] 3) := ⟨_, rfl⟩
  obtain ⟨g, hg⟩ : ∃ g, g = w.heap.size := ⟨_, rfl⟩
  have h0 : X.heap[g]? = some (.cells #[.string ⟨#[]⟩] 9 (0, 0)) := by
    rw [hX, hg, Below.heap_alloc _ _ _ (by simp; omega), Below.heap_alloc _ _ _ (by simp; omega), Below.heap_alloc _ _ _ (by simp)]; exact heap_alloc_new _ _
  have h1 : X.heap[g + 1]? = some (.cells #[.int .i64 0] 28 (0, 0)) := by
    rw [hX, hg, Below.heap_alloc _ _ _ (by simp), Below.heap_alloc _ _ _ (by simp)]
    have := heap_alloc_new (w.alloc (.cells #[.string ⟨#[]⟩] 9)) (.cells #[.int .i64 0] 28)
    simpa using this
  have h2 : X.heap[g + 1 + 1]? = some (.cells #[.slice none 0 0] 56 (0, 0)) := by
    rw [hX, hg, Below.heap_alloc _ _ _ (by simp)]
    have := heap_alloc_new ((w.alloc (.cells #[.string ⟨#[]⟩] 9)).alloc (.cells #[.int .i64 0] 28)) (.cells #[.slice none 0 0] 56)
    simpa using this
  have h3 : X.heap[g + 1 + 1 + 1]? = some (.cells #[.int .i64 0] 3 (0, 0)) := by
    rw [hX, hg]
    have := heap_alloc_new (((w.alloc (.cells #[.string ⟨#[]⟩] 9)).alloc (.cells #[.int .i64 0] 28)).alloc (.cells #[.slice none 0 0] 56)) (.cells #[.int .i64 0] 3)
    simpa using this
  have hs : X.heap.size = g + 4 := by rw [hX, hg]; simp
  have hb : Below w.heap.size w X := by
    rw [hX]; exact ((((Below.refl _ w).alloc (Nat.le_refl _) _).alloc (by simp) _).alloc (by simp; omega) _).alloc (by simp; omega) _
  rw [← hX, ← hg]
  have hp : PenAt X (g + 1 + 1 + 1) (g + 1 + 1) w.heap.size (.slice none 0 0) [] := ⟨h3, h2, OwnBytes.nil _ _, fits_nil, by omega, by omega⟩
  have HX0 := Lib.hid h0
  have HX1 := Lib.hid h1
  have HS := Lib.hid hs
  have HG := Lib.hid hg
  have HBX := Lib.hid hb
  have hcall := HW.out X (g + 1 + 1 + 1) (g + 1 + 1) hb (by omega) hp
  clear hX h0 h1 h2 h3 hs hb hp hg
  refine hcall.mono ?_
  clear hcall
  rintro e w1 hpost
  cases hC : adv [] C with
  | none =>
    rw [hC] at hpost
    obtain ⟨rfl, hch⟩ := hpost
    have q0 : w1.heap[g]? = some (.cells #[.string ⟨#[]⟩] 9 (0, 0)) := (hch.block g (by rw [HS.out]; omega) (fun h => by have := own_none h; omega)).trans HX0.out
    have q1 : w1.heap[g + 1]? = some (.cells #[.int .i64 0] 28 (0, 0)) := (hch.block (g + 1) (by rw [HS.out]; omega) (fun h => by have := own_none h; omega)).trans HX1.out
    have hb1 : Below w.heap.size w w1 := HBX.out.trans (hch.below (by rw [HS.out, ← HG.out]; omega) (fun x hx => by have := own_none hx; have := HG.out; omega))
    have HB1 := Lib.hid hb1
    have c0 := cell_of_row w1 g 0 _ _ (0, 0) q0
    have c1 := cell_of_row w1 (g + 1) 0 _ _ (0, 0) q1
    have z0 := frozen_of_row w1 g 0 _ _ q0
    have z1 := frozen_of_row w1 (g + 1) 0 _ _ q1
    have e0 : (w1.setCell ⟨g, 0, none⟩ (.string ⟨#[]⟩)).cell? ⟨g, 0, none⟩ = some (.string ⟨#[]⟩) := by
      rw [cell_of_row _ g 0 _ _ (0, 0) (set_one q0 _)]; rfl
    have e2 : ((w1.setCell ⟨g, 0, none⟩ (.string ⟨#[]⟩)).setCell ⟨g + 1, 0, none⟩ (.int .i64 23)).cell? ⟨g + 1, 0, none⟩ = some (.int .i64 23) := by
      rw [cell_of_row _ (g + 1) 0 _ _ (0, 0) (set_one ((Below.heap_setCell _ _ _ _ (by simp)).trans q1) _)]; rfl
    have HFIN : Hid (fin C = ([], 23)) := Lib.hid (by unfold fin; rw [← adv_start, hC])
    clear hC q0 q1 hb1 hch
    unfold boom
    go_wp2
    refine leaves_cons (f := 25) (args := #[.pointer (some ⟨g, 0, none⟩), .pointer (some ⟨g + 1, 0, none⟩)]) (by simp) (by simp [go_sem]) ?_
    refine (catch_panicking ⟨g, 0, none⟩ ⟨g + 1, 0, none⟩ w1 _ _ c0 c1 z0 z1 (by simp) (by simp)).mono ?_
    rintro e u' w'' ⟨rfl, rfl, rfl⟩
    simp [Leaves, settle, results, Tryd.results15, go_sem, e0, e2]
    rw [HFIN.out]
    refine ⟨⟨rfl, rfl⟩, ?_⟩
    have := HG.out
    exact (HB1.out.setCell (by simp; omega) _).setCell (by simp; omega) _
  | some T =>
    rw [hC] at hpost
    obtain ⟨rfl, v', hwent⟩ := hpost
    have hch := hwent.2.2
    have q0 : w1.heap[g]? = some (.cells #[.string ⟨#[]⟩] 9 (0, 0)) := (hch.block g (by rw [HS.out]; omega) (fun h => by have := own_none h; omega)).trans HX0.out
    have q1 : w1.heap[g + 1]? = some (.cells #[.int .i64 0] 28 (0, 0)) := (hch.block (g + 1) (by rw [HS.out]; omega) (fun h => by have := own_none h; omega)).trans HX1.out
    have hb1 : Below w.heap.size w w1 := HBX.out.trans (hch.below (by rw [HS.out, ← HG.out]; omega) (fun x hx => by have := own_none hx; have := HG.out; omega))
    have HB1 := Lib.hid hb1
    have hcv := hwent.1.own.conv
    have hq2 := hwent.1.buf
    obtain ⟨A, c, rfl⟩ := hwent.1.own.form
    obtain ⟨L, hL⟩ : ∃ L, L = (joinT T).length := ⟨_, rfl⟩
    rw [← hL] at hcv hq2
    obtain ⟨tx, htx⟩ : ∃ t, t = strOf (joinT T) := ⟨_, rfl⟩
    rw [← htx] at hcv
    have c0 := cell_of_row w1 g 0 _ _ (0, 0) q0
    have c1 := cell_of_row w1 (g + 1) 0 _ _ (0, 0) q1
    have c2 := cell_of_row w1 (g + 1 + 1) 0 _ _ (0, 0) hq2
    have z0 := frozen_of_row w1 g 0 _ _ q0
    have z1 := frozen_of_row w1 (g + 1) 0 _ _ q1
    simp at c0 c1 c2
    have c3 : (w1.setCell ⟨g, 0, none⟩ (.string tx)).cell? ⟨g + 1, 0, none⟩ = some (.int .i64 0) := (World.cell?_of_block (Below.heap_setCell _ _ _ _ (by simp))).trans c1
    have z3 : (w1.setCell ⟨g, 0, none⟩ (.string tx)).frozen? ⟨g + 1, 0, none⟩ = false := (World.frozen?_of_block (Below.heap_setCell _ _ _ _ (by simp))).trans z1
    have e0 : (w1.setCell ⟨g, 0, none⟩ (.string tx)).cell? ⟨g, 0, none⟩ = some (.string tx) := by
      rw [cell_of_row _ g 0 _ _ (0, 0) (set_one q0 _)]; rfl
    have e2 : ((w1.setCell ⟨g, 0, none⟩ (.string tx)).setCell ⟨g + 1, 0, none⟩ (.int .i64 0)).cell? ⟨g + 1, 0, none⟩ = some (.int .i64 0) := by
      rw [cell_of_row _ (g + 1) 0 _ _ (0, 0) (set_one ((Below.heap_setCell _ _ _ _ (by simp)).trans q1) _)]; rfl
    have HFIN : Hid (fin C = (joinT T, 0)) := Lib.hid (by unfold fin; rw [← adv_start, hC])
    have HTX := Lib.hid htx
    clear hC q0 q1 hb1 hch hwent hq2 hL htx
    go_wp2
    refine leaves_cons (f := 25) (args := #[.pointer (some ⟨g, 0, none⟩), .pointer (some ⟨g + 1, 0, none⟩)]) (by simp) (by simp [go_sem]) ?_
    refine (catch_idle ⟨g, 0, none⟩ ⟨g + 1, 0, none⟩ _).mono ?_
    rintro e u' w'' ⟨rfl, rfl, rfl⟩
    simp [Leaves, settle, results, Tryd.results15, go_sem, e0, e2]
    rw [HFIN.out, HTX.out]
    refine ⟨⟨rfl, rfl⟩, ?_⟩
    have := HG.out
    exact (HB1.out.setCell (by simp; omega) _).setCell (by simp; omega) _
end Go.Proofs.YtihjdfbdpcghdaaDoor
end
section
namespace Go.Proofs.YtihjdfbdpcghdaaDoor
open Go.Shelf
def lays103_cut_ren : Go.Shelf.Ren := ⟨fun | 103 => 39 | 210 => 48 | 206 => 59 | n => n, fun | 9 => 9 | 4 => 4 | 24 => 75 | 3 => 3 | n => n, fun | n => n⟩
theorem lays103_cut : Go.Proofs.Lays.n103 Tryd.prog lays103_cut_ren := {
  mixed := by kernel_rfl
  f103 := Tryd.func39.trans (congrArg some (by kernel_rfl))
  f206 := Tryd.func59.trans (congrArg some (by kernel_rfl))
  f210 := Tryd.func48.trans (congrArg some (by kernel_rfl))
  t3 := Tryd.underlying3
  a3 := Tryd.isAgg3
  z3 := Tryd.sizeOf3
  v3 := Tryd.zeroValue3
  t4 := Tryd.underlying4
  a4 := Tryd.isAgg4
  z4 := Tryd.sizeOf4
  v4 := Tryd.zeroValue4
  t9 := Tryd.underlying9
  a9 := Tryd.isAgg9
  z9 := Tryd.sizeOf9
  v9 := Tryd.zeroValue9
  t24 := Tryd.underlying75
  a24 := Tryd.isAgg75
  z24 := Tryd.sizeOf75
  v24 := Tryd.zeroValue75 }
open Go.RowKit in
theorem strings_CutPrefix (s p : ByteArray) (w : World) :
    Calls Tryd.prog 39 #[.string s, .string p] w fun e w' => e = .returned (.tuple #[.string ⟨(Lib.trimPrefix s.data.toList p.data.toList).toArray⟩, .bool (Lib.hasPrefix s.data.toList p.data.toList)]) ∧ w' = w := Any.strings_CutPrefix lays103_cut s p w
def laysM171_ren : Go.Shelf.Ren := ⟨fun | 171 => 45 | 243 => 57 | 246 => 68 | 283 => 80 | 284 => 81 | 285 => 82 | 286 => 83 | 129 => 87 | 317 => 86 | 318 => 88 | 319 => 89 | 320 => 90 | 337 => 92 | 338 => 93 | n => n, fun | 3 => 3 | 9 => 9 | 2 => 2 | 4 => 4 | 171 => 105 | 0 => 0 | 53 => 106 | 37 => 56 | 5 => 5 | 173 => 109 | 212 => 113 | 51 => 114 | 20 => 20 | 213 => 115 | 46 => 116 | 232 => 119 | 233 => 120 | n => n, fun | 17 => 0 | 18 => 2 | 19 => 3 | n => n⟩
theorem laysM171 : Go.Proofs.LaysM.n171 Tryd.prog laysM171_ren := {
  mixed := by kernel_rfl
  f129 := Tryd.func87.trans (congrArg some (by kernel_rfl))
  f171 := Tryd.func45.trans (congrArg some (by kernel_rfl))
  f243 := Tryd.func57.trans (congrArg some (by kernel_rfl))
  f246 := Tryd.func68.trans (congrArg some (by kernel_rfl))
  f283 := Tryd.func80.trans (congrArg some (by kernel_rfl))
  f284 := Tryd.func81.trans (congrArg some (by kernel_rfl))
  f285 := Tryd.func82.trans (congrArg some (by kernel_rfl))
  f286 := Tryd.func83.trans (congrArg some (by kernel_rfl))
  f317 := Tryd.func86.trans (congrArg some (by kernel_rfl))
  f318 := Tryd.func88.trans (congrArg some (by kernel_rfl))
  f319 := Tryd.func89.trans (congrArg some (by kernel_rfl))
  f320 := Tryd.func90.trans (congrArg some (by kernel_rfl))
  f337 := Tryd.func92.trans (congrArg some (by kernel_rfl))
  f338 := Tryd.func93.trans (congrArg some (by kernel_rfl))
  t0 := Tryd.underlying0
  a0 := Tryd.isAgg0
  z0 := Tryd.sizeOf0
  v0 := Tryd.zeroValue0
  t2 := Tryd.underlying2
  a2 := Tryd.isAgg2
  z2 := Tryd.sizeOf2
  v2 := Tryd.zeroValue2
  t3 := Tryd.underlying3
  a3 := Tryd.isAgg3
  z3 := Tryd.sizeOf3
  v3 := Tryd.zeroValue3
  t4 := Tryd.underlying4
  a4 := Tryd.isAgg4
  z4 := Tryd.sizeOf4
  v4 := Tryd.zeroValue4
  t5 := Tryd.underlying5
  a5 := Tryd.isAgg5
  z5 := Tryd.sizeOf5
  v5 := Tryd.zeroValue5
  t9 := Tryd.underlying9
  a9 := Tryd.isAgg9
  z9 := Tryd.sizeOf9
  v9 := Tryd.zeroValue9
  t20 := Tryd.underlying20
  a20 := Tryd.isAgg20
  z20 := Tryd.sizeOf20
  v20 := Tryd.zeroValue20
  t37 := Tryd.underlying56
  a37 := Tryd.isAgg56
  z37 := Tryd.sizeOf56
  v37 := Tryd.zeroValue56
  t46 := Tryd.underlying116
  a46 := Tryd.isAgg116
  z46 := Tryd.sizeOf116
  v46 := Tryd.zeroValue116
  t51 := Tryd.underlying114
  a51 := Tryd.isAgg114
  z51 := Tryd.sizeOf114
  v51 := Tryd.zeroValue114
  t53 := Tryd.underlying106
  a53 := Tryd.isAgg106
  z53 := Tryd.sizeOf106
  v53 := Tryd.zeroValue106
  t171 := Tryd.underlying105
  a171 := Tryd.isAgg105
  z171 := Tryd.sizeOf105
  v171 := Tryd.zeroValue105
  t173 := Tryd.underlying109
  a173 := Tryd.isAgg109
  z173 := Tryd.sizeOf109
  v173 := Tryd.zeroValue109
  t212 := Tryd.underlying113
  a212 := Tryd.isAgg113
  z212 := Tryd.sizeOf113
  v212 := Tryd.zeroValue113
  t213 := Tryd.underlying115
  a213 := Tryd.isAgg115
  z213 := Tryd.sizeOf115
  t232 := Tryd.underlying119
  a232 := Tryd.isAgg119
  z232 := Tryd.sizeOf119
  v232 := Tryd.zeroValue119
  t233 := Tryd.underlying120
  a233 := Tryd.isAgg120
  z233 := Tryd.sizeOf120
  v233 := Tryd.zeroValue120
  g17 := by kernel_rfl
  g18 := by kernel_rfl
  g19 := by kernel_rfl
  i0 := by kernel_rfl
  i2 := by kernel_rfl
  i3 := by kernel_rfl
  i4 := by kernel_rfl
  i5 := by kernel_rfl
  i9 := by kernel_rfl
  i20 := by kernel_rfl
  i37 := by kernel_rfl
  i46 := by kernel_rfl
  i51 := by kernel_rfl
  i53 := by kernel_rfl
  i171 := by kernel_rfl
  i173 := by kernel_rfl
  i212 := by kernel_rfl
  i232 := by kernel_rfl
  i233 := by kernel_rfl
  m17 := by kernel_rfl
  m18 := by kernel_rfl
  m19 := by kernel_rfl }
open Go.RowKit Go.Sort Go.Lib in
theorem strconv_Itoa (n : Int) (h0 : -9223372036854775808 ≤ n) (h1 : n ≤ 9223372036854775807) (w : World) (htab : Lib.TabIs Tryd.prog w "internal/strconv.uint64pow10" .u64 Lib.pow10Tab) :
    Calls Tryd.prog 45 #[.int .i64 n] w fun e w' => e = .returned (.string ⟨(Lib.itoa n).toArray⟩) ∧ ∃ k os, w' = grow (w.drewN k) os := Any.strconv_Itoa laysM171 n h0 h1 w htab
def lays110_con_ren : Go.Shelf.Ren := ⟨fun | 110 => 47 | 109 => 58 | n => n, fun | 31 => 34 | 9 => 9 | 4 => 4 | 3 => 3 | 0 => 0 | n => n, fun | n => n⟩
theorem lays110_con : Go.Proofs.Lays.n110 Tryd.prog lays110_con_ren := {
  mixed := by kernel_rfl
  f109 := Tryd.func58.trans (congrArg some (by kernel_rfl))
  f110 := Tryd.func47.trans (congrArg some (by kernel_rfl))
  t0 := Tryd.underlying0
  a0 := Tryd.isAgg0
  z0 := Tryd.sizeOf0
  v0 := Tryd.zeroValue0
  t3 := Tryd.underlying3
  a3 := Tryd.isAgg3
  z3 := Tryd.sizeOf3
  v3 := Tryd.zeroValue3
  t4 := Tryd.underlying4
  a4 := Tryd.isAgg4
  z4 := Tryd.sizeOf4
  v4 := Tryd.zeroValue4
  t9 := Tryd.underlying9
  a9 := Tryd.isAgg9
  z9 := Tryd.sizeOf9
  v9 := Tryd.zeroValue9
  t31 := Tryd.underlying34
  a31 := Tryd.isAgg34
  z31 := Tryd.sizeOf34
  v31 := Tryd.zeroValue34 }
open Go.Lib in
theorem slices_Contains_string (b off n c : Nat) (zs : List ByteArray) (x : ByteArray) (w : World) (hz : n ≤ zs.length) (hbig : n ≤ 9223372036854775807) (hc : ∀ j, j < zs.length → w.cell? ⟨b, off + j, none⟩ = some (.string (zs.getD j ByteArray.empty))) :
    Calls Tryd.prog 47 #[.slice (some ⟨b, off, none⟩) n c, .string x] w fun e w' => e = .returned (.bool (Lib.containsS (zs.take n) x)) ∧ w' = w := Any.slices_Contains_string lays110_con b off n c zs x w hz hbig hc
end Go.Proofs.YtihjdfbdpcghdaaDoor
end
