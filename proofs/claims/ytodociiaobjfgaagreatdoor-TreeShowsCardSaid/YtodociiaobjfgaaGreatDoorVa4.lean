/- Vf Vs Vg Vh Vj -/
import Derived.Test.YtodociiaobjfgaaGreatDoorVa1
import Derived.Shelf.Small.Wraps
import Derived.Shelf.Strconv.Itoa0
import Derived.Shelf.Strconv.Itoa1
import Derived.Shelf.Strconv.Itoa2
import Derived.Shelf.Strconv.Itoa3
import Derived.Shelf.Slices.Turned
import Derived.Test.YtodociiaobjfgaaGreatDoorRows
import Derived.Lib.AppendIntMem
set_option linter.unusedVariables false
set_option linter.unusedSimpArgs false
namespace Go.Proofs.YtodociiaobjfgaaGreatDoor
open Go.RowKit
theorem Xmo (n : Int) (w : World) : (Instr.typeAssert (.iface 28 (.int .i64 n)) 20 28 true).run Tryz.prog w = .ok (.tuple #[.int .i64 n, .bool true]) w := by kernel_rfl
theorem Xrj (w : World) : (Instr.typeAssert .nilIface 20 28 true).run Tryz.prog w = .ok (.tuple #[.int .i64 0, .bool false]) w := by kernel_rfl
theorem Xlj (a b x : Value) : #[a, b] ++ ((Array.replicate 14 undef).setIfInBounds 3 x).setIfInBounds 0 x = #[a, b, x, undef, undef, x, undef, undef, undef, undef, undef, undef, undef, undef, undef, undef] := rfl
set_option maxHeartbeats 2000000 in
theorem Xrl (p q : Addr) (w : World) :
  CallsD Tryz.prog 26 #[.pointer (some p), .pointer (some q)] .returning w fun e u' w' => e = .returned (.tuple #[]) ∧ u' = .returning ∧ w' = w := by
 refine callsD_of_wpS Tryz.func26 rfl fun c₀ cs hu => ?_
 have h1 := Xrj
 have h2 : ∀ w : World, (binOp .neq 20 .nilIface .nilIface).run Tryz.prog w = .ok (.bool false) w := fun _ => by kernel_rfl
 apply wpS_seq
 apply wpS_region
 simp [wpOpsS, go_sem, recoverD, hu, Tryz.ntmps26, Exit.thenS]
 refine wpS_of_wp ?_
 rw [Xlj]
 go_wp2
 clear h1 h2
 cases c₀
 simp_all [bodyPostS, results, Tryz.results26]
set_option maxHeartbeats 2000000 in
theorem Xjf (p q : Addr) (w : World) (s : ByteArray) (n : Int) (hp : w.cell? p = some (.string s)) (hq : w.cell? q = some (.int .i64 n)) (zp : w.frozen? p = false) (zq : w.frozen? q = false) (hne : ¬ p.block = q.block) (hne' : ¬ q.block = p.block) :
  CallsD Tryz.prog 26 #[.pointer (some p), .pointer (some q)] (.panicking [{ v := .iface 28 (.int .i64 23), recovered := false }]) w fun e u' w' => e = .returned (.tuple #[]) ∧ u' = .panicking [{ v := .iface 28 (.int .i64 23), recovered := true }] ∧
   w' = (w.setCell p (.string ⟨#[]⟩)).setCell q (.int .i64 23) := by
 refine callsD_of_wpS Tryz.func26 rfl fun c₀ cs hu => ?_
 have h1 := Xmo
 have hq2 : (w.setCell p (.string ⟨#[]⟩)).cell? q = some (.int .i64 n) := (World.cell?_of_block (Below.heap_setCell _ _ _ _ hne')).trans hq
 have zq2 : (w.setCell p (.string ⟨#[]⟩)).frozen? q = false := (World.frozen?_of_block (Below.heap_setCell _ _ _ _ hne')).trans zq
 apply wpS_seq
 apply wpS_region
 simp [wpOpsS, go_sem, recoverD, hu, Tryz.ntmps26, Exit.thenS]
 refine wpS_of_wp ?_
 rw [Xlj]
 go_wp2
 simp [bodyPostS, results, Tryz.results26]
def penV (Bc Ba : Nat) : Value := .func (.func 27) #[] #[.pointer (some ⟨Bc, 0, none⟩), .pointer (some ⟨Ba, 0, none⟩)]
def Xqc (F : FuncId) (caps : Array Value) (w : World) (C : Ts) : Prop := ∀ (wx : World) (Bc Ba : Nat), Below w.heap.size w wx → w.heap.size ≤ wx.heap.size → Xap wx Bc Ba w.heap.size (.slice none 0 0) [] →
 Calls Tryz.prog F (#[penV Bc Ba] ++ caps) wx (Xal wx Bc Ba w.heap.size (.slice none 0 0) (adv [] C))
theorem Xgq {Bc Ba b : Nat} (h : Mine Bc Ba (.slice none 0 0) b) : b = Bc ∨ b = Ba := by
 rcases h with h | h | h
 · exact .inl h
 · exact .inr h
 · cases h
set_option maxRecDepth 100000 in
set_option maxHeartbeats 2000000 in
theorem Xhi (F : FuncId) (caps : Array Value) (w : World) (C : Ts) (hent : ∀ args w, (callFunc F args).run Tryz.prog w = .ok (.enter F args) w) (hw : Xqc F caps w C) :
  Calls Tryz.prog 14 #[.func (.func F) #[] caps] w fun e w' => e = .returned (.tuple #[.string (Xaa (fin C).1), .int .i64 (fin C).2]) ∧ Below w.heap.size w w' := by
 have hmf : ∀ (fn : Fn) (first cap : Array Value) (w : World), (Instr.makeFunc fn first cap).run Tryz.prog w = .ok (.func fn first cap) w := fun _ _ _ _ => rfl
 have HW := lh hw
 clear hw
 go_enter_defers Tryz.func14, Tryz.ntmps14
 go_wp2_with fail
 obtain ⟨X, hX⟩ : ∃ X : World, X = (((w.alloc (.cells #[.string ⟨#[]⟩] 9)).alloc (.cells #[.int .i64 0] 28)).alloc (.cells #[.slice none 0 0] 62)).alloc (.cells #[.int .i64 0] 3) := ⟨_, rfl⟩
 obtain ⟨g, hg⟩ : ∃ g, g = w.heap.size := ⟨_, rfl⟩
 have h0 : X.heap[g]? = some (.cells #[.string ⟨#[]⟩] 9 (0, 0)) := by
  rw [hX, hg, Below.heap_alloc _ _ _ (by simp; omega), Below.heap_alloc _ _ _ (by simp; omega), Below.heap_alloc _ _ _ (by simp)]; exact heap_alloc_new _ _
 have h1 : X.heap[g + 1]? = some (.cells #[.int .i64 0] 28 (0, 0)) := by
  rw [hX, hg, Below.heap_alloc _ _ _ (by simp), Below.heap_alloc _ _ _ (by simp)]
  have := heap_alloc_new (w.alloc (.cells #[.string ⟨#[]⟩] 9)) (.cells #[.int .i64 0] 28)
  simpa using this
 have h2 : X.heap[g + 1 + 1]? = some (.cells #[.slice none 0 0] 62 (0, 0)) := by
  rw [hX, hg, Below.heap_alloc _ _ _ (by simp)]
  have := heap_alloc_new ((w.alloc (.cells #[.string ⟨#[]⟩] 9)).alloc (.cells #[.int .i64 0] 28)) (.cells #[.slice none 0 0] 62)
  simpa using this
 have h3 : X.heap[g + 1 + 1 + 1]? = some (.cells #[.int .i64 0] 3 (0, 0)) := by
  rw [hX, hg]
  have := heap_alloc_new (((w.alloc (.cells #[.string ⟨#[]⟩] 9)).alloc (.cells #[.int .i64 0] 28)).alloc (.cells #[.slice none 0 0] 62)) (.cells #[.int .i64 0] 3)
  simpa using this
 have hs : X.heap.size = g + 4 := by rw [hX, hg]; simp
 have hb : Below w.heap.size w X := by
  rw [hX]; exact ((((Below.refl _ w).alloc (Nat.le_refl _) _).alloc (by simp) _).alloc (by simp; omega) _).alloc (by simp; omega) _
 rw [← hX, ← hg]
 have hp : Xap X (g + 1 + 1 + 1) (g + 1 + 1) w.heap.size (.slice none 0 0) [] := ⟨h3, h2, Xas.nil _ _, fits_nil, by omega, by omega⟩
 have HX0 := lh h0
 have HX1 := lh h1
 have HS := lh hs
 have HG := lh hg
 have HBX := lh hb
 have hcall := HW.out X (g + 1 + 1 + 1) (g + 1 + 1) hb (by omega) hp
 clear hX h0 h1 h2 h3 hs hb hp hg
 refine hcall.mono ?_
 clear hcall
 rintro e w1 hpost
 cases hC : adv [] C with
 | none =>
   rw [hC] at hpost
   obtain ⟨rfl, hch⟩ := hpost
   have q0 : w1.heap[g]? = some (.cells #[.string ⟨#[]⟩] 9 (0, 0)) := (hch.block g (by rw [HS.out]; omega) (fun h => by have := Xgq h; omega)).trans HX0.out
   have q1 : w1.heap[g + 1]? = some (.cells #[.int .i64 0] 28 (0, 0)) := (hch.block (g + 1) (by rw [HS.out]; omega) (fun h => by have := Xgq h; omega)).trans HX1.out
   have hb1 : Below w.heap.size w w1 := HBX.out.trans (hch.below (by rw [HS.out, ← HG.out]; omega) (fun x hx => by have := Xgq hx; have := HG.out; omega))
   have HB1 := lh hb1
   have c0 := cell_of_row w1 g 0 _ _ (0, 0) q0
   have c1 := cell_of_row w1 (g + 1) 0 _ _ (0, 0) q1
   have z0 := frozen_of_row w1 g 0 _ _ q0
   have z1 := frozen_of_row w1 (g + 1) 0 _ _ q1
   have e0 : (w1.setCell ⟨g, 0, none⟩ (.string ⟨#[]⟩)).cell? ⟨g, 0, none⟩ = some (.string ⟨#[]⟩) := by
    rw [cell_of_row _ g 0 _ _ (0, 0) (Xij q0 _)]; rfl
   have e2 : ((w1.setCell ⟨g, 0, none⟩ (.string ⟨#[]⟩)).setCell ⟨g + 1, 0, none⟩ (.int .i64 23)).cell? ⟨g + 1, 0, none⟩ = some (.int .i64 23) := by
    rw [cell_of_row _ (g + 1) 0 _ _ (0, 0) (Xij ((Below.heap_setCell _ _ _ _ (by simp)).trans q1) _)]; rfl
   have HFIN : Hid (fin C = ([], 23)) := lh (by unfold fin; rw [← Xmm, hC])
   clear hC q0 q1 hb1 hch
   unfold boom
   go_wp2
   refine leaves_cons (f := 26) (args := #[.pointer (some ⟨g, 0, none⟩), .pointer (some ⟨g + 1, 0, none⟩)]) (by simp) (by simp [go_sem]) ?_
   refine (Xjf ⟨g, 0, none⟩ ⟨g + 1, 0, none⟩ w1 _ _ c0 c1 z0 z1 (by simp) (by simp)).mono ?_
   rintro e u' w'' ⟨rfl, rfl, rfl⟩
   simp [Leaves, settle, results, Tryz.results14, go_sem, e0, e2]
   rw [HFIN.out]
   refine ⟨⟨rfl, rfl⟩, ?_⟩
   have := HG.out
   exact (HB1.out.setCell (by simp; omega) _).setCell (by simp; omega) _
 | some T =>
   rw [hC] at hpost
   obtain ⟨rfl, v', hwent⟩ := hpost
   have hch := hwent.2.2
   have q0 : w1.heap[g]? = some (.cells #[.string ⟨#[]⟩] 9 (0, 0)) := (hch.block g (by rw [HS.out]; omega) (fun h => by have := Xgq h; omega)).trans HX0.out
   have q1 : w1.heap[g + 1]? = some (.cells #[.int .i64 0] 28 (0, 0)) := (hch.block (g + 1) (by rw [HS.out]; omega) (fun h => by have := Xgq h; omega)).trans HX1.out
   have hb1 : Below w.heap.size w w1 := HBX.out.trans (hch.below (by rw [HS.out, ← HG.out]; omega) (fun x hx => by have := Xgq hx; have := HG.out; omega))
   have HB1 := lh hb1
   have hcv := hwent.1.own.conv
   have hq2 := hwent.1.buf
   obtain ⟨A, c, rfl⟩ := hwent.1.own.form
   obtain ⟨L, hL⟩ : ∃ L, L = (Xbj T).length := ⟨_, rfl⟩
   rw [← hL] at hcv hq2
   obtain ⟨tx, htx⟩ : ∃ t, t = Xaa (Xbj T) := ⟨_, rfl⟩
   rw [← htx] at hcv
   have c0 := cell_of_row w1 g 0 _ _ (0, 0) q0
   have c1 := cell_of_row w1 (g + 1) 0 _ _ (0, 0) q1
   have c2 := cell_of_row w1 (g + 1 + 1) 0 _ _ (0, 0) hq2
   have z0 := frozen_of_row w1 g 0 _ _ q0
   have z1 := frozen_of_row w1 (g + 1) 0 _ _ q1
   simp at c0 c1 c2
   have c3 : (w1.setCell ⟨g, 0, none⟩ (.string tx)).cell? ⟨g + 1, 0, none⟩ = some (.int .i64 0) := (World.cell?_of_block (Below.heap_setCell _ _ _ _ (by simp))).trans c1
   have z3 : (w1.setCell ⟨g, 0, none⟩ (.string tx)).frozen? ⟨g + 1, 0, none⟩ = false := (World.frozen?_of_block (Below.heap_setCell _ _ _ _ (by simp))).trans z1
   have e0 : (w1.setCell ⟨g, 0, none⟩ (.string tx)).cell? ⟨g, 0, none⟩ = some (.string tx) := by
    rw [cell_of_row _ g 0 _ _ (0, 0) (Xij q0 _)]; rfl
   have e2 : ((w1.setCell ⟨g, 0, none⟩ (.string tx)).setCell ⟨g + 1, 0, none⟩ (.int .i64 0)).cell? ⟨g + 1, 0, none⟩ = some (.int .i64 0) := by
    rw [cell_of_row _ (g + 1) 0 _ _ (0, 0) (Xij ((Below.heap_setCell _ _ _ _ (by simp)).trans q1) _)]; rfl
   have HFIN : Hid (fin C = (Xbj T, 0)) := lh (by unfold fin; rw [← Xmm, hC])
   have HTX := lh htx
   clear hC q0 q1 hb1 hch hwent hq2 hL htx
   go_wp2
   refine leaves_cons (f := 26) (args := #[.pointer (some ⟨g, 0, none⟩), .pointer (some ⟨g + 1, 0, none⟩)]) (by simp) (by simp [go_sem]) ?_
   refine (Xrl ⟨g, 0, none⟩ ⟨g + 1, 0, none⟩ _).mono ?_
   rintro e u' w'' ⟨rfl, rfl, rfl⟩
   simp [Leaves, settle, results, Tryz.results14, go_sem, e0, e2]
   rw [HFIN.out, HTX.out]
   refine ⟨⟨rfl, rfl⟩, ?_⟩
   have := HG.out
   exact (HB1.out.setCell (by simp; omega) _).setCell (by simp; omega) _
section
open Go.Shelf
def Xji : Go.Shelf.Ren := ⟨fun | 103 => 37 | 210 => 52 | 206 => 64 | n => n, fun | 9 => 9 | 4 => 4 | 24 => 73 | 3 => 3 | n => n, fun | n => n⟩
theorem Xpd : Go.Proofs.Lays.n103 Tryz.prog Xji := {
 mixed := by kernel_rfl
 f103 := Tryz.func37.trans (congrArg some (by kernel_rfl))
 f206 := Tryz.func64.trans (congrArg some (by kernel_rfl))
 f210 := Tryz.func52.trans (congrArg some (by kernel_rfl))
 t3 := Tryz.underlying3
 a3 := Tryz.isAgg3
 z3 := Tryz.sizeOf3
 v3 := Tryz.zeroValue3
 t4 := Tryz.underlying4
 a4 := Tryz.isAgg4
 z4 := Tryz.sizeOf4
 v4 := Tryz.zeroValue4
 t9 := Tryz.underlying9
 a9 := Tryz.isAgg9
 z9 := Tryz.sizeOf9
 v9 := Tryz.zeroValue9
 t24 := Tryz.underlying73
 a24 := Tryz.isAgg73
 z24 := Tryz.sizeOf73
 v24 := Tryz.zeroValue73 }
open Go.RowKit in
theorem strings_CutPrefix (s p : ByteArray) (w : World) :
  Calls Tryz.prog 37 #[.string s, .string p] w fun e w' => e = .returned (.tuple #[.string ⟨(Lib.trimPrefix s.data.toList p.data.toList).toArray⟩, .bool (Lib.hasPrefix s.data.toList p.data.toList)]) ∧ w' = w := Any.strings_CutPrefix Xpd s p w
def Xnh : Go.Shelf.Ren := ⟨fun | 171 => 54 | 243 => 66 | 246 => 82 | 283 => 94 | 284 => 95 | 285 => 96 | 286 => 97 | 129 => 101 | 317 => 100 | 318 => 102 | 319 => 103 | 320 => 104 | 337 => 107 | 338 => 108 | n => n, fun | 3 => 3 | 9 => 9 | 2 => 2 | 4 => 4 | 171 => 121 | 0 => 0 | 53 => 122 | 37 => 62 | 5 => 5 | 173 => 125 | 212 => 129 | 51 => 130 | 20 => 20 | 213 => 131 | 46 => 132 | 232 => 136 | 233 => 137 | n => n, fun | 17 => 0 | 18 => 2 | 19 => 3 | n => n⟩
theorem laysM171 : Go.Proofs.LaysM.n171 Tryz.prog Xnh := {
 mixed := by kernel_rfl
 f129 := Tryz.func101.trans (congrArg some (by kernel_rfl))
 f171 := Tryz.func54.trans (congrArg some (by kernel_rfl))
 f243 := Tryz.func66.trans (congrArg some (by kernel_rfl))
 f246 := Tryz.func82.trans (congrArg some (by kernel_rfl))
 f283 := Tryz.func94.trans (congrArg some (by kernel_rfl))
 f284 := Tryz.func95.trans (congrArg some (by kernel_rfl))
 f285 := Tryz.func96.trans (congrArg some (by kernel_rfl))
 f286 := Tryz.func97.trans (congrArg some (by kernel_rfl))
 f317 := Tryz.func100.trans (congrArg some (by kernel_rfl))
 f318 := Tryz.func102.trans (congrArg some (by kernel_rfl))
 f319 := Tryz.func103.trans (congrArg some (by kernel_rfl))
 f320 := Tryz.func104.trans (congrArg some (by kernel_rfl))
 f337 := Tryz.func107.trans (congrArg some (by kernel_rfl))
 f338 := Tryz.func108.trans (congrArg some (by kernel_rfl))
 t0 := Tryz.underlying0
 a0 := Tryz.isAgg0
 z0 := Tryz.sizeOf0
 v0 := Tryz.zeroValue0
 t2 := Tryz.underlying2
 a2 := Tryz.isAgg2
 z2 := Tryz.sizeOf2
 v2 := Tryz.zeroValue2
 t3 := Tryz.underlying3
 a3 := Tryz.isAgg3
 z3 := Tryz.sizeOf3
 v3 := Tryz.zeroValue3
 t4 := Tryz.underlying4
 a4 := Tryz.isAgg4
 z4 := Tryz.sizeOf4
 v4 := Tryz.zeroValue4
 t5 := Tryz.underlying5
 a5 := Tryz.isAgg5
 z5 := Tryz.sizeOf5
 v5 := Tryz.zeroValue5
 t9 := Tryz.underlying9
 a9 := Tryz.isAgg9
 z9 := Tryz.sizeOf9
 v9 := Tryz.zeroValue9
 t20 := Tryz.underlying20
 a20 := Tryz.isAgg20
 z20 := Tryz.sizeOf20
 v20 := Tryz.zeroValue20
 t37 := Tryz.underlying62
 a37 := Tryz.isAgg62
 z37 := Tryz.sizeOf62
 v37 := Tryz.zeroValue62
 t46 := Tryz.underlying132
 a46 := Tryz.isAgg132
 z46 := Tryz.sizeOf132
 v46 := Tryz.zeroValue132
 t51 := Tryz.underlying130
 a51 := Tryz.isAgg130
 z51 := Tryz.sizeOf130
 v51 := Tryz.zeroValue130
 t53 := Tryz.underlying122
 a53 := Tryz.isAgg122
 z53 := Tryz.sizeOf122
 v53 := Tryz.zeroValue122
 t171 := Tryz.underlying121
 a171 := Tryz.isAgg121
 z171 := Tryz.sizeOf121
 v171 := Tryz.zeroValue121
 t173 := Tryz.underlying125
 a173 := Tryz.isAgg125
 z173 := Tryz.sizeOf125
 v173 := Tryz.zeroValue125
 t212 := Tryz.underlying129
 a212 := Tryz.isAgg129
 z212 := Tryz.sizeOf129
 v212 := Tryz.zeroValue129
 t213 := Tryz.underlying131
 a213 := Tryz.isAgg131
 z213 := Tryz.sizeOf131
 t232 := Tryz.underlying136
 a232 := Tryz.isAgg136
 z232 := Tryz.sizeOf136
 v232 := Tryz.zeroValue136
 t233 := Tryz.underlying137
 a233 := Tryz.isAgg137
 z233 := Tryz.sizeOf137
 v233 := Tryz.zeroValue137
 g17 := by kernel_rfl
 g18 := by kernel_rfl
 g19 := by kernel_rfl
 i0 := by kernel_rfl
 i2 := by kernel_rfl
 i3 := by kernel_rfl
 i4 := by kernel_rfl
 i5 := by kernel_rfl
 i9 := by kernel_rfl
 i20 := by kernel_rfl
 i37 := by kernel_rfl
 i46 := by kernel_rfl
 i51 := by kernel_rfl
 i53 := by kernel_rfl
 i171 := by kernel_rfl
 i173 := by kernel_rfl
 i212 := by kernel_rfl
 i232 := by kernel_rfl
 i233 := by kernel_rfl
 m17 := by kernel_rfl
 m18 := by kernel_rfl
 m19 := by kernel_rfl }
open Go.RowKit Go.Sort Go.Lib in
theorem strconv_Itoa (n : Int) (h0 : -9223372036854775808 ≤ n) (h1 : n ≤ 9223372036854775807) (w : World) (htab : Lib.TabIs Tryz.prog w "internal/strconv.uint64pow10" .u64 Lib.pow10Tab) :
  Calls Tryz.prog 54 #[.int .i64 n] w fun e w' => e = .returned (.string ⟨(Lib.itoa n).toArray⟩) ∧ ∃ k os, w' = grow (w.drewN k) os := Any.strconv_Itoa laysM171 n h0 h1 w htab
def Xjk : Go.Shelf.Ren := ⟨fun | 110 => 98 | 109 => 105 | n => n, fun | 31 => 53 | 9 => 9 | 4 => 4 | 3 => 3 | 0 => 0 | n => n, fun | n => n⟩
theorem Xjj : Go.Proofs.Lays.n110 Tryz.prog Xjk := {
 mixed := by kernel_rfl
 f109 := Tryz.func105.trans (congrArg some (by kernel_rfl))
 f110 := Tryz.func98.trans (congrArg some (by kernel_rfl))
 t0 := Tryz.underlying0
 a0 := Tryz.isAgg0
 z0 := Tryz.sizeOf0
 v0 := Tryz.zeroValue0
 t3 := Tryz.underlying3
 a3 := Tryz.isAgg3
 z3 := Tryz.sizeOf3
 v3 := Tryz.zeroValue3
 t4 := Tryz.underlying4
 a4 := Tryz.isAgg4
 z4 := Tryz.sizeOf4
 v4 := Tryz.zeroValue4
 t9 := Tryz.underlying9
 a9 := Tryz.isAgg9
 z9 := Tryz.sizeOf9
 v9 := Tryz.zeroValue9
 t31 := Tryz.underlying53
 a31 := Tryz.isAgg53
 z31 := Tryz.sizeOf53
 v31 := Tryz.zeroValue53 }
open Go.Lib in
theorem slices_Contains_string (b off n c : Nat) (zs : List ByteArray) (x : ByteArray) (w : World) (hz : n ≤ zs.length) (hbig : n ≤ 9223372036854775807) (hc : ∀ j, j < zs.length → w.cell? ⟨b, off + j, none⟩ = some (.string (zs.getD j ByteArray.empty))) :
  Calls Tryz.prog 98 #[.slice (some ⟨b, off, none⟩) n c, .string x] w fun e w' => e = .returned (.bool (Lib.containsS (zs.take n) x)) ∧ w' = w := Any.slices_Contains_string Xjj b off n c zs x w hz hbig hc
end
theorem Xaf (t : List UInt8) : (Xaa t).toList = t := by
 rw [ByteArray.toList_eq]; rfl
theorem Xqg (t : List UInt8) (w : World) : Calls Tryz.prog 37 #[.string (Xaa t), .string ⟨#[42]⟩] w fun e w' =>
  e = .returned (.tuple #[.string (Xaa (if t.head? = some 42 then t.tail else t)), .bool (decide (t.head? = some 42))]) ∧ w = w' := by
 refine (strings_CutPrefix (Xaa t) ⟨#[42]⟩ w).mono ?_
 rintro e w' ⟨rfl, rfl⟩
 refine ⟨?_, rfl⟩
 have h1 : Lib.hasPrefix (Xaa t).data.toList (⟨#[42]⟩ : ByteArray).data.toList = decide (t.head? = some 42) := by
  rw [Xak]
  show ([42] : List UInt8).isPrefixOf t = _
  cases t with
  | nil => rfl
  | cons c r =>
    show ((42 : UInt8) == c && List.isPrefixOf [] r) = decide (some c = some 42)
    rw [List.isPrefixOf_nil_left, Bool.and_true, Bool.eq_iff_iff, beq_iff_eq, decide_eq_true_eq, Option.some.injEq]
    exact eq_comm
 have h2 : (⟨(Lib.trimPrefix (Xaa t).data.toList (⟨#[42]⟩ : ByteArray).data.toList).toArray⟩ : ByteArray) = Xaa (if t.head? = some 42 then t.tail else t) := by
  unfold Lib.trimPrefix
  rw [h1, Xak]
  by_cases h : t.head? = some 42
  · simp only [h, decide_true, if_true]
    show Xaa (t.drop 1) = _
    rw [List.drop_one]
  · simp only [h, decide_false, if_false, Bool.false_eq_true]
    rfl
 rw [h1, h2]
def Xck (ts : List (List UInt8)) : Array Value := (ts.map fun t => Value.string (Xaa t)).toArray
theorem Xjc (w : World) (P : Nat → Prop) (ts : List (List UInt8)) (hl : ∀ t ∈ ts, t.length ≤ 40000) (hn : ts.length ≤ 9223372036854775807) (hP : ¬ P w.heap.size) :
  Xed (w.alloc (.cells (Xck ts) 9)) P (.slice (some ⟨w.heap.size, 0, none⟩) ts.length ts.length) ts := by
 refine ⟨_, _, rfl, Nat.le_refl _, hn, fun k hk => ⟨w.heap.size, 0, rfl, hP, hl _ (List.getElem_mem _), ?_⟩⟩
 rw [Nat.zero_add, cell_of_row _ w.heap.size k _ _ (0, 0) (heap_alloc_new w _)]
 simp [Xck, List.getElem?_eq_getElem hk]
theorem Xal.from_ {w w1 w' : World} {Bc Ba base : Nat} {v v1 : Value} {T1 : List (List UInt8)} {R : Ts} {e : Ending} (h : Went w Bc Ba base v w1 v1 T1) (hp : Xal w1 Bc Ba base v1 R e w') : Xal w Bc Ba base v R e w' := by
 cases R with
 | none => exact ⟨hp.1, h.fell hp.2⟩
 | some T => obtain ⟨he, v', hw⟩ := hp; exact ⟨he, v', h.trans hw⟩
theorem Xaq {w w1 : World} {Bc Ba base : Nat} {v v1 : Value} {T1 : List (List UInt8)} (h : Went w Bc Ba base v w1 v1 T1) (hbase : base ≤ w.heap.size) (ts : List (List UInt8)) (hl : ∀ t ∈ ts, t.length ≤ 40000) (hn : ts.length ≤ 1000) :
  Calls Tryz.prog 27 #[.slice (some ⟨w1.heap.size, 0, none⟩) ts.length ts.length, .pointer (some ⟨Bc, 0, none⟩), .pointer (some ⟨Ba, 0, none⟩)] (w1.alloc (.cells (Xck ts) 9)) (Xal w Bc Ba base v (adv T1 (some ts))) := by
 have ha := h.alloc (.cells (Xck ts) 9)
 refine (Xmd ha.1 (Nat.le_trans hbase ha.2.2.size) ts _ (Xjc w1 _ ts hl (by omega) (fun hm => ?_))).mono fun e w' hp => Xal.from_ ha hp
 have := (h.1.mine hm).2
 omega
theorem Xgj {w : World} {Bc Ba base : Nat} {v : Value} {T : List (List UInt8)} (hp : Xap w Bc Ba base v T) (hbase : base ≤ w.heap.size) (t : List UInt8) (ht : t.length ≤ 40000) :
  Calls Tryz.prog 23 #[penV Bc Ba, .string (Xaa t)] w (Xal w Bc Ba base v (adv T (tyT t))) := by
 unfold penV
 by_cases h0 : t.head? = some 42
 · have hc := fun w => Xqg t w
   rw [if_pos h0] at hc
   simp only [h0, decide_true] at hc
   have HT : Hid (tyT t = if Xam t.tail = true then some [[42], t.tail] else none) := lh (by unfold tyT; rw [if_pos h0])
   have hl : t.tail.length ≤ 40000 := by rw [List.length_tail]; omega
   obtain ⟨s, hs⟩ : ∃ s, s = t.tail := ⟨_, rfl⟩
   rw [← hs] at hc HT hl
   clear hs h0
   have HP := lh hp
   have HB := lh hbase
   have HL := lh hl
   clear hp hbase hl
   go_enter Tryz.func23, Tryz.ntmps23
   go_wp2_with fail
   refine (hc _).mono ?_
   rintro e w1 ⟨rfl, rfl⟩
   clear hc
   go_wp2_with fail
   have hblk : (w.alloc (.cells #[.string (Xaa s)] 9)).heap[w.heap.size]? = some (.cells #[.string (Xaa s)] 9 (0, 0)) := heap_alloc_new _ _
   have hcl : (w.alloc (.cells #[.string (Xaa s)] 9)).cell? ⟨w.heap.size, 0, none⟩ = some (.string (Xaa s)) := by rw [cell_of_row _ w.heap.size 0 _ _ (0, 0) hblk]; rfl
   have hfr : (w.alloc (.cells #[.string (Xaa s)] 9)).frozen? ⟨w.heap.size, 0, none⟩ = false := frozen_of_row _ w.heap.size 0 _ _ hblk
   have hsz : (Xaa s).size ≤ 40000 := by rw [Lib.size_eq, Xak]; exact HL.out
   by_cases hn : Xam s = true
   · refine (Xba ⟨w.heap.size, 0, none⟩ (Xaa s) _ hcl hfr hsz hn).mono ?_
     rintro e w1 ⟨rfl, w2, hb2, rfl⟩
     have hw2 : Went w Bc Ba base v (w2.setCell ⟨w.heap.size, 0, none⟩ (.string ⟨#[]⟩)) v T := (((Went.refl HP.out).alloc _).below hb2).setCell _ _ (Nat.le_refl _) (fun hm => by have := (HP.out.mine hm).2; simp at this)
     have hput := Xaq hw2 HB.out [[42], s] (by intro t ht; simp at ht; have := HL.out; rcases ht with rfl | rfl <;> simp; omega) (by simp)
     clear hcl hfr hblk hw2
     obtain ⟨w3, hw3⟩ : ∃ w3, w3 = w2.setCell ⟨w.heap.size, 0, none⟩ (.string ⟨#[]⟩) := ⟨_, rfl⟩
     rw [← hw3] at hput ⊢
     clear hw3
     go_wp2_with fail
     refine hput.mono ?_
     rintro e w4 hpost
     have HEQ : Hid (tyT t = some [[42], s]) := lh (by rw [HT.out, if_pos hn])
     cases hR : adv T (some [[42], s]) with
     | none =>
       rw [hR] at hpost
       obtain ⟨rfl, hch⟩ := hpost
       unfold boom
       go_wp2
       refine ⟨rfl, ?_⟩
       rw [HEQ.out, hR]
       exact ⟨rfl, hch⟩
     | some U =>
       rw [hR] at hpost
       obtain ⟨rfl, u, hwent⟩ := hpost
       have HW := lh hwent
       clear hwent
       go_wp2
       go_end0
       rw [HEQ.out, hR]
       exact ⟨rfl, u, HW.out⟩
   · have hn' : Xam s = false := by simpa using hn
     refine (Xdf ⟨w.heap.size, 0, none⟩ (Xaa s) _ hcl hsz hn').mono ?_
     rintro e w1 ⟨rfl, hb⟩
     unfold boom
     go_wp2
     refine ⟨rfl, ?_⟩
     rw [HT.out, if_neg hn]
     exact ⟨rfl, (Chg.refl _ _).alloc _ |>.trans (Chg.of_below (P := fun _ => False) hb) (fun _ _ e => e.elim)⟩
 · have hc := fun w => Xqg t w
   rw [if_neg h0] at hc
   simp only [h0, decide_false] at hc
   have HP := lh hp
   have HB := lh hbase
   have HL := lh ht
   have hst := Xaf t
   clear hp hbase ht
   by_cases a1 : t = [91, 93, 105, 110, 116]
   · have HT : Hid (tyT t = some [[91], [93], [105, 110, 116]]) := lh (by unfold tyT; rw [if_neg h0, if_pos a1])
     have e1 : ((Xaa t).toList == [91, 93, 105, 110, 116]) = true := by rw [hst, a1]; rfl
     clear a1 hst h0
     go_enter Tryz.func23, Tryz.ntmps23
     go_wp2_with fail
     refine (hc _).mono ?_
     rintro e w1 ⟨rfl, rfl⟩
     clear hc
     go_wp2_with fail
     have hput := Xaq ((Went.refl HP.out).alloc (.cells #[.string (Xaa t)] 9)) HB.out [[91], [93], [105, 110, 116]] (by intro u hu; have := HL.out; simp at hu; first | (rcases hu with rfl | rfl | rfl <;> decide) | (rw [hu]; exact this)) (by simp)
     obtain ⟨w3, hw3⟩ : ∃ w3, w3 = w.alloc (.cells #[.string (Xaa t)] 9) := ⟨_, rfl⟩
     have hs3 : w.heap.size + 1 = w3.heap.size := by rw [hw3]; simp
     rw [← hw3] at hput ⊢
     rw [hs3]
     clear hw3 hs3
     refine hput.mono ?_
     rintro e w9 hpost
     cases hR : adv T (some [[91], [93], [105, 110, 116]]) with
     | none =>
       rw [hR] at hpost
       obtain ⟨rfl, hch⟩ := hpost
       unfold boom
       go_wp2
       refine ⟨rfl, ?_⟩
       rw [HT.out, hR]
       exact ⟨rfl, hch⟩
     | some U =>
       rw [hR] at hpost
       obtain ⟨rfl, u, hwent⟩ := hpost
       have HWF := lh hwent
       clear hwent
       go_wp2
       go_end0
       rw [HT.out, hR]
       exact ⟨rfl, u, HWF.out⟩
   have e1 : ((Xaa t).toList == [91, 93, 105, 110, 116]) = false := by rw [hst]; simpa using a1
   by_cases a2 : t = [105, 110, 116]
   · have HT : Hid (tyT t = some [t]) := lh (by unfold tyT; rw [if_neg h0, if_neg a1, if_pos (.inl a2)])
     have e2 : (Xaa t).toList = [105, 110, 116] := by rw [hst, a2]
     clear a1 a2 hst h0
     go_enter Tryz.func23, Tryz.ntmps23
     go_wp2_with fail
     refine (hc _).mono ?_
     rintro e w1 ⟨rfl, rfl⟩
     clear hc
     go_wp2_with fail
     refine (Xaj _).mono ?_
     rintro e w1 ⟨rfl, rfl⟩
     go_wp2_with fail
     have hput := Xaq ((Went.refl HP.out).alloc (.cells #[.string (Xaa t)] 9)) HB.out [t] (by intro u hu; have := HL.out; simp at hu; first | (rcases hu with rfl | rfl | rfl <;> decide) | (rw [hu]; exact this)) (by simp)
     obtain ⟨w3, hw3⟩ : ∃ w3, w3 = w.alloc (.cells #[.string (Xaa t)] 9) := ⟨_, rfl⟩
     have hs3 : w.heap.size + 1 = w3.heap.size := by rw [hw3]; simp
     rw [← hw3] at hput ⊢
     rw [hs3]
     clear hw3 hs3
     refine hput.mono ?_
     rintro e w9 hpost
     cases hR : adv T (some [t]) with
     | none =>
       rw [hR] at hpost
       obtain ⟨rfl, hch⟩ := hpost
       unfold boom
       go_wp2
       refine ⟨rfl, ?_⟩
       rw [HT.out, hR]
       exact ⟨rfl, hch⟩
     | some U =>
       rw [hR] at hpost
       obtain ⟨rfl, u, hwent⟩ := hpost
       have HWF := lh hwent
       clear hwent
       go_wp2
       go_end0
       rw [HT.out, hR]
       exact ⟨rfl, u, HWF.out⟩
   have e2 : ¬ (Xaa t).toList = [105, 110, 116] := by rw [hst]; exact a2
   by_cases a3 : t = [98, 111, 111, 108]
   · have HT : Hid (tyT t = some [t]) := lh (by unfold tyT; rw [if_neg h0, if_neg a1, if_pos (.inr a3)])
     have e3 : ((Xaa t).toList == [105, 110, 116] || (Xaa t).toList == [98, 111, 111, 108]) = true := by rw [hst, a3]; rfl
     clear a1 a2 a3 hst h0
     go_enter Tryz.func23, Tryz.ntmps23
     go_wp2_with fail
     refine (hc _).mono ?_
     rintro e w1 ⟨rfl, rfl⟩
     clear hc
     go_wp2_with fail
     refine (Xaj _).mono ?_
     rintro e w1 ⟨rfl, rfl⟩
     go_wp2_with fail
     have hput := Xaq ((Went.refl HP.out).alloc (.cells #[.string (Xaa t)] 9)) HB.out [t] (by intro u hu; have := HL.out; simp at hu; first | (rcases hu with rfl | rfl | rfl <;> decide) | (rw [hu]; exact this)) (by simp)
     obtain ⟨w3, hw3⟩ : ∃ w3, w3 = w.alloc (.cells #[.string (Xaa t)] 9) := ⟨_, rfl⟩
     have hs3 : w.heap.size + 1 = w3.heap.size := by rw [hw3]; simp
     rw [← hw3] at hput ⊢
     rw [hs3]
     clear hw3 hs3
     refine hput.mono ?_
     rintro e w9 hpost
     cases hR : adv T (some [t]) with
     | none =>
       rw [hR] at hpost
       obtain ⟨rfl, hch⟩ := hpost
       unfold boom
       go_wp2
       refine ⟨rfl, ?_⟩
       rw [HT.out, hR]
       exact ⟨rfl, hch⟩
     | some U =>
       rw [hR] at hpost
       obtain ⟨rfl, u, hwent⟩ := hpost
       have HWF := lh hwent
       clear hwent
       go_wp2
       go_end0
       rw [HT.out, hR]
       exact ⟨rfl, u, HWF.out⟩
   have HT : Hid (tyT t = none) := lh (by unfold tyT; rw [if_neg h0, if_neg a1, if_neg (fun h => h.elim a2 a3)])
   have e3 : ((Xaa t).toList == [105, 110, 116] || (Xaa t).toList == [98, 111, 111, 108]) = false := by
    rw [hst, Bool.or_eq_false_iff]; exact ⟨by simpa using a2, by simpa using a3⟩
   clear a1 a2 a3 hst h0
   go_enter Tryz.func23, Tryz.ntmps23
   go_wp2_with fail
   refine (hc _).mono ?_
   rintro e w1 ⟨rfl, rfl⟩
   clear hc
   go_wp2_with fail
   refine (Xah _).mono ?_
   rintro e w1 ⟨rfl, rfl⟩
   unfold boom
   go_wp2
   refine ⟨rfl, ?_⟩
   rw [HT.out]
   exact ⟨rfl, (Chg.refl _ _).alloc _⟩
theorem Xbr {w : World} {p : Addr} {v : Value} (h : w.cell? p = some v) : ∀ o, (w.alloc o).cell? p = some v := fun o => (World.cell?_of_block (w := w) (Below.heap_alloc w o p.block (Xcx h))).trans h
theorem Xmn {w : World} {p : Addr} {v : Value} (h : w.cell? p = some v) (hz : w.frozen? p = false) : ∀ o, (w.alloc o).frozen? p = false := fun o => (World.frozen?_of_block (w := w) (Below.heap_alloc w o p.block (Xcx h))).trans hz
theorem Xgh (p : Addr) (A : Option Addr) (c : Nat) (w : World) (hc : w.cell? p = some (.slice A 0 c)) :
  Calls Tryz.prog 71 #[.pointer (some p)] w fun e w' => e = boom ∧ Below w.heap.size w w' := by
 have ac := Xbr hc
 go_enter Tryz.func71, Tryz.ntmps71
 go_wp2_with fail
 refine (Xah _).mono ?_
 rintro e w1 ⟨rfl, rfl⟩
 unfold boom
 go_wp2
 exact ⟨rfl, rfl, (Below.refl _ w).alloc (Nat.le_refl _) _⟩
theorem Xtw {w : World} {g : Nat} {k p n : Int} {s : ByteArray} {v : Value} (h : Xbx w g k p n s v) {q : Addr} (hq : q.block ≠ g) (u : Value) : Xbx (w.setCell q u) g k p n s v := (Below.heap_setCell _ _ _ _ (fun e => hq e.symm)).trans h
set_option maxHeartbeats 1000000 in
theorem Xfo (p : Addr) (b off n c : Nat) (w : World) (k pl u : Int) (s : ByteArray) (A5 : Option Addr) (n5 c5 : Nat) (hc : w.cell? p = some (.slice (some ⟨b, off, none⟩) (n + 1) c)) (hz : w.frozen? p = false) (hn : n + 1 ≤ c)
  (r0 : w.cell? ⟨b, off, none⟩ = some (.int .i64 k)) (r1 : w.cell? ⟨b, off + 1, none⟩ = some (.int .i64 pl)) (r2 : w.cell? ⟨b, off + 2, none⟩ = some (.int .i64 u)) (r3 : w.cell? ⟨b, off + 3, none⟩ = some (.string s)) (r4 : w.cell? ⟨b, off + 4, none⟩ = some (.slice A5 n5 c5)) :
  Calls Tryz.prog 71 #[.pointer (some p)] w fun e w' => e = .returned (.agg #[.int .i64 k, .int .i64 pl, .int .i64 u, .string s, .slice A5 n5 c5]) ∧
   ∃ w1 off', Below w.heap.size w w1 ∧ Below w.heap.size (w1.setCell p (.slice (some ⟨b, off', none⟩) n (c - 1))) w' ∧ (0 < n → off' = off + 5) := by
 have ac := Xbr hc
 obtain ⟨X, hX⟩ : ∃ X : World, X = w.alloc (.cells #[.int .i64 0, .int .i64 0, .int .i64 0, .string ⟨#[]⟩, .slice none 0 0] 35) := ⟨_, rfl⟩
 have hbX : Below w.heap.size w X := by rw [hX]; exact (Below.refl _ w).alloc (Nat.le_refl _) _
 have up : ∀ {q : Addr} {v : Value}, w.cell? q = some v → X.cell? q = some v := fun h => (hbX.cell (Xcx h)).trans h
 have xz : X.frozen? p = false := (hbX.frozen (Xcx hc)).trans hz
 have xc := up hc
 have x0 := Xbr (up r0)
 have x1 := Xbr (up r1)
 have x2 := Xbr (up r2)
 have x3 := Xbr (up r3)
 have x4 := Xbr (up r4)
 have y0 := up r0
 have y1 := up r1
 have y2 := up r2
 have y3 := up r3
 have y4 := up r4
 have yc := Xbr xc
 have yz := Xmn xc xz
 have hpb : p.block ≠ X.heap.size := fun e => by have := Xcx xc; omega
 have hblk := Xbx.new X k pl u s (.slice A5 n5 c5)
 have hset := fun v => Xtw hblk hpb v
 have z0 := fun v => (hset v).c0
 have z1 := fun v => (hset v).c1
 have z2 := fun v => (hset v).c2
 have z3 := fun v => (hset v).c3
 have z4 := fun v => (hset v).c4
 have hbY : Below w.heap.size w (X.alloc (.cells #[.int .i64 k, .int .i64 pl, .int .i64 u, .string s, .slice A5 n5 c5] 35)) := hbX.alloc hbX.size _
 have HBY := lh hbY
 have hres : Xbx (X.alloc (.cells #[.int .i64 k, .int .i64 pl, .int .i64 u, .string s, .slice A5 n5 c5] 35)) w.heap.size 0 0 0 ⟨#[]⟩ (.slice none 0 0) := by
  have h := Xbx.new w 0 0 0 ⟨#[]⟩ (.slice none 0 0)
  rw [← hX] at h
  exact h.alloc (by rw [hX]; simp) _
 have hps : p.block ≠ w.heap.size := fun e => by have := Xcx hc; omega
 have hrs := fun v => Xtw hres hps v
 have m0 := fun v => (hrs v).c0
 have m1 := fun v => (hrs v).c1
 have m2 := fun v => (hrs v).c2
 have m3 := fun v => (hrs v).c3
 have m4 := fun v => (hrs v).c4
 have l0 := fun v => (hrs v).fr 0
 have l1 := fun v => (hrs v).fr 1
 have l2 := fun v => (hrs v).fr 2
 have l3 := fun v => (hrs v).fr 3
 have l4 := fun v => (hrs v).fr 4
 clear hblk hset hpb hbY hres hps hrs
 by_cases hc1 : c = 1
 · subst hc1
   obtain rfl : n = 0 := by omega
   go_enter Tryz.func71, Tryz.ntmps71
   clear up r0 r1 r2 r3 r4 hbX
   have HX := lh hX
   go_wp2_with fail
   clear hc ac hz
   rw [← HX.out]
   clear hX
   refine (Xaj _).mono ?_
   rintro e w1 ⟨rfl, rfl⟩
   go_wp2_with fail
   all_goals (refine bodyPost_ret (v := .agg #[.int .i64 k, .int .i64 pl, .int .i64 u, .string s, .slice A5 n5 c5]) ?_ rfl ⟨rfl, X.alloc (.cells #[.int .i64 k, .int .i64 pl, .int .i64 u, .string s, .slice A5 n5 c5] 35), off, HBY.out, ?_, fun h => by omega⟩; simp [results, Tryz.results71, go_sem, m0, m1, m2, m3, m4]; refine Below.setCell ?_ (by simp) _; refine Below.setCell ?_ (by simp) _; refine Below.setCell ?_ (by simp) _; refine Below.setCell ?_ (by simp) _; refine Below.setCell ?_ (by simp) _; exact Below.refl _ _)
 · have hc2 : ¬ c - 1 = 0 := by omega
   go_enter Tryz.func71, Tryz.ntmps71
   clear up r0 r1 r2 r3 r4 hbX
   have HX := lh hX
   go_wp2_with fail
   clear hc ac hz
   rw [← HX.out]
   clear hX
   refine (Xaj _).mono ?_
   rintro e w1 ⟨rfl, rfl⟩
   go_wp2_with fail
   all_goals (refine bodyPost_ret (v := .agg #[.int .i64 k, .int .i64 pl, .int .i64 u, .string s, .slice A5 n5 c5]) ?_ rfl ⟨rfl, X.alloc (.cells #[.int .i64 k, .int .i64 pl, .int .i64 u, .string s, .slice A5 n5 c5] 35), off + 5, HBY.out, ?_, fun h => by omega⟩; simp [results, Tryz.results71, go_sem, m0, m1, m2, m3, m4]; refine Below.setCell ?_ (by simp) _; refine Below.setCell ?_ (by simp) _; refine Below.setCell ?_ (by simp) _; refine Below.setCell ?_ (by simp) _; refine Below.setCell ?_ (by simp) _; exact Below.refl _ _)
theorem Xkk (p : Addr) (n a b : Int) (w : World) (hc : w.cell? p = some (.int .i64 n)) (hz : w.frozen? p = false) (h1 : a ≤ n) (h2 : n ≤ b) (l1 : -9223372036854775808 ≤ n) (l2 : n ≤ 9223372036854775807)
  (htab : ∀ u, Lib.TabIs Tryz.prog (w.setCell p u) "internal/strconv.uint64pow10" .u64 Lib.pow10Tab) :
  Calls Tryz.prog 40 #[.pointer (some p), .int .i64 a, .int .i64 b] w fun e w' => e = .returned (.string (Xaa (Lib.itoa n))) ∧ Below w.heap.size (w.setCell p (.int .i64 0)) w' := by
 have hd : decide (n ≤ b) = true := by simpa using h2
 have HT := lh (htab (.int .i64 0))
 clear htab
 go_enter Tryz.func40, Tryz.ntmps40
 go_wp2_with fail
 refine (Xaj _).mono ?_
 rintro e w1 ⟨rfl, rfl⟩
 go_wp2_with fail
 refine (Xrf p n _ hc hz).mono ?_
 rintro e w1 ⟨rfl, hw1⟩
 rw [← hw1] at HT
 go_wp2_with fail
 rw [← hw1]
 refine (strconv_Itoa n l1 l2 _ HT.out).mono ?_
 rintro e w2 ⟨rfl, k, os, rfl⟩
 go_wp2_with fail
 go_ret
 exact ⟨rfl, Lib.below_grow _ _ (by simp) _ _⟩
theorem Xli (p : Addr) (n a b : Int) (w : World) (hc : w.cell? p = some (.int .i64 n)) (h : ¬ (a ≤ n ∧ n ≤ b)) :
  Calls Tryz.prog 40 #[.pointer (some p), .int .i64 a, .int .i64 b] w fun e w' => e = boom ∧ w = w' := by
 by_cases h1 : a ≤ n
 · have hd : decide (n ≤ b) = false := by rw [decide_eq_false_iff_not]; exact fun h2 => h ⟨h1, h2⟩
   clear h
   go_enter Tryz.func40, Tryz.ntmps40
   go_wp2_with fail
   refine (Xah _).mono ?_
   rintro e w1 ⟨rfl, rfl⟩
   unfold boom
   go_wp2
   exact ⟨rfl, rfl, rfl⟩
 · clear h
   go_enter Tryz.func40, Tryz.ntmps40
   go_wp2_with fail
   refine (Xah _).mono ?_
   rintro e w1 ⟨rfl, rfl⟩
   unfold boom
   go_wp2
   exact ⟨rfl, rfl, rfl⟩
theorem Xof (p : Addr) (n : Int) (w : World) (hc : w.cell? p = some (.int .i64 n)) (hz : w.frozen? p = false) (h : n = 0 ∨ n = 1) :
  Calls Tryz.prog 86 #[.pointer (some p)] w fun e w' => e = .returned (.string (Xaa (if n = 1 then [116, 114, 117, 101] else [102, 97, 108, 115, 101]))) ∧ w' = w.setCell p (.int .i64 0) := by
 rcases h with rfl | rfl
 all_goals
  go_enter Tryz.func86, Tryz.ntmps86
  go_wp2_with fail
  refine (Xaj _).mono ?_
  rintro e w1 ⟨rfl, rfl⟩
  go_wp2_with fail
  refine (Xrf p _ _ hc hz).mono ?_
  rintro e w1 ⟨rfl, hw1⟩
  go_wp2_with fail
  go_ret
  exact ⟨rfl, rfl⟩
theorem Xpy (p : Addr) (n : Int) (w : World) (hc : w.cell? p = some (.int .i64 n)) (h : ¬ (n = 0 ∨ n = 1)) :
  Calls Tryz.prog 86 #[.pointer (some p)] w fun e w' => e = boom ∧ w = w' := by
 have h0 : ¬ n = 0 := fun e => h (.inl e)
 have hd : (n == 0 || n == 1) = false := by rw [Bool.or_eq_false_iff]; exact ⟨by simpa using h0, by simpa using fun e => h (.inr e)⟩
 clear h
 go_enter Tryz.func86, Tryz.ntmps86
 go_wp2_with fail
 refine (Xah _).mono ?_
 rintro e w1 ⟨rfl, rfl⟩
 unfold boom
 go_wp2
 exact ⟨rfl, rfl, rfl⟩
set_option maxRecDepth 100000 in
theorem Xog (p : Addr) (s : List UInt8) (g n c : Nat) (zs : List ByteArray) (w : World) (hc : w.cell? p = some (.string (Xaa s))) (hz : w.frozen? p = false) (hn : n = zs.length) (hb : n ≤ 1000)
  (hcs : ∀ j, j < zs.length → w.cell? ⟨g, 0 + j, none⟩ = some (.string (zs.getD j ⟨#[]⟩))) (t : Bool) (ht : t = Lib.containsS zs (Xaa s)) :
  Calls Tryz.prog 87 #[.pointer (some p), .slice (some ⟨g, 0, none⟩) n c] w fun e w' => (t = true → e = .returned (.string (Xaa s)) ∧ w' = w.setCell p (.string ⟨#[]⟩)) ∧ (t = false → e = boom ∧ w = w') := by
 have hcon := slices_Contains_string g 0 n c zs (Xaa s) w (by omega) (by omega) hcs
 rw [hn, List.take_length, ← ht, ← hn] at hcon
 have HC := lh hcon
 clear hcon hcs ht hn hb
 cases t with
 | true =>
   go_enter Tryz.func87, Tryz.ntmps87
   go_wp2_with fail
   refine HC.out.mono ?_
   rintro e w1 ⟨rfl, rfl⟩
   go_wp2_with fail
   refine (Xaj _).mono ?_
   rintro e w2 ⟨rfl, rfl⟩
   go_wp2_with fail
   refine (Xen p _ _ hc hz).mono ?_
   rintro e w2 ⟨rfl, hw2⟩
   go_wp2_with fail
   go_ret
   exact ⟨fun _ => ⟨rfl, rfl⟩, fun h => by cases h⟩
 | false =>
   go_enter Tryz.func87, Tryz.ntmps87
   go_wp2_with fail
   refine HC.out.mono ?_
   rintro e w1 ⟨rfl, rfl⟩
   go_wp2_with fail
   refine (Xah _).mono ?_
   rintro e w2 ⟨rfl, rfl⟩
   unfold boom
   go_wp2
   exact ⟨rfl, fun h => by (cases h), fun _ => ⟨rfl, rfl⟩⟩
section
def argC (es : List Ex) (d : Int) (ts : List (List UInt8)) : Ts := match es with
 | [] => none
 | a :: _ => cat (penE a (d + 1) 0) (some ts)
def objC (es : List Ex) (d ch : Int) (ts : List (List UInt8)) : Ts := if ch < 8 then (match es with
 | [] => none
 | a :: _ => cat (penE a d (ch + 1)) (some ts)) else none
theorem Xai {p : Prop} [Decidable p] (h : p) (c : Ts) : need p c = c := if_pos h
theorem Xag {p : Prop} [Decidable p] (h : ¬ p) (c : Ts) : need p c = none := if_neg h
theorem Xlz {ch : Int} (h : ¬ ch < 8) (es : List Ex) (d : Int) (ts : List (List UInt8)) : objC es d ch ts = none := if_neg h
section
variable (p n : Int) (s : List UInt8) (args : List Ex) (d ch : Int)
theorem Xvm (k : Int) (h : ¬ d ≤ 24) : penE (.mk k p n s args) d ch = none := by
 rw [penE, if_neg (fun e => h e.1)]
theorem penE_1 (hd : d ≤ 24) : penE (.mk 1 p n s args) d ch = cat (need (0 ≤ n ∧ n ≤ 999999999999999999) (some [])) (cat (some [Lib.itoa n]) (need (s = [] ∧ args.length = 0) (some []))) := by
 rw [penE]
 by_cases h1 : 0 ≤ n ∧ n ≤ 999999999999999999
 · by_cases h2 : s = [] ∧ args.length = 0
   · obtain rfl := List.eq_nil_of_length_eq_zero h2.2
     rw [Xai h1, Xai h2, if_pos ⟨hd, by simp [Xcj, h1, h2], rfl⟩]
     simp [Xdt, Xbg, cat]
   · rw [Xag h2, Xac, Xac, if_neg]
     rintro ⟨_, h3, h4⟩
     exact h2 ⟨by simp [Xcj] at h3; exact h3.2.2, h4⟩
 · rw [Xag h1, Xan, if_neg]
   rintro ⟨_, h3, _⟩
   exact h1 (by simp [Xcj] at h3; exact ⟨h3.1, h3.2.1⟩)
theorem penE_2 (hd : d ≤ 24) : penE (.mk 2 p n s args) d ch = cat (need (n = 0 ∨ n = 1) (some [])) (cat (some [if n = 1 then [116, 114, 117, 101] else [102, 97, 108, 115, 101]]) (need (s = [] ∧ args.length = 0) (some []))) := by
 rw [penE]
 by_cases h1 : n = 0 ∨ n = 1
 · by_cases h2 : s = [] ∧ args.length = 0
   · obtain rfl := List.eq_nil_of_length_eq_zero h2.2
     rw [Xai h1, Xai h2, if_pos ⟨hd, by simp [Xcj, h1, h2], rfl⟩]
     rcases h1 with h1 | h1 <;> subst h1 <;> simp [Xdt, Xbg, cat]
   · rw [Xag h2, Xac, Xac, if_neg]
     rintro ⟨_, h3, h4⟩
     exact h2 ⟨by simp [Xcj] at h3; exact h3.2, h4⟩
 · rw [Xag h1, Xan, if_neg]
   rintro ⟨_, h3, _⟩
   exact h1 (by simp [Xcj] at h3; exact h3.1)
theorem penE_3 (hd : d ≤ 24) : penE (.mk 3 p n s args) d ch = cat (some [[110, 105, 108]]) (need (n = 0 ∧ s = [] ∧ args.length = 0) (some [])) := by
 rw [penE]
 by_cases h2 : n = 0 ∧ s = [] ∧ args.length = 0
 · obtain rfl := List.eq_nil_of_length_eq_zero h2.2.2
   rw [Xai h2, if_pos ⟨hd, by simp [Xcj, h2], rfl⟩]
   simp [Xdt, Xbg, cat]
 · rw [Xag h2, Xac, if_neg]
   rintro ⟨_, h3, h4⟩
   exact h2 (by simp [Xcj] at h3; exact ⟨h3.1, h3.2, h4⟩)
theorem Xjr (k : Int) (hk : k = 4 ∨ k = 11 ∨ k = 13) (hd : d ≤ 24) : penE (.mk k p n s args) d ch = cat (need (Xam s = true) (some [])) (cat (some (if k = 4 then [s] else if k = 11 then [[110, 101, 119], s] else [[114, 101, 108, 101, 97, 115, 101], s])) (need (n = 0 ∧ args.length = 0) (some []))) := by
 rw [penE]
 by_cases h1 : Xam s = true
 · by_cases h2 : n = 0 ∧ args.length = 0
   · obtain rfl := List.eq_nil_of_length_eq_zero h2.2
     rw [Xai h1, Xai h2]
     rcases hk with h | h | h <;> subst h <;> (rw [if_pos ⟨hd, by simp [Xcj, h1, h2], rfl⟩]; simp [Xdt, Xbg, cat])
   · rw [Xag h2, Xac, Xac, if_neg]
     rintro ⟨_, h3, h4⟩
     rcases hk with h | h | h <;> subst h <;> exact h2 ⟨by simp [Xcj] at h3; exact h3.1, h4⟩
 · rw [Xag h1, Xan, if_neg]
   rintro ⟨_, h3, _⟩
   rcases hk with h | h | h <;> subst h <;> exact h1 (by simp [Xcj] at h3; exact h3.2)
theorem penE_5 (hd : d ≤ 24) : penE (.mk 5 p n s args) d ch = cat (need (Xam s = true) (some [])) (cat (objC args d ch [[46], s]) (need (n = 0 ∧ args.tail.length = 0) (some []))) := by
 rw [penE]
 by_cases h1 : Xam s = true
 · by_cases hc : ch < 8
   · by_cases hn : n = 0
     · match args with
       | [] => simp [argsN, objC, hc, Xan, Xac]
       | [a] =>
         rw [Xai h1, Xai ⟨hn, rfl⟩, if_pos ⟨hd, by simp [Xcj, h1, hc, hn], rfl⟩]
         simp only [objC, if_pos hc, Xdt, show Xbb 5 = true from rfl, if_true]
         cases penE a d (ch + 1) with
         | none => rfl
         | some x => simp [cat, Xbg]
       | a :: b :: r =>
         rw [Xag (p := n = 0 ∧ (a :: b :: r).tail.length = 0) (by simp), Xac, Xac, if_neg]
         rintro ⟨_, _, h4⟩
         simp [argsN] at h4
     · rw [Xag (p := n = 0 ∧ args.tail.length = 0) (fun h => hn h.1), Xac, Xac, if_neg]
       rintro ⟨_, h3, _⟩
       exact hn (by simp [Xcj] at h3; exact h3.1)
   · rw [Xlz hc, Xan, Xac, if_neg]
     rintro ⟨_, h3, _⟩
     exact hc (by simp [Xcj] at h3; exact h3.2.2)
 · rw [Xag h1, Xan, if_neg]
   rintro ⟨_, h3, _⟩
   exact h1 (by simp [Xcj] at h3; exact h3.2.1)
theorem penE_6 (hd : d ≤ 24) : penE (.mk 6 p n s args) d ch = cat (objC args d ch [[91]]) (cat (argC args.tail d [[93]]) (need (n = 0 ∧ s = [] ∧ args.tail.tail.length = 0) (some []))) := by
 rw [penE]
 by_cases hc : ch < 8
 · by_cases hn : n = 0 ∧ s = []
   · match args with
     | [] => simp [argsN, objC, hc, Xan]
     | [a] => simp [argsN, argC, Xan, Xac]
     | [a, b] =>
       rw [Xai ⟨hn.1, hn.2, rfl⟩, if_pos ⟨hd, by simp [Xcj, hc, hn], rfl⟩]
       simp only [objC, if_pos hc, argC, List.tail_cons, Xdt, show Xbb 6 = true from rfl, if_true, Bool.false_eq_true, if_false]
       cases penE a d (ch + 1) with
       | none => rfl
       | some x =>
         cases penE b (d + 1) 0 with
         | none => rfl
         | some y => simp [cat, Xbg]
     | a :: b :: c :: r =>
       rw [Xag (p := n = 0 ∧ s = [] ∧ (a :: b :: c :: r).tail.tail.length = 0) (by simp), Xac, Xac, if_neg]
       rintro ⟨_, _, h4⟩
       simp [argsN] at h4
   · rw [Xag (p := n = 0 ∧ s = [] ∧ args.tail.tail.length = 0) (fun h => hn ⟨h.1, h.2.1⟩), Xac, Xac, if_neg]
     rintro ⟨_, h3, _⟩
     exact hn (by simp [Xcj] at h3; exact ⟨h3.1, h3.2.1⟩)
 · rw [Xlz hc, Xan, if_neg]
   rintro ⟨_, h3, _⟩
   exact hc (by simp [Xcj] at h3; exact h3.2.2)
theorem penE_7 (hd : d ≤ 24) : penE (.mk 7 p n s args) d ch = cat (objC args d ch [[91]]) (cat (argC args.tail d [[58]]) (cat (argC args.tail.tail d [[93]]) (need (n = 0 ∧ s = [] ∧ args.tail.tail.tail.length = 0) (some [])))) := by
 rw [penE]
 by_cases hc : ch < 8
 · by_cases hn : n = 0 ∧ s = []
   · match args with
     | [] => simp [argsN, objC, hc, Xan]
     | [a] => simp [argsN, argC, Xan, Xac]
     | [a, b] => simp [argsN, argC, Xan, Xac]
     | [a, b, c] =>
       rw [Xai ⟨hn.1, hn.2, rfl⟩, if_pos ⟨hd, by simp [Xcj, hc, hn], rfl⟩]
       simp only [objC, if_pos hc, argC, List.tail_cons, Xdt, show Xbb 7 = true from rfl, if_true, Bool.false_eq_true, if_false]
       cases penE a d (ch + 1) with
       | none => rfl
       | some x =>
         cases penE b (d + 1) 0 with
         | none => rfl
         | some y =>
           cases penE c (d + 1) 0 with
           | none => rfl
           | some z => simp [cat, Xbg]
     | a :: b :: c :: e :: r =>
       rw [Xag (p := n = 0 ∧ s = [] ∧ (a :: b :: c :: e :: r).tail.tail.tail.length = 0) (by simp), Xac, Xac, Xac, if_neg]
       rintro ⟨_, _, h4⟩
       simp [argsN] at h4
   · rw [Xag (p := n = 0 ∧ s = [] ∧ args.tail.tail.tail.length = 0) (fun h => hn ⟨h.1, h.2.1⟩), Xac, Xac, Xac, if_neg]
     rintro ⟨_, h3, _⟩
     exact hn (by simp [Xcj] at h3; exact ⟨h3.1, h3.2.1⟩)
 · rw [Xlz hc, Xan, if_neg]
   rintro ⟨_, h3, _⟩
   exact hc (by simp [Xcj] at h3; exact h3.2.2)
theorem Xnp (k : Int) (hk : k = 8 ∨ k = 12) (hd : d ≤ 24) : penE (.mk k p n s args) d ch = cat (some (if k = 8 then [[108, 101, 110], [40]] else [[109, 97, 107, 101], [40]])) (cat (argC args d [[41]]) (need (n = 0 ∧ s = [] ∧ args.tail.length = 0) (some []))) := by
 rw [penE]
 by_cases hn : n = 0 ∧ s = []
 · match args with
   | [] => rcases hk with h | h <;> subst h <;> simp [argsN, argC, Xan, Xac]
   | [a] =>
     rw [Xai ⟨hn.1, hn.2, rfl⟩]
     rcases hk with h | h <;> subst h <;>
     · rw [if_pos ⟨hd, by simp [Xcj, hn], rfl⟩]
       simp only [argC, Xdt, show Xbb 8 = false from rfl, show Xbb 12 = false from rfl, Bool.false_eq_true, if_false]
       cases penE a (d + 1) 0 with
       | none => rfl
       | some x => simp [cat, Xbg]
   | a :: b :: r =>
     rw [Xag (p := n = 0 ∧ s = [] ∧ (a :: b :: r).tail.length = 0) (by simp), Xac, Xac, if_neg]
     rintro ⟨_, _, h4⟩
     rcases hk with h | h <;> subst h <;> simp [argsN] at h4
 · rw [Xag (p := n = 0 ∧ s = [] ∧ args.tail.length = 0) (fun h => hn ⟨h.1, h.2.1⟩), Xac, Xac, if_neg]
   rintro ⟨_, h3, _⟩
   rcases hk with h | h <;> subst h <;> exact hn (by simp [Xcj] at h3; exact h3)
theorem penE_9 (hd : d ≤ 24) : penE (.mk 9 p n s args) d ch = cat (need (s = [45] ∨ s = [33]) (some [])) (cat (some [[40], s]) (cat (argC args d [[41]]) (need (n = 0 ∧ args.tail.length = 0) (some [])))) := by
 rw [penE]
 by_cases h1 : s = [45] ∨ s = [33]
 · by_cases hn : n = 0
   · match args with
     | [] => simp [argsN, argC, Xan, Xac]
     | [a] =>
       rw [Xai h1, Xai ⟨hn, rfl⟩, if_pos ⟨hd, by simp [Xcj, h1, hn], rfl⟩]
       simp only [argC, Xdt, show Xbb 9 = false from rfl, Bool.false_eq_true, if_false]
       cases penE a (d + 1) 0 with
       | none => rfl
       | some x => simp [cat, Xbg]
     | a :: b :: r =>
       rw [Xag (p := n = 0 ∧ (a :: b :: r).tail.length = 0) (by simp), Xac, Xac, Xac, if_neg]
       rintro ⟨_, _, h4⟩
       simp [argsN] at h4
   · rw [Xag (p := n = 0 ∧ args.tail.length = 0) (fun h => hn h.1), Xac, Xac, Xac, if_neg]
     rintro ⟨_, h3, _⟩
     exact hn (by simp [Xcj] at h3; exact h3.1)
 · rw [Xag h1, Xan, if_neg]
   rintro ⟨_, h3, _⟩
   exact h1 (by simp [Xcj] at h3; exact h3.2)
theorem Xvj (hd : d ≤ 24) : penE (.mk 10 p n s args) d ch = cat (some [[40]]) (cat (need (s ∈ opsL) (some [])) (cat (argC args d [s]) (cat (argC args.tail d [[41]]) (need (n = 0 ∧ args.tail.tail.length = 0) (some []))))) := by
 rw [penE]
 by_cases h1 : s ∈ opsL
 · by_cases hn : n = 0
   · match args with
     | [] => simp [argsN, argC, Xan, Xac]
     | [a] => simp [argsN, argC, Xan, Xac]
     | [a, b] =>
       rw [Xai h1, Xai ⟨hn, rfl⟩, if_pos ⟨hd, by simp [Xcj, h1, hn], rfl⟩]
       simp only [argC, List.tail_cons, Xdt, show Xbb 10 = false from rfl, Bool.false_eq_true, if_false]
       cases penE a (d + 1) 0 with
       | none => rfl
       | some x =>
         cases penE b (d + 1) 0 with
         | none => rfl
         | some y => simp [cat, Xbg]
     | a :: b :: c :: r =>
       rw [Xag (p := n = 0 ∧ (a :: b :: c :: r).tail.tail.length = 0) (by simp), Xac, Xac, Xac, Xac, if_neg]
       rintro ⟨_, _, h4⟩
       simp [argsN] at h4
   · rw [Xag (p := n = 0 ∧ args.tail.tail.length = 0) (fun h => hn h.1), Xac, Xac, Xac, Xac, if_neg]
     rintro ⟨_, h3, _⟩
     exact hn (by simp [Xcj] at h3; exact h3.1)
 · rw [Xag h1, Xan, Xac, if_neg]
   rintro ⟨_, h3, _⟩
   exact h1 (by simp [Xcj] at h3; exact h3.2)
theorem penE_8 (hd : d ≤ 24) : penE (.mk 8 p n s args) d ch = cat (some [[108, 101, 110], [40]]) (cat (argC args d [[41]]) (need (n = 0 ∧ s = [] ∧ args.tail.length = 0) (some []))) := Xnp p n s args d ch 8 (.inl rfl) hd
theorem penE_12 (hd : d ≤ 24) : penE (.mk 12 p n s args) d ch = cat (some [[109, 97, 107, 101], [40]]) (cat (argC args d [[41]]) (need (n = 0 ∧ s = [] ∧ args.tail.length = 0) (some []))) := Xnp p n s args d ch 12 (.inr rfl) hd
theorem penE_4 (hd : d ≤ 24) : penE (.mk 4 p n s args) d ch = cat (need (Xam s = true) (some [])) (cat (some [s]) (need (n = 0 ∧ args.length = 0) (some []))) := Xjr p n s args d ch 4 (.inl rfl) hd
theorem Xvk (hd : d ≤ 24) : penE (.mk 11 p n s args) d ch = cat (need (Xam s = true) (some [])) (cat (some [[110, 101, 119], s]) (need (n = 0 ∧ args.length = 0) (some []))) := Xjr p n s args d ch 11 (.inr (.inl rfl)) hd
theorem Xvl (hd : d ≤ 24) : penE (.mk 13 p n s args) d ch = cat (need (Xam s = true) (some [])) (cat (some [[114, 101, 108, 101, 97, 115, 101], s]) (need (n = 0 ∧ args.length = 0) (some []))) := Xjr p n s args d ch 13 (.inr (.inr rfl)) hd
theorem Xaw {q : Prop} [Decidable q] (h : q) (c : Ts) : cat (need q (some [])) c = c := by rw [Xai h, Xbh]
theorem Xaz {q : Prop} [Decidable q] (h : ¬ q) (c : Ts) : cat (need q (some [])) c = none := by rw [Xag h, Xan]
theorem Xvn (k : Int) (hk : k < 1 ∨ 13 < k) : penE (.mk k p n s args) d ch = none := by
 rw [penE, if_neg]
 rintro ⟨_, h3, _⟩
 unfold Xcj at h3
 rw [if_neg (show ¬ k = 1 by omega), if_neg (show ¬ k = 2 by omega), if_neg (show ¬ k = 3 by omega), if_neg (show ¬ k = 4 by omega), if_neg (show ¬ k = 5 by omega), if_neg (show ¬ k = 6 by omega), if_neg (show ¬ k = 7 by omega), if_neg (show ¬ k = 8 by omega), if_neg (show ¬ k = 9 by omega), if_neg (show ¬ k = 10 by omega), if_neg (show ¬ k = 11 by omega), if_neg (show ¬ k = 12 by omega), if_neg (show ¬ k = 13 by omega)] at h3
 cases h3
end
end
end Go.Proofs.YtodociiaobjfgaaGreatDoor
