/- What code weighs: the whole. -/
import Derived.Test.YtgohnlcgidmlfaaDoorMde
import Derived.Test.YtgohnlcgidmlfaaDoorDn
set_option linter.unusedVariables false
set_option linter.unusedSimpArgs false
namespace Go.Proofs.YtgohnlcgidmlfaaDoor
open Go.RowKit

/-- so much with these functions more -/
def goF : List Fn → Int → Int → Int
  | [], n, _ => n
  | f :: fs, n, most => if n ≤ most then goF fs (goL (f.code.map (·.args.length)) (n + ((f.name.length : Int) + (f.code.length : Int))) most) most else n
theorem goF_go {f : Fn} {fs : List Fn} {n most : Int} (h : n ≤ most) : goF (f :: fs) n most = goF fs (goL (f.code.map (·.args.length)) (n + ((f.name.length : Int) + (f.code.length : Int))) most) most := by rw [goF, if_pos h]
theorem goF_stop (fs : List Fn) (n most : Int) (h : ¬ n ≤ most) : goF fs n most = n := by
  cases fs with
  | nil => rw [goF]
  | cons s ss => rw [goF, if_neg h]
def sumM (m : Mo) : Int := (m.globals.length : Int) + (m.structs.length : Int) + (m.chans.length : Int) + (m.locks.length : Int) + (m.inputs.length : Int) + (m.sinks.length : Int) + (m.hatches.length : Int) + (m.threads.length : Int) + (m.funcs.length : Int)
/-- what code weighs -/
def weighM (m : Mo) (most : Int) : Int :=
  goL (m.hatches.map List.length) (goL (m.sinks.map List.length) (goL (m.inputs.map List.length) (goL (m.locks.map List.length) (goL (m.chans.map (·.name.length)) (goL (m.structs.map (·.name.length)) (goL (m.globals.map (·.name.length)) (goF m.funcs (sumM m) most) most) most) most) most) most) most) most

/-- the nine slices, spelled out -/
structure Vm.Form (v : Vm) (m : Mo) : Prop where
  g : ∃ A c, v.g = .slice A m.globals.length c ∧ m.globals.length ≤ c ∧ m.globals.length ≤ 140737488355328
  s : ∃ A c, v.s = .slice A m.structs.length c ∧ m.structs.length ≤ c ∧ m.structs.length ≤ 140737488355328
  c : ∃ A c, v.c = .slice A m.chans.length c ∧ m.chans.length ≤ c ∧ m.chans.length ≤ 140737488355328
  l : ∃ A c, v.l = .slice A m.locks.length c ∧ m.locks.length ≤ c ∧ m.locks.length ≤ 140737488355328
  i : ∃ A c, v.i = .slice A m.inputs.length c ∧ m.inputs.length ≤ c ∧ m.inputs.length ≤ 140737488355328
  o : ∃ A c, v.o = .slice A m.sinks.length c ∧ m.sinks.length ≤ c ∧ m.sinks.length ≤ 140737488355328
  h : ∃ A c, v.h = .slice A m.hatches.length c ∧ m.hatches.length ≤ c ∧ m.hatches.length ≤ 140737488355328
  f : ∃ A c, v.f = .slice A m.funcs.length c ∧ m.funcs.length ≤ c ∧ m.funcs.length ≤ 140737488355328
  t : ∃ A c, v.t = .slice A m.threads.length c ∧ m.threads.length ≤ c ∧ m.threads.length ≤ 140737488355328
theorem IsMo.form {w : World} {S : Nat → Prop} {m : Mo} {v : Vm} (h : IsMo w S m v) : v.Form m :=
  ⟨h.g.form, h.s.form, h.c.form, h.l.form, h.i.form, h.o.form, h.h.form, h.f.form, h.t.form⟩

theorem Lies.names {w : World} {S : Nat → Prop} {xs : List Sz} {v : Value} (h : Lies KS w S xs v) : ∀ l ∈ xs.map (·.name.length), l ≤ 140737488355328 := by
  intro l hl
  obtain ⟨A, c, rfl, _⟩ := h.form
  obtain ⟨x, hx, rfl⟩ := List.mem_map.1 hl
  obtain ⟨k, hk, rfl⟩ := List.getElem_of_mem hx
  obtain ⟨_, _, _, _, _, _, h1, _⟩ := h.sized k hk
  exact h1
theorem Lies.texts {w : World} {S : Nat → Prop} {xs : List (List UInt8)} {v : Value} (h : Lies KT w S xs v) : ∀ l ∈ xs.map List.length, l ≤ 140737488355328 := by
  intro l hl
  obtain ⟨A, c, rfl, _⟩ := h.form
  obtain ⟨x, hx, rfl⟩ := List.mem_map.1 hl
  obtain ⟨k, hk, rfl⟩ := List.getElem_of_mem hx
  obtain ⟨_, _, _, _, _, h1⟩ := h.text k hk
  exact h1

set_option maxHeartbeats 4000000 in
set_option maxRecDepth 100000 in
theorem weighm_any {w : World} {m : Mo} {v : Vm} (h : IsMo w (· < w.heap.size) m v) (most : Int) (hm0 : 0 ≤ most) (hm : most ≤ 1000000) :
    Calls Tryd.prog 9 #[.agg v.arr, .int .i64 most] w fun e w' => e = .returned (.int .i64 (weighM m most)) ∧ Below w.heap.size w w' := by
  have hf := h.form
  obtain ⟨vg, vs, vc, vl, vi, vo, vh, vf, vt⟩ := v
  obtain ⟨⟨A0, c0, e0, l0, b0⟩, ⟨A1, c1, e1, l1, b1⟩, ⟨A2, c2, e2, l2, b2⟩, ⟨A3, c3, e3, l3, b3⟩, ⟨A4, c4, e4, l4, b4⟩, ⟨A5, c5, e5, l5, b5⟩, ⟨A6, c6, e6, l6, b6⟩, ⟨A7, c7, e7, l7, b7⟩, ⟨A8, c8, e8, l8, b8⟩⟩ := hf
  dsimp only at e0 e1 e2 e3 e4 e5 e6 e7 e8
  subst e0 e1 e2 e3 e4 e5 e6 e7 e8
  simp only [Vm.arr]
  obtain ⟨n0, hn0⟩ : ∃ n, n = m.globals.length := ⟨_, rfl⟩
  obtain ⟨n1, hn1⟩ : ∃ n, n = m.structs.length := ⟨_, rfl⟩
  obtain ⟨n2, hn2⟩ : ∃ n, n = m.chans.length := ⟨_, rfl⟩
  obtain ⟨n3, hn3⟩ : ∃ n, n = m.locks.length := ⟨_, rfl⟩
  obtain ⟨n4, hn4⟩ : ∃ n, n = m.inputs.length := ⟨_, rfl⟩
  obtain ⟨n5, hn5⟩ : ∃ n, n = m.sinks.length := ⟨_, rfl⟩
  obtain ⟨n6, hn6⟩ : ∃ n, n = m.hatches.length := ⟨_, rfl⟩
  obtain ⟨n7, hn7⟩ : ∃ n, n = m.funcs.length := ⟨_, rfl⟩
  obtain ⟨n8, hn8⟩ : ∃ n, n = m.threads.length := ⟨_, rfl⟩
  have hsum : sumM m = (n0 : Int) + (n1 : Int) + (n2 : Int) + (n3 : Int) + (n4 : Int) + (n5 : Int) + (n6 : Int) + (n8 : Int) + (n7 : Int) := by rw [hn0, hn1, hn2, hn3, hn4, hn5, hn6, hn7, hn8]; rfl
  rw [← hn0] at l0 b0 h ⊢
  rw [← hn1] at l1 b1 h ⊢
  rw [← hn2] at l2 b2 h ⊢
  rw [← hn3] at l3 b3 h ⊢
  rw [← hn4] at l4 b4 h ⊢
  rw [← hn5] at l5 b5 h ⊢
  rw [← hn6] at l6 b6 h ⊢
  rw [← hn7] at l7 b7 h ⊢
  rw [← hn8] at l8 b8 h ⊢
  have HX := Lib.hid h
  clear h
  have HN := Lib.hid (And.intro hn0 (And.intro hn1 (And.intro hn2 (And.intro hn3 (And.intro hn4 (And.intro hn5 (And.intro hn6 (And.intro hn7 hn8))))))))
  have HSUM := Lib.hid hsum
  clear hn0 hn1 hn2 hn3 hn4 hn5 hn6 hn7 hn8 hsum
  have x1 := IntWalk.i64_in ((n0 : Int) + (n1 : Int)) (by omega)
  have x2 := IntWalk.i64_in ((n0 : Int) + (n1 : Int) + (n2 : Int)) (by omega)
  have x3 := IntWalk.i64_in ((n0 : Int) + (n1 : Int) + (n2 : Int) + (n3 : Int)) (by omega)
  have x4 := IntWalk.i64_in ((n0 : Int) + (n1 : Int) + (n2 : Int) + (n3 : Int) + (n4 : Int)) (by omega)
  have x5 := IntWalk.i64_in ((n0 : Int) + (n1 : Int) + (n2 : Int) + (n3 : Int) + (n4 : Int) + (n5 : Int)) (by omega)
  have x6 := IntWalk.i64_in ((n0 : Int) + (n1 : Int) + (n2 : Int) + (n3 : Int) + (n4 : Int) + (n5 : Int) + (n6 : Int)) (by omega)
  have x7 := IntWalk.i64_in ((n0 : Int) + (n1 : Int) + (n2 : Int) + (n3 : Int) + (n4 : Int) + (n5 : Int) + (n6 : Int) + (n8 : Int)) (by omega)
  have x8 := IntWalk.i64_in ((n0 : Int) + (n1 : Int) + (n2 : Int) + (n3 : Int) + (n4 : Int) + (n5 : Int) + (n6 : Int) + (n8 : Int) + (n7 : Int)) (by omega)
  go_enter Tryd.func9, Tryd.ntmps9
  go_wp2
  clear x1 x2 x3 x4 x5 x6 x7 x8
  obtain ⟨X, hX⟩ : ∃ X : World, X = w.alloc (.cells #[.slice A0 n0 c0, .slice A1 n1 c1, .slice A2 n2 c2, .slice A3 n3 c3, .slice A4 n4 c4, .slice A5 n5 c5, .slice A6 n6 c6, .slice A7 n7 c7, .slice A8 n8 c8] 27) := ⟨_, rfl⟩
  obtain ⟨g, hg⟩ : ∃ g, g = w.heap.size := ⟨_, rfl⟩
  have hx1 : X.heap[g]? = some (.cells #[.slice A0 n0 c0, .slice A1 n1 c1, .slice A2 n2 c2, .slice A3 n3 c3, .slice A4 n4 c4, .slice A5 n5 c5, .slice A6 n6 c6, .slice A7 n7 c7, .slice A8 n8 c8] 27 (0, 0)) := by rw [hX, hg]; exact heap_alloc_new w _
  have hxs : X.heap.size = g + 1 := by rw [hX, hg]; simp
  have hxb : Below g w X := by rw [hX, hg]; exact (Below.refl _ w).alloc (Nat.le_refl _) _
  rw [← hX, ← hg]
  have HX1 := Lib.hid hx1
  have HXS := Lib.hid hxs
  have HXB := Lib.hid hxb
  have HG := Lib.hid hg
  clear hX hx1 hxs hxb hg
  go_loopw [5, 6] (fun n i wr => ∃ (j : Nat) (nn : Int), j ≤ n7 ∧ i = .int .i64 j ∧ n = .int .i64 nn ∧ 0 ≤ nn ∧ nn ≤ 10000000000000000 ∧ Hid (goF (m.funcs.drop j) nn most = goF m.funcs (sumM m) most) ∧ Hid (Below (g + 1) X wr)) (fun _ i _ => n7 - (intOf i).toNat)
  case atStart => exact ⟨0, _, Nat.zero_le _, rfl, rfl, by omega, by omega, Lib.hid (by rw [HSUM.out]; rfl), Lib.hid (Below.refl _ _)⟩
  case round =>
    obtain ⟨wo, rfl⟩ : ∃ wo : World, wo = wr := ⟨_, rfl⟩
    obtain ⟨j, nn, hj, rfl, rfl, hn0, hn1, HGO, HBL⟩ := hrel
    have hrow := (HBL.out.block g (by omega)).trans HX1.out
    have k7 : wo.cell? ⟨g, 7, none⟩ = some (.slice A7 n7 c7) := by rw [cell_of_row _ _ 7 _ _ (0, 0) hrow]; rfl
    have HR := Lib.hid hrow
    clear hrow
    have hws : g < wo.heap.size := by have := HBL.out.size; have := HXS.out; omega
    have hbw : Below g w wo := HXB.out.trans (HBL.out.mono (by omega))
    have hin : IsMo wo (· < g) m ⟨.slice A0 n0 c0, .slice A1 n1 c1, .slice A2 n2 c2, .slice A3 n3 c3, .slice A4 n4 c4, .slice A5 n5 c5, .slice A6 n6 c6, .slice A7 n7 c7, .slice A8 n8 c8⟩ := by
      have := HX.out
      rw [← HG.out] at this
      exact this.below hbw
    have HIN := Lib.hid hin
    have HBW := Lib.hid hbw
    clear hin hbw
    by_cases hgo : j < n7 ∧ nn ≤ most
    · obtain ⟨hlt, hle⟩ := hgo
      have hje : j < m.funcs.length := by rw [← HN.out.2.2.2.2.2.2.2.1]; exact hlt
      obtain ⟨b, off, vv, rfl, hbB, hat, hcode, hfin⟩ := HIN.out.f.fn j hje
      obtain ⟨A9, c9, rfl, l9, b9⟩ := hcode.form
      obtain ⟨sn, hsn⟩ : ∃ sn, sn = bs m.funcs[j].name := ⟨_, rfl⟩
      obtain ⟨nl, hnl⟩ : ∃ nl, nl = m.funcs[j].name.length := ⟨_, rfl⟩
      obtain ⟨cl, hcl⟩ : ∃ nl, nl = m.funcs[j].code.length := ⟨_, rfl⟩
      have z1 : sn.size = nl := by rw [hsn, bs_size, hnl]
      have hnm := hfin.name
      have r0 := hat.c0
      have r4 := hat.c4
      rw [← hsn] at r0
      rw [← hnl] at hnm
      rw [← hcl] at r4 l9 b9 hcode
      obtain ⟨N2, hN2⟩ : ∃ N2 : Int, N2 = goL (m.funcs[j].code.map (·.args.length)) (nn + ((nl : Int) + (cl : Int))) most := ⟨_, rfl⟩
      have HGO2 : Hid (goF (m.funcs.drop (j + 1)) N2 most = goF m.funcs (sumM m) most) := Lib.hid (by
        have := HGO.out
        rw [drop_at hje, goF_go hle] at this
        rw [hN2, hnl, hcl]
        exact this)
      have HN2 := Lib.hid hN2
      have HCO := Lib.hid hcode
      have HCL := Lib.hid hcl
      have R4 := Lib.hid r4
      have q1 : -9223372036854775808 ≤ (nl : Int) + (cl : Int) ∧ (nl : Int) + (cl : Int) ≤ 9223372036854775807 := by omega
      have q2 : -9223372036854775808 ≤ nn + ((nl : Int) + (cl : Int)) ∧ nn + ((nl : Int) + (cl : Int)) ≤ 9223372036854775807 := by omega
      have x1 := IntWalk.i64_in _ q1
      have x2 := IntWalk.i64_in _ q2
      clear q1 q2 hsn hnl hcl hN2 hcode hfin hat HX HGO
      go_wp2
      go_quiet (fail)
      clear x1 x2
      generalize hwq : wo.drewN _ = wq
      have hdq : Drawn wo wq := ⟨_, hwq.symm⟩
      have hb0 : Below wo.heap.size wo wq := hdq.below
      have HB00 := Lib.hid hb0
      have hhq := hdq.heap
      have hh0 := Lib.hid hhq
      have hbq : Below (g + 1) wo wq := hb0.mono (by omega)
      have HBQ := Lib.hid hbq
      clear hwq hdq hb0 hhq hbq k7
      go_wp2
      go_loopw [5, 7] (fun n i wr => ∃ (kk : Nat) (mm : Int), kk ≤ cl ∧ i = .int .i64 kk ∧ n = .int .i64 mm ∧ 0 ≤ mm ∧ mm ≤ 10000000000000000 ∧ Hid (goL ((m.funcs[j].code.drop kk).map (·.args.length)) mm most = N2) ∧ Hid (Below (g + 1) wo wr) ∧ wq.heap.size ≤ wr.heap.size) (fun _ i _ => cl - (intOf i).toNat)
      case atStart => exact ⟨0, _, Nat.zero_le _, rfl, rfl, by omega, by omega, Lib.hid HN2.out.symm, HBQ, Nat.le_refl _⟩
      case round =>
        obtain ⟨wi, rfl⟩ : ∃ wi : World, wi = wr := ⟨_, rfl⟩
        obtain ⟨kk, mm, hkk, rfl, rfl, hmm0, hmm1, HWI, HBI, hszi⟩ := hrel
        have hrow := (HBI.out.block g (by omega)).trans HR.out
        have k7 : wi.cell? ⟨g, 7, none⟩ = some (.slice (some ⟨b, off, none⟩) n7 c7) := by rw [cell_of_row _ _ 7 _ _ (0, 0) hrow]; rfl
        have s4 := (HBI.out.cell (p := ⟨b, off + j * 5 + 4, none⟩) (by show b < g + 1; omega)).trans R4.out
        clear hrow
        by_cases hgo : kk < cl ∧ mm ≤ most
        · obtain ⟨hkl, hml⟩ := hgo
          have hke : kk < m.funcs[j].code.length := by rw [← HCL.out]; exact hkl
          obtain ⟨b', off', v', rfl, hbB', hat', hargs, hin'⟩ := HCO.out.op kk hke
          obtain ⟨A10, c10, rfl, l10, b10⟩ := hargs.form
          have s8 := (HBI.out.cell (p := ⟨b', off' + kk * 12 + 8, none⟩) (by show b' < g + 1; omega)).trans hat'.c8
          obtain ⟨al, hal⟩ : ∃ nl, nl = m.funcs[j].code[kk].args.length := ⟨_, rfl⟩
          have HWN : Hid (goL ((m.funcs[j].code.drop (kk + 1)).map (·.args.length)) (mm + (al : Int)) most = N2) := Lib.hid (by
            have := HWI.out
            rw [drop_at hke, List.map_cons, goL_go hml, ← hal] at this
            exact this)
          rw [← hal] at s8 l10 b10
          have q1 : -9223372036854775808 ≤ mm + (al : Int) ∧ mm + (al : Int) ≤ 9223372036854775807 := by omega
          have x1 := IntWalk.i64_in _ q1
          clear q1 hal hat' hargs hin' HCO HWI HN2 HIN HR HX1 R4
          go_wp2
          go_roundw
          case rel => exact ⟨kk + 1, _, by omega, by go_num, rfl, by omega, by omega, HWN, HBI, hszi⟩
          case measure => simp [intOf]; omega
        · have HE : Hid (mm = N2) := Lib.hid (by
            rw [← HWI.out]
            by_cases hkl : kk < cl
            · rw [goL_stop _ _ _ (fun h => hgo ⟨hkl, h⟩)]
            · rw [List.drop_of_length_le (by rw [← HCL.out]; omega), List.map_nil, goL])
          have hcase : (kk < cl ∧ ¬ mm ≤ most) ∨ kk = cl := by
            rcases Nat.lt_or_ge kk cl with h | h
            · exact .inl ⟨h, fun h2 => hgo ⟨h, h2⟩⟩
            · exact .inr (by omega)
          clear hgo HWI HN2 HIN HR HX1 HCO R4
          rcases hcase with ⟨h, h'⟩ | h
          all_goals
            go_wp2
            go_roundw
            case rel => exact ⟨j + 1, mm, by omega, by go_num, rfl, by omega, by omega, Lib.hid (by rw [HE.out]; exact HGO2.out), Lib.hid (HBL.out.trans HBI.out)⟩
            case measure => simp [intOf]; omega
    · obtain ⟨N, hN⟩ : ∃ N, N = goF m.funcs (sumM m) most := ⟨_, rfl⟩
      have HE : nn = N := by
        rw [hN, ← HGO.out]
        by_cases hlt : j < n7
        · rw [goF_stop _ _ _ (fun h => hgo ⟨hlt, h⟩)]
        · rw [List.drop_of_length_le (by rw [← HN.out.2.2.2.2.2.2.2.1]; omega), goF]
      subst HE
      have hcase : (j < n7 ∧ ¬ nn ≤ most) ∨ j = n7 := by
        rcases Nat.lt_or_ge j n7 with h | h
        · exact .inl ⟨h, fun h2 => hgo ⟨h, h2⟩⟩
        · exact .inr (by omega)
      have p0 : wo.cell? ⟨g, 0, none⟩ = some (.slice A0 n0 c0) := by rw [cell_of_row _ _ 0 _ _ (0, 0) HR.out]; rfl
      have p1 : wo.cell? ⟨g, 1, none⟩ = some (.slice A1 n1 c1) := by rw [cell_of_row _ _ 1 _ _ (0, 0) HR.out]; rfl
      have p2 : wo.cell? ⟨g, 2, none⟩ = some (.slice A2 n2 c2) := by rw [cell_of_row _ _ 2 _ _ (0, 0) HR.out]; rfl
      have p3 : wo.cell? ⟨g, 3, none⟩ = some (.slice A3 n3 c3) := by rw [cell_of_row _ _ 3 _ _ (0, 0) HR.out]; rfl
      have p4 : wo.cell? ⟨g, 4, none⟩ = some (.slice A4 n4 c4) := by rw [cell_of_row _ _ 4 _ _ (0, 0) HR.out]; rfl
      have p5 : wo.cell? ⟨g, 5, none⟩ = some (.slice A5 n5 c5) := by rw [cell_of_row _ _ 5 _ _ (0, 0) HR.out]; rfl
      have p6 : wo.cell? ⟨g, 6, none⟩ = some (.slice A6 n6 c6) := by rw [cell_of_row _ _ 6 _ _ (0, 0) HR.out]; rfl
      obtain ⟨N0, hN0⟩ : ∃ N, N = goL (m.globals.map (·.name.length)) nn most := ⟨_, rfl⟩
      obtain ⟨N1, hN1⟩ : ∃ N, N = goL (m.structs.map (·.name.length)) N0 most := ⟨_, rfl⟩
      obtain ⟨N2, hN2⟩ : ∃ N, N = goL (m.chans.map (·.name.length)) N1 most := ⟨_, rfl⟩
      obtain ⟨N3, hN3⟩ : ∃ N, N = goL (m.locks.map List.length) N2 most := ⟨_, rfl⟩
      obtain ⟨N4, hN4⟩ : ∃ N, N = goL (m.inputs.map List.length) N3 most := ⟨_, rfl⟩
      obtain ⟨N5, hN5⟩ : ∃ N, N = goL (m.sinks.map List.length) N4 most := ⟨_, rfl⟩
      obtain ⟨N6, hN6⟩ : ∃ N, N = goL (m.hatches.map List.length) N5 most := ⟨_, rfl⟩
      have hfin : weighM m most = N6 := by rw [hN6, hN5, hN4, hN3, hN2, hN1, hN0, hN]; rfl
      have g0 : 0 ≤ N0 ∧ N0 ≤ 1000000000000000000 := by rw [hN0]; exact ⟨Int.le_trans hn0 (goL_ge _ _ _), goL_bound _ _ _ (HIN.out.g.names) (by omega) (by omega)⟩
      have g1 : 0 ≤ N1 ∧ N1 ≤ 1000000000000000000 := by rw [hN1]; exact ⟨Int.le_trans g0.1 (goL_ge _ _ _), goL_bound _ _ _ (HIN.out.s.names) (by omega) (by omega)⟩
      have g2 : 0 ≤ N2 ∧ N2 ≤ 1000000000000000000 := by rw [hN2]; exact ⟨Int.le_trans g1.1 (goL_ge _ _ _), goL_bound _ _ _ (HIN.out.c.names) (by omega) (by omega)⟩
      have g3 : 0 ≤ N3 ∧ N3 ≤ 1000000000000000000 := by rw [hN3]; exact ⟨Int.le_trans g2.1 (goL_ge _ _ _), goL_bound _ _ _ (HIN.out.l.texts) (by omega) (by omega)⟩
      have g4 : 0 ≤ N4 ∧ N4 ≤ 1000000000000000000 := by rw [hN4]; exact ⟨Int.le_trans g3.1 (goL_ge _ _ _), goL_bound _ _ _ (HIN.out.i.texts) (by omega) (by omega)⟩
      have g5 : 0 ≤ N5 ∧ N5 ≤ 1000000000000000000 := by rw [hN5]; exact ⟨Int.le_trans g4.1 (goL_ge _ _ _), goL_bound _ _ _ (HIN.out.o.texts) (by omega) (by omega)⟩
      have C0 := Lib.hid (weighs_any HIN.out.g nn most hn0 (by omega) hm)
      have C1 := Lib.hid (weighs_any HIN.out.s N0 most g0.1 g0.2 hm)
      have C2 := Lib.hid (weighs_any HIN.out.c N1 most g1.1 g1.2 hm)
      have C3 := Lib.hid (weight_any HIN.out.l N2 most g2.1 g2.2 hm)
      have C4 := Lib.hid (weight_any HIN.out.i N3 most g3.1 g3.2 hm)
      have C5 := Lib.hid (weight_any HIN.out.o N4 most g4.1 g4.2 hm)
      have C6 := Lib.hid (weight_any HIN.out.h N5 most g5.1 g5.2 hm)
      rw [← hN0] at C0
      rw [← hN1] at C1
      rw [← hN2] at C2
      rw [← hN3] at C3
      rw [← hN4] at C4
      rw [← hN5] at C5
      rw [← hN6, ← hfin] at C6
      dsimp only at C0 C1 C2 C3 C4 C5 C6
      clear hgo HIN HR HX1 HX HGO hN hN0 hN1 hN2 hN3 hN4 hN5 hN6 hfin g0 g1 g2 g3 g4 g5 HN HSUM
      rcases hcase with ⟨h, h'⟩ | h
      all_goals
        go_wp2_with (first
          | ((with_reducible refine C0.out.mono ?_); rintro e wz ⟨rfl, rfl⟩)
          | ((with_reducible refine C1.out.mono ?_); rintro e wz ⟨rfl, rfl⟩)
          | ((with_reducible refine C2.out.mono ?_); rintro e wz ⟨rfl, rfl⟩)
          | ((with_reducible refine C3.out.mono ?_); rintro e wz ⟨rfl, rfl⟩)
          | ((with_reducible refine C4.out.mono ?_); rintro e wz ⟨rfl, rfl⟩)
          | ((with_reducible refine C5.out.mono ?_); rintro e wz ⟨rfl, rfl⟩)
          | ((with_reducible refine C6.out.mono ?_); rintro e wz ⟨rfl, rfl⟩))
        go_ret
        exact ⟨rfl, by rw [← HG.out]; exact HBW.out⟩

end Go.Proofs.YtgohnlcgidmlfaaDoor
