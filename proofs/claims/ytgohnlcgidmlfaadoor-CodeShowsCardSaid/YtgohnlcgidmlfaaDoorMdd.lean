/- Code, read out of the memory that a caller hands over. -/
import Derived.Test.YtgohnlcgidmlfaaDoorMdc
import Derived.WideShapes
set_option linter.unusedVariables false
set_option linter.unusedSimpArgs false
set_option maxRecDepth 100000
namespace Go.Proofs.YtgohnlcgidmlfaaDoor
open Go.RowKit

theorem t_struct_2 {H : Type} {enc : TypeId × Value → H} {P : Program} {w : World} {base : Nat} {spare : Nat → Bool} {held : Bool} {t : TypeId} {f0 f1 : Field} {fuel : Nat} {cs : List Value} {x : DataW H × List MemPlace}
    (ht : P.underlying t = some (.struct #[f0, f1])) (h : DataW.trod enc P w base spare held fuel t cs = some x) :
    ∃ (x0 x1 : DataW H × List MemPlace) (n : Nat), x.1 = .agg [x0.1, x1.1] ∧ cs.length = P.cellsOf t ∧ DataW.trod enc P w base spare held n f0.type ((cs.drop f0.offset).take (P.cellsOf f0.type)) = some x0 ∧ DataW.trod enc P w base spare held n f1.type ((cs.drop f1.offset).take (P.cellsOf f1.type)) = some x1 := by
  obtain ⟨xs, n, hn, rfl, hl, hlen, hf⟩ := DataW.trod_struct ht h
  match xs, hlen with
  | [x0, x1], _ => exact ⟨x0, x1, n, rfl, hl, hf 0 f0 rfl, hf 1 f1 rfl⟩

theorem t_struct_5 {H : Type} {enc : TypeId × Value → H} {P : Program} {w : World} {base : Nat} {spare : Nat → Bool} {held : Bool} {t : TypeId} {f0 f1 f2 f3 f4 : Field} {fuel : Nat} {cs : List Value} {x : DataW H × List MemPlace}
    (ht : P.underlying t = some (.struct #[f0, f1, f2, f3, f4])) (h : DataW.trod enc P w base spare held fuel t cs = some x) :
    ∃ (x0 x1 x2 x3 x4 : DataW H × List MemPlace) (n : Nat), x.1 = .agg [x0.1, x1.1, x2.1, x3.1, x4.1] ∧ cs.length = P.cellsOf t ∧ DataW.trod enc P w base spare held n f0.type ((cs.drop f0.offset).take (P.cellsOf f0.type)) = some x0 ∧ DataW.trod enc P w base spare held n f1.type ((cs.drop f1.offset).take (P.cellsOf f1.type)) = some x1 ∧ DataW.trod enc P w base spare held n f2.type ((cs.drop f2.offset).take (P.cellsOf f2.type)) = some x2 ∧ DataW.trod enc P w base spare held n f3.type ((cs.drop f3.offset).take (P.cellsOf f3.type)) = some x3 ∧ DataW.trod enc P w base spare held n f4.type ((cs.drop f4.offset).take (P.cellsOf f4.type)) = some x4 := by
  obtain ⟨xs, n, hn, rfl, hl, hlen, hf⟩ := DataW.trod_struct ht h
  match xs, hlen with
  | [x0, x1, x2, x3, x4], _ => exact ⟨x0, x1, x2, x3, x4, n, rfl, hl, hf 0 f0 rfl, hf 1 f1 rfl, hf 2 f2 rfl, hf 3 f3 rfl, hf 4 f4 rfl⟩

theorem t_struct_9 {H : Type} {enc : TypeId × Value → H} {P : Program} {w : World} {base : Nat} {spare : Nat → Bool} {held : Bool} {t : TypeId} {f0 f1 f2 f3 f4 f5 f6 f7 f8 : Field} {fuel : Nat} {cs : List Value} {x : DataW H × List MemPlace}
    (ht : P.underlying t = some (.struct #[f0, f1, f2, f3, f4, f5, f6, f7, f8])) (h : DataW.trod enc P w base spare held fuel t cs = some x) :
    ∃ (x0 x1 x2 x3 x4 x5 x6 x7 x8 : DataW H × List MemPlace) (n : Nat), x.1 = .agg [x0.1, x1.1, x2.1, x3.1, x4.1, x5.1, x6.1, x7.1, x8.1] ∧ cs.length = P.cellsOf t ∧ DataW.trod enc P w base spare held n f0.type ((cs.drop f0.offset).take (P.cellsOf f0.type)) = some x0 ∧ DataW.trod enc P w base spare held n f1.type ((cs.drop f1.offset).take (P.cellsOf f1.type)) = some x1 ∧ DataW.trod enc P w base spare held n f2.type ((cs.drop f2.offset).take (P.cellsOf f2.type)) = some x2 ∧ DataW.trod enc P w base spare held n f3.type ((cs.drop f3.offset).take (P.cellsOf f3.type)) = some x3 ∧ DataW.trod enc P w base spare held n f4.type ((cs.drop f4.offset).take (P.cellsOf f4.type)) = some x4 ∧ DataW.trod enc P w base spare held n f5.type ((cs.drop f5.offset).take (P.cellsOf f5.type)) = some x5 ∧ DataW.trod enc P w base spare held n f6.type ((cs.drop f6.offset).take (P.cellsOf f6.type)) = some x6 ∧ DataW.trod enc P w base spare held n f7.type ((cs.drop f7.offset).take (P.cellsOf f7.type)) = some x7 ∧ DataW.trod enc P w base spare held n f8.type ((cs.drop f8.offset).take (P.cellsOf f8.type)) = some x8 := by
  obtain ⟨xs, n, hn, rfl, hl, hlen, hf⟩ := DataW.trod_struct ht h
  match xs, hlen with
  | [x0, x1, x2, x3, x4, x5, x6, x7, x8], _ => exact ⟨x0, x1, x2, x3, x4, x5, x6, x7, x8, n, rfl, hl, hf 0 f0 rfl, hf 1 f1 rfl, hf 2 f2 rfl, hf 3 f3 rfl, hf 4 f4 rfl, hf 5 f5 rfl, hf 6 f6 rfl, hf 7 f7 rfl, hf 8 f8 rfl⟩

theorem t_struct_12 {H : Type} {enc : TypeId × Value → H} {P : Program} {w : World} {base : Nat} {spare : Nat → Bool} {held : Bool} {t : TypeId} {f0 f1 f2 f3 f4 f5 f6 f7 f8 f9 f10 f11 : Field} {fuel : Nat} {cs : List Value} {x : DataW H × List MemPlace}
    (ht : P.underlying t = some (.struct #[f0, f1, f2, f3, f4, f5, f6, f7, f8, f9, f10, f11])) (h : DataW.trod enc P w base spare held fuel t cs = some x) :
    ∃ (x0 x1 x2 x3 x4 x5 x6 x7 x8 x9 x10 x11 : DataW H × List MemPlace) (n : Nat), x.1 = .agg [x0.1, x1.1, x2.1, x3.1, x4.1, x5.1, x6.1, x7.1, x8.1, x9.1, x10.1, x11.1] ∧ cs.length = P.cellsOf t ∧ DataW.trod enc P w base spare held n f0.type ((cs.drop f0.offset).take (P.cellsOf f0.type)) = some x0 ∧ DataW.trod enc P w base spare held n f1.type ((cs.drop f1.offset).take (P.cellsOf f1.type)) = some x1 ∧ DataW.trod enc P w base spare held n f2.type ((cs.drop f2.offset).take (P.cellsOf f2.type)) = some x2 ∧ DataW.trod enc P w base spare held n f3.type ((cs.drop f3.offset).take (P.cellsOf f3.type)) = some x3 ∧ DataW.trod enc P w base spare held n f4.type ((cs.drop f4.offset).take (P.cellsOf f4.type)) = some x4 ∧ DataW.trod enc P w base spare held n f5.type ((cs.drop f5.offset).take (P.cellsOf f5.type)) = some x5 ∧ DataW.trod enc P w base spare held n f6.type ((cs.drop f6.offset).take (P.cellsOf f6.type)) = some x6 ∧ DataW.trod enc P w base spare held n f7.type ((cs.drop f7.offset).take (P.cellsOf f7.type)) = some x7 ∧ DataW.trod enc P w base spare held n f8.type ((cs.drop f8.offset).take (P.cellsOf f8.type)) = some x8 ∧ DataW.trod enc P w base spare held n f9.type ((cs.drop f9.offset).take (P.cellsOf f9.type)) = some x9 ∧ DataW.trod enc P w base spare held n f10.type ((cs.drop f10.offset).take (P.cellsOf f10.type)) = some x10 ∧ DataW.trod enc P w base spare held n f11.type ((cs.drop f11.offset).take (P.cellsOf f11.type)) = some x11 := by
  obtain ⟨xs, n, hn, rfl, hl, hlen, hf⟩ := DataW.trod_struct ht h
  match xs, hlen with
  | [x0, x1, x2, x3, x4, x5, x6, x7, x8, x9, x10, x11], _ => exact ⟨x0, x1, x2, x3, x4, x5, x6, x7, x8, x9, x10, x11, n, rfl, hl, hf 0 f0 rfl, hf 1 f1 rfl, hf 2 f2 rfl, hf 3 f3 rfl, hf 4 f4 rfl, hf 5 f5 rfl, hf 6 f6 rfl, hf 7 f7 rfl, hf 8 f8 rfl, hf 9 f9 rfl, hf 10 f10 rfl, hf 11 f11 rfl⟩

section
variable {H : Type} {enc : TypeId × Value → H} {w : World} {base : Nat} {spare : Nat → Bool} {held : Bool}

theorem open_sz (n : Nat) (cs : List Value) (x : DataW H × List MemPlace) (hl : cs.length = 2) (hx : DataW.trod enc Tryd.prog w base spare held n 46 cs = some x) (hw : ∀ y ∈ DataW.weights Tryd.prog 46 x.1, y ≤ 140737488355328) : ∃ a, KS.Q w (· < w.heap.size) a cs := by
  obtain ⟨x0, x1, m, hx1, -, f0, f1⟩ := t_struct_2 Tryd.underlying46 hx
  obtain ⟨c0, c1, rfl⟩ : ∃ c0 c1, cs = [c0, c1] := by
    match cs, hl with
    | [c0, c1], _ => exact ⟨c0, c1, rfl⟩
  simp only [show Tryd.prog.cellsOf 9 = 1 from by kernel_rfl, show Tryd.prog.cellsOf 3 = 1 from by kernel_rfl, List.drop_zero, List.drop_succ_cons, List.take_succ_cons, List.take_zero] at f0 f1
  rw [hx1] at hw
  simp only [DataW.weights, Tryd.underlying46, List.map_cons, List.map_nil, DataW.weightsEach, List.append_nil] at hw
  obtain ⟨n0, rfl, i0⟩ := open_t Tryd.underlying9 f0 (fun y hy => hw y (by simp [hy]))
  obtain ⟨n1, rfl, i1⟩ := open_i Tryd.underlying3 f1
  exact ⟨⟨n0, n1⟩, rfl, i0, i1⟩

theorem opens_szs (fuel : Nat) (v : Value) (x : DataW H × List MemPlace) (h : DataW.trod enc Tryd.prog w base spare held fuel 22 [v] = some x) (hwt : ∀ y ∈ DataW.weights Tryd.prog 22 x.1, y ≤ 140737488355328) : ∃ xs, Lies KS w (· < w.heap.size) xs v :=
  opens_lies Tryd.underlying22 (by kernel_rfl) (of_decide_eq_true (by kernel_rfl)) open_sz fuel v x h hwt

theorem open_op (n : Nat) (cs : List Value) (x : DataW H × List MemPlace) (hl : cs.length = 12) (hx : DataW.trod enc Tryd.prog w base spare held n 42 cs = some x) (hw : ∀ y ∈ DataW.weights Tryd.prog 42 x.1, y ≤ 140737488355328) : ∃ a, KO.Q w (· < w.heap.size) a cs := by
  obtain ⟨x0, x1, x2, x3, x4, x5, x6, x7, x8, x9, x10, x11, m, hx1, -, f0, f1, f2, f3, f4, f5, f6, f7, f8, f9, f10, f11⟩ := t_struct_12 Tryd.underlying42 hx
  obtain ⟨c0, c1, c2, c3, c4, c5, c6, c7, c8, c9, c10, c11, rfl⟩ : ∃ c0 c1 c2 c3 c4 c5 c6 c7 c8 c9 c10 c11, cs = [c0, c1, c2, c3, c4, c5, c6, c7, c8, c9, c10, c11] := by
    match cs, hl with
    | [c0, c1, c2, c3, c4, c5, c6, c7, c8, c9, c10, c11], _ => exact ⟨c0, c1, c2, c3, c4, c5, c6, c7, c8, c9, c10, c11, rfl⟩
  simp only [show Tryd.prog.cellsOf 3 = 1 from by kernel_rfl, show Tryd.prog.cellsOf 25 = 1 from by kernel_rfl, List.drop_zero, List.drop_succ_cons, List.take_succ_cons, List.take_zero] at f0 f1 f2 f3 f4 f5 f6 f7 f8 f9 f10 f11
  rw [hx1] at hw
  simp only [DataW.weights, Tryd.underlying42, List.map_cons, List.map_nil, DataW.weightsEach, List.append_nil] at hw
  obtain ⟨n0, rfl, i0⟩ := open_i Tryd.underlying3 f0
  obtain ⟨n1, rfl, i1⟩ := open_i Tryd.underlying3 f1
  obtain ⟨n2, rfl, i2⟩ := open_i Tryd.underlying3 f2
  obtain ⟨n3, rfl, i3⟩ := open_i Tryd.underlying3 f3
  obtain ⟨n4, rfl, i4⟩ := open_i Tryd.underlying3 f4
  obtain ⟨n5, rfl, i5⟩ := open_i Tryd.underlying3 f5
  obtain ⟨n6, rfl, i6⟩ := open_i Tryd.underlying3 f6
  obtain ⟨n7, rfl, i7⟩ := open_i Tryd.underlying3 f7
  obtain ⟨n8, i8⟩ := opens_ints m c8 x8 f8 (fun y hy => hw y (by simp [hy]))
  obtain ⟨n9, rfl, i9⟩ := open_i Tryd.underlying3 f9
  obtain ⟨n10, rfl, i10⟩ := open_i Tryd.underlying3 f10
  obtain ⟨n11, rfl, i11⟩ := open_i Tryd.underlying3 f11
  exact ⟨⟨n0, n1, n2, n3, n4, n5, n6, n7, n8, n9, n10, n11⟩, c8, rfl, i8, ⟨i0, i1, i2, i3, i4, i5, i6, i7, i9, i10, i11⟩⟩

theorem opens_ops (fuel : Nat) (v : Value) (x : DataW H × List MemPlace) (h : DataW.trod enc Tryd.prog w base spare held fuel 37 [v] = some x) (hwt : ∀ y ∈ DataW.weights Tryd.prog 37 x.1, y ≤ 140737488355328) : ∃ xs, Lies KO w (· < w.heap.size) xs v :=
  opens_lies Tryd.underlying37 (by kernel_rfl) (of_decide_eq_true (by kernel_rfl)) open_op fuel v x h hwt

theorem open_fn (n : Nat) (cs : List Value) (x : DataW H × List MemPlace) (hl : cs.length = 5) (hx : DataW.trod enc Tryd.prog w base spare held n 39 cs = some x) (hw : ∀ y ∈ DataW.weights Tryd.prog 39 x.1, y ≤ 140737488355328) : ∃ a, KF.Q w (· < w.heap.size) a cs := by
  obtain ⟨x0, x1, x2, x3, x4, m, hx1, -, f0, f1, f2, f3, f4⟩ := t_struct_5 Tryd.underlying39 hx
  obtain ⟨c0, c1, c2, c3, c4, rfl⟩ : ∃ c0 c1 c2 c3 c4, cs = [c0, c1, c2, c3, c4] := by
    match cs, hl with
    | [c0, c1, c2, c3, c4], _ => exact ⟨c0, c1, c2, c3, c4, rfl⟩
  simp only [show Tryd.prog.cellsOf 9 = 1 from by kernel_rfl, show Tryd.prog.cellsOf 3 = 1 from by kernel_rfl, show Tryd.prog.cellsOf 37 = 1 from by kernel_rfl, List.drop_zero, List.drop_succ_cons, List.take_succ_cons, List.take_zero] at f0 f1 f2 f3 f4
  rw [hx1] at hw
  simp only [DataW.weights, Tryd.underlying39, List.map_cons, List.map_nil, DataW.weightsEach, List.append_nil] at hw
  obtain ⟨n0, rfl, i0⟩ := open_t Tryd.underlying9 f0 (fun y hy => hw y (by simp [hy]))
  obtain ⟨n1, rfl, i1⟩ := open_i Tryd.underlying3 f1
  obtain ⟨n2, rfl, i2⟩ := open_i Tryd.underlying3 f2
  obtain ⟨n3, rfl, i3⟩ := open_i Tryd.underlying3 f3
  obtain ⟨n4, i4⟩ := opens_ops m c4 x4 f4 (fun y hy => hw y (by simp [hy]))
  exact ⟨⟨n0, n1, n2, n3, n4⟩, c4, rfl, i4, ⟨i0, i1, i2, i3⟩⟩

theorem opens_fns (fuel : Nat) (v : Value) (x : DataW H × List MemPlace) (h : DataW.trod enc Tryd.prog w base spare held fuel 24 [v] = some x) (hwt : ∀ y ∈ DataW.weights Tryd.prog 24 x.1, y ≤ 140737488355328) : ∃ xs, Lies KF w (· < w.heap.size) xs v :=
  opens_lies Tryd.underlying24 (by kernel_rfl) (of_decide_eq_true (by kernel_rfl)) open_fn fuel v x h hwt

theorem open_mod (n : Nat) (cs : List Value) (x : DataW H × List MemPlace) (hl : cs.length = 9) (hx : DataW.trod enc Tryd.prog w base spare held n 27 cs = some x) (hw : ∀ y ∈ DataW.weights Tryd.prog 27 x.1, y ≤ 140737488355328) : ∃ m v, cs = v.arr.toList ∧ IsMo w (· < w.heap.size) m v := by
  obtain ⟨x0, x1, x2, x3, x4, x5, x6, x7, x8, m, hx1, -, f0, f1, f2, f3, f4, f5, f6, f7, f8⟩ := t_struct_9 Tryd.underlying27 hx
  obtain ⟨c0, c1, c2, c3, c4, c5, c6, c7, c8, rfl⟩ : ∃ c0 c1 c2 c3 c4 c5 c6 c7 c8, cs = [c0, c1, c2, c3, c4, c5, c6, c7, c8] := by
    match cs, hl with
    | [c0, c1, c2, c3, c4, c5, c6, c7, c8], _ => exact ⟨c0, c1, c2, c3, c4, c5, c6, c7, c8, rfl⟩
  simp only [show Tryd.prog.cellsOf 22 = 1 from by kernel_rfl, show Tryd.prog.cellsOf 23 = 1 from by kernel_rfl, show Tryd.prog.cellsOf 24 = 1 from by kernel_rfl, show Tryd.prog.cellsOf 25 = 1 from by kernel_rfl, List.drop_zero, List.drop_succ_cons, List.take_succ_cons, List.take_zero] at f0 f1 f2 f3 f4 f5 f6 f7 f8
  rw [hx1] at hw
  simp only [DataW.weights, Tryd.underlying27, List.map_cons, List.map_nil, DataW.weightsEach, List.append_nil] at hw
  obtain ⟨n0, i0⟩ := opens_szs m c0 x0 f0 (fun y hy => hw y (by simp [hy]))
  obtain ⟨n1, i1⟩ := opens_szs m c1 x1 f1 (fun y hy => hw y (by simp [hy]))
  obtain ⟨n2, i2⟩ := opens_szs m c2 x2 f2 (fun y hy => hw y (by simp [hy]))
  obtain ⟨n3, i3⟩ := opens_texts m c3 x3 f3 (fun y hy => hw y (by simp [hy]))
  obtain ⟨n4, i4⟩ := opens_texts m c4 x4 f4 (fun y hy => hw y (by simp [hy]))
  obtain ⟨n5, i5⟩ := opens_texts m c5 x5 f5 (fun y hy => hw y (by simp [hy]))
  obtain ⟨n6, i6⟩ := opens_texts m c6 x6 f6 (fun y hy => hw y (by simp [hy]))
  obtain ⟨n7, i7⟩ := opens_fns m c7 x7 f7 (fun y hy => hw y (by simp [hy]))
  obtain ⟨n8, i8⟩ := opens_ints m c8 x8 f8 (fun y hy => hw y (by simp [hy]))
  exact ⟨⟨n0, n1, n2, n3, n4, n5, n6, n7, n8⟩, ⟨c0, c1, c2, c3, c4, c5, c6, c7, c8⟩, rfl, ⟨i0, i1, i2, i3, i4, i5, i6, i7, i8⟩⟩

end
theorem mod_agg {W : World} {r : Reach} {base : Nat} {v : Value} (h : Value.okWide Tryd.prog W r base 27 v) : ∃ u : Vm, v = .agg u.arr := by
  obtain ⟨cs, rfl, hs⟩ := WideShapes.okWide_struct Tryd.underlying27 h
  rw [show Tryd.prog.cellsOf 27 = 9 from by kernel_rfl] at hs
  match cs, hs with
  | ⟨[c0, c1, c2, c3, c4, c5, c6, c7, c8]⟩, _ => exact ⟨⟨c0, c1, c2, c3, c4, c5, c6, c7, c8⟩, rfl⟩

end Go.Proofs.YtgohnlcgidmlfaaDoor
