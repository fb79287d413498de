/- Rows: an expression, texts and numbers, out of arguments. -/
import Derived.Test.YtadkimnpeachpaaGreatDoorPmc
import Derived.Test.YtadkimnpeachpaaGreatDoorMdc
import Derived.Test.YtadkimnpeachpaaGreatDoorRo
import Derived.WideShapes
import Derived.Handed
set_option linter.unusedVariables false
set_option maxRecDepth 100000
namespace Go.Proofs.YtadkimnpeachpaaGreatDoor
open Go Go.ChangeShapes Go.WideShapes Go.ChangeAt Go.ChangeMaps Go.RowKit

theorem expr_agg {W : World} {r : Reach} {base : Nat} {v : Value} (h : Value.okWide Tryz.prog W r base 24 v) : ∃ a b c d e, v = .agg #[a, b, c, d, e] := by
  obtain ⟨cs, rfl, hs⟩ := okWide_struct Tryz.underlying24 h
  rw [show Tryz.prog.cellsOf 24 = 5 from by kernel_rfl] at hs
  match cs, hs with
  | ⟨[a, b, c, d, e]⟩, _ => exact ⟨a, b, c, d, e, rfl⟩
theorem opens_expr {H : Type} {enc : TypeId × Value → H} {w : World} {base : Nat} {spare : Nat → Bool} {held : Bool} {v : Value} {d : DataW H} {ps : List MemPlace}
    (h : DataW.Trod enc Tryz.prog w base spare held 24 v d ps) (hv : ∃ a b c d e, v = .agg #[a, b, c, d, e]) (hwt : ∀ y ∈ DataW.weights Tryz.prog 24 d, y ≤ 140737488355328) :
    ∃ (x : Ex) (u : Value), v = .agg #[.int .i64 x.kind, .int .i64 x.pl, .int .i64 x.num, .string (strOf x.name), u] ∧ x.name.length ≤ 140737488355328 ∧ IsExs w (· < w.heap.size) x.args u := by
  obtain ⟨a, b, c, e, f, rfl⟩ := hv
  obtain ⟨fuel, h⟩ := h
  obtain ⟨x0, x1, x2, x3, x4, m, hm, hx1, hl, f0, f1, f2, f3, f4⟩ := trod_struct_5 Tryz.underlying24 h
  have hx' : d = .agg [x0.1, x1.1, x2.1, x3.1, x4.1] := hx1
  rw [hx'] at hwt
  simp only [DataW.weights, Tryz.underlying24, List.map_cons, List.map_nil, DataW.weightsEach, List.append_nil] at hwt
  rw [show Tryz.prog.cellsOf 24 = 5 from by kernel_rfl] at hl
  have hc : (Value.agg #[a, b, c, e, f]).cells.toList = [a, b, c, e, f] := by simp [Value.cells]
  rw [hc] at f0 f1 f2 f3 f4
  simp only [show Tryz.prog.cellsOf 3 = 1 from by kernel_rfl, show Tryz.prog.cellsOf 9 = 1 from by kernel_rfl, show Tryz.prog.cellsOf 22 = 1 from by kernel_rfl, List.drop_zero, List.drop_succ_cons, List.take_succ_cons, List.take_zero] at f0 f1 f2 f3 f4
  obtain ⟨k0, hk0, -, -⟩ := DataW.trod_int Tryz.underlying3 f0
  obtain ⟨k1, hk1, -, -⟩ := DataW.trod_int Tryz.underlying3 f1
  obtain ⟨k2, hk2, -, -⟩ := DataW.trod_int Tryz.underlying3 f2
  obtain ⟨s3, hk3, hx3, -⟩ := DataW.trod_string Tryz.underlying9 f3
  obtain rfl : a = .int .i64 k0 := by simpa using hk0
  obtain rfl : b = .int .i64 k1 := by simpa using hk1
  obtain rfl : c = .int .i64 k2 := by simpa using hk2
  obtain rfl : e = .string s3 := by simpa using hk3
  have hw3 : s3.data.toList.length ≤ 140737488355328 := hwt _ (by simp [hx3, DataW.weights])
  obtain ⟨es, hes⟩ := opens_ex m f x4 f4 (fun y hy => hwt y (by simp [hy]))
  exact ⟨.mk k0 k1 k2 s3.data.toList es, f, by simp [Ex.kind, Ex.pl, Ex.num, Ex.name, strOf_back], hw3, hes⟩

theorem weights_at0 {H : Type} {P : Program} {t0 : TypeId} {d0 : DataW H} {ts tr : List TypeId} {l dr : List (DataW H)} {y : Nat} (hts : ts = t0 :: tr) (hl : l = d0 :: dr) (hy : y ∈ DataW.weights P t0 d0) : y ∈ DataW.weightsEach P ts l := by
  subst hts hl
  simp [DataW.weightsEach, hy]
theorem weights_at1 {H : Type} {P : Program} {t0 t1 : TypeId} {d0 d1 : DataW H} {ts tr : List TypeId} {l dr : List (DataW H)} {y : Nat} (hts : ts = t0 :: t1 :: tr) (hl : l = d0 :: d1 :: dr) (hy : y ∈ DataW.weights P t1 d1) : y ∈ DataW.weightsEach P ts l := by
  subst hts hl
  simp [DataW.weightsEach, hy]
theorem weights_at2 {H : Type} {P : Program} {t0 t1 t2 : TypeId} {d0 d1 d2 : DataW H} {ts tr : List TypeId} {l dr : List (DataW H)} {y : Nat} (hts : ts = t0 :: t1 :: t2 :: tr) (hl : l = d0 :: d1 :: d2 :: dr) (hy : y ∈ DataW.weights P t2 d2) : y ∈ DataW.weightsEach P ts l := by
  subst hts hl
  simp [DataW.weightsEach, hy]
theorem weights_at3 {H : Type} {P : Program} {t0 t1 t2 t3 : TypeId} {d0 d1 d2 d3 : DataW H} {ts tr : List TypeId} {l dr : List (DataW H)} {y : Nat} (hts : ts = t0 :: t1 :: t2 :: t3 :: tr) (hl : l = d0 :: d1 :: d2 :: d3 :: dr) (hy : y ∈ DataW.weights P t3 d3) : y ∈ DataW.weightsEach P ts l := by
  subst hts hl
  simp [DataW.weightsEach, hy]
theorem weight_le {x : Nat} (h : x ≤ reachBytes) : x ≤ 140737488355328 := by unfold reachBytes at h; omega
theorem open_ints {H : Type} {enc : TypeId × Value → H} {w : World} {base : Nat} {spare : Nat → Bool} {held : Bool} {v : Value} {d : DataW H} {ps : List MemPlace} (h : DataW.Trod enc Tryz.prog w base spare held 26 v d ps)
    (hv : ∃ a n c, v = .slice a n c) (hwt : ∀ y ∈ DataW.weights Tryz.prog 26 d, y ≤ 140737488355328) : ∃ xs, Lies KI w (· < w.heap.size) xs v := by
  obtain ⟨a, n, c, rfl⟩ := hv
  obtain ⟨fuel, h⟩ := h
  exact opens_ints fuel _ _ h hwt
theorem open_texts {H : Type} {enc : TypeId × Value → H} {w : World} {base : Nat} {spare : Nat → Bool} {held : Bool} {v : Value} {d : DataW H} {ps : List MemPlace} (h : DataW.Trod enc Tryz.prog w base spare held 25 v d ps)
    (hv : ∃ a n c, v = .slice a n c) (hwt : ∀ y ∈ DataW.weights Tryz.prog 25 d, y ≤ 140737488355328) : ∃ xs, Lies KT w (· < w.heap.size) xs v := by
  obtain ⟨a, n, c, rfl⟩ := hv
  obtain ⟨fuel, h⟩ := h
  exact opens_texts fuel _ _ h hwt

end Go.Proofs.YtadkimnpeachpaaGreatDoor
