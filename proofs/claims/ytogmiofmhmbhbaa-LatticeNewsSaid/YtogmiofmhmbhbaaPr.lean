/- From a law's walk to its row: how the arguments read. -/
import Derived.Test.YtogmiofmhmbhbaaLi
import Derived.ProofKit
import Derived.Deep.Slices
import Derived.OpenShut
namespace Go.Proofs.Ytogmiofmhmbhbaa
open Go.ChangeShapes Go.WideShapes Go.ChangeAt Go.RowKit

theorem Try.own : ownKnob Try.prog.godebug = none := by kernel_rfl
theorem Try.laidOut : laidOutB Try.prog = true := by kernel_rfl
theorem Try.cellsE : Try.prog.cellsOf 47 = 2 := by kernel_rfl
theorem Try.cellsI : Try.prog.cellsOf 3 = 1 := by kernel_rfl

theorem shut_true {H : Type} {enc : TypeId × Value → H} {W : World} {base : Nat} {sp : Nat → Bool} {held : Bool} (b : Bool) : DataW.Trod enc Try.prog W base sp held 4 (.bool b) (.lit (.bool b)) [] :=
  ⟨1, by simp [DataW.trod, Value.cells, Try.underlying4]⟩

theorem open_edges {H : Type} {enc : TypeId × Value → H} {W : World} {a0 : Option Addr} {len cap : Nat} {d : DataW H} {p : List MemPlace}
    (h : DataW.Trod enc Try.prog W 0 (fun _ => true) true 22 (.slice a0 len cap) d p) :
    ∃ off es, es.length = len ∧ EdgesIn W W.heap.size a0 off es := by
  obtain ⟨fuel, hf⟩ := h
  rcases Deep.open_slice Try.underlying22 hf with ⟨hcs, _⟩ | ⟨a, len', cap', m, n, D, Pl, hcs, _, hl, hm, hmm, _, hx⟩
  · simp [Value.cells] at hcs
    obtain ⟨rfl, rfl, rfl⟩ := hcs
    exact ⟨0, [], rfl, fun k hk => absurd hk (by simp)⟩
  · simp [Value.cells] at hcs
    obtain ⟨rfl, rfl, rfl⟩ := hcs
    simp only [if_true] at hmm
    subst hmm
    have each : ∀ i, i < len → ∃ e : Int × Int, W.cell? (a.add (i * 2)) = some (.int .i64 e.1) ∧ W.cell? (a.add (i * 2 + 1)) = some (.int .i64 e.2) := by
      intro i hi
      obtain ⟨cs', h1, h2⟩ := hx i (by omega)
      rw [Try.cellsE] at h1
      obtain ⟨_, hl2, hc⟩ := World.cells?_some h1
      obtain ⟨xs, k, _, _, _, hxl, he⟩ := DataW.trod_array Try.underlying47 h2
      have e0 := he 0 (by omega)
      have e1 := he 1 (by omega)
      rw [Try.cellsI] at e0 e1
      match xs, hxl, cs', hl2 with
      | [x0, x1], _, [u0, u1], _ =>
        obtain ⟨n0, g0, _, _⟩ := DataW.trod_int Try.underlying3 e0
        obtain ⟨n1, g1, _, _⟩ := DataW.trod_int Try.underlying3 e1
        have c0 := hc 0 (by omega)
        have c1 := hc 1 (by omega)
        rw [Deep.add_add] at c0 c1
        simp at g0 g1 c0 c1
        subst g0; subst g1
        exact ⟨(n0, n1), c0, c1⟩
    obtain ⟨f, hf2⟩ := Deep.choose_lt each
    have hes : ∀ k, k < len → ge ((List.range len).map f) k = f k := by
      intro k hk
      unfold ge; simp [hk]
    by_cases h0 : len = 0
    · exact ⟨0, (List.range len).map f, by simp, fun k hk => absurd hk (by simp; omega)⟩
    · obtain ⟨b, off, spot⟩ := a
      have hspot : spot = none := by simpa [Addr.add] using World.cell?_spot (hf2 0 (by omega)).1
      subst hspot
      refine ⟨off, (List.range len).map f, by simp, fun k hk => ?_⟩
      simp only [List.length_map, List.length_range] at hk
      obtain ⟨g0, g1⟩ := hf2 k hk
      rw [add_pl] at g0 g1
      rw [hes k hk]
      exact ⟨b, rfl, block_lt_of_cell g0, g0, by rw [Nat.add_assoc]; exact g1⟩

theorem open_list {H : Type} {enc : TypeId × Value → H} {W : World} {a0 : Option Addr} {len cap : Nat} {d : DataW H} {p : List MemPlace}
    (h : DataW.Trod enc Try.prog W 0 (fun _ => true) true 38 (.slice a0 len cap) d p) :
    ∃ off zs, zs.length = len ∧ IntsIn W W.heap.size a0 off zs := by
  obtain ⟨fuel, hf⟩ := h
  rcases open_ints Try.underlying38 Try.underlying3 Try.cellsI hf with ⟨hcs, _⟩ | ⟨a, len', cap', zs, hcs, _, hl, hm, hz, _, hcell, _⟩
  · simp [Value.cells] at hcs
    obtain ⟨rfl, rfl, rfl⟩ := hcs
    exact ⟨0, [], rfl, fun k hk => absurd hk (by simp)⟩
  · simp [Value.cells] at hcs
    obtain ⟨rfl, rfl, rfl⟩ := hcs
    simp only [if_true] at hz
    by_cases h0 : len = 0
    · exact ⟨0, zs.take len, by simp; omega, fun k hk => absurd hk (by simp; omega)⟩
    · obtain ⟨b, off, spot⟩ := a
      have hspot : spot = none := by simpa [Addr.add] using World.cell?_spot (hcell 0 (by omega))
      subst hspot
      refine ⟨off, zs.take len, by simp; omega, fun k hk => ?_⟩
      simp only [List.length_take] at hk
      have g0 := hcell k (by omega)
      rw [add_pl] at g0
      have e : gi (zs.take len) k = zs.getD k 0 := by
        unfold gi
        simp [List.getD_eq_getElem?_getD, show k < len by omega]
      rw [e]
      exact ⟨b, rfl, block_lt_of_cell g0, g0⟩

end Go.Proofs.Ytogmiofmhmbhbaa
