/- How the arguments read, more: a nil slice holds nothing. -/
import Derived.Test.YtogmiofmhmbhbaaPr
namespace Go.Proofs.Ytogmiofmhmbhbaa
open Go.ChangeShapes Go.WideShapes Go.ChangeAt Go.RowKit

theorem none_edges {H : Type} {enc : TypeId × Value → H} {W : World} {a0 : Option Addr} {len cap : Nat} {d : DataW H} {p : List MemPlace}
    (h : DataW.Trod enc Try.prog W 0 (fun _ => true) true 22 (.slice a0 len cap) d p) : a0 = none → len = 0 ∧ cap = 0 := by
  intro h0
  subst h0
  obtain ⟨fuel, hf⟩ := h
  rcases Deep.open_slice Try.underlying22 hf with ⟨hcs, _⟩ | ⟨a, len', cap', m, n, D, Pl, hcs, _⟩
  · simpa [Value.cells] using hcs
  · simp [Value.cells] at hcs

end Go.Proofs.Ytogmiofmhmbhbaa
