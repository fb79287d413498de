/- A queue of the program: where it lies, and its functions New, Put, Get, Len, Room. -/
import Derived.Test.YtadmacplpmahaaaMda
import Derived.Conc.LoneCalls
import Derived.Conc.LoneSelect
import Derived.Conc.LoneSelectN
import Derived.BigQuiet
import Derived.KernelRfl
set_option linter.unusedVariables false
set_option linter.unusedSimpArgs false
namespace Go.Proofs.Ytadmacplpmahaaa
open Go.RowKit Go.Conc

def vI (x : Int) : Value := .int .i64 x
/-- the queue h with its channel c: xs wait, of cap places -/
structure QAt (w : World) (base h c cap : Nat) (xs : List Int) : Prop where
  hh : base ≤ h
  hc : base ≤ c
  row : w.heap[h]? = some (.cells #[.chan (some c)] 42 (0, 0))
  chan : ∃ s r, w.heap[c]? = some (.chan cap (xs.map vI).toArray false s r false)
  fit : xs.length ≤ cap
  lo : 1 ≤ cap
  hi : cap ≤ 4
theorem QAt.cell {w : World} {base h c cap : Nat} {xs : List Int} (X : QAt w base h c cap xs) : w.cell? ⟨h, 0, none⟩ = some (.chan (some c)) := by
  unfold World.cell?
  rw [X.row]
  rfl
theorem QAt.hlt {w : World} {base h c cap : Nat} {xs : List Int} (X : QAt w base h c cap xs) : h < w.heap.size := heap_lt X.row
def capM (n : Int) : Nat := if n < 1 then 1 else if 4 < n then 4 else n.toNat
theorem capM_lo (n : Int) : 1 ≤ capM n := by unfold capM; repeat (first | omega | split)
theorem capM_hi (n : Int) : capM n ≤ 4 := by unfold capM; repeat (first | omega | split)
theorem QAt.keep {w w' : World} {base h c cap : Nat} {xs : List Int} (X : QAt w base h c cap xs) (h1 : w'.heap[h]? = w.heap[h]?) (h2 : w'.heap[c]? = w.heap[c]?) : QAt w' base h c cap xs := by
  obtain ⟨s, r, hc⟩ := X.chan
  exact ⟨X.hh, X.hc, h1.trans X.row, ⟨s, r, h2.trans hc⟩, X.fit, X.lo, X.hi⟩
theorem QAt.clt {w : World} {base h c cap : Nat} {xs : List Int} (X : QAt w base h c cap xs) : c < w.heap.size := by
  obtain ⟨s, r, hc⟩ := X.chan
  exact heap_lt hc
theorem QAt.below {w w' : World} {base h c cap : Nat} {xs : List Int} (X : QAt w base h c cap xs) (hb : Below w.heap.size w w') : QAt w' base h c cap xs := X.keep (hb.block h X.hlt) (hb.block c X.clt)
theorem QAt.ne {w : World} {base h c cap : Nat} {xs : List Int} (X : QAt w base h c cap xs) : h ≠ c := by
  rintro rfl
  obtain ⟨s, r, hc⟩ := X.chan
  have := X.row
  rw [hc] at this
  cases this
/-- the queue's channel, turned -/
theorem QAt.turn {w : World} {base h c cap : Nat} {xs ys : List Int} (X : QAt w base h c cap xs) (s r : Nat) (hf : ys.length ≤ cap) : QAt (w.setChan c cap (ys.map vI).toArray false s r false) base h c cap ys :=
  ⟨X.hh, X.hc, (show (w.setChan c cap (ys.map vI).toArray false s r false).heap[h]? = w.heap[h]? by simp [World.setChan, Array.getElem?_setIfInBounds_ne X.ne.symm]).trans X.row, ⟨s, r, heap_setChan _ _ _ _ _ _ _ _ X.clt⟩, hf, X.lo, X.hi⟩

theorem bytes_int : ∃ i, Try.prog.info? 3 = some i ∧ i.bytes = 8 := by
  have h : (Try.prog.info? 3).map (·.bytes) = some 8 := by kernel_rfl
  obtain ⟨i, hi, hb⟩ := Option.map_eq_some_iff.1 h
  exact ⟨i, hi, hb⟩
theorem mk_chan (w : World) (n : Nat) (h : n ≤ 4) : (Instr.makeChan 40 (.int .i64 (n : Nat))).run Try.prog w = .ok (.chan (some w.heap.size)) (w.alloc (.chan n #[] false 0 0 false)) := by
  obtain ⟨i, hi, hb⟩ := bytes_int
  simpa using run_makeChan (P := Try.prog) (w := w) Try.underlying40 hi .i64 n (by omega) (by rw [hb]; omega)
def NewQ (w : World) (n : Int) (e : Ending) (w' : World) : Prop := ∃ h c, e = .returned (.pointer (some ⟨h, 0, none⟩)) ∧ QAt w' w.heap.size h c (capM n) [] ∧ Below w.heap.size w w'
theorem newQ_done (w : World) (n : Int) (k : Nat) (hk : k = capM n) : NewQ w n (.returned (.pointer (some ⟨w.heap.size + 1, 0, none⟩))) ((w.alloc (.chan k #[] false 0 0 false)).alloc (.cells #[.chan (some w.heap.size)] 42)) := by
  have hs : (w.alloc (.chan k #[] false 0 0 false)).heap.size = w.heap.size + 1 := by simp
  have hn : ((w.alloc (.chan k #[] false 0 0 false)).alloc (.cells #[.chan (some w.heap.size)] 42)).heap[w.heap.size + 1]? = some (.cells #[.chan (some w.heap.size)] 42 (0, 0)) := by
    rw [← hs]; exact heap_alloc_new _ _
  refine ⟨w.heap.size + 1, w.heap.size, rfl, ⟨by omega, Nat.le_refl _, hn, ⟨0, 0, ?_⟩, by simp, capM_lo n, capM_hi n⟩, ?_⟩
  · rw [Below.heap_alloc _ _ _ (by rw [hs]; omega), heap_alloc_new, hk]
    rfl
  · exact ((Below.refl _ w).alloc (Nat.le_refl _) _).alloc (by rw [hs]; omega) _

set_option maxRecDepth 100000 in
theorem newQ_any (w : World) (n : Int) (hn : In64 n) : Calls Try.prog 7 #[.int .i64 n] w (NewQ w n) := by
  unfold In64 at hn
  by_cases h0 : n < 1
  · have hmk := mk_chan w 1 (by omega)
    rw [show ((1 : Nat) : Int) = 1 from rfl] at hmk
    have HD := Lib.hid (newQ_done w n 1 (by unfold capM; rw [if_pos h0]))
    go_enter Try.func7, Try.ntmps7
    go_wp2
    go_ret
    exact HD.out
  · by_cases h4 : 4 < n
    · have hmk := mk_chan w 4 (by omega)
      rw [show ((4 : Nat) : Int) = 4 from rfl] at hmk
      have HD := Lib.hid (newQ_done w n 4 (by unfold capM; rw [if_neg h0, if_pos h4]))
      go_enter Try.func7, Try.ntmps7
      go_wp2
      go_ret
      exact HD.out
    · obtain ⟨k, rfl⟩ : ∃ k : Nat, n = k := ⟨n.toNat, by omega⟩
      have hmk := mk_chan w k (by omega)
      have HD := Lib.hid (newQ_done w k k (by unfold capM; rw [if_neg h0, if_neg h4]; omega))
      go_enter Try.func7, Try.ntmps7
      go_wp2
      go_ret
      exact HD.out

end Go.Proofs.Ytadmacplpmahaaa
