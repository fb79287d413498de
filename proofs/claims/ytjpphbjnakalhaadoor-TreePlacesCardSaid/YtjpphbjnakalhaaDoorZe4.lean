/- Xj -/
import Derived.Test.YtjpphbjnakalhaaDoorZe1
import Derived.StillTailTactics
import Derived.IntWalk
set_option linter.unusedVariables false
namespace Go.Proofs.YtjpphbjnakalhaaDoor
open Go.RowKit
def TabW (w : World) : Prop := Lib.TabIs Tryd.prog w "internal/strconv.uint64pow10" .u64 Lib.pow10Tab
theorem TabW.below {w w1 : World} (h : TabW w) (hb : Below w.heap.size w w1) : TabW w1 := Lib.tabBelow_of_tabIs h w1 hb
theorem TabW.tab {w : World} (h : TabW w) : Tab w.heap.size w := Lib.tabBelow_of_tabIs h
set_option maxRecDepth 100000 in
theorem types_writes {w : World} {g : Nat} (t : List UInt8) (ht : t.length ≤ 40000) (hg : w.heap[g]? = some (.cells #[.string (strOf t)] 9 (0, 0))) : Writes 15 #[.pointer (some ⟨g, 0, none⟩)] w (tyT t) := by
  intro wx Bc Ba hb hB hp
  have hc : wx.cell? ⟨g, 0, none⟩ = some (.string (strOf t)) := by
    rw [cell_of_row wx g 0 _ _ (0, 0) ((hb.block g (lt_of_heap hg)).trans hg)]; rfl
  have HT := Lib.hid (types_any hp hB t ht)
  unfold penV at HT
  unfold penV
  clear hb hg hp
  go_enter Tryd.func15, Tryd.ntmps15
  go_wp2_with fail
  refine HT.out.mono ?_
  rintro e1 w1 hpost
  cases hR : adv [] (tyT t) with
  | none =>
    rw [hR] at hpost
    obtain ⟨rfl, hch⟩ := hpost
    have HCH := Lib.hid hch
    clear hR hch
    unfold boom
    go_wp2
    exact ⟨rfl, rfl, HCH.out⟩
  | some T1 =>
    rw [hR] at hpost
    obtain ⟨rfl, u1, hwent⟩ := hpost
    have HWE := Lib.hid hwent
    have HR := Lib.hid hR
    clear hR hwent
    go_wp2
    go_end0
    first
      | exact ⟨rfl, u1, HWE.out⟩
      | (rw [HR.out]; exact ⟨rfl, u1, HWE.out⟩)
set_option maxRecDepth 100000 in
theorem showType_any (w : World) (t : List UInt8) (ht : t.length ≤ 40000) :
    Calls Tryd.prog 9 #[.string (strOf t)] w fun e w' => e = .returned (.string (strOf (fin (tyT t)).1)) ∧ Below w.heap.size w w' := by
  have hmf : ∀ (fn : Fn) (first cap : Array Value) (w : World), (Instr.makeFunc fn first cap).run Tryd.prog w = .ok (.func fn first cap) w := fun _ _ _ _ => rfl
  obtain ⟨X, hX⟩ : ∃ X : World, X = w.alloc (.cells #[.string (strOf t)] 9) := ⟨_, rfl⟩
  have hg : X.heap[w.heap.size]? = some (.cells #[.string (strOf t)] 9 (0, 0)) := by rw [hX]; exact heap_alloc_new _ _
  have hbx : Below w.heap.size w X := by rw [hX]; exact (Below.refl _ _).alloc (Nat.le_refl _) _
  have HWR := Lib.hid (written_any 15 #[.pointer (some ⟨w.heap.size, 0, none⟩)] X (tyT t) (fun _ _ => rfl) (types_writes t ht hg))
  have HX := Lib.hid hX
  have HBX := Lib.hid hbx
  clear hX hg hbx
  go_enter Tryd.func9, Tryd.ntmps9
  go_wp2_with fail
  rw [← HX.out]
  refine HWR.out.mono ?_
  rintro e1 w1 ⟨rfl, hb1⟩
  have HB1 := Lib.hid (HBX.out.trans (hb1.mono HBX.out.size))
  clear hb1
  go_wp2
  go_ret
  exact ⟨rfl, HB1.out⟩
end Go.Proofs.YtjpphbjnakalhaaDoor
