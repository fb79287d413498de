/- The walk of the document's levels. -/
import Derived.Test.YtogmiofmhmbhbaaNa
namespace Go.Proofs.Ytogmiofmhmbhbaa
open Go.RowKit

/-- those of a list that are levels -/
def isLev (n : Nat) (z : Int) : Bool := decide (0 ≤ z) && decide (z < (n : Int))
def levL (n : Nat) (zs : List Int) : List Int := zs.filter (isLev n)
theorem levL_take (n : Nat) (zs : List Int) (k : Nat) (h : k < zs.length) : levL n (zs.take (k + 1)) = if isLev n (gi zs k) then levL n (zs.take k) ++ [gi zs k] else levL n (zs.take k) := by
  unfold levL
  rw [take_gi zs k h, List.filter_append]
  by_cases hz : isLev n (gi zs k) = true
  · rw [if_pos hz]; simp [hz]
  · rw [if_neg hz]; simp [hz]
theorem levL_len (n : Nat) (zs : List Int) : (levL n zs).length ≤ zs.length := List.length_filter_le ..
theorem levL_range (n : Nat) (zs : List Int) : ∀ z ∈ levL n zs, 0 ≤ z ∧ z < n := by
  intro z hz
  have := (List.mem_filter.1 hz).2
  unfold isLev at this
  simpa using this

theorem OwnInts.mono {w : World} {base base' : Nat} {v : Value} {zs : List Int} (h : OwnInts w base v zs) (hb : base' ≤ base) : OwnInts w base' v zs :=
  ⟨h.1, h.2.imp id fun ⟨g, cap, cur, h1, h2, h3⟩ => ⟨g, cap, cur, h1, Nat.le_trans hb h2, h3⟩⟩
theorem OwnInts.alloc {w : World} {base : Nat} {v : Value} {zs : List Int} (h : OwnInts w base v zs) (o : Obj) : OwnInts (w.alloc o) base v zs := World.ownsRow.alloc h o
theorem OwnInts.drawn {w w' : World} {base : Nat} {v : Value} {zs : List Int} (h : OwnInts w base v zs) (hd : Drawn w w') : OwnInts w' base v zs := by
  obtain ⟨nq, rfl⟩ := hd
  exact h
/-- append of one number to a row of the call's own -/
theorem wpList_append_int {ops : Array Oper} {rest : List Oper} {o : Oper} {a : Act} {w : World} {Q : Exit → Act → World → Prop} (hgd : o.guard = none) (s x : Operand)
    (ho : o.op = .call { callee := .builtin .append, args := #[s, x], argTypes := #[38, 38] })
    (base : Nat) (v : Value) (zs : List Int) (hs : a.eval s = v) (hown : OwnInts w base v zs) (g c : Nat) (z : Int) (hx : a.eval x = .slice (some ⟨g, 0, none⟩) 1 c)
    (hnews : ∀ j u, ([Value.int .i64 z] : List Value)[j]? = some u → w.cell? ((⟨g, 0, none⟩ : Addr).add j) = some u) (hb : zs.length ≤ 100000) (hbase : base ≤ w.heap.size)
    (h : ∀ v' w', OwnInts w' base v' (zs ++ [z]) → w.grownBy w' v.ownBlock → wpList Try.prog ops Q rest (a.put o.dst v') w') : wpList Try.prog ops Q (o :: rest) a w := by
  obtain ⟨i0, hi, hz0, hz1, hz2⟩ := info_parts info_int
  refine wpList_append_own _ hgd s x 38 ho base 3 i0 (.int .i64 0) 1 8 Try.underlying38 hi hz0 hz1 hz2 rfl (by decide) v zs.length (intsV zs) hs hown ⟨g, 0, none⟩ 1 c [.int .i64 z] hx rfl
    hnews one_cell (by unfold maxLen; omega) (by omega) hbase fun v' w' hown' hgr _ => h v' w' ?_ hgr
  unfold OwnInts
  rw [List.length_append, intsV_app]
  exact hown'

def LevelsPost (w : World) (n : Nat) (zs : List Int) (e : Ending) (w' : World) : Prop :=
  ∃ v, e = .returned v ∧ OwnInts w' w.heap.size v (levL n zs) ∧ Below w.heap.size w w'

set_option maxRecDepth 100000 in
set_option maxHeartbeats 2000000 in
theorem levels_any (w : World) (n go co m c off : Nat) (A : Option Addr) (zs : List Int) (hA : IntsIn w w.heap.size A off zs) (hm : zs.length = m) (hm2 : m ≤ 200) :
    Calls Try.prog 39 #[.agg #[.slice (some ⟨go, 0, none⟩) n co], .slice A m c] w (LevelsPost w n zs) := by
  have HM := Lib.hid hm
  clear hm
  obtain ⟨w1, hw1⟩ : ∃ w1, w1 = w.alloc (.cells #[.slice (some ⟨go, 0, none⟩) n co] 31) := ⟨_, rfl⟩
  have hb1 : Below w.heap.size w w1 := by rw [hw1]; exact (Below.refl _ _).alloc (Nat.le_refl _) _
  have hc1 : w1.cell? ⟨w.heap.size, 0, none⟩ = some (.slice (some ⟨go, 0, none⟩) n co) := by
    rw [hw1, cell_of_row _ _ 0 _ _ (0, 0) (heap_alloc_new w _)]; rfl
  have hsz : w1.heap.size = w.heap.size + 1 := by rw [hw1]; simp
  have HSZ := Lib.hid hsz
  obtain ⟨B, hB⟩ : ∃ B, B = w.heap.size := ⟨_, rfl⟩
  have HB := Lib.hid hB
  have hv : OwnInts (w1.alloc (.cells #[] 3)) (B + 1) (.slice (some ⟨w.heap.size + 1, 0, none⟩) 0 0) [] := by
    rw [← hsz]; exact World.ownsRow_lit (e := 3) (size := 1) w1 #[] 0 (by rw [hsz, hB]; exact Nat.le_refl _) (by unfold maxLen; omega) rfl
  have hb2 : Below B w (w1.alloc (.cells #[] 3)) := by rw [hB]; exact hb1.alloc (by omega) _
  have hc2 : (w1.alloc (.cells #[] 3)).cell? ⟨w.heap.size, 0, none⟩ = some (.slice (some ⟨go, 0, none⟩) n co) :=
    ((Below.refl (w.heap.size + 1) w1).alloc (by omega) _ |>.cell (p := ⟨w.heap.size, 0, none⟩) (by simp)).trans hc1
  have H1 := Lib.hid hw1
  clear hsz hB hc1 hw1
  go_enter Try.func39, Try.ntmps39
  go_wp2
  rw [← H1.out]
  obtain ⟨g0, hg0⟩ : ∃ g0, g0 = w.heap.size := ⟨_, rfl⟩
  rw [← hg0] at hc2 hv ⊢
  have HG0 := Lib.hid hg0
  clear hg0
  go_loopw [6, 5] (fun i s5 wr => ∃ k : Nat, k ≤ m ∧ i = .int .i64 k ∧ OwnInts wr (B + 1) s5 (levL n (zs.take k)) ∧ Below B w wr ∧ Hid (wr.cell? ⟨g0, 0, none⟩ = some (.slice (some ⟨go, 0, none⟩) n co)) ∧ B + 1 ≤ wr.heap.size) (fun i _ _ => m - (intOf i).toNat)
  case atStart => exact ⟨0, Nat.zero_le _, rfl, hv, hb2, hc2, by have := HSZ.out; have := HB.out; simp; omega⟩
  case round =>
    obtain ⟨k, hk, rfl, hown, hb, hcb, hsr⟩ := hrel
    by_cases hlt : k < m
    · obtain ⟨b, rfl, hbb, hcz⟩ := (hA.below (w' := wr) (by rw [← HB.out]; exact hb)) k (by rw [HM.out]; exact hlt)
      have HST := Lib.hid (levL_take n zs k (by rw [HM.out]; exact hlt))
      have hlen : (levL n (zs.take k)).length ≤ 100000 := by have := levL_len n (zs.take k); rw [List.length_take] at this; omega
      obtain ⟨z, hz⟩ : ∃ z, z = gi zs k := ⟨_, rfl⟩
      obtain ⟨xs, hxs⟩ : ∃ xs, xs = levL n (zs.take k) := ⟨_, rfl⟩
      rw [← hz] at hcz HST
      rw [← hxs] at hown hlen HST
      clear hz hxs
      have hcb' := hcb.out
      by_cases h1 : 0 ≤ z
      · by_cases h2 : z < n
        · have d1 : decide (0 ≤ z) = true := by simpa using h1
          have d2 : decide (z < (n : Int)) = true := by simpa using h2
          have HS : Hid (levL n (zs.take (k + 1)) = xs ++ [z]) := Lib.hid (HST.out.trans (if_pos (by unfold isLev; simp [h1, h2])))
          have HOWN := Lib.hid hown
          clear hown
          go_wp2
          go_quiet (fail)
          generalize hwq : wr.drewN _ = wq
          have hd : Drawn wr wq := ⟨_, hwq.symm⟩
          have hq := HOWN.out.drawn hd
          have hbq := hb.trans hd.below
          have hczq := (hd.cell ⟨b, off + k, none⟩).trans hcz
          have hcbq : Hid (wq.cell? ⟨g0, 0, none⟩ = some (.slice (some ⟨go, 0, none⟩) n co)) := Lib.hid ((hd.cell _).trans hcb.out)
          have hsq : B + 1 ≤ wq.heap.size := by
            have := (hd.below (B := 0)).size; omega
          have HQ := Lib.hid hq
          clear hwq hd hq hcz hcb' hcb
          go_wp2_with (at_builtin; refine wpList_append_int rfl _ _ rfl (B + 1) _ xs rfl (HQ.out.alloc _) wq.heap.size 1 z rfl (one_hc rfl) hlen (by simp; omega) ?_; intro v' w3 hown3 hgr)
          have hbB : Below (B + 1) wq w3 := ((Below.refl (B + 1) wq).alloc hsq _).grown hgr (by simp; omega) (fun g hg => (HQ.out.lt g hg).1)
          go_roundw
          case rel => exact ⟨k + 1, by omega, by go_num, by rw [HS.out]; exact hown3, hbq.trans (hbB.mono (by omega)), Lib.hid ((hbB.cell (p := ⟨g0, 0, none⟩) (by have := HB.out; have := HG0.out; simp; omega)).trans hcbq.out), by have := hbB.size; omega⟩
          case measure => simp [intOf]; omega
        · have d1 : decide (0 ≤ z) = true := by simpa using h1
          have d2 : decide (z < (n : Int)) = false := by simpa using h2
          have HS : Hid (levL n (zs.take (k + 1)) = xs) := Lib.hid (HST.out.trans (if_neg (by unfold isLev; simp [h2])))
          go_wp2
          go_quiet (fail)
          go_wp2
          go_roundw
          case rel => exact ⟨k + 1, by omega, by go_num, by rw [HS.out]; exact hown.drawn ⟨_, rfl⟩, hb.trans (Drawn.below ⟨_, rfl⟩), Lib.hid hcb.out, by simpa using hsr⟩
          case measure => simp [intOf]; omega
      · have d1 : decide (0 ≤ z) = false := by simpa using h1
        have HS : Hid (levL n (zs.take (k + 1)) = xs) := Lib.hid (HST.out.trans (if_neg (by unfold isLev; simp [h1])))
        go_wp2
        go_quiet (fail)
        go_wp2
        go_roundw
        case rel => exact ⟨k + 1, by omega, by go_num, by rw [HS.out]; exact hown.drawn ⟨_, rfl⟩, hb.trans (Drawn.below ⟨_, rfl⟩), Lib.hid hcb.out, by simpa using hsr⟩
        case measure => simp [intOf]; omega
    · obtain rfl : m = k := by omega
      rw [List.take_of_length_le (show zs.length ≤ m by rw [HM.out]; exact Nat.le_refl _)] at hown
      go_wp2
      go_ret
      exact ⟨_, rfl, OwnInts.mono hown (by have := HB.out; omega), by rw [← HB.out]; exact hb⟩

end Go.Proofs.Ytogmiofmhmbhbaa
