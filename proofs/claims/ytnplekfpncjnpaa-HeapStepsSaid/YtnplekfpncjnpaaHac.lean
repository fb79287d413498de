/- The heap's functions: has, word, New, Load, Words, Objects. -/
import Derived.Test.YtnplekfpncjnpaaHab
import Derived.IntWalk
import Derived.Laws.MakeOwn
set_option linter.unusedVariables false
set_option linter.unusedSimpArgs false
namespace Go.Proofs.Ytnplekfpncjnpaa
open Go.RowKit

set_option maxRecDepth 100000 in
theorem has_any {w : World} {base h g c : Nat} {A : List Value} {H : Hp} (X : HpAt w base h g c A H) (t : Int) :
    Calls Try.prog 22 #[.pointer (some ⟨h, 0, none⟩), .int .i64 t] w fun e w' => e = .returned (.bool (decide (0 ≤ t ∧ t < (H.length : Int)))) ∧ w = w' := by
  obtain ⟨hc, hlt, -, h4⟩ := X.seen
  clear X
  obtain ⟨n, hn⟩ : ∃ n, n = H.length := ⟨_, rfl⟩
  rw [← hn] at hc h4 ⊢
  clear hn
  by_cases h0 : t < 0
  · rw [show decide (0 ≤ t ∧ t < (n : Int)) = false from decide_eq_false (by omega)]
    go_enter Try.func22, Try.ntmps22
    go_wp2
    go_ret
    exact ⟨rfl, rfl⟩
  · by_cases h1 : t < (n : Int)
    · rw [show decide (0 ≤ t ∧ t < (n : Int)) = true from decide_eq_true (by omega)]
      go_enter Try.func22, Try.ntmps22
      go_wp2
      go_ret
      exact ⟨rfl, rfl⟩
    · rw [show decide (0 ≤ t ∧ t < (n : Int)) = false from decide_eq_false (by omega)]
      go_enter Try.func22, Try.ntmps22
      go_wp2
      go_ret
      exact ⟨rfl, rfl⟩

def placeV : Option (Nat × Nat) → Value
  | none => .tuple #[.int .i64 0, .int .i64 0, .bool false]
  | some (t, k) => .tuple #[.int .i64 (t : Nat), .int .i64 (k : Nat), .bool true]

set_option maxRecDepth 100000 in
set_option maxHeartbeats 1000000 in
theorem word_any {w : World} {base h g c : Nat} {A : List Value} {H : Hp} (X : HpAt w base h g c A H) (a : Int) (ha : In64 a) :
    Calls Try.prog 25 #[.pointer (some ⟨h, 0, none⟩), .int .i64 a] w fun e w' => e = .returned (placeV (place H a)) ∧ w = w' := by
  by_cases h0 : a < 1
  · rw [place_low h0]
    unfold placeV
    go_enter Try.func25, Try.ntmps25
    go_wp2
    go_ret3
    exact ⟨rfl, rfl⟩
  · unfold In64 at ha
    obtain ⟨t, k, hk, rfl⟩ : ∃ t k : Nat, k < 64 ∧ a = 1 + 64 * (t : Int) + k := ⟨(a - 1).toNat / 64, (a - 1).toNat % 64, by omega, by omega⟩
    rw [place_of hk]
    have HH := Lib.hid (has_any X (t : Int))
    obtain ⟨hc, hlt, hglt, h4⟩ := X.seen
    have e0 : (1 + 64 * (t : Int) + k) < 1 ↔ False := by simp; omega
    have e1 : IntKind.i64.wrap (1 + 64 * (t : Int) + k - 1) = 64 * (t : Int) + k := by rw [IntWalk.i64_in _ ⟨by omega, by omega⟩]; omega
    have e2 : (64 * (t : Int) + k).tdiv 64 = (t : Int) := by rw [Int.tdiv_eq_ediv_of_nonneg (by omega)]; omega
    have e3 : (64 * (t : Int) + k).tmod 64 = (k : Int) := by rw [Int.tmod_eq_emod_of_nonneg (by omega)]; omega
    by_cases ht : t < H.length
    · obtain ⟨B, d, hw, hd, -, -, h64⟩ := X.words ht
      have hdn : decide (0 ≤ (t : Int) ∧ (t : Int) < (H.length : Int)) = true := decide_eq_true (by omega)
      rw [hdn] at HH
      have hcap := X.cap
      obtain ⟨n, hn⟩ : ∃ n, n = H.length := ⟨_, rfl⟩
      obtain ⟨m, hm⟩ : ∃ m, m = (getM H t).ws.length := ⟨_, rfl⟩
      rw [← hn] at hc ht h4 hcap
      rw [← hm] at hw hd h64 ⊢
      clear X hdn hn hm
      by_cases hkl : k < m
      · rw [if_pos hkl]
        unfold placeV
        go_enter Try.func25, Try.ntmps25
        go_wp2_with fail
        refine HH.out.mono ?_
        rintro e w2 ⟨rfl, rfl⟩
        go_wp2
        go_ret3
        exact ⟨rfl, rfl⟩
      · rw [if_neg hkl]
        unfold placeV
        go_enter Try.func25, Try.ntmps25
        go_wp2_with fail
        refine HH.out.mono ?_
        rintro e w2 ⟨rfl, rfl⟩
        go_wp2
        go_ret3
        exact ⟨rfl, rfl⟩
    · rw [if_neg (fun h => ht (getM_in h))]
      have hdn : decide (0 ≤ (t : Int) ∧ (t : Int) < (H.length : Int)) = false := decide_eq_false (by omega)
      rw [hdn] at HH
      clear X h4 hdn
      unfold placeV
      go_enter Try.func25, Try.ntmps25
      go_wp2_with fail
      refine HH.out.mono ?_
      rintro e w2 ⟨rfl, rfl⟩
      go_wp2
      go_ret3
      exact ⟨rfl, rfl⟩

/-- a new heap -/
def NewAt (w : World) (n : Int) (e : Ending) (w' : World) : Prop := ∃ h g c A, e = .returned (.pointer (some ⟨h, 0, none⟩)) ∧ HpAt w' w.heap.size h g c A (newM n) ∧ Below w.heap.size w w'
def nilV : Value := .slice none 0 0
theorem info_mem : (Try.prog.info? 65).map (fun i => (i.zero, i.size, i.bytes)) = some (some (.agg #[nilV, nilV]), 2, 48) := by kernel_rfl
theorem mk_mem (w : World) (l : Int) (h0 : 0 ≤ l) (h4 : l ≤ 4) : (Instr.makeSlice 59 (.int .i64 l) (.int .i64 l)).run Try.prog w =
    .ok (.slice (some ⟨w.heap.size, 0, none⟩) l.toNat l.toNat) (w.alloc (.cells (madeCells #[nilV, nilV] (l.toNat * 2)) 65)) := by
  obtain ⟨i, hi, hz, hs, hb⟩ := info_parts info_mem
  have := run_makeSlice (P := Try.prog) w 59 65 i _ Try.underlying59 hi hz .i64 .i64 l l h0 (Int.le_refl _) (by rw [hs]; omega) (by rw [hb]; omega) (by omega)
  rw [hs] at this
  exact this
theorem made_nil0 : madeCells #[nilV, nilV] (0 * 2) = (List.replicate (2 * 0) nilV).toArray := by kernel_rfl
theorem made_nil1 : madeCells #[nilV, nilV] (1 * 2) = (List.replicate (2 * 1) nilV).toArray := by kernel_rfl
theorem made_nil2 : madeCells #[nilV, nilV] (2 * 2) = (List.replicate (2 * 2) nilV).toArray := by kernel_rfl
theorem made_nil3 : madeCells #[nilV, nilV] (3 * 2) = (List.replicate (2 * 3) nilV).toArray := by kernel_rfl
theorem made_nil4 : madeCells #[nilV, nilV] (4 * 2) = (List.replicate (2 * 4) nilV).toArray := by kernel_rfl
theorem made_nil (m : Nat) (h : m ≤ 4) : madeCells #[nilV, nilV] (m * 2) = (List.replicate (2 * m) nilV).toArray := by
  have : m = 0 ∨ m = 1 ∨ m = 2 ∨ m = 3 ∨ m = 4 := by omega
  rcases this with rfl | rfl | rfl | rfl | rfl
  · exact made_nil0
  · exact made_nil1
  · exact made_nil2
  · exact made_nil3
  · exact made_nil4
theorem newAt_done (w : World) (m : Nat) (h : m ≤ 4) (n : Int) (hn : newM n = List.replicate m ⟨[], []⟩) : NewAt w n (.returned (.pointer (some ⟨w.heap.size + 1, 0, none⟩)))
    ((w.alloc (.cells (madeCells #[nilV, nilV] (m * 2)) 65)).alloc (.cells #[.slice (some ⟨w.heap.size, 0, none⟩) m m] 61)) := by
  have hs : (w.alloc (.cells (madeCells #[nilV, nilV] (m * 2)) 65)).heap.size = w.heap.size + 1 := by simp
  have hget : ∀ t, getM (newM n) t = ⟨[], []⟩ := fun t => by
    rcases Nat.lt_or_ge t (newM n).length with h1 | h1
    · rw [getM_lt h1]
      have hall : ∀ m ∈ newM n, m = ⟨[], []⟩ := by rw [hn]; exact fun m hm => (List.mem_replicate.1 hm).2
      exact hall _ (List.getElem_mem h1)
    · exact getM_ge h1
  have hlen : (newM n).length = m := by rw [hn, List.length_replicate]
  have hA : ∀ i v, (List.replicate (2 * m) nilV)[i]? = some v → v = nilV := fun i v hv => by
    rw [List.getElem?_replicate] at hv
    split at hv
    · injection hv with hv; exact hv.symm
    · cases hv
  refine ⟨w.heap.size + 1, w.heap.size, m, List.replicate (2 * m) nilV, rfl, ⟨⟨by omega, Nat.le_refl _, by omega, by rw [hlen]; exact Nat.le_refl _, by rw [hlen]; exact h, ?_, ?_, by simp [hlen], fun t ht => ⟨nilV, ?_, ?_⟩, fun t ht => ⟨nilV, ?_, ?_⟩, fun i j vi vj b hi hj hbi hbj => ?_, fun i v b hi hb => ?_⟩, good_new n⟩, ?_⟩
  · rw [← hs, heap_alloc_new, hlen]
  · rw [heap_alloc_old _ _ (by rw [hs]; omega), heap_alloc_new, made_nil m h]
  · rw [List.getElem?_replicate, if_pos (by rw [hlen] at ht; omega)]
  · rw [hget]; exact World.ownsRow_nil _ _ _ _
  · rw [List.getElem?_replicate, if_pos (by rw [hlen] at ht; omega)]
  · rw [hget]; exact World.ownsRow_nil _ _ _ _
  · rw [hA i vi hi] at hbi; cases hbi
  · rw [hA i v hi] at hb; cases hb
  · exact ((Below.refl _ w).alloc (Nat.le_refl _) _).alloc (by rw [hs]; omega) _
set_option maxRecDepth 100000 in
theorem new_any (w : World) (n : Int) (hn : In64 n) : Calls Try.prog 8 #[.int .i64 n] w (NewAt w n) := by
  unfold In64 at hn
  by_cases h0 : n < 0
  · have hmk := mk_mem w 0 (by omega) (by omega)
    have HD := Lib.hid (newAt_done w 0 (by omega) n (by unfold newM; rw [show min n.toNat 4 = 0 from by omega]))
    go_enter Try.func8, Try.ntmps8
    go_wp2
    go_ret
    exact HD.out
  · by_cases h4 : 4 < n
    · have hmk := mk_mem w 4 (by omega) (by omega)
      have HD := Lib.hid (newAt_done w 4 (by omega) n (by unfold newM; rw [show min n.toNat 4 = 4 from by omega]))
      go_enter Try.func8, Try.ntmps8
      go_wp2
      go_ret
      exact HD.out
    · have hmk := mk_mem w n (by omega) (by omega)
      have HD := Lib.hid (newAt_done w n.toNat (by omega) n (by unfold newM; rw [show min n.toNat 4 = n.toNat from by omega]))
      go_enter Try.func8, Try.ntmps8
      go_wp2
      go_ret
      exact HD.out

end Go.Proofs.Ytnplekfpncjnpaa
