/- What code weighs. -/
import Derived.Test.YtgohnlcgidmlfaaDoorMdd
set_option linter.unusedVariables false
set_option linter.unusedSimpArgs false
namespace Go.Proofs.YtgohnlcgidmlfaaDoor
open Go.RowKit

/-- so much with these lengths more, until it is more than most -/
def goL : List Nat → Int → Int → Int
  | [], n, _ => n
  | l :: ls, n, most => if n ≤ most then goL ls (n + (l : Int)) most else n
theorem goL_go {l : Nat} {ls : List Nat} {n most : Int} (h : n ≤ most) : goL (l :: ls) n most = goL ls (n + (l : Int)) most := by rw [goL, if_pos h]
theorem goL_stop (ls : List Nat) (n most : Int) (h : ¬ n ≤ most) : goL ls n most = n := by
  cases ls with
  | nil => rw [goL]
  | cons s ss => rw [goL, if_neg h]
theorem goL_ge : ∀ (ls : List Nat) (n most : Int), n ≤ goL ls n most
  | [], n, _ => by rw [goL]; omega
  | l :: ls, n, most => by
    rw [goL]; split
    · have := goL_ge ls (n + (l : Int)) most; omega
    · omega
theorem goL_sum : ∀ (ls : List Nat) (n most : Int), goL ls n most ≤ most → goL ls n most = n + (ls.sum : Int)
  | [], n, most, h => by rw [goL]; simp
  | l :: ls, n, most, h => by
    rw [goL] at h ⊢
    split
    · rename_i h2
      rw [if_pos h2] at h
      rw [goL_sum ls _ most h, List.sum_cons]; omega
    · rename_i h2
      rw [if_neg h2] at h
      exact absurd h h2
theorem goL_bound {most : Int} : ∀ (ls : List Nat) (n M : Int), (∀ l ∈ ls, l ≤ 140737488355328) → most + 140737488355328 ≤ M → n ≤ M → goL ls n most ≤ M
  | [], n, M, _, _, h => by rw [goL]; exact h
  | l :: ls, n, M, hl, hm, h => by
    rw [goL]; split
    · have := hl l (by simp)
      exact goL_bound ls _ M (fun x hx => hl x (by simp [hx])) hm (by omega)
    · exact h

theorem drop_at {α : Type} {xs : List α} {j : Nat} (h : j < xs.length) : xs.drop j = xs[j] :: xs.drop (j + 1) := List.drop_eq_getElem_cons h

set_option maxRecDepth 100000 in
theorem weight_any {w : World} {S : Nat → Prop} {xs : List (List UInt8)} {v : Value} (h : Lies KT w S xs v) (n most : Int) (hn : 0 ≤ n) (hn2 : n ≤ 1000000000000000000) (hm : most ≤ 1000000) :
    Calls Tryd.prog 22 #[v, .int .i64 n, .int .i64 most] w fun e w' => e = .returned (.int .i64 (goL (xs.map List.length) n most)) ∧ w' = w := by
  obtain ⟨A, c, rfl, hc, hM⟩ := h.form
  obtain ⟨ns, hns⟩ : ∃ ns, ns = xs.length := ⟨_, rfl⟩
  have HX := Lib.hid h
  rw [← hns] at hc hM ⊢
  have HNS := Lib.hid hns
  clear hns h
  go_enter Tryd.func22, Tryd.ntmps22
  go_wp2
  go_loop [1, 7] (fun n' i => ∃ (j : Nat) (nn : Int), j ≤ ns ∧ i = .int .i64 j ∧ n' = .int .i64 nn ∧ 0 ≤ nn ∧ nn ≤ 1000000000000000000 ∧ Hid (goL ((xs.drop j).map List.length) nn most = goL (xs.map List.length) n most)) (fun _ i => ns - (intOf i).toNat)
  case atStart => exact ⟨0, n, Nat.zero_le _, rfl, rfl, hn, hn2, Lib.hid rfl⟩
  case round =>
    obtain ⟨j, nn, hj, rfl, rfl, hn0, hn1, HGO⟩ := hrel
    by_cases hlt : j < ns
    · by_cases hle : nn ≤ most
      · have hje : j < xs.length := by rw [← HNS.out]; exact hlt
        rw [← HNS.out] at HX
        obtain ⟨b, off, rfl, -, k0, hl⟩ := HX.out.text j hje
        obtain ⟨S1, hS1⟩ : ∃ S1, S1 = bs xs[j] := ⟨_, rfl⟩
        obtain ⟨l1, hl1⟩ : ∃ l1, l1 = xs[j].length := ⟨_, rfl⟩
        have z1 : S1.size = l1 := by rw [hS1, bs_size, hl1]
        have HGO2 : Hid (goL ((xs.drop (j + 1)).map List.length) (nn + (l1 : Int)) most = goL (xs.map List.length) n most) := Lib.hid (by
          have := HGO.out
          rw [drop_at hje, List.map_cons, goL_go hle, ← hl1] at this
          exact this)
        rw [← hS1] at k0
        rw [← hl1] at hl
        have q1 : -9223372036854775808 ≤ nn + (l1 : Int) ∧ nn + (l1 : Int) ≤ 9223372036854775807 := by omega
        have x1 := IntWalk.i64_in _ q1
        clear q1 hS1 hl1 HX HGO
        go_wp2
        go_round
        case rel => exact ⟨j + 1, _, by omega, by go_num, rfl, by omega, by omega, HGO2⟩
        case measure => simp [intOf]; omega
      · have HE : Hid (nn = goL (xs.map List.length) n most) := Lib.hid (by rw [← HGO.out, goL_stop _ _ _ hle])
        clear HX
        go_wp2
        go_ret
        exact ⟨rint HE.out, rfl⟩
    · have HE : Hid (nn = goL (xs.map List.length) n most) := Lib.hid (by
        rw [← HGO.out, List.drop_of_length_le (by rw [← HNS.out]; omega)]; rw [List.map_nil, goL])
      clear HX
      go_wp2
      go_ret
      exact ⟨rint HE.out, rfl⟩

set_option maxRecDepth 100000 in
theorem weighs_any {w : World} {S : Nat → Prop} {xs : List Sz} {v : Value} (h : Lies KS w S xs v) (n most : Int) (hn : 0 ≤ n) (hn2 : n ≤ 1000000000000000000) (hm : most ≤ 1000000) :
    Calls Tryd.prog 21 #[v, .int .i64 n, .int .i64 most] w fun e w' => e = .returned (.int .i64 (goL (xs.map (·.name.length)) n most)) ∧ w' = w := by
  obtain ⟨A, c, rfl, hc, hM⟩ := h.form
  obtain ⟨ns, hns⟩ : ∃ ns, ns = xs.length := ⟨_, rfl⟩
  have HX := Lib.hid h
  rw [← hns] at hc hM ⊢
  have HNS := Lib.hid hns
  clear hns h
  go_enter Tryd.func21, Tryd.ntmps21
  go_wp2
  go_loop [1, 7] (fun n' i => ∃ (j : Nat) (nn : Int), j ≤ ns ∧ i = .int .i64 j ∧ n' = .int .i64 nn ∧ 0 ≤ nn ∧ nn ≤ 1000000000000000000 ∧ Hid (goL ((xs.drop j).map (·.name.length)) nn most = goL (xs.map (·.name.length)) n most)) (fun _ i => ns - (intOf i).toNat)
  case atStart => exact ⟨0, n, Nat.zero_le _, rfl, rfl, hn, hn2, Lib.hid rfl⟩
  case round =>
    obtain ⟨j, nn, hj, rfl, rfl, hn0, hn1, HGO⟩ := hrel
    by_cases hlt : j < ns
    · by_cases hle : nn ≤ most
      · have hje : j < xs.length := by rw [← HNS.out]; exact hlt
        rw [← HNS.out] at HX
        obtain ⟨b, off, rfl, -, k0, k1, hl, -⟩ := HX.out.sized j hje
        obtain ⟨S1, hS1⟩ : ∃ S1, S1 = bs xs[j].name := ⟨_, rfl⟩
        obtain ⟨l1, hl1⟩ : ∃ l1, l1 = xs[j].name.length := ⟨_, rfl⟩
        have z1 : S1.size = l1 := by rw [hS1, bs_size, hl1]
        have HGO2 : Hid (goL ((xs.drop (j + 1)).map (·.name.length)) (nn + (l1 : Int)) most = goL (xs.map (·.name.length)) n most) := Lib.hid (by
          have := HGO.out
          rw [drop_at hje, List.map_cons, goL_go hle, ← hl1] at this
          exact this)
        rw [← hS1] at k0
        rw [← hl1] at hl
        have q1 : -9223372036854775808 ≤ nn + (l1 : Int) ∧ nn + (l1 : Int) ≤ 9223372036854775807 := by omega
        have x1 := IntWalk.i64_in _ q1
        clear q1 hS1 hl1 HX HGO k1
        go_wp2
        go_round
        case rel => exact ⟨j + 1, _, by omega, by go_num, rfl, by omega, by omega, HGO2⟩
        case measure => simp [intOf]; omega
      · have HE : Hid (nn = goL (xs.map (·.name.length)) n most) := Lib.hid (by rw [← HGO.out, goL_stop _ _ _ hle])
        clear HX
        go_wp2
        go_ret
        exact ⟨rint HE.out, rfl⟩
    · have HE : Hid (nn = goL (xs.map (·.name.length)) n most) := Lib.hid (by
        rw [← HGO.out, List.drop_of_length_le (by rw [← HNS.out]; omega)]; rw [List.map_nil, goL])
      clear HX
      go_wp2
      go_ret
      exact ⟨rint HE.out, rfl⟩

end Go.Proofs.YtgohnlcgidmlfaaDoor
