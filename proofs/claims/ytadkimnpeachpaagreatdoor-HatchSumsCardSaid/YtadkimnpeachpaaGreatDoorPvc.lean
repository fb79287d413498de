/- Layer 8: what a hatch may have, an input's value, what a sign gives. -/
import Derived.Test.YtadkimnpeachpaaGreatDoorPvb
set_option linter.unusedVariables false
set_option linter.unusedSimpArgs false
namespace Go.Proofs.YtadkimnpeachpaaGreatDoor
open Go.RowKit

/-- '+', '-', '*', '/' or '%' -/
def signs : List UInt8 := [43, 45, 42, 47, 37]
theorem size_one {s : ByteArray} (h : s.size = 1) : ∃ c : UInt8, s = ⟨#[c]⟩ := by
  obtain ⟨⟨l⟩⟩ := s
  match l, h with
  | [c], _ => exact ⟨c, rfl⟩
theorem strOf_inj {s : List UInt8} {c : UInt8} (h : strOf s = ⟨#[c]⟩) : s = [c] := by
  have := congrArg ByteArray.toList h
  rw [strOf_list] at this
  rw [this]; exact Lib.toList_data _
theorem strOf_size (s : List UInt8) : (strOf s).size = s.length := rfl
theorem sign_in (c : UInt8) : decide (0 ≤ Lib.indexByte signs c) = (c == 43 || c == 45 || c == 42 || c == 47 || c == 37) := by
  have h : ∀ n : Fin 256, decide (0 ≤ Lib.indexByte signs (UInt8.ofNat n.val)) = (UInt8.ofNat n.val == 43 || UInt8.ofNat n.val == 45 || UInt8.ofNat n.val == 42 || UInt8.ofNat n.val == 47 || UInt8.ofNat n.val == 37) := by decide +kernel
  have := h ⟨c.toNat, UInt8.toNat_lt c⟩
  simpa using this
theorem mayB_ten (c : UInt8) : mayB 10 [c] = (c == 43 || c == 45 || c == 42 || c == 47 || c == 37) := by
  have h : ∀ n : Fin 256, mayB 10 [UInt8.ofNat n.val] = (UInt8.ofNat n.val == 43 || UInt8.ofNat n.val == 45 || UInt8.ofNat n.val == 42 || UInt8.ofNat n.val == 47 || UInt8.ofNat n.val == 37) := by decide +kernel
  have := h ⟨c.toNat, UInt8.toNat_lt c⟩
  simpa using this
theorem mayB_long {s : List UInt8} (h : s.length ≠ 1) : mayB 10 s = false := by
  have h1 : ∀ c : UInt8, (s == [c]) = false := fun c => by
    rw [beq_eq_false_iff_ne]; rintro rfl; simp at h
  unfold mayB
  simp only [h1]
  rfl

set_option maxHeartbeats 1000000 in
theorem mayHave_any (k p n : Int) (s : List UInt8) (A : Option Addr) (m c : Nat) (w : World) (hs : s.length ≤ 140737488355328) :
    Calls Tryz.prog 36 #[.agg #[.int .i64 k, .int .i64 p, .int .i64 n, .string (strOf s), .slice A m c]] w fun e w' => e = .returned (.bool (mayB k s)) ∧ Below w.heap.size w w' := by
  obtain ⟨N, hN⟩ : ∃ N, N = strOf s := ⟨_, rfl⟩
  have hNl : N.toList = s := by rw [hN]; exact strOf_list s
  have hNs : N.size = s.length := by rw [hN]; rfl
  rw [← hN]
  have HBX := Lib.hid (show Below w.heap.size w (w.alloc (.cells #[.int .i64 k, .int .i64 p, .int .i64 n, .string N, .slice A m c] 24)) from (Below.refl _ _).alloc (Nat.le_refl _) _)
  by_cases h1 : k = 1
  · subst h1
    rw [show mayB 1 s = true from rfl]
    clear hN hNl hNs hs
    go_enter Tryz.func36, Tryz.ntmps36
    go_wp2
    go_ret
    exact ⟨rfl, HBX.out⟩
  by_cases h4 : k = 4
  · subst h4
    rw [show mayB 4 s = true from rfl]
    clear hN hNl hNs hs
    go_enter Tryz.func36, Tryz.ntmps36
    go_wp2
    go_ret
    exact ⟨rfl, HBX.out⟩
  by_cases h9 : k = 9
  · subst h9
    have hm : mayB 9 s = (N.toList == [45]) := by rw [hNl]; unfold mayB; simp
    rw [hm]
    clear hN hNl hNs hs hm
    go_enter Tryz.func36, Tryz.ntmps36
    go_wp2
    go_ret
    exact ⟨rfl, HBX.out⟩
  by_cases h10 : k = 10
  · subst h10
    by_cases hl : s.length = 1
    · obtain ⟨ch, rfl⟩ := size_one (hNs.trans hl)
      have hs1 : s = [ch] := strOf_inj hN.symm
      have hm : mayB 10 s = decide (0 ≤ Lib.indexByte signs ch) := by rw [hs1, mayB_ten, sign_in]
      rw [hm]
      have HC : Hid (∀ w, Calls Tryz.prog 82 #[.string ⟨#[43, 45, 42, 47, 37]⟩, .string ⟨#[ch]⟩] w fun e w' => e = .returned (.bool (decide (0 ≤ Lib.indexByte signs ch))) ∧ w' = w) := Lib.hid fun w => strings_Contains_one ⟨#[43, 45, 42, 47, 37]⟩ ch w
      have hz : (⟨#[ch]⟩ : ByteArray).size = 1 := rfl
      generalize (⟨#[ch]⟩ : ByteArray) = N at HBX HC hz
      generalize decide (0 ≤ Lib.indexByte signs ch) = r at HC
      clear hN hNl hNs hs hm hs1
      go_enter Tryz.func36, Tryz.ntmps36
      go_wp2_with (first
        | ((with_reducible refine (HC.out _).mono ?_); rintro e w1 ⟨rfl, rfl⟩))
      go_ret
      exact ⟨rfl, HBX.out⟩
    · rw [mayB_long hl]
      have hz : ((N.size : Int) == 1) = false := by rw [beq_eq_false_iff_ne, hNs]; omega
      have hz2 : ¬ (N.size : Int) = 1 := by rw [hNs]; omega
      clear hN hNl hNs hs hl
      go_enter Tryz.func36, Tryz.ntmps36
      go_wp2
      go_ret
      exact ⟨rfl, HBX.out⟩
  · have hm : mayB k s = false := by
      unfold mayB
      have e1 : (k == 1) = false := by simpa using h1
      have e4 : (k == 4) = false := by simpa using h4
      have e9 : (k == 9) = false := by simpa using h9
      have e10 : (k == 10) = false := by simpa using h10
      rw [e1, e4, e9, e10]; rfl
    rw [hm]
    clear hN hNl hNs hs hm
    go_enter Tryz.func36, Tryz.ntmps36
    go_wp2
    go_ret
    exact ⟨rfl, HBX.out⟩

set_option maxHeartbeats 1000000 in
theorem operated_any (s : List UInt8) (hs : s ∈ [[43], [45], [42], [47], [37]]) (a b : Int) (w : World) :
    Calls Tryz.prog 38 #[.string (strOf s), .agg #[.int .i64 a, .int .i64 b]] w fun e w' => e = .returned (.int .i64 (opV s a b)) ∧ Below w.heap.size w w' := by
  have HBX := Lib.hid (show Below w.heap.size w (w.alloc (.cells #[.int .i64 a, .int .i64 b] 99)) from (Below.refl _ _).alloc (Nat.le_refl _) _)
  have x0 : ([.int .i64 a, .int .i64 b] : List Value)[0]? = some (.int .i64 a) := rfl
  have x1 : ([.int .i64 a, .int .i64 b] : List Value)[1]? = some (.int .i64 b) := rfl
  simp only [List.mem_cons, List.not_mem_nil, or_false] at hs
  obtain ⟨N, hN⟩ : ∃ N, N = strOf s := ⟨_, rfl⟩
  rw [← hN]
  have hNl : N.toList = s := by rw [hN]; exact strOf_list s
  clear hN
  rcases hs with rfl | rfl | rfl | rfl | rfl
  · rw [show opV [43] a b = wrap64 (a + b) from rfl]
    have e43 : (N.toList == [43]) = true := by rw [hNl]; rfl
    have e45 : (N.toList == [45]) = false := by rw [hNl]; rfl
    have e42 : (N.toList == [42]) = false := by rw [hNl]; rfl
    have e47 : (N.toList == [47]) = false := by rw [hNl]; rfl
    clear hNl
    go_enter Tryz.func38, Tryz.ntmps38
    go_wp2
    go_ret
    exact ⟨rfl, HBX.out⟩
  · rw [show opV [45] a b = wrap64 (a - b) from rfl]
    have e43 : (N.toList == [43]) = false := by rw [hNl]; rfl
    have e45 : (N.toList == [45]) = true := by rw [hNl]; rfl
    have e42 : (N.toList == [42]) = false := by rw [hNl]; rfl
    have e47 : (N.toList == [47]) = false := by rw [hNl]; rfl
    clear hNl
    go_enter Tryz.func38, Tryz.ntmps38
    go_wp2
    go_ret
    exact ⟨rfl, HBX.out⟩
  · rw [show opV [42] a b = wrap64 (a * b) from rfl]
    have e43 : (N.toList == [43]) = false := by rw [hNl]; rfl
    have e45 : (N.toList == [45]) = false := by rw [hNl]; rfl
    have e42 : (N.toList == [42]) = true := by rw [hNl]; rfl
    have e47 : (N.toList == [47]) = false := by rw [hNl]; rfl
    clear hNl
    go_enter Tryz.func38, Tryz.ntmps38
    go_wp2
    go_ret
    exact ⟨rfl, HBX.out⟩
  · by_cases hb : b = 0
    · subst hb
      rw [show opV [47] a 0 = 0 from rfl]
      have e43 : (N.toList == [43]) = false := by rw [hNl]; rfl
      have e45 : (N.toList == [45]) = false := by rw [hNl]; rfl
      have e42 : (N.toList == [42]) = false := by rw [hNl]; rfl
      have e47 : (N.toList == [47]) = true := by rw [hNl]; rfl
      clear hNl
      go_enter Tryz.func38, Tryz.ntmps38
      go_wp2
      go_ret
      exact ⟨rfl, HBX.out⟩
    · rw [show opV [47] a b = wrap64 (a.tdiv b) from if_neg hb]
      have e43 : (N.toList == [43]) = false := by rw [hNl]; rfl
      have e45 : (N.toList == [45]) = false := by rw [hNl]; rfl
      have e42 : (N.toList == [42]) = false := by rw [hNl]; rfl
      have e47 : (N.toList == [47]) = true := by rw [hNl]; rfl
      clear hNl
      go_enter Tryz.func38, Tryz.ntmps38
      go_wp2
      go_ret
      exact ⟨rfl, HBX.out⟩
  · by_cases hb : b = 0
    · subst hb
      rw [show opV [37] a 0 = 0 from rfl]
      have e43 : (N.toList == [43]) = false := by rw [hNl]; rfl
      have e45 : (N.toList == [45]) = false := by rw [hNl]; rfl
      have e42 : (N.toList == [42]) = false := by rw [hNl]; rfl
      have e47 : (N.toList == [47]) = false := by rw [hNl]; rfl
      clear hNl
      go_enter Tryz.func38, Tryz.ntmps38
      go_wp2
      go_ret
      exact ⟨rfl, HBX.out⟩
    · rw [show opV [37] a b = a.tmod b from if_neg hb]
      have e43 : (N.toList == [43]) = false := by rw [hNl]; rfl
      have e45 : (N.toList == [45]) = false := by rw [hNl]; rfl
      have e42 : (N.toList == [42]) = false := by rw [hNl]; rfl
      have e47 : (N.toList == [47]) = false := by rw [hNl]; rfl
      clear hNl
      go_enter Tryz.func38, Tryz.ntmps38
      go_wp2
      go_ret
      exact ⟨rfl, HBX.out⟩

end Go.Proofs.YtadkimnpeachpaaGreatDoor
