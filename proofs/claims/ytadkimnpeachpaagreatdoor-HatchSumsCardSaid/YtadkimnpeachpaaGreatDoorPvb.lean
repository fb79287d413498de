/- Layer 8: an input's place by its name, the first of a name, and what a sign gives. -/
import Derived.Test.YtadkimnpeachpaaGreatDoorPva
import Derived.Test.YtadkimnpeachpaaGreatDoorMdb
import Derived.Test.YtadkimnpeachpaaGreatDoorZst
import Derived.BigQuiet
set_option linter.unusedVariables false
set_option linter.unusedSimpArgs false
namespace Go.Proofs.YtadkimnpeachpaaGreatDoor
open Go.RowKit

/-- the number of the first of a name; -1: there is none -/
def idxV (nms : List (List UInt8)) (s : List UInt8) : Int := match nms.idxOf? s with
  | some i => (i : Nat)
  | none => -1
theorem idxOf_hit : ∀ {nms : List (List UInt8)} {s : List UInt8} {j : Nat} (hj : j < nms.length), (∀ i (hi : i < nms.length), i < j → nms[i] ≠ s) → nms[j] = s → nms.idxOf? s = some j
  | d :: ds, s, 0, _, _, h => by
    have h' : d = s := h
    rw [List.idxOf?_cons, if_pos (by simpa using h')]
  | d :: ds, s, j + 1, hj, hn, h => by
    have h0 : d ≠ s := hn 0 (by simp) (by omega)
    rw [List.idxOf?_cons, if_neg (by simpa using h0), idxOf_hit (j := j) (by simpa using hj) (fun i hi hij => by have := hn (i + 1) (by simpa using hi) (by omega); simpa using this) (by simpa using h)]
    rfl
theorem idxOf_no : ∀ {nms : List (List UInt8)} {s : List UInt8}, (∀ i (hi : i < nms.length), nms[i] ≠ s) → nms.idxOf? s = none
  | [], s, _ => rfl
  | d :: ds, s, hn => by
    have h0 : d ≠ s := hn 0 (by simp)
    rw [List.idxOf?_cons, if_neg (by simpa using h0), idxOf_no (fun i hi => by have := hn (i + 1) (by simpa using hi); simpa using this)]
    rfl
theorem idxV_hit {nms : List (List UInt8)} {s : List UInt8} {j : Nat} (hj : j < nms.length) (hn : ∀ i (hi : i < nms.length), i < j → nms[i] ≠ s) (h : nms[j] = s) : idxV nms s = (j : Nat) := by
  unfold idxV; rw [idxOf_hit hj hn h]
theorem idxV_no {nms : List (List UInt8)} {s : List UInt8} (hn : ∀ i (hi : i < nms.length), nms[i] ≠ s) : idxV nms s = -1 := by
  unfold idxV; rw [idxOf_no hn]
theorem idxV_way (nms : List (List UInt8)) (s : List UInt8) : (idxV nms s = -1 ∧ nms.idxOf? s = none) ∨ ∃ j : Nat, idxV nms s = (j : Nat) ∧ nms.idxOf? s = some j := by
  unfold idxV
  cases h : nms.idxOf? s with
  | none => left; exact ⟨rfl, rfl⟩
  | some i => right; exact ⟨i, rfl, rfl⟩
theorem strOf_list (s : List UInt8) : (strOf s).toList = s := Lib.toList_data _

set_option maxRecDepth 100000 in
theorem sindex_any {w : World} {S : Nat → Prop} {nms : List (List UInt8)} {v : Value} (h : Lies KT w S nms v) (s : List UInt8) :
    Calls Tryz.prog 83 #[v, .string (strOf s)] w fun e w' => e = .returned (.int .i64 (idxV nms s)) ∧ w' = w := by
  obtain ⟨A, c, rfl, hc, hM⟩ := h.form
  obtain ⟨ns, hns⟩ : ∃ ns, ns = nms.length := ⟨_, rfl⟩
  obtain ⟨N, hN⟩ : ∃ N, N = strOf s := ⟨_, rfl⟩
  rw [← hns] at hc hM h ⊢
  rw [← hN]
  have HN : Hid (N.toList = s) := Lib.hid (by rw [hN]; exact strOf_list s)
  have HX := Lib.hid h
  have HNS := Lib.hid hns
  clear hns h hN
  go_enter Tryz.func83, Tryz.ntmps83
  go_wp2
  go_loopw [8] (fun i wr => ∃ k : Nat, k ≤ ns ∧ i = .int .i64 k ∧ Hid (∀ i (hi : i < nms.length), i < k → nms[i] ≠ s) ∧ Hid (wr = w)) (fun i _ => ns - (intOf i).toNat)
  case atStart => exact ⟨0, Nat.zero_le _, rfl, Lib.hid (fun i _ hi => absurd hi (by omega)), Lib.hid rfl⟩
  case round =>
    obtain ⟨wo, rfl⟩ : ∃ wo : World, wo = wr := ⟨_, rfl⟩
    obtain ⟨k, hk, rfl, HF, HW⟩ := hrel
    by_cases hlt : k < ns
    · have hke : k < nms.length := by rw [← HNS.out]; exact hlt
      obtain ⟨b, off, rfl, -, r0, -⟩ := HX.out.text k hke
      obtain ⟨x, hx⟩ : ∃ x, x = bs nms[k] := ⟨_, rfl⟩
      rw [← hx] at r0
      have k0 : wo.cell? ⟨b, off + k, none⟩ = some (.string x) := by rw [HW.out]; exact r0
      have hxl : x.toList = nms[k] := by rw [hx]; exact bs_toList _
      by_cases he : nms[k] = s
      · have HT : Hid (idxV nms s = (k : Nat)) := Lib.hid (idxV_hit hke HF.out he)
        have hq : (N.toList == x.toList) = true := by rw [hxl, HN.out, he]; simp
        clear hx r0 hxl he HF HX
        go_wp2
        go_ret
        exact ⟨by rw [HT.out]; rfl, HW.out⟩
      · have HF2 : Hid (∀ i (hi : i < nms.length), i < k + 1 → nms[i] ≠ s) := Lib.hid fun i hi hij => by
          by_cases e : i = k
          · subst e; exact he
          · exact HF.out i hi (by omega)
        have hq : (N.toList == x.toList) = false := by rw [hxl, HN.out]; simpa using fun h => he h.symm
        clear hx r0 hxl he HF HX
        go_wp2
        go_roundw
        case rel => exact ⟨k + 1, by omega, by go_num, HF2, HW⟩
        case measure => simp [intOf]; omega
    · have HT : Hid (idxV nms s = -1) := Lib.hid (idxV_no fun i hi => HF.out i hi (by rw [← HNS.out] at hi; omega))
      clear HF HX
      go_wp2
      go_ret
      exact ⟨by rw [HT.out]; rfl, HW.out⟩

set_option maxRecDepth 100000 in
theorem rat_any {w : World} {S : Nat → Prop} {nms : List (List UInt8)} {v : Value} (h : Lies KT w S nms v) (s : List UInt8) :
    Calls Tryz.prog 21 #[v, .string (strOf s)] w fun e w' => e = .returned (.int .i64 (idxV nms s)) ∧ w' = w := by
  obtain ⟨A, c, rfl, hc, hM⟩ := h.form
  obtain ⟨ns, hns⟩ : ∃ ns, ns = nms.length := ⟨_, rfl⟩
  obtain ⟨N, hN⟩ : ∃ N, N = strOf s := ⟨_, rfl⟩
  rw [← hns] at hc hM h ⊢
  rw [← hN]
  have HN : Hid (N.toList = s) := Lib.hid (by rw [hN]; exact strOf_list s)
  have HX := Lib.hid h
  have HNS := Lib.hid hns
  clear hns h hN
  go_enter Tryz.func21, Tryz.ntmps21
  go_wp2
  go_loopw [5] (fun i wr => ∃ k : Nat, k ≤ ns ∧ i = .int .i64 k ∧ Hid (∀ i (hi : i < nms.length), i < k → nms[i] ≠ s) ∧ Hid (wr = w)) (fun i _ => ns - (intOf i).toNat)
  case atStart => exact ⟨0, Nat.zero_le _, rfl, Lib.hid (fun i _ hi => absurd hi (by omega)), Lib.hid rfl⟩
  case round =>
    obtain ⟨wo, rfl⟩ : ∃ wo : World, wo = wr := ⟨_, rfl⟩
    obtain ⟨k, hk, rfl, HF, HW⟩ := hrel
    by_cases hlt : k < ns
    · have hke : k < nms.length := by rw [← HNS.out]; exact hlt
      obtain ⟨b, off, rfl, -, r0, -⟩ := HX.out.text k hke
      obtain ⟨x, hx⟩ : ∃ x, x = bs nms[k] := ⟨_, rfl⟩
      rw [← hx] at r0
      have k0 : wo.cell? ⟨b, off + k, none⟩ = some (.string x) := by rw [HW.out]; exact r0
      have hxl : x.toList = nms[k] := by rw [hx]; exact bs_toList _
      by_cases he : nms[k] = s
      · have HT : Hid (idxV nms s = (k : Nat)) := Lib.hid (idxV_hit hke HF.out he)
        have hq : (x.toList == N.toList) = true := by rw [hxl, HN.out, he]; simp
        clear hx r0 hxl he HF HX
        go_wp2
        go_ret
        exact ⟨by rw [HT.out]; rfl, HW.out⟩
      · have HF2 : Hid (∀ i (hi : i < nms.length), i < k + 1 → nms[i] ≠ s) := Lib.hid fun i hi hij => by
          by_cases e : i = k
          · subst e; exact he
          · exact HF.out i hi (by omega)
        have hq : (x.toList == N.toList) = false := by rw [hxl, HN.out]; simpa using he
        clear hx r0 hxl he HF HX
        go_wp2
        go_roundw
        case rel => exact ⟨k + 1, by omega, by go_num, HF2, HW⟩
        case measure => simp [intOf]; omega
    · have HT : Hid (idxV nms s = -1) := Lib.hid (idxV_no fun i hi => HF.out i hi (by rw [← HNS.out] at hi; omega))
      clear HF HX
      go_wp2
      go_ret
      exact ⟨by rw [HT.out]; rfl, HW.out⟩

/-- may a hatch have such an expression? -/
def mayB (k : Int) (s : List UInt8) : Bool := k == 1 || k == 4 || (k == 9 && s == [45]) || (k == 10 && (s == [43] || s == [45] || s == [42] || s == [47] || s == [37]))

end Go.Proofs.YtadkimnpeachpaaGreatDoor
