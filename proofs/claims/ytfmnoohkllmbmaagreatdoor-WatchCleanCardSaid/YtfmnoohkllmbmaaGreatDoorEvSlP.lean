/- The evaluator: EvSlP. -/
import Derived.Test.YtfmnoohkllmbmaaGreatDoorEvBinP
set_option linter.unusedVariables false
set_option linter.unusedSimpArgs false
namespace Go.Proofs.YtfmnoohkllmbmaaGreatDoor
namespace Ev
open Go.RowKit

inductive OR (c : Cx) : Option AV → Option Value → Prop
  | none : OR c none none
  | some {a : AV} {v : Value} (h : VR c a v) : OR c (some a) (some v)

section
variable {P : Program} {E : Env} (HE : EnvOk P E) {c : Cx} (w : World)

theorem natOf_ok {a : AV} {v : Value} {n : Nat} (h : natOf a = some n) (hv : VR c a v) : ∃ k, v = .int k (n : Int) := by
  unfold natOf at h
  split at h
  · cases h
    cases hv
    exact ⟨_, rfl⟩
  · cases h

theorem sliceBound_ok {a : AV} {v : Value} {d y Y n : Nat} (h : bound y (some a) d = some n) (hv : VR c a v) (hy : y ≤ Y) (code : BoundsCode) :
    (Instr.sliceBound v Y code).run P w = .ok n w := by
  simp only [bound] at h
  split at h
  · rename_i m hm
    split at h
    · rename_i hle
      cases h
      have hle := Nat.le_of_ble_eq_true hle
      obtain ⟨k, rfl⟩ := natOf_ok hm hv
      simp only [Instr.sliceBound, asIntOf, Sem.run_bind, Sem.run_pure, Result.andThen_ok]
      rw [if_pos (by omega)]
      simp
    · cases h
  · cases h

theorem bound_le {o : Option AV} {d y n : Nat} (h : bound y o d = some n) (hd : d ≤ y) : n ≤ y := by
  cases o with
  | none => simp only [bound, Option.some.injEq] at h; omega
  | some a =>
    simp only [bound] at h
    split at h
    · split at h
      · rename_i hle; cases h; exact Nat.le_of_ble_eq_true hle
      · cases h
    · cases h

theorem sliceBounds_ok {lo hi mx : Option AV} {LO HI MX : Option Value} (hlo : OR c lo LO) (hhi : OR c hi HI) (hmx : OR c mx MX) (isS : Bool) {len cap ca y m h l : Nat}
    (h1 : bound y mx cap = some m) (hy : y ≤ cap) (h2 : (match mx with | none => bound ca hi len | some _ => bound m hi len) = some h) (hca : ca ≤ cap) (h3 : bound h lo 0 = some l) (hs : hi = none → mx = none) :
    (Instr.sliceBounds isS len cap LO HI MX).run P w = .ok (l, h, if mx.isNone then cap else m) w := by
  cases hmx with
  | none =>
    simp only [bound, Option.some.injEq] at h1
    subst h1
    cases hhi with
    | none =>
      simp only [bound, Option.some.injEq] at h2
      subst h2
      cases hlo with
      | none =>
        simp only [bound, Option.some.injEq] at h3
        subst h3
        simp [Instr.sliceBounds]
      | some hv =>
        have := sliceBound_ok (P := P) w h3 hv (Nat.le_refl _) .sliceB
        simp [Instr.sliceBounds, this]
    | some hv =>
      have e2 := fun code => sliceBound_ok (P := P) w h2 hv hca code
      cases hlo with
      | none =>
        simp only [bound, Option.some.injEq] at h3
        subst h3
        cases isS <;> simp [Instr.sliceBounds, e2]
      | some hv' =>
        have := sliceBound_ok (P := P) w h3 hv' (Nat.le_refl _) .sliceB
        cases isS <;> simp [Instr.sliceBounds, e2, this]
  | some hm =>
    have e1 := fun code => sliceBound_ok (P := P) w h1 hm hy code
    cases hhi with
    | none => cases hs rfl
    | some hv =>
      have e2 := fun code => sliceBound_ok (P := P) w h2 hv (Nat.le_refl _) code
      cases hlo with
      | none =>
        simp only [bound, Option.some.injEq] at h3
        subst h3
        cases isS <;> simp [Instr.sliceBounds, e1, e2]
      | some hv' =>
        have := fun code => sliceBound_ok (P := P) w h3 hv' (Nat.le_refl _) code
        cases isS <;> simp [Instr.sliceBounds, e1, e2, this]

theorem bytes_extract (s : ByteArray) (l h : Nat) : bytesOfArray (s.extract l h) = ((bytesOfArray s).drop l).take (h - l) := by
  simp [bytesOfArray, List.map_drop, List.map_take, List.extract_eq_take_drop]

include HE in
theorem evSlice_ok {t : Nat} {x r : AV} {v : Value} {lo hi mx : Option AV} {LO HI MX : Option Value} (hlo : OR c lo LO) (hhi : OR c hi HI) (hmx : OR c mx MX) (hx : VR c x v)
    (h : evSlice E t x lo hi mx = some r) : ∃ u, (Instr.sliceAt t v LO HI MX).run P w = .ok u w ∧ VR c r u := by
  unfold evSlice at h
  have hs : hi = none → mx = none := by
    rintro rfl
    cases mx with
    | none => rfl
    | some _ => simp at h
  split at h
  · cases h
  · rename_i ti hti'
    have hti : E.ty.get t = some ti := by
      split at hti'
      · cases hti'
      · exact hti'
    obtain ⟨D, hD, hk⟩ := (HE.ty _ _ hti).desc
    have hU := run_underlying hD w
    split at h
    · rename_i s hd
      rw [hd] at hk
      cases D <;> simp only [TDok] at hk
      cases hx
      rename_i s
      cases hmx with
      | some _ => cases h
      | none =>
        simp only at h
        split at h
        · cases h
        · rename_i hh e2
          split at h
          · cases h
          · rename_i l e3
            cases h
            rw [bytesOfArray_length] at e2
            have e := sliceBounds_ok (P := P) w hlo hhi (.none) false (len := s.size) (cap := s.size) (ca := s.size) (y := s.size) (m := s.size) rfl (Nat.le_refl _) e2 (Nat.le_refl _) e3 (fun _ => rfl)
            refine ⟨.string (s.extract l hh), ?_, by rw [← bytes_extract]; exact .str⟩
            simp [Instr.sliceAt, Instr.slice, hU, e]
    · rename_i e hd
      rw [hd] at hk
      cases D <;> simp only [TDok] at hk
      subst hk
      split at h
      · cases h
      · rename_i ei hei
        have hS := (HE.ty _ _ hei).size w
        split at h
        · -- nilSl
          cases hx
          split at h
          · rename_i m hh l e1 e2 e3
            cases h
            have hm := bound_le e1 (Nat.le_refl _)
            have hh' := bound_le e2 (Nat.le_refl _)
            have hl' := bound_le e3 (Nat.le_refl _)
            obtain rfl : m = 0 := by omega
            obtain rfl : hh = 0 := by omega
            obtain rfl : l = 0 := by omega
            have e := sliceBounds_ok (P := P) w hlo hhi hmx true (len := 0) (cap := 0) (ca := 0) (y := 0) (m := 0) (h := 0) (l := 0) e1 (Nat.le_refl _) (by cases mx <;> exact e2) (Nat.le_refl _) e3 hs
            refine ⟨.slice none 0 0, ?_, .nilSl⟩
            simp [Instr.sliceAt, Instr.slice, hU, e, hS]
          · cases h
        · -- esl
          cases hx
          rename_i a k
          split at h
          · rename_i m hh l e1 e2 e3
            cases h
            have hm := bound_le e1 (Nat.le_refl _)
            have hh' := bound_le e2 (Nat.le_refl _)
            have hl' := bound_le e3 (Nat.le_refl _)
            obtain rfl : m = 0 := by omega
            obtain rfl : hh = 0 := by omega
            obtain rfl : l = 0 := by omega
            cases mx with
            | none =>
              have e := sliceBounds_ok (P := P) w hlo hhi hmx true (len := 0) (cap := k) (ca := 0) (y := k) (m := k) (h := 0) (l := 0) rfl (Nat.le_refl _) e2 (Nat.zero_le _) e3 hs
              simp only [Option.isNone, if_true] at e
              by_cases hk : k = 0
              · subst hk
                exact ⟨.slice (some a) 0 0, by simp [Instr.sliceAt, Instr.slice, hU, e, hS], .esl⟩
              · exact ⟨.slice (some (a.add 0)) 0 k, by simp [Instr.sliceAt, Instr.slice, hU, e, hS, hk], .esl⟩
            | some x =>
              have e := sliceBounds_ok (P := P) w hlo hhi hmx true (len := 0) (cap := k) (ca := 0) (y := 0) (m := 0) (h := 0) (l := 0) e1 (Nat.zero_le _) e2 (Nat.zero_le _) e3 hs
              simp only [Option.isNone, Bool.false_eq_true, if_false] at e
              exact ⟨.slice (some a) 0 0, by simp [Instr.sliceAt, Instr.slice, hU, e, hS], .esl⟩
          · cases h
        · -- sl
          cases hx
          rename_i b o n k b' hb
          split at h
          · cases h
          · rename_i m e1
            split at h
            · cases h
            · rename_i hh e2
              split at h
              · cases h
              · rename_i l e3
                have hm := bound_le e1 (Nat.le_refl _)
                have e : (Instr.sliceBounds true n k LO HI MX).run P w = .ok (l, hh, m) w := by
                  have e := sliceBounds_ok (P := P) w hlo hhi hmx true (len := n) (cap := k) (ca := m) (y := k) (m := m) (h := hh) (l := l) e1 (Nat.le_refl _) (by cases mx <;> exact e2) hm e3 hs
                  rw [e]
                  cases mx with
                  | none => simp only [bound, Option.some.injEq] at e1; subst e1; rfl
                  | some _ => rfl
                split at h
                · rename_i hml
                  cases h
                  have hml := Nat.eq_of_beq_eq_true hml
                  exact ⟨.slice (some ⟨b', o, none⟩) (hh - l) (m - l), by simp [Instr.sliceAt, Instr.slice, hU, e, hS, hml], .sl hb⟩
                · rename_i hml
                  cases h
                  have hml := Nat.ne_of_beq_eq_false hml
                  exact ⟨.slice (some ⟨b', o + l * ei.size, none⟩) (hh - l) (m - l), by simp [Instr.sliceAt, Instr.slice, hU, e, hS, hml, Addr.add_mid], .sl hb⟩
        · -- gsl
          cases hx
          rename_i b l0 n sz b' hb hle
          split at h
          · cases h
          · rename_i hsz
            have hsz := Nat.eq_of_beq_eq_true hsz
            subst hsz
            split at h
            · rename_i x
              split at h
              · cases h
              · rename_i m e1
                split at h
                · cases h
                · rename_i hh e2
                  split at h
                  · cases h
                  · rename_i l e3
                    have hm := bound_le e1 (Nat.le_refl _)
                    have e := sliceBounds_ok (P := P) w hlo hhi hmx true (len := n) (cap := c.κ b - l0) (ca := m) (y := n) (m := m) (h := hh) (l := l) e1 (by omega) e2 (by omega) e3 hs
                    simp only [Option.isNone, Bool.false_eq_true, if_false] at e
                    split at h
                    · rename_i hml
                      cases h
                      have hml := Nat.eq_of_beq_eq_true hml
                      exact ⟨.slice (some ⟨b', l0 * ei.size, none⟩) (hh - l) (m - l), by simp [Instr.sliceAt, Instr.slice, hU, e, hS, hml], .sl hb⟩
                    · rename_i hml
                      cases h
                      have hml := Nat.ne_of_beq_eq_false hml
                      exact ⟨.slice (some ⟨b', l0 * ei.size + l * ei.size, none⟩) (hh - l) (m - l), by simp [Instr.sliceAt, Instr.slice, hU, e, hS, hml, Addr.add_mid], .sl hb⟩
            · split at h
              · cases h
              · rename_i hh e2
                split at h
                · cases h
                · rename_i l e3
                  have hhn := bound_le e2 (Nat.le_refl _)
                  have hlh := bound_le e3 (Nat.zero_le _)
                  have e := sliceBounds_ok (P := P) w hlo hhi hmx true (len := n) (cap := c.κ b - l0) (ca := n) (y := c.κ b - l0) (m := c.κ b - l0) (h := hh) (l := l) rfl (by omega) e2 (by omega) e3 hs
                  simp only [Option.isNone, if_true] at e
                  split at h
                  · rename_i hnl
                    have hnl := Nat.eq_of_beq_eq_true hnl
                    split at h
                    · rename_i hl0
                      have hl0 := Nat.eq_of_beq_eq_true hl0
                      cases h
                      subst hl0
                      refine ⟨.slice (some ⟨b', l0 * ei.size, none⟩) hh (c.κ b - l0), ?_, .gsl hb (by omega)⟩
                      by_cases hz : c.κ b - l0 = 0
                      · rw [hz] at e ⊢; simp [Instr.sliceAt, Instr.slice, hU, e, hS]
                      · simp [Instr.sliceAt, Instr.slice, hU, e, hS, hz, Addr.add_mid]
                    · cases h
                      obtain rfl : hh = l := by omega
                      by_cases hz : c.κ b - l0 = hh
                      · exact ⟨.slice (some ⟨b', l0 * ei.size, none⟩) 0 (c.κ b - l0 - hh), by rw [hz] at e ⊢; simp [Instr.sliceAt, Instr.slice, hU, e, hS], .esl⟩
                      · exact ⟨.slice (some ⟨b', l0 * ei.size + hh * ei.size, none⟩) 0 (c.κ b - l0 - hh), by simp [Instr.sliceAt, Instr.slice, hU, e, hS, hz, Addr.add_mid], .esl⟩
                  · rename_i hnl
                    have hnl := Nat.ne_of_beq_eq_false hnl
                    cases h
                    have hz : ¬ (c.κ b - l0 = l) := by omega
                    refine ⟨.slice (some ⟨b', l0 * ei.size + l * ei.size, none⟩) (hh - l) (c.κ b - l0 - l), by simp [Instr.sliceAt, Instr.slice, hU, e, hS, hz, Addr.add_mid], ?_⟩
                    rw [← Nat.add_mul, show c.κ b - l0 - l = c.κ b - (l0 + l) by omega]
                    exact .gsl hb (by omega)
        · cases h
    · rename_i n e b o hd
      rw [hd] at hk
      cases D <;> simp only [TDok] at hk
      obtain ⟨rfl, rfl⟩ := hk
      cases hx
      rename_i n e b' hb
      split at h
      · cases h
      · rename_i ei hei
        have hS := (HE.ty _ _ hei).size w
        split at h
        · cases h
        · rename_i m e1
          split at h
          · cases h
          · rename_i hh e2
            split at h
            · cases h
            · rename_i l e3
              have hm := bound_le e1 (Nat.le_refl _)
              have e : (Instr.sliceBounds false n n LO HI MX).run P w = .ok (l, hh, m) w := by
                have e := sliceBounds_ok (P := P) w hlo hhi hmx false (len := n) (cap := n) (ca := m) (y := n) (m := m) (h := hh) (l := l) e1 (Nat.le_refl _) (by cases mx <;> exact e2) hm e3 hs
                rw [e]
                cases mx with
                | none => simp only [bound, Option.some.injEq] at e1; subst e1; rfl
                | some _ => rfl
              split at h
              · rename_i hml
                cases h
                have hml := Nat.eq_of_beq_eq_true hml
                exact ⟨.slice (some ⟨b', o, none⟩) (hh - l) (m - l), by simp [Instr.sliceAt, Instr.sureAddr, hU, e, hS, hml], .sl hb⟩
              · rename_i hml
                cases h
                have hml := Nat.ne_of_beq_eq_false hml
                exact ⟨.slice (some ⟨b', o + l * ei.size, none⟩) (hh - l) (m - l), by simp [Instr.sliceAt, Instr.sureAddr, hU, e, hS, hml, Addr.add_mid], .sl hb⟩
    · cases h

end
end Ev
end Go.Proofs.YtfmnoohkllmbmaaGreatDoor
