/- Gq -/
import Derived.Test.YtkmpnlbppdekaaaDoorZe4
import Derived.Test.YtkmpnlbppdekaaaDoorZe8
import Derived.StillTailTactics
import Derived.IntWalk
import Derived.Shelf.Small.Strs
import Derived.Shelf.LaysM
import Derived.Shelf.Strconv.Clone
import Derived.Shelf.Strings.Search1
import Derived.Shelf.Strings.Prefix
import Derived.Test.YtkmpnlbppdekaaaDoorRows
import Derived.Shelf.Small.Wraps
import Derived.Shelf.Strconv.Itoa0
import Derived.Shelf.Strconv.Itoa1
import Derived.Shelf.Strconv.Itoa2
import Derived.Shelf.Strconv.Itoa3
import Derived.Shelf.Slices.Turned
import Derived.Recover
import Derived.Lib.AppendIntMem
import Derived.Shelf.Strconv.Atoi
import Derived.Deep.Cut
import Derived.WalkKit
import Derived.Deep.QuietTactic
import Derived.BigQuiet
import Derived.Lib.IndexAny
import Derived.Deep.RegionHeld3
import Derived.Deep.RegionLaw
import Derived.Lib.ItoaNum
import Derived.Maps.AppendAt
import Derived.Laws.EntriesVeiled
import Derived.Deep.AppendLies
import Derived.WalkSpells
import Derived.WalkLawsBesides
import Derived.Lib.Hide
import Derived.Lib.AppendStr
import Derived.Lib.BufferRead
import Derived.OwnWalk
import Derived.Laws.AppendOwnNone
import Derived.Lib.AtoiErrMem
set_option linter.unusedVariables false
set_option linter.unusedSimpArgs false
namespace Go.Proofs.YtkmpnlbppdekaaaDoor
open Go.RowKit
theorem wrongOf_code (k : Nat) (t : List UInt8) (n : Nat) : wrongOf k t n = 0 ∨ wrongOf k t n = 10 ∨ wrongOf k t n = 11 ∨ wrongOf k t n = 12 := by
  unfold wrongOf
  split
  · omega
  · split
    · omega
    · split <;> omega
theorem sc_err_code : ∀ (l : List UInt8) (p n q c : Nat), sc l 0 p n = .err q c → c = 10 ∨ c = 11 ∨ c = 12 := by
  intro l
  refine sc_ind (P := fun l => ∀ (p n q c : Nat), sc l 0 p n = .err q c → c = 10 ∨ c = 11 ∨ c = 12) ?_ ?_ ?_ ?_ l
  · intro p n q c h
    have e : Res.ok [] = .err q c := h
    cases e
  · intro d r hb ih p n q c h
    rw [sc_blank hb] at h
    exact ih _ _ _ _ h
  · intro d r a b' e f p n q c h
    rw [sc_none p n a b' e f] at h
    simp only [Res.err.injEq] at h
    omega
  · intro k t r hs ih p n q c h
    rw [sc_shape p n hs] at h
    by_cases he : wrongOf k t n = 0
    · rw [if_pos he] at h
      exact ih _ _ _ _ (pre_err h)
    · rw [if_neg he] at h
      simp only [Res.err.injEq] at h
      have := wrongOf_code k t n
      omega
theorem toks_err_code {l : List UInt8} {q c : Nat} (h : toks l = .err q c) : c = 10 ∨ c = 11 ∨ c = 12 := by
  unfold toks at h
  split at h
  · simp only [Res.err.injEq] at h; omega
  · exact sc_err_code _ _ _ _ _ h
theorem program_nums (s : ByteArray) (hs : s.size ≤ 40000) {ds : List Dc} {p c : Nat} (h : progM s.data.toList = (ds, p, c)) (w : World) : Calls Tryd.prog 7 #[.string s] w fun e w' => ∃ (A : Option Addr) (n m : Nat), e = .returned (.tuple #[.agg #[.slice A n m], .int .i64 p, .int .i64 c]) ∧ Below w.heap.size w w' := by
  refine (program_any s hs w).mono ?_
  rintro e w' ⟨v, rfl, ⟨A, n, m, rfl, -⟩, hb⟩
  rw [h]
  exact ⟨A, n, m, rfl, hb⟩
set_option maxRecDepth 100000 in
set_option maxHeartbeats 2000000 in
theorem parsePlaces_walk (w : World) (s : ByteArray) : Calls Tryd.prog 3 #[.string s] w fun e w' => e = .returned (.bool true) ∧ Below w.heap.size w w' := by
  by_cases hl : 20000 < s.size
  · go_enter Tryd.func3, Tryd.ntmps3
    go_wp2_with fail
    refine (alive4_any w).mono ?_
    rintro e w1 ⟨rfl, hb1⟩
    have h1 : (decide ((20000 : Int) < (s.size : Nat))) = true := by simp; omega
    go_wp2
    go_ret
    exact ⟨rfl, hb1⟩
  · have h1 : (decide ((20000 : Int) < (s.size : Nat))) = false := by simp; omega
    obtain ⟨ds, p, c, hP⟩ : ∃ ds p c, progM s.data.toList = (ds, p, c) := ⟨_, _, _, rfl⟩
    have HC1 := Lib.hid (program_nums s (by omega) hP)
    have hlen : s.data.toList.length = s.size := (Lib.size_eq _).symm
    by_cases hc : c = 0
    · obtain ⟨_, -, -, rfl⟩ := prog_ok hP hc
      subst hc
      clear hP hlen
      go_enter Tryd.func3, Tryd.ntmps3
      go_wp2_with fail
      refine (alive4_any w).mono ?_
      rintro e w1 ⟨rfl, hb1⟩
      have HB1 := Lib.hid hb1
      clear hb1
      go_wp2_with fail
      refine (HC1.out _).mono ?_
      rintro e w2 ⟨A, n, m, rfl, hb2⟩
      have HB2 := Lib.hid (HB1.out.trans (hb2.mono HB1.out.size))
      clear hb2
      go_wp2
      go_ret
      exact ⟨rfl, HB2.out.alloc HB2.out.size _⟩
    · have hc0 : (((c : Nat) : Int) == 0) = false := by simp; omega
      by_cases hm : 16384 < s.size
      · have h2 : (decide ((16384 : Int) < (s.size : Nat))) = true := by simp; omega
        have hq : progM s.data.toList = ([], 0, 12) := by unfold progM; rw [toks_long (by omega)]
        rw [hq] at hP
        simp only [Prod.mk.injEq] at hP
        obtain ⟨-, rfl, rfl⟩ := hP
        clear hlen hq
        go_enter Tryd.func3, Tryd.ntmps3
        go_wp2_with fail
        refine (alive4_any w).mono ?_
        rintro e w1 ⟨rfl, hb1⟩
        have HB1 := Lib.hid hb1
        clear hb1
        go_wp2_with fail
        refine (HC1.out _).mono ?_
        rintro e w2 ⟨A, n, m, rfl, hb2⟩
        have HB2 := Lib.hid (HB1.out.trans (hb2.mono HB1.out.size))
        clear hb2
        go_wp2
        go_ret
        exact ⟨rfl, HB2.out.alloc HB2.out.size _⟩
      · have h2 : (decide ((16384 : Int) < (s.size : Nat))) = false := by simp; omega
        obtain ⟨hp, es, n2, f2, hQ, hcase⟩ : p ≤ s.size ∧ ∃ es n f, progM (s.data.toList.take p) = (es, n, f) ∧ (f = 0 ∨ (n = p ∧ f = 20) ∨ c = 10 ∨ c = 12 ∨ c = 11) := by
          rcases prog_ahead hP hc with ⟨q, ht, rfl, hq⟩ | ⟨hq, us, es, n, f, -, h3, h4⟩
          · refine ⟨by omega, _, _, _, rfl, ?_⟩
            have := toks_err_code ht
            omega
          · refine ⟨by omega, es, n, f, h3, ?_⟩
            rcases h4 with h | h
            · exact .inl h
            · exact .inr (.inl h)
        have hex : (s.extract 0 p).data.toList = s.data.toList.take p := by rw [extract_str, strOf_data]; simp
        have hsz2 : (s.extract 0 p).size ≤ 40000 := by rw [Lib.size_eq, hex, List.length_take]; omega
        have HC2 := Lib.hid (program_nums (s.extract 0 p) hsz2 (ds := es) (p := n2) (c := f2) (by rw [hex]; exact hQ))
        have hp1 : (decide ((p : Int) < 0)) = false := by simp
        have hp2 : (decide ((s.size : Int) < (p : Nat))) = false := decide_eq_false (by omega)
        have HP := Lib.hid hp
        clear hP hlen hQ hex hsz2 hp
        go_enter Tryd.func3, Tryd.ntmps3
        go_wp2_with fail
        refine (alive4_any w).mono ?_
        rintro e w1 ⟨rfl, hb1⟩
        have HB1 := Lib.hid hb1
        clear hb1
        go_wp2_with fail
        refine (HC1.out _).mono ?_
        rintro e w2 ⟨A, n, m, rfl, hb2⟩
        have HB2 := Lib.hid (HB1.out.trans (hb2.mono HB1.out.size))
        have hp3 := HP.out
        clear hb2
        go_wp2_with fail
        refine (HC2.out _).mono ?_
        rintro e w3 ⟨A', n', m', rfl, hb3⟩
        have hb4 := (HB2.out.alloc HB2.out.size (.cells #[.slice A n m] 25))
        have HB3 := Lib.hid ((hb4.trans (hb3.mono hb4.size)).alloc (by have := hb4.size; have := hb3.size; omega) (.cells #[.slice A' n' m'] 25))
        clear hb3 hb4 HC1 HC2
        by_cases hA : f2 = 0
        · subst hA
          go_wp2
          go_ret
          exact ⟨rfl, HB3.out⟩
        · have hA2 : (((f2 : Nat) : Int) == 0) = false := by simp; omega
          by_cases hB : n2 = p
          · subst hB
            by_cases hC : f2 = 20
            · subst hC
              go_wp2
              go_ret
              exact ⟨rfl, HB3.out⟩
            · have hC2 : (((f2 : Nat) : Int) == 20) = false := by simp; omega
              rcases hcase with h | h | rfl | rfl | rfl
              · exact absurd h hA
              · exact absurd h.2 hC
              · go_wp2
                go_ret
                exact ⟨rfl, HB3.out⟩
              · go_wp2
                go_ret
                exact ⟨rfl, HB3.out⟩
              · go_wp2
                go_ret
                exact ⟨rfl, HB3.out⟩
          · have hB2 : (((n2 : Nat) : Int) == ((p : Nat) : Int)) = false := by simp; omega
            rcases hcase with h | h | rfl | rfl | rfl
            · exact absurd h hA
            · exact absurd h.1 hB
            · go_wp2
              go_ret
              exact ⟨rfl, HB3.out⟩
            · go_wp2
              go_ret
              exact ⟨rfl, HB3.out⟩
            · go_wp2
              go_ret
              exact ⟨rfl, HB3.out⟩
end Go.Proofs.YtkmpnlbppdekaaaDoor
