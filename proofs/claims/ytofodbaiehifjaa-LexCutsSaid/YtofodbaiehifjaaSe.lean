/- The walk of LexCuts. -/
import Derived.Test.YtofodbaiehifjaaSb
set_option linter.unusedVariables false
namespace Go.Proofs.Ytofodbaiehifjaa
open Go.RowKit

theorem Toks.take {w : World} {B : Nat} {A : Option Addr} {l : List Tok} (h : Toks w B A l) (n : Nat) : Toks w B A (l.take n) := by
  intro k hk
  have hk' : k < l.length := by rw [List.length_take] at hk; omega
  have := h k hk'
  rw [List.getElem_take]
  exact this
theorem toks_cut {l : List UInt8} {y : List Tok} (h : toks l = .ok y) (hl : l.length ≤ 16384) {k : Nat} (hk : k < y.length) :
    y[k].pl + y[k].text.length ≤ l.length ∧ toks (l.take (y[k].pl + y[k].text.length)) = .ok (y.take (k + 1)) := by
  rw [toks_fit (by omega)] at h
  obtain ⟨_, h2, _, h4⟩ := sc_cut l 0 0 y k hk h
  rw [Nat.sub_zero] at h4
  exact ⟨by omega, by rw [toks_fit (by rw [List.length_take]; omega)]; exact h4⟩

set_option maxHeartbeats 1000000 in
theorem cuts_walk (w : World) (s : ByteArray) (x : Int) : Calls Try.prog 7 #[.string s, .int .i64 x] w (TruePost w) := by
  have hal := Lib.hid (alive_any w)
  by_cases hs : s.size ≤ 10000
  · have HS := Lib.hid (size_len s)
    cases hT : toks s.data.toList with
    | ok l =>
      have c1 := Lib.hid (fun w1 => tok_ok (by omega) hT (w := w) w1)
      have HT0 := Lib.hid hT
      clear hT
      by_cases hx0 : x < 0
      · go_enter Try.func7, Try.ntmps7
        go_wp2_with fail
        refine (hal.out w (Below.refl _ _)).mono ?_
        rintro e w1 ⟨rfl, hb1⟩
        go_wp2_with fail
        refine (c1.out _ hb1).mono ?_
        rintro e w2 ⟨A, c, rfl, hT1, hc1, hc2, hl4, _, hb2⟩
        clear hT1
        go_wp2
        go_ret
        exact ⟨rfl, hb2⟩
      obtain ⟨k, rfl⟩ : ∃ k : Nat, x = k := ⟨x.toNat, by omega⟩
      by_cases hkl : k < l.length
      · obtain ⟨hend, htk⟩ := toks_cut HT0.out (by rw [← HS.out]; omega) hkl
        obtain ⟨p, hp⟩ : ∃ p, p = l[k].pl := ⟨_, rfl⟩
        obtain ⟨tx, htx⟩ : ∃ tx, tx = l[k].text := ⟨_, rfl⟩
        obtain ⟨z, hz⟩ : ∃ z, z = tx.length := ⟨_, rfl⟩
        have hsz : (strOf tx).size = z := by rw [Lib.size_eq, strOf_data, hz]
        rw [← hp, ← htx, ← hz] at hend htk
        rw [← HS.out] at hend
        have c2 := Lib.hid (fun w1 => tok_ok (s := s.extract 0 (p + z)) (by have := Lib.size_eq (s.extract 0 (p + z)); rw [take_word, List.length_take] at this; have := HS.out; omega) (by rw [take_word]; exact htk) (w := w) w1)
        have HP := Lib.hid hp
        have HTX := Lib.hid htx
        have HSZ := Lib.hid hsz
        have hlt : (l.take (k + 1)).length = k + 1 := by rw [List.length_take]; omega
        have HLT := Lib.hid hlt
        clear hp htx hz htk hlt hsz
        go_enter Try.func7, Try.ntmps7
        go_wp2_with fail
        refine (hal.out w (Below.refl _ _)).mono ?_
        rintro e w1 ⟨rfl, hb1⟩
        go_wp2_with fail
        refine (c1.out _ hb1).mono ?_
        rintro e w2 ⟨A, c, rfl, hT1, hc1, hc2, hl4, _, hb2⟩
        obtain ⟨b, rfl, hbb, h0, h1, h2⟩ := hT1 k hkl
        rw [← HTX.out] at h1
        rw [← HP.out] at h2
        have HT1 := Lib.hid hT1
        have hsz := HSZ.out
        have hx0' : 0 ≤ (k : Int) := by omega
        clear hT1 hx0
        go_wp2
        go_quiet (fail)
        generalize hwq : w2.drewN _ = wq
        have hd : Drawn w2 wq := ⟨_, hwq.symm⟩
        have HTq := Lib.hid ((HT1.out.below hd.below).mono (hd.below (B := 0)).size)
        have hbq := hb2.trans hd.below
        clear hwq hd h0 h1 h2 hsz
        go_wp2_with fail
        refine (c2.out _ hbq).mono ?_
        rintro e w3 ⟨D, d, rfl, hT2, hd1, hd2, hl5, hbq3, hb3⟩
        rw [HLT.out] at hd1 ⊢
        have hS := sametoks_at (c := d) (d := c) hT2 ((HTq.out.below hbq3).take (k + 1)) hl5
        rw [HLT.out] at hS
        have HS3 := Lib.hid hS
        clear hT2 hS hl5 hbq3
        go_wp2_with fail
        refine HS3.out.mono ?_
        rintro e w4 ⟨rfl, hd⟩
        have hb4 := hb3.trans hd.below
        go_wp2
        go_ret
        exact ⟨rfl, hb4⟩
      · go_enter Try.func7, Try.ntmps7
        go_wp2_with fail
        refine (hal.out w (Below.refl _ _)).mono ?_
        rintro e w1 ⟨rfl, hb1⟩
        go_wp2_with fail
        refine (c1.out _ hb1).mono ?_
        rintro e w2 ⟨A, c, rfl, hT1, hc1, hc2, hl4, _, hb2⟩
        clear hT1
        go_wp2
        go_ret
        exact ⟨rfl, hb2⟩
    | err p c =>
      have c1 := Lib.hid (fun w1 => tok_err (by omega) hT (w := w) w1)
      have hcn := toks_err_ne hT
      have hc0 : ((c : Int) != 0) = true := by simp; exact hcn
      have hc00 : ((c : Int) == 0) = false := by rw [beq_eq_false_iff_ne]; omega
      clear hcn
      clear hT
      go_enter Try.func7, Try.ntmps7
      go_wp2_with fail
      refine (hal.out w (Below.refl _ _)).mono ?_
      rintro e w1 ⟨rfl, hb1⟩
      go_wp2_with fail
      refine (c1.out _ hb1).mono ?_
      rintro e w2 ⟨rfl, _, hb2⟩
      go_wp2
      go_ret
      exact ⟨rfl, hb2⟩
  · go_enter Try.func7, Try.ntmps7
    go_wp2_with fail
    refine (hal.out w (Below.refl _ _)).mono ?_
    rintro e w1 ⟨rfl, hb1⟩
    go_wp2
    go_ret
    exact ⟨rfl, hb1⟩

end Go.Proofs.Ytofodbaiehifjaa
