/- The walk of LexBehind. -/
import Derived.Test.YtofodbaiehifjaaSb
set_option linter.unusedVariables false
namespace Go.Proofs.Ytofodbaiehifjaa
open Go.RowKit

theorem toks_small {l : List UInt8} (h : l.length ≤ 16384) : toks l = sc l 0 0 0 := toks_fit (by omega)
theorem behind_err {a b : List UInt8} (h : a.length + b.length ≤ 10000) {p e : Nat} (ha : toks a = .err p e) : toks (a ++ 32 :: b) = .err p e := by
  rw [toks_small (by omega)] at ha
  rw [toks_small (by simp; omega)]
  have := sc_behind b a 0 0
  rw [ha] at this
  exact this
theorem behind_ok {a b : List UInt8} (h : a.length + b.length ≤ 10000) {x : List Tok} (ha : toks a = .ok x) : toks (a ++ 32 :: b) = (sc b 0 (0 + (a.length + 1)) (0 + x.length)).pre x := by
  rw [toks_small (by omega)] at ha
  rw [toks_small (by simp; omega)]
  have := sc_behind b a 0 0
  rw [ha] at this
  have h2 : sc (a ++ 32 :: b) 0 0 0 = (sc b 0 (0 + a.length + 1) (0 + x.length)).pre x := this
  rw [h2, Nat.add_assoc]
theorem behind_both {a b : List UInt8} (h : a.length + b.length ≤ 10000) {x y : List Tok} (ha : toks a = .ok x) (hb : toks b = .ok y) (hl : x.length + y.length ≤ 4096) :
    toks (a ++ 32 :: b) = .ok (x ++ y.map (Tok.on (a.length + 1))) := by
  rw [behind_ok h ha]
  rw [toks_small (by omega)] at hb
  have := sc_on (a.length + 1) x.length b 0 0
  rw [hb] at this
  rw [this.1 (by omega)]
  rfl
theorem behind_many {a b : List UInt8} (h : a.length + b.length ≤ 10000) {x y : List Tok} (ha : toks a = .ok x) (hb : toks b = .ok y) (hx : x.length ≤ 4096) (hl : ¬ x.length + y.length ≤ 4096) :
    ∃ q, toks (a ++ 32 :: b) = .err q 12 := by
  rw [behind_ok h ha]
  rw [toks_small (by omega)] at hb
  have := sc_on (a.length + 1) x.length b 0 0
  rw [hb] at this
  obtain ⟨q, hq⟩ := this.2 (by omega) (by omega)
  exact ⟨q, by rw [hq]; rfl⟩
theorem behind_second {a b : List UInt8} (h : a.length + b.length ≤ 10000) {x : List Tok} {m f : Nat} (ha : toks a = .ok x) (hb : toks b = .err m f) :
    toks (a ++ 32 :: b) = .err (m + (a.length + 1)) f ∨ (0 < x.length ∧ ∃ q, toks (a ++ 32 :: b) = .err q 12) := by
  rw [behind_ok h ha]
  rw [toks_small (by omega)] at hb
  have := sc_on (a.length + 1) x.length b 0 0
  rw [hb] at this
  rcases this with h1 | ⟨h0, q, h1⟩
  · exact .inl (by rw [h1]; rfl)
  · exact .inr ⟨h0, q, by rw [h1]; rfl⟩
theorem toks_at {l : List UInt8} {y : List Tok} (h : toks l = .ok y) (hl : l.length ≤ 16384) {k : Nat} (hk : k < y.length) : y[k].pl + y[k].text.length ≤ l.length := by
  rw [toks_small hl] at h
  have := (sc_cut l 0 0 y k hk h).2.1
  omega
theorem cat_data (a b : ByteArray) : (a ++ ⟨#[32]⟩ ++ b).data.toList = a.data.toList ++ 32 :: b.data.toList := by simp


set_option maxHeartbeats 1000000 in
theorem behind_ee (w : World) (a b C : ByteArray) (hC : Hid (C = a ++ ⟨#[32]⟩ ++ b)) (ha : a.size ≤ 5000) (hb : b.size ≤ 5000) (hC2 : Hid (C.size ≤ 40000)) {p c m f : Nat} (hA : toks a.data.toList = .err p c) (hB : toks b.data.toList = .err m f) (hCC : toks C.data.toList = .err p c) : Calls Try.prog 6 #[.string a, .string b] w (TruePost w) := by
  have hal := Lib.hid (alive_any w)
  have hCe := hC.out.symm
  have hcn := toks_err_ne hA
  have hc0 : ((c : Int) != 0) = true := by simp; exact hcn
  have c1 := Lib.hid (fun w1 => tok_err (by omega) hA (w := w) w1)
  have c2 := Lib.hid (fun w1 => tok_err (by omega) hB (w := w) w1)
  have c3 := Lib.hid (fun w1 => tok_err hC2.out hCC (w := w) w1)
  clear hA hB hCC hcn hC
  go_enter Try.func6, Try.ntmps6
  go_wp2_with fail
  refine (hal.out w (Below.refl _ _)).mono ?_
  rintro e w1 ⟨rfl, hb1⟩
  go_wp2_with fail
  refine (c1.out _ hb1).mono ?_
  rintro e w2 ⟨rfl, _, hb2⟩
  go_wp2_with fail
  refine (c2.out _ hb2).mono ?_
  rintro e w3 ⟨rfl, _, hb3⟩
  go_wp2_with fail
  refine (c3.out _ hb3).mono ?_
  rintro e w4 ⟨rfl, _, hb4⟩
  go_wp2
  go_ret
  exact ⟨rfl, hb4⟩

set_option maxHeartbeats 1000000 in
theorem behind_eo (w : World) (a b C : ByteArray) (hC : Hid (C = a ++ ⟨#[32]⟩ ++ b)) (ha : a.size ≤ 5000) (hb : b.size ≤ 5000) (hC2 : Hid (C.size ≤ 40000)) {p c : Nat} {y : List Tok} (hA : toks a.data.toList = .err p c) (hB : toks b.data.toList = .ok y) (hCC : toks C.data.toList = .err p c) : Calls Try.prog 6 #[.string a, .string b] w (TruePost w) := by
  have hal := Lib.hid (alive_any w)
  have hCe := hC.out.symm
  have hcn := toks_err_ne hA
  have hc0 : ((c : Int) != 0) = true := by simp; exact hcn
  have c1 := Lib.hid (fun w1 => tok_err (by omega) hA (w := w) w1)
  have c2 := Lib.hid (fun w1 => tok_ok (by omega) hB (w := w) w1)
  have c3 := Lib.hid (fun w1 => tok_err hC2.out hCC (w := w) w1)
  clear hA hB hCC hcn hC
  go_enter Try.func6, Try.ntmps6
  go_wp2_with fail
  refine (hal.out w (Below.refl _ _)).mono ?_
  rintro e w1 ⟨rfl, hb1⟩
  go_wp2_with fail
  refine (c1.out _ hb1).mono ?_
  rintro e w2 ⟨rfl, _, hb2⟩
  go_wp2_with fail
  refine (c2.out _ hb2).mono ?_
  rintro e w3 ⟨D, d, rfl, hT2, hd1, hd2, hy4, hb23, hb3⟩
  clear hT2
  go_wp2_with fail
  refine (c3.out _ hb3).mono ?_
  rintro e w4 ⟨rfl, _, hb4⟩
  go_wp2
  go_ret
  exact ⟨rfl, hb4⟩

set_option maxHeartbeats 1000000 in
theorem behind_oe (w : World) (a b C : ByteArray) (hC : Hid (C = a ++ ⟨#[32]⟩ ++ b)) (ha : a.size ≤ 5000) (hb : b.size ≤ 5000) (hC2 : Hid (C.size ≤ 40000)) {x : List Tok} {m f q : Nat} (hA : toks a.data.toList = .ok x) (hB : toks b.data.toList = .err m f) (hm : m ≤ 5000) (hCC : toks C.data.toList = .err q f) (hq : q = a.size + 1 + m) : Calls Try.prog 6 #[.string a, .string b] w (TruePost w) := by
  have hal := Lib.hid (alive_any w)
  have hCe := hC.out.symm
  have hcn := toks_err_ne hB
  have hc0 : ((f : Int) != 0) = true := by simp; exact hcn
  have hq1 : ((q : Int) == (a.size : Int) + 1 + (m : Int)) = true := by rw [hq]; simp
  have c1 := Lib.hid (fun w1 => tok_ok (by omega) hA (w := w) w1)
  have c2 := Lib.hid (fun w1 => tok_err (by omega) hB (w := w) w1)
  have c3 := Lib.hid (fun w1 => tok_err hC2.out hCC (w := w) w1)
  clear hA hB hCC hcn hC hq
  go_enter Try.func6, Try.ntmps6
  go_wp2_with fail
  refine (hal.out w (Below.refl _ _)).mono ?_
  rintro e w1 ⟨rfl, hb1⟩
  go_wp2_with fail
  refine (c1.out _ hb1).mono ?_
  rintro e w2 ⟨A, c, rfl, hT1, hc1, hc2, hx4, hb12, hb2⟩
  clear hT1
  go_wp2_with fail
  refine (c2.out _ hb2).mono ?_
  rintro e w3 ⟨rfl, _, hb3⟩
  go_wp2_with fail
  refine (c3.out _ hb3).mono ?_
  rintro e w4 ⟨rfl, _, hb4⟩
  go_wp2
  go_ret
  exact ⟨rfl, hb4⟩

set_option maxHeartbeats 1000000 in
theorem behind_ol (w : World) (a b C : ByteArray) (hC : Hid (C = a ++ ⟨#[32]⟩ ++ b)) (ha : a.size ≤ 5000) (hb : b.size ≤ 5000) (hC2 : Hid (C.size ≤ 40000)) {x : List Tok} {m f q : Nat} (hA : toks a.data.toList = .ok x) (hB : toks b.data.toList = .err m f) (hm : m ≤ 5000) (hCC : toks C.data.toList = .err q 12) (hx0 : 0 < x.length) : Calls Try.prog 6 #[.string a, .string b] w (TruePost w) := by
  have hal := Lib.hid (alive_any w)
  have hCe := hC.out.symm
  have hcn := toks_err_ne hB
  have hc0 : ((f : Int) != 0) = true := by simp; exact hcn
  have c1 := Lib.hid (fun w1 => tok_ok (by omega) hA (w := w) w1)
  have c2 := Lib.hid (fun w1 => tok_err (by omega) hB (w := w) w1)
  have c3 := Lib.hid (fun w1 => tok_err hC2.out hCC (w := w) w1)
  have hx1 : 0 < (x.length : Int) := by omega
  have hx2 : decide (0 < x.length) = true := by simpa using hx0
  clear hA hB hCC hcn hC
  by_cases hf : f = 12
  · have hf1 : ((12 : Int) == (f : Int)) = true := by rw [hf]; rfl
    have HF := Lib.hid hf
    clear hf
    by_cases hq : q = a.size + 1 + m
    · have hq1 : ((q : Int) == (a.size : Int) + 1 + (m : Int)) = true := by rw [hq]; simp
      clear hq
      go_enter Try.func6, Try.ntmps6
      go_wp2_with fail
      refine (hal.out w (Below.refl _ _)).mono ?_
      rintro e w1 ⟨rfl, hb1⟩
      go_wp2_with fail
      refine (c1.out _ hb1).mono ?_
      rintro e w2 ⟨A, c, rfl, hT1, hc1, hc2, hx4, hb12, hb2⟩
      clear hT1
      go_wp2_with fail
      refine (c2.out _ hb2).mono ?_
      rintro e w3 ⟨rfl, _, hb3⟩
      go_wp2_with fail
      refine (c3.out _ hb3).mono ?_
      rintro e w4 ⟨rfl, _, hb4⟩
      go_wp2
      go_ret
      exact ⟨rfl, hb4⟩
    · have hq1 : ((q : Int) == (a.size : Int) + 1 + (m : Int)) = false := by rw [beq_eq_false_iff_ne]; omega
      clear hq
      go_enter Try.func6, Try.ntmps6
      go_wp2_with fail
      refine (hal.out w (Below.refl _ _)).mono ?_
      rintro e w1 ⟨rfl, hb1⟩
      go_wp2_with fail
      refine (c1.out _ hb1).mono ?_
      rintro e w2 ⟨A, c, rfl, hT1, hc1, hc2, hx4, hb12, hb2⟩
      clear hT1
      go_wp2_with fail
      refine (c2.out _ hb2).mono ?_
      rintro e w3 ⟨rfl, _, hb3⟩
      go_wp2_with fail
      refine (c3.out _ hb3).mono ?_
      rintro e w4 ⟨rfl, _, hb4⟩
      go_wp2
      go_ret
      exact ⟨rfl, hb4⟩
  · have hf1 : ((12 : Int) == (f : Int)) = false := by rw [beq_eq_false_iff_ne]; omega
    clear hf
    go_enter Try.func6, Try.ntmps6
    go_wp2_with fail
    refine (hal.out w (Below.refl _ _)).mono ?_
    rintro e w1 ⟨rfl, hb1⟩
    go_wp2_with fail
    refine (c1.out _ hb1).mono ?_
    rintro e w2 ⟨A, c, rfl, hT1, hc1, hc2, hx4, hb12, hb2⟩
    clear hT1
    go_wp2_with fail
    refine (c2.out _ hb2).mono ?_
    rintro e w3 ⟨rfl, _, hb3⟩
    go_wp2_with fail
    refine (c3.out _ hb3).mono ?_
    rintro e w4 ⟨rfl, _, hb4⟩
    go_wp2
    go_ret
    exact ⟨rfl, hb4⟩

set_option maxHeartbeats 1000000 in
theorem behind_om (w : World) (a b C : ByteArray) (hC : Hid (C = a ++ ⟨#[32]⟩ ++ b)) (ha : a.size ≤ 5000) (hb : b.size ≤ 5000) (hC2 : Hid (C.size ≤ 40000)) {x y : List Tok} {q : Nat} (hA : toks a.data.toList = .ok x) (hB : toks b.data.toList = .ok y) (hCC : toks C.data.toList = .err q 12) (hxy : 4096 < x.length + y.length) : Calls Try.prog 6 #[.string a, .string b] w (TruePost w) := by
  have hal := Lib.hid (alive_any w)
  have hCe := hC.out.symm
  have c1 := Lib.hid (fun w1 => tok_ok (by omega) hA (w := w) w1)
  have c2 := Lib.hid (fun w1 => tok_ok (by omega) hB (w := w) w1)
  have c3 := Lib.hid (fun w1 => tok_err hC2.out hCC (w := w) w1)
  clear hA hB hCC hC
  go_enter Try.func6, Try.ntmps6
  go_wp2_with fail
  refine (hal.out w (Below.refl _ _)).mono ?_
  rintro e w1 ⟨rfl, hb1⟩
  go_wp2_with fail
  refine (c1.out _ hb1).mono ?_
  rintro e w2 ⟨A, c, rfl, hT1, hc1, hc2, hx4, hb12, hb2⟩
  clear hT1
  go_wp2_with fail
  refine (c2.out _ hb2).mono ?_
  rintro e w3 ⟨D, d, rfl, hT2, hd1, hd2, hy4, hb23, hb3⟩
  clear hT2
  go_wp2_with fail
  refine (c3.out _ hb3).mono ?_
  rintro e w4 ⟨rfl, _, hb4⟩
  go_wp2
  go_ret
  exact ⟨rfl, hb4⟩

end Go.Proofs.Ytofodbaiehifjaa
