/- What the laws need of Tokens: its answers as contracts; the walk of alive. -/
import Derived.Test.YtofodbaiehifjaaSa
import Derived.Test.YtofodbaiehifjaaRl
import Derived.Test.YtofodbaiehifjaaTb
set_option linter.unusedVariables false
namespace Go.Proofs.Ytofodbaiehifjaa
open Go.RowKit

def OkPost (w wx : World) (l : List Tok) (e : Ending) (w' : World) : Prop := ∃ A c, e = .returned (.tuple #[.slice A l.length c, .int .i64 0, .int .i64 0]) ∧ Toks w' w'.heap.size A l ∧ l.length ≤ c ∧ c ≤ 9223372036854775807 ∧ l.length ≤ 4096 ∧ Below wx.heap.size wx w' ∧ Below w.heap.size w w'
def ErrPost (w wx : World) (p c : Nat) (e : Ending) (w' : World) : Prop := e = .returned (.tuple #[.slice none 0 0, .int .i64 (p : Nat), .int .i64 (c : Nat)]) ∧ Below wx.heap.size wx w' ∧ Below w.heap.size w w'
theorem TokPost.ok {w : World} {l : List Tok} {e : Ending} {w' : World} (h : TokPost w (.ok l) e w') : OkPost w w l e w' := by
  obtain ⟨hb, h0, v, rfl, hv⟩ := h
  obtain ⟨A, c, rfl, h1, h2, h3⟩ := hv.toks
  exact ⟨A, c, rfl, h3, h1, by unfold maxLen at h2; omega, h0, hb, hb⟩
theorem TokPost.err {w : World} {p c : Nat} {e : Ending} {w' : World} (h : TokPost w (.err p c) e w') : ErrPost w w p c e w' := ⟨h.2, h.1, h.1⟩
theorem tok_ok {s : ByteArray} {l : List Tok} (hs : s.size ≤ 40000) (h : toks s.data.toList = .ok l) {w : World} (w1 : World) (hb : Below w.heap.size w w1) : Calls Try.prog 10 #[.string s] w1 (OkPost w w1 l) := by
  have := tokens_any s w1 hs
  rw [h] at this
  exact this.mono fun e w' h => by
    obtain ⟨A, c, h1, h2, h3, h4, h5, h6, _⟩ := TokPost.ok h
    exact ⟨A, c, h1, h2, h3, h4, h5, h6, hb.trans (h6.mono hb.size)⟩
theorem tok_err {s : ByteArray} {p c : Nat} (hs : s.size ≤ 40000) (h : toks s.data.toList = .err p c) {w : World} (w1 : World) (hb : Below w.heap.size w w1) : Calls Try.prog 10 #[.string s] w1 (ErrPost w w1 p c) := by
  have := tokens_any s w1 hs
  rw [h] at this
  exact this.mono fun e w' h => by
    obtain ⟨h1, h2, _⟩ := TokPost.err h
    exact ⟨h1, h2, hb.trans (h2.mono hb.size)⟩
theorem rtok_ok {s : ByteArray} {l : List Tok} (hs : s.size ≤ 40000) (h : toks s.data.toList = .ok l) {w : World} (w1 : World) (hb : Below w.heap.size w w1) : Calls Try.prog 11 #[.string s] w1 (OkPost w w1 l) := by
  have := rtokens_any s w1 hs
  rw [h] at this
  exact this.mono fun e w' h => by
    obtain ⟨A, c, h1, h2, h3, h4, h5, h6, _⟩ := TokPost.ok h
    exact ⟨A, c, h1, h2, h3, h4, h5, h6, hb.trans (h6.mono hb.size)⟩
theorem rtok_err {s : ByteArray} {p c : Nat} (hs : s.size ≤ 40000) (h : toks s.data.toList = .err p c) {w : World} (w1 : World) (hb : Below w.heap.size w w1) : Calls Try.prog 11 #[.string s] w1 (ErrPost w w1 p c) := by
  have := rtokens_any s w1 hs
  rw [h] at this
  exact this.mono fun e w' h => by
    obtain ⟨h1, h2, _⟩ := TokPost.err h
    exact ⟨h1, h2, hb.trans (h2.mono hb.size)⟩
set_option maxRecDepth 100000 in
theorem alive_any (w w0 : World) (h0 : Below w.heap.size w w0) : Calls Try.prog 9 #[] w0 (TruePost w) := by
  have d1 := tok_ok (s := ⟨#[97, 49, 32, 60, 61, 45, 51, 59]⟩) (l := [⟨1, [97, 49], 0⟩, ⟨3, [60, 61], 3⟩, ⟨3, [45], 5⟩, ⟨2, [51], 6⟩, ⟨3, [59], 7⟩]) (w := w0) (by decide) (by kernel_rfl) w0 (Below.refl _ _)
  have d2 := fun (w : World) => tok_err (s := ⟨#[97, 66]⟩) (p := 1) (c := 10) (w := w) (by decide) (by kernel_rfl) w (Below.refl _ _)
  have D1 := Lib.hid d1
  have D2 := Lib.hid d2
  have H0 := Lib.hid h0
  clear d1 d2 h0
  go_enter Try.func9, Try.ntmps9
  go_wp2_with fail
  refine D1.out.mono ?_
  rintro e w1 ⟨A, c, rfl, hT, hc1, hc2, _, hb1, _⟩
  have HT := Lib.hid hT
  have HB1 := Lib.hid hb1
  clear hT hb1
  go_wp2_with fail
  refine (D2.out _).mono ?_
  rintro e w2 ⟨rfl, hb2, _⟩
  have hT2 := HT.out.below hb2
  obtain ⟨b, rfl, _, _, h11, _⟩ := hT2 1 (by decide)
  obtain ⟨b', hb', _, h30, _, h32⟩ := hT2 3 (by decide)
  obtain rfl : b = b' := by
    have := Option.some.inj hb'
    injection this
  have c4 : w2.cell? ⟨b, 4, none⟩ = some (.string ⟨#[60, 61]⟩) := h11
  have c9 : w2.cell? ⟨b, 9, none⟩ = some (.int .i64 2) := h30
  have c11 : w2.cell? ⟨b, 11, none⟩ = some (.int .i64 6) := h32
  have HB := Lib.hid (H0.out.trans ((HB1.out.trans (hb2.mono HB1.out.size)).mono H0.out.size))
  clear hb2 hT2 hb' h11 h30 h32
  have hlen : [Tok.mk 1 [97, 49] 0, ⟨3, [60, 61], 3⟩, ⟨3, [45], 5⟩, ⟨2, [51], 6⟩, ⟨3, [59], 7⟩].length = 5 := rfl
  go_wp2
  go_ret
  exact ⟨rfl, HB.out⟩

theorem sametoks_at {w : World} {B1 B2 c d : Nat} {A D : Option Addr} {l : List Tok} (hA : Toks w B1 A l) (hD : Toks w B2 D l) (hm : l.length ≤ 4096) :
    Calls Try.prog 12 #[.slice A l.length c, .slice D l.length d] w fun e w' => e = .returned (.bool true) ∧ Drawn w w' :=
  sametoks_yes w (max B1 B2) l.length c d A D l (hA.mono (Nat.le_max_left _ _)) (hD.mono (Nat.le_max_right _ _)) rfl (by omega)
theorem Toks.nil (w : World) (B : Nat) (A : Option Addr) : Toks w B A [] := fun k h => absurd h (by simp)

end Go.Proofs.Ytofodbaiehifjaa
