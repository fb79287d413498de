/- The document's own memories: where they lie; its place, Load. -/
import Derived.Test.YtnplekfpncjnpaaHah
set_option linter.unusedVariables false
set_option linter.unusedSimpArgs false
namespace Go.Proofs.Ytnplekfpncjnpaa
open Go.RowKit

def KWd : Kd Wd where
  sz := 2
  pos := by decide
  Q := fun _ _ a cs => cs = wcells a
  keep := fun h _ _ => h
  len := fun h => by rw [h]; rfl
  one := fun h => by rw [h]; exact wone _
def KOb : Kd Ob where
  sz := 4
  pos := by decide
  Q := fun _ _ a cs => cs = ocells a
  keep := fun h _ _ => h
  len := fun h => by rw [h]; rfl
  one := fun h => by rw [h]; exact oone _
/-- rows of words; rows of objects -/
def KWs : Kd (List Wd) where
  sz := 1
  pos := by decide
  Q := fun w S ws cs => ∃ v, cs = [v] ∧ Lies KWd w S ws v
  keep := fun ⟨v, e, h⟩ hk hs => ⟨v, e, h.keep hk hs⟩
  len := fun ⟨v, e, h⟩ => by rw [e]; rfl
  one := fun ⟨v, e, h⟩ u hu => by rw [e] at hu; simp at hu; subst hu; exact h.one
def KOs : Kd (List Ob) where
  sz := 1
  pos := by decide
  Q := fun w S os cs => ∃ v, cs = [v] ∧ Lies KOb w S os v
  keep := fun ⟨v, e, h⟩ hk hs => ⟨v, e, h.keep hk hs⟩
  len := fun ⟨v, e, h⟩ => by rw [e]; rfl
  one := fun ⟨v, e, h⟩ u hu => by rw [e] at hu; simp at hu; subst hu; exact h.one
/-- the document's heap H at the pair of lists u1, u2, in blocks of S -/
structure RefAt (w : World) (S : Nat → Prop) (u1 u2 : Value) (H : Hp) : Prop where
  ws : Lies KWs w S (H.map (·.ws)) u1
  os : Lies KOs w S (H.map (·.os)) u2
theorem RefAt.keep {w w' : World} {S S' : Nat → Prop} {u1 u2 : Value} {H : Hp} (h : RefAt w S u1 u2 H) (hk : ∀ b, S b → w'.heap[b]? = w.heap[b]?) (hs : ∀ b, S b → S' b) : RefAt w' S' u1 u2 H := ⟨h.ws.keep hk hs, h.os.keep hk hs⟩
/-- a thread's row of words: its cell, and its words -/
theorem RefAt.words {w : World} {S : Nat → Prop} {A : Option Addr} {n c : Nat} {u2 : Value} {H : Hp} (h : RefAt w S (.slice A n c) u2 H) {t : Nat} (ht : t < H.length) :
    ∃ b off B d, A = some ⟨b, off, none⟩ ∧ S b ∧ w.cell? ⟨b, off + t, none⟩ = some (.slice B (getM H t).ws.length d) ∧ (getM H t).ws.length ≤ d ∧ Lies KWd w S (getM H t).ws (.slice B (getM H t).ws.length d) := by
  obtain ⟨b, off, row, e, hb, ⟨v, hv, hl⟩, hc⟩ := h.ws.get t (by simpa using ht)
  have hg : (H.map (·.ws))[t]'(by simpa using ht) = (getM H t).ws := by rw [List.getElem_map, getM_lt ht]
  rw [hg] at hl
  obtain ⟨B, d, rfl, hd, -⟩ := hl.form
  refine ⟨b, off, B, d, e, hb, ?_, hd, hl⟩
  have := hc 0 (by decide)
  rw [hv, show off + t * KWs.sz + 0 = off + t from by show off + t * 1 + 0 = off + t; omega] at this
  exact this
theorem RefAt.objects {w : World} {S : Nat → Prop} {A : Option Addr} {n c : Nat} {u1 : Value} {H : Hp} (h : RefAt w S u1 (.slice A n c) H) {t : Nat} (ht : t < H.length) :
    ∃ b off B d, A = some ⟨b, off, none⟩ ∧ S b ∧ w.cell? ⟨b, off + t, none⟩ = some (.slice B (getM H t).os.length d) ∧ (getM H t).os.length ≤ d ∧ Lies KOb w S (getM H t).os (.slice B (getM H t).os.length d) := by
  obtain ⟨b, off, row, e, hb, ⟨v, hv, hl⟩, hc⟩ := h.os.get t (by simpa using ht)
  have hg : (H.map (·.os))[t]'(by simpa using ht) = (getM H t).os := by rw [List.getElem_map, getM_lt ht]
  rw [hg] at hl
  obtain ⟨B, d, rfl, hd, -⟩ := hl.form
  refine ⟨b, off, B, d, e, hb, ?_, hd, hl⟩
  have := hc 0 (by decide)
  rw [hv, show off + t * KOs.sz + 0 = off + t from by show off + t * 1 + 0 = off + t; omega] at this
  exact this
theorem lies_word {w : World} {S : Nat → Prop} {ws : List Wd} {A : Option Addr} {n c : Nat} (h : Lies KWd w S ws (.slice A n c)) {k : Nat} (hk : k < ws.length) : ∃ b off, A = some ⟨b, off, none⟩ ∧ S b ∧ w.cell? ⟨b, off + k * 2, none⟩ = some (.int .i64 ws[k].v) ∧ w.cell? ⟨b, off + k * 2 + 1, none⟩ = some (.int .i64 ws[k].s) := by
  obtain ⟨b, off, row, e, hb, hq, hc⟩ := h.get k hk
  have hh : ∀ j (u : Value), j < 2 → (wcells ws[k])[j]? = some u → w.cell? ⟨b, off + k * 2 + j, none⟩ = some u := fun j u hj hu => by
    have := hc j hj
    rw [hq, hu] at this
    exact this
  exact ⟨b, off, e, hb, hh 0 _ (by decide) rfl, hh 1 _ (by decide) rfl⟩
theorem lies_object {w : World} {S : Nat → Prop} {os : List Ob} {A : Option Addr} {n c : Nat} (h : Lies KOb w S os (.slice A n c)) {k : Nat} (hk : k < os.length) : ∃ b off, A = some ⟨b, off, none⟩ ∧ S b ∧ w.cell? ⟨b, off + k * 4, none⟩ = some (.int .i64 (os[k].at_ : Nat)) ∧ w.cell? ⟨b, off + k * 4 + 1, none⟩ = some (.int .i64 (os[k].size : Nat)) ∧ w.cell? ⟨b, off + k * 4 + 2, none⟩ = some (.int .i64 os[k].fn) ∧ w.cell? ⟨b, off + k * 4 + 3, none⟩ = some (.int .i64 os[k].op) := by
  obtain ⟨b, off, row, e, hb, hq, hc⟩ := h.get k hk
  have hh : ∀ j (u : Value), j < 4 → (ocells os[k])[j]? = some u → w.cell? ⟨b, off + k * 4 + j, none⟩ = some u := fun j u hj hu => by
    have := hc j hj
    rw [hq, hu] at this
    exact this
  exact ⟨b, off, e, hb, hh 0 _ (by decide) rfl, hh 1 _ (by decide) rfl, hh 2 _ (by decide) rfl, hh 3 _ (by decide) rfl⟩
theorem RefAt.form {w : World} {S : Nat → Prop} {u1 u2 : Value} {H : Hp} (h : RefAt w S u1 u2 H) : ∃ A c B d, u1 = .slice A H.length c ∧ H.length ≤ c ∧ u2 = .slice B H.length d ∧ H.length ≤ d := by
  obtain ⟨A, c, e1, h1, -⟩ := h.ws.form
  obtain ⟨B, d, e2, h2, -⟩ := h.os.form
  rw [List.length_map] at e1 h1 e2 h2
  exact ⟨A, c, B, d, e1, h1, e2, h2⟩

/-- an address is that of a word of thread t -/
def Hit (H : Hp) (a : Int) (t : Nat) : Prop := 1 + (t : Int) * 64 ≤ a ∧ a - (1 + (t : Int) * 64) < ((getM H t).ws.length : Int)
theorem place_hit {H : Hp} (hg : GoodH H) {a : Int} {t : Nat} (h : Hit H a t) : place H a = some (t, (a - (1 + (t : Int) * 64)).toNat) := by
  have h64 := (hg.get t).2
  unfold Hit at h
  obtain ⟨k, hk⟩ : ∃ k : Nat, a = 1 + 64 * (t : Int) + k := ⟨(a - (1 + (t : Int) * 64)).toNat, by omega⟩
  subst hk
  rw [place_of (by omega), if_pos (by omega)]
  congr 2
  omega
theorem place_miss {H : Hp} {a : Int} (h : ∀ t, t < H.length → ¬ Hit H a t) : place H a = none := by
  cases hp : place H a with
  | none => rfl
  | some q =>
    obtain ⟨t, k⟩ := q
    obtain ⟨-, h1, h2, h3⟩ := place_some hp
    exact absurd ⟨by omega, by omega⟩ (h t h2)

set_option maxRecDepth 100000 in
set_option maxHeartbeats 1000000 in
theorem rplace_any {w : World} {S : Nat → Prop} {u1 u2 : Value} {H : Hp} (X : RefAt w S u1 u2 H) (hS : ∀ b, S b → b < w.heap.size) (hg : GoodH H) (a : Int) (ha : In64 a) :
    Calls Try.prog 24 #[.agg #[u1, u2], .int .i64 a] w fun e w' => e = .returned (placeV (place H a)) ∧ Below w.heap.size w w' := by
  obtain ⟨A, c, B, d, rfl, hc, rfl, hd⟩ := X.form
  have HX := Lib.hid X
  have HS := Lib.hid hS
  have HG := Lib.hid hg
  unfold In64 at ha
  have h4 := hg.1
  obtain ⟨n, hn⟩ : ∃ n, n = H.length := ⟨_, rfl⟩
  rw [← hn] at hc hd h4 ⊢
  have HN := Lib.hid hn
  have HB := Lib.hid ((Below.refl w.heap.size w).alloc (Nat.le_refl _) (.cells #[.slice A n c, .slice B n d] 29))
  have z0 := two_c0 w (.slice A n c) (.slice B n d) 29
  have hzl : w.heap.size < (w.alloc (.cells #[.slice A n c, .slice B n d] 29)).heap.size := by simp
  clear X hS hg hn
  go_enter Try.func24, Try.ntmps24
  go_wp2
  go_loopw [7] (fun x wr => ∃ j : Nat, j ≤ n ∧ x = .int .i64 j ∧ Hid (∀ t, t < j → ¬ Hit H a t) ∧ wr = w.alloc (.cells #[.slice A n c, .slice B n d] 29)) (fun x _ => n - (intOf x).toNat)
  case atStart => exact ⟨0, Nat.zero_le _, rfl, Lib.hid (fun t ht => absurd ht (Nat.not_lt_zero _)), rfl⟩
  case round =>
    obtain ⟨j, hj, rfl, HNO, rfl⟩ := hrel
    by_cases hlt : j < n
    · have hjl : j < H.length := by rw [← HN.out]; exact hlt
      have hx := HX.out
      rw [← HN.out] at hx
      obtain ⟨b, off, B', d', rfl, hb, k0, hd', -⟩ := hx.words hjl
      have hh : Hit H a j ↔ 1 + (j : Int) * 64 ≤ a ∧ a - (1 + (j : Int) * 64) < ((getM H j).ws.length : Int) := Iff.rfl
      have HPH := Lib.hid (fun h => place_hit (a := a) (t := j) HG.out h)
      have hl64 := (HG.out.get j).2
      obtain ⟨m, hm⟩ : ∃ m, m = (getM H j).ws.length := ⟨_, rfl⟩
      rw [← hm] at k0 hd' hh hl64
      have k1 := alloc_cell k0 (HS.out b hb) (.cells #[.slice (some ⟨b, off, none⟩) n c, .slice B n d] 29)
      clear k0 hx hm
      by_cases h1 : 1 + (j : Int) * 64 ≤ a
      · by_cases h2 : a - (1 + (j : Int) * 64) < (m : Int)
        · have hp := HPH.out (hh.2 ⟨h1, h2⟩)
          obtain ⟨k, hk⟩ : ∃ k : Nat, a = 1 + (j : Int) * 64 + k := ⟨(a - (1 + (j : Int) * 64)).toNat, by omega⟩
          rw [show (a - (1 + (j : Int) * 64)).toNat = k from by omega] at hp
          have HP := Lib.hid hp
          subst hk
          have e1 : (1 + (j : Int) * 64 + (k : Int)) - (1 + (j : Int) * 64) = (k : Int) := by omega
          clear hp HPH hh
          go_wp2
          go_ret3
          exact ⟨by rw [HP.out]; rfl, HB.out⟩
        · have HNH := Lib.hid (fun h : Hit H a j => h2 (hh.1 h).2)
          clear HPH hh
          go_wp2
          go_roundw
          case rel => exact ⟨j + 1, by omega, by go_num, Lib.hid (fun t ht => by
            rcases Nat.lt_or_ge t j with h | h
            · exact HNO.out t h
            · obtain rfl : t = j := by omega
              exact HNH.out), by first | rfl | trivial⟩
          case measure => simp [intOf]; omega
      · have HNH := Lib.hid (fun h : Hit H a j => h1 (hh.1 h).1)
        clear HPH hh
        go_wp2
        go_roundw
        case rel => exact ⟨j + 1, by omega, by go_num, Lib.hid (fun t ht => by
          rcases Nat.lt_or_ge t j with h | h
          · exact HNO.out t h
          · obtain rfl : t = j := by omega
            exact HNH.out), by first | rfl | trivial⟩
        case measure => simp [intOf]; omega
    · obtain rfl : j = n := by omega
      have HP := Lib.hid (place_miss (H := H) (a := a) (by rw [← HN.out]; exact HNO.out))
      go_wp2
      go_ret3
      exact ⟨by rw [HP.out]; rfl, HB.out⟩

end Go.Proofs.Ytnplekfpncjnpaa
