/- The table's Take, Drop, Holder, All, Held. -/
import Derived.Test.YtpdihmlilbccjaaJla
set_option linter.unusedVariables false
set_option linter.unusedSimpArgs false
namespace Go.Proofs.Ytpdihmlilbccjaa
open Go.RowKit

def TakeQ (w : World) (base h g c : Nat) (hs : List Int) (l t : Int) (e : Ending) (w' : World) : Prop :=
  e = .returned (.bool (takeM hs l t).2) ∧ LtAt w' base h g c (takeM hs l t).1 ∧ Chg (some g) base w w'
set_option maxRecDepth 100000 in
theorem take_any {w : World} {base h g c : Nat} {hs : List Int} (X : LtAt w base h g c hs) (l t : Int) (ht : In64 t) : Calls Try.prog 10 #[.pointer (some ⟨h, 0, none⟩), .int .i64 l, .int .i64 t] w (TakeQ w base h g c hs l t) := by
  have hrow := X.row
  have hc := X.cell
  have hlt := X.hlt
  have hgl := X.glt
  have h8 := X.good.len
  have hcap := X.cap
  have HX := Lib.hid X
  have HH := Lib.hid (has_any X l)
  have HT := Lib.hid ht
  have hf : ∀ j, w.frozen? ⟨g, j, none⟩ = false := fun j => World.ownsRow.frozenAt X.own j
  by_cases h0 : t < 0
  · have HD : Hid (TakeQ w base h g c hs l t (.returned (.bool false)) w) := Lib.hid (by
      unfold TakeQ takeM
      rw [if_neg (by omega)]
      exact ⟨rfl, HX.out, only_refl _ _ _⟩)
    clear X hrow ht HX hf
    obtain ⟨n, hn⟩ : ∃ n, n = hs.length := ⟨_, rfl⟩
    rw [← hn] at hc h8 hcap
    clear hn
    go_enter Try.func10, Try.ntmps10
    go_wp2
    go_ret
    exact HD.out
  · by_cases hl : 0 ≤ l ∧ l < hs.length
    · obtain ⟨k, rfl⟩ : ∃ k : Nat, l = k := ⟨l.toNat, by omega⟩
      have hk : k < hs.length := by omega
      have hat := X.at hk
      rw [show hasM hs (k : Int) = true from decide_eq_true hl] at HH
      obtain ⟨x, hx⟩ : ∃ x, x = hs.getD k (-1) := ⟨_, rfl⟩
      rw [← hx] at hat
      obtain ⟨n, hn⟩ : ∃ n, n = hs.length := ⟨_, rfl⟩
      by_cases hv : x = -1
      · have HD : Hid (TakeQ w base h g c hs k t (.returned (.bool true)) (w.setCell ⟨g, k, none⟩ (.int .i64 (t)))) := Lib.hid (by
          unfold TakeQ takeM
          rw [if_pos ⟨by omega, hl.1, hl.2, by rw [Int.toNat_natCast, ← hx]; exact hv⟩, Int.toNat_natCast]
          exact ⟨rfl, (HX.out.set (HX.out.good.set ⟨by omega, HT.out.2⟩)).1, (HX.out.set (HX.out.good.set ⟨by omega, HT.out.2⟩)).2⟩)
        rw [hv] at hat
        rw [← hn] at hc h8 hcap hk
        clear X hrow ht HX hx hv hl hn
        go_enter Try.func10, Try.ntmps10
        go_wp2_with fail
        refine HH.out.mono ?_
        rintro e w1 ⟨rfl, rfl⟩
        go_wp2
        go_ret
        exact HD.out
      · have HD : Hid (TakeQ w base h g c hs k t (.returned (.bool false)) w) := Lib.hid (by
          unfold TakeQ takeM
          rw [if_neg (fun hq => hv (by rw [hx]; simpa using hq.2.2.2))]
          exact ⟨rfl, HX.out, only_refl _ _ _⟩)
        rw [← hn] at hc h8 hcap hk
        clear X hrow ht HX hx hl hn
        go_enter Try.func10, Try.ntmps10
        go_wp2_with fail
        refine HH.out.mono ?_
        rintro e w1 ⟨rfl, rfl⟩
        go_wp2
        go_ret
        exact HD.out
    · have HD : Hid (TakeQ w base h g c hs l t (.returned (.bool false)) w) := Lib.hid (by
        unfold TakeQ takeM
        rw [if_neg (fun hq => hl ⟨hq.2.1, hq.2.2.1⟩)]
        exact ⟨rfl, HX.out, only_refl _ _ _⟩)
      rw [show hasM hs l = false from decide_eq_false hl] at HH
      obtain ⟨n, hn⟩ : ∃ n, n = hs.length := ⟨_, rfl⟩
      rw [← hn] at hc h8 hcap
      clear X hrow ht HX hl hn
      go_enter Try.func10, Try.ntmps10
      go_wp2_with fail
      refine HH.out.mono ?_
      rintro e w1 ⟨rfl, rfl⟩
      go_wp2
      go_ret
      exact HD.out
def DropQ (w : World) (base h g c : Nat) (hs : List Int) (l t : Int) (e : Ending) (w' : World) : Prop :=
  e = .returned (.bool (dropM hs l t).2) ∧ LtAt w' base h g c (dropM hs l t).1 ∧ Chg (some g) base w w'
set_option maxRecDepth 100000 in
theorem drop_any {w : World} {base h g c : Nat} {hs : List Int} (X : LtAt w base h g c hs) (l t : Int) (ht : In64 t) : Calls Try.prog 12 #[.pointer (some ⟨h, 0, none⟩), .int .i64 l, .int .i64 t] w (DropQ w base h g c hs l t) := by
  have hrow := X.row
  have hc := X.cell
  have hlt := X.hlt
  have hgl := X.glt
  have h8 := X.good.len
  have hcap := X.cap
  have HX := Lib.hid X
  have HH := Lib.hid (has_any X l)
  have HT := Lib.hid ht
  have hf : ∀ j, w.frozen? ⟨g, j, none⟩ = false := fun j => World.ownsRow.frozenAt X.own j
  by_cases h0 : t < 0
  · have HD : Hid (DropQ w base h g c hs l t (.returned (.bool false)) w) := Lib.hid (by
      unfold DropQ dropM
      rw [if_neg (by omega)]
      exact ⟨rfl, HX.out, only_refl _ _ _⟩)
    clear X hrow ht HX hf
    obtain ⟨n, hn⟩ : ∃ n, n = hs.length := ⟨_, rfl⟩
    rw [← hn] at hc h8 hcap
    clear hn
    go_enter Try.func12, Try.ntmps12
    go_wp2
    go_ret
    exact HD.out
  · by_cases hl : 0 ≤ l ∧ l < hs.length
    · obtain ⟨k, rfl⟩ : ∃ k : Nat, l = k := ⟨l.toNat, by omega⟩
      have hk : k < hs.length := by omega
      have hat := X.at hk
      rw [show hasM hs (k : Int) = true from decide_eq_true hl] at HH
      obtain ⟨x, hx⟩ : ∃ x, x = hs.getD k (-1) := ⟨_, rfl⟩
      rw [← hx] at hat
      obtain ⟨n, hn⟩ : ∃ n, n = hs.length := ⟨_, rfl⟩
      by_cases hv : x = t
      · have HD : Hid (DropQ w base h g c hs k t (.returned (.bool true)) (w.setCell ⟨g, k, none⟩ (.int .i64 (-1)))) := Lib.hid (by
          unfold DropQ dropM
          rw [if_pos ⟨by omega, hl.1, hl.2, by rw [Int.toNat_natCast, ← hx]; exact hv⟩, Int.toNat_natCast]
          exact ⟨rfl, (HX.out.set (HX.out.good.set ⟨by omega, by omega⟩)).1, (HX.out.set (HX.out.good.set ⟨by omega, by omega⟩)).2⟩)
        rw [hv] at hat
        rw [← hn] at hc h8 hcap hk
        clear X hrow ht HX hx hv hl hn
        go_enter Try.func12, Try.ntmps12
        go_wp2_with fail
        refine HH.out.mono ?_
        rintro e w1 ⟨rfl, rfl⟩
        go_wp2
        go_ret
        exact HD.out
      · have HD : Hid (DropQ w base h g c hs k t (.returned (.bool false)) w) := Lib.hid (by
          unfold DropQ dropM
          rw [if_neg (fun hq => hv (by rw [hx]; simpa using hq.2.2.2))]
          exact ⟨rfl, HX.out, only_refl _ _ _⟩)
        rw [← hn] at hc h8 hcap hk
        clear X hrow ht HX hx hl hn
        go_enter Try.func12, Try.ntmps12
        go_wp2_with fail
        refine HH.out.mono ?_
        rintro e w1 ⟨rfl, rfl⟩
        go_wp2
        go_ret
        exact HD.out
    · have HD : Hid (DropQ w base h g c hs l t (.returned (.bool false)) w) := Lib.hid (by
        unfold DropQ dropM
        rw [if_neg (fun hq => hl ⟨hq.2.1, hq.2.2.1⟩)]
        exact ⟨rfl, HX.out, only_refl _ _ _⟩)
      rw [show hasM hs l = false from decide_eq_false hl] at HH
      obtain ⟨n, hn⟩ : ∃ n, n = hs.length := ⟨_, rfl⟩
      rw [← hn] at hc h8 hcap
      clear X hrow ht HX hl hn
      go_enter Try.func12, Try.ntmps12
      go_wp2_with fail
      refine HH.out.mono ?_
      rintro e w1 ⟨rfl, rfl⟩
      go_wp2
      go_ret
      exact HD.out
set_option maxRecDepth 100000 in
theorem holder_any {w : World} {base h g c : Nat} {hs : List Int} (X : LtAt w base h g c hs) (l : Int) : Calls Try.prog 15 #[.pointer (some ⟨h, 0, none⟩), .int .i64 l] w fun e w' => e = .returned (.int .i64 (holdM hs l)) ∧ w = w' := by
  have hc := X.cell
  have hlt := X.hlt
  have hgl := X.glt
  have h8 := X.good.len
  have hcap := X.cap
  have HH := Lib.hid (has_any X l)
  unfold holdM
  by_cases hl : 0 ≤ l ∧ l < hs.length
  · rw [if_pos hl]
    obtain ⟨k, rfl⟩ : ∃ k : Nat, l = k := ⟨l.toNat, by omega⟩
    have hk : k < hs.length := by omega
    have hat := X.at hk
    rw [show hasM hs (k : Int) = true from decide_eq_true hl] at HH
    rw [Int.toNat_natCast]
    obtain ⟨x, hx⟩ : ∃ x, x = hs.getD k (-1) := ⟨_, rfl⟩
    rw [← hx] at hat ⊢
    obtain ⟨n, hn⟩ : ∃ n, n = hs.length := ⟨_, rfl⟩
    rw [← hn] at hc h8 hcap hk
    clear X hx hl hn
    go_enter Try.func15, Try.ntmps15
    go_wp2_with fail
    refine HH.out.mono ?_
    rintro e w1 ⟨rfl, rfl⟩
    go_wp2
    go_ret
    exact ⟨rfl, rfl⟩
  · rw [if_neg hl]
    rw [show hasM hs l = false from decide_eq_false hl] at HH
    obtain ⟨n, hn⟩ : ∃ n, n = hs.length := ⟨_, rfl⟩
    rw [← hn] at hc h8 hcap
    clear X hl hn
    go_enter Try.func15, Try.ntmps15
    go_wp2_with fail
    refine HH.out.mono ?_
    rintro e w1 ⟨rfl, rfl⟩
    go_wp2
    go_ret
    exact ⟨rfl, rfl⟩
set_option maxRecDepth 100000 in
theorem all_any {w : World} {base h g c : Nat} {hs : List Int} (X : LtAt w base h g c hs) : Calls Try.prog 20 #[.pointer (some ⟨h, 0, none⟩)] w (CopyN w hs) := by
  have hc := X.cell
  have hlt := X.hlt
  have HC := Lib.hid (clone_any rfl X.own.lie (by have := X.good.len; omega))
  have h8 := X.good.len
  have hcap := X.cap
  obtain ⟨n, hn⟩ : ∃ n, n = hs.length := ⟨_, rfl⟩
  rw [← hn] at hc h8 hcap HC
  clear X hn
  go_enter Try.func20, Try.ntmps20
  go_wp2_with fail
  refine HC.out.mono ?_
  rintro e w1 ⟨v, rfl, ho, hb⟩
  obtain ⟨A, c', rfl⟩ := ho.form
  have HO := Lib.hid ho
  have HB := Lib.hid hb
  clear ho hb
  go_wp2
  go_ret
  exact ⟨_, rfl, HO.out, HB.out⟩

theorem held_len (t : Int) : ∀ (xs : List Int) (k : Nat), (heldFrom t xs k).length ≤ xs.length
  | [], _ => by simp [heldFrom]
  | x :: xs, k => by
    have := held_len t xs (k + 1)
    unfold heldFrom
    split <;> simp <;> omega
theorem held_app (t : Int) : ∀ (xs : List Int) (y : Int) (k : Nat), heldFrom t (xs ++ [y]) k = heldFrom t xs k ++ (if y = t then [((k + xs.length : Nat) : Int)] else [])
  | [], y, k => by
    show heldFrom t [y] k = _
    unfold heldFrom
    split <;> simp [heldFrom]
  | x :: xs, y, k => by
    show heldFrom t (x :: (xs ++ [y])) k = _
    have := held_app t xs y (k + 1)
    unfold heldFrom
    rw [this, show k + 1 + xs.length = k + (x :: xs).length from by simp; omega]
    split <;> rfl
set_option maxRecDepth 100000 in
set_option maxHeartbeats 1000000 in
theorem held_any {w : World} {base h g c : Nat} {hs : List Int} (X : LtAt w base h g c hs) (t : Int) : Calls Try.prog 18 #[.pointer (some ⟨h, 0, none⟩), .int .i64 t] w (CopyN w (heldM hs t)) := by
  have hc := X.cell
  have hlt := X.hlt
  have hgl := X.glt
  have h8 := X.good.len
  have hcap := X.cap
  have HX := Lib.hid X
  unfold heldM
  by_cases h0 : t < 0
  · rw [if_pos h0]
    have HD : Hid (CopyN w [] (.returned (.slice none 0 0)) w) := Lib.hid ⟨_, rfl, OwnN.nil _ _, Below.refl _ _⟩
    clear X HX
    go_enter Try.func18, Try.ntmps18
    go_wp2
    go_ret
    exact HD.out
  · rw [if_neg h0]
    obtain ⟨n, hn⟩ : ∃ n, n = hs.length := ⟨_, rfl⟩
    rw [← hn] at hc h8 hcap
    have HN := Lib.hid hn
    clear X hn
    go_enter Try.func18, Try.ntmps18
    go_wp2
    go_loopw [15, 5, 6, 7] (fun i a _ _ wr => ∃ k : Nat, k ≤ n ∧ i = .int .i64 (k : Nat) ∧ Hid (OwnN wr w.heap.size a (heldFrom t (hs.take k) 0)) ∧ Hid (Below w.heap.size w wr)) (fun i _ _ _ _ => n - (intOf i).toNat)
    case atStart => exact ⟨0, Nat.zero_le _, rfl, Lib.hid (OwnN.nil _ _), Lib.hid (Below.refl _ _)⟩
    case round =>
      obtain ⟨wo, rfl⟩ : ∃ wo : World, wo = wr := ⟨_, rfl⟩
      obtain ⟨k, hk, rfl, HO, HB⟩ := hrel
      by_cases hlk : k < n
      · have hke : k < hs.length := by rw [← HN.out]; exact hlk
        have k0 := (HB.out.cell (p := ⟨g, k, none⟩) hgl).trans (HX.out.at hke)
        have hkx : hs.getD k (-1) = hs[k] := by rw [List.getD_eq_getElem?_getD, List.getElem?_eq_getElem hke]; rfl
        obtain ⟨x, hx⟩ : ∃ x, x = hs.getD k (-1) := ⟨_, rfl⟩
        rw [← hx] at k0 hkx
        have HTK := Lib.hid (show heldFrom t (hs.take (k + 1)) 0 = heldFrom t (hs.take k) 0 ++ (if x = t then [((k : Nat) : Int)] else []) from by
          rw [List.take_succ_eq_append_getElem hke, held_app, ← hkx, List.length_take, Nat.zero_add, Nat.min_eq_left (by omega)])
        have hsz : w.heap.size ≤ wo.heap.size := HB.out.size
        have HLEN : Hid ((heldFrom t (hs.take k) 0).length ≤ 1000000) := Lib.hid (by have := held_len t (hs.take k) 0; simp at this; have := HN.out; omega)
        by_cases hxt : x = t
        · have HE : Hid (heldFrom t (hs.take (k + 1)) 0 = heldFrom t (hs.take k) 0 ++ [((k : Nat) : Int)]) := Lib.hid (by rw [HTK.out, if_pos hxt])
          rw [hxt] at k0
          clear hx hkx hxt HTK
          go_wp2_with (first | (at_builtin; go_loud (refine wpList_app rfl _ _ rfl w.heap.size _ (heldFrom t (hs.take k) 0) rfl (w := wo) (k : Nat) rfl HO.out HLEN.out 1 rfl hsz ?_; go_loud (intro v4 w4 o4 c4 n4))))
          go_roundw
          case rel => exact ⟨k + 1, by omega, by go_num, Lib.hid (by rw [HE.out]; exact o4), Lib.hid (HB.out.trans c4.bel)⟩
          case measure => simp [intOf]; omega
        · have HE : Hid (heldFrom t (hs.take (k + 1)) 0 = heldFrom t (hs.take k) 0) := Lib.hid (by rw [HTK.out, if_neg hxt, List.append_nil])
          clear hx hkx HTK
          go_wp2
          go_roundw
          case rel => exact ⟨k + 1, by omega, by go_num, Lib.hid (by rw [HE.out]; exact HO.out), HB⟩
          case measure => simp [intOf]; omega
      · obtain rfl : k = n := by omega
        have HR := Lib.hid (show hs.take k = hs from by rw [HN.out]; simp)
        obtain ⟨A, c', rfl⟩ := HO.out.form
        go_wp2
        go_ret
        exact ⟨_, rfl, by rw [HR.out] at HO ⊢; exact HO.out, HB.out⟩

end Go.Proofs.Ytpdihmlilbccjaa
