/- The heap's functions: Words, Objects (with slices.Clone). -/
import Derived.Test.YtnplekfpncjnpaaHad
set_option linter.unusedVariables false
set_option linter.unusedSimpArgs false
namespace Go.Proofs.Ytnplekfpncjnpaa
open Go.RowKit

theorem infoW : (Try.prog.info? 40).map (fun i => (i.zero, i.size, i.bytes)) = some (some (.agg #[.int .i64 0, .int .i64 0]), 2, 16) := by kernel_rfl
theorem infoO : (Try.prog.info? 45).map (fun i => (i.zero, i.size, i.bytes)) = some (some (.agg #[.int .i64 0, .int .i64 0, .int .i64 0, .int .i64 0]), 4, 32) := by kernel_rfl
theorem cells_one {α : Type} (f : α → List Value) (h : ∀ a, ∀ u ∈ f a, u.oneCell' = true) (xs : List α) : ∀ u ∈ (xs.map f).flatten, u.oneCell' = true := fun u hu => by
  obtain ⟨r, hr, hu⟩ := List.mem_flatten.1 hu
  obtain ⟨a, _, rfl⟩ := List.mem_map.1 hr
  exact h a u hu
theorem wone : ∀ a : Wd, ∀ u ∈ wcells a, u.oneCell' = true := fun a u hu => by
  simp [wcells] at hu; rcases hu with rfl | rfl <;> rfl
theorem oone : ∀ a : Ob, ∀ u ∈ ocells a, u.oneCell' = true := fun a u hu => by
  simp [ocells] at hu; rcases hu with rfl | rfl | rfl | rfl <;> rfl
def ws_ (H : Hp) (t : Int) : List Wd := if t < 0 then [] else (getM H t.toNat).ws
def os_ (H : Hp) (t : Int) : List Ob := if t < 0 then [] else (getM H t.toNat).os


def CopyW (w : World) (xs : List Wd) (e : Ending) (w' : World) : Prop := ∃ v, e = .returned v ∧ RowW w' w.heap.size xs v ∧ Below w.heap.size w w'
set_option maxRecDepth 100000 in
set_option maxHeartbeats 1000000 in
theorem cloneW_any {w : World} {base : Nat} {xs : List Wd} {v : Value} (X : RowW w base xs v) (hl : xs.length ≤ 64) :
    Calls Try.prog 28 #[v] w (CopyW w xs) := by
  have hx : ∀ g c, v = .slice (some ⟨g, 0, none⟩) xs.length c → g < w.heap.size ∧ ∀ j u, (xs.map wcells).flatten[j]? = some u → w.cell? ((⟨g, 0, none⟩ : Addr).add j) = some u := fun g c e => by
    subst e
    exact ⟨(World.ownsRow.lt X g rfl).2, World.ownsRow.cells X rfl⟩
  rcases X.2 with ⟨rfl, h2⟩ | ⟨g, cap, cur, rfl, hbg, hg, hc1, hc2, hc3, hc4⟩
  · have hnil : xs = [] := List.eq_nil_of_length_eq_zero h2
    subst hnil
    have HD : Hid (CopyW w [] (.returned (.slice none 0 0)) w) := Lib.hid ⟨_, rfl, World.ownsRow_nil _ _ _ _, Below.refl _ _⟩
    have hnn : ∀ w : World, (binOp .eql 48 (.slice none 0 0) (.slice none 0 0)).run Try.prog w = .ok (.bool true) w := fun _ => by kernel_rfl
    clear X hx h2 hl
    go_enter Try.func28, Try.ntmps28
    go_wp2
    go_ret
    exact HD.out
  · obtain ⟨hlt, hcell⟩ := hx g cap rfl
    have HX := Lib.hid X
    have HC : Hid (∀ o : Obj, ∀ j u, (xs.map wcells).flatten[j]? = some u → (w.alloc o).cell? ((⟨g, 0, none⟩ : Addr).add j) = some u) := Lib.hid fun o j u hu => alloc_cell (hcell j u hu) (by rw [add_none]; exact hlt) o
    have HN : Hid (∀ o : Obj, Below w.heap.size w (w.alloc o)) := Lib.hid fun o => (Below.refl w.heap.size w).alloc (Nat.le_refl _) o
    have HL : Hid ((w.alloc (.cells #[] 40)).ownsRow w.heap.size 40 2 (.slice (some ⟨w.heap.size, 0, none⟩) 0 0) 0 []) := Lib.hid (World.ownsRow_lit (e := 40) (size := 2) w #[] 0 (Nat.le_refl _) (by unfold maxLen; omega) (by simp))
    obtain ⟨m, hm⟩ : ∃ m, m = xs.length := ⟨_, rfl⟩
    rw [← hm] at hl ⊢
    have HM := Lib.hid hm
    obtain ⟨i, hi, hz, hs, hb⟩ := info_parts infoW
    have HI := Lib.hid hi
    have HZ := Lib.hid hz
    have HS := Lib.hid hs
    have HB := Lib.hid hb
    have hsn : ∀ w : World, (binOp .eql 48 (.slice (some ⟨g, 0, none⟩) m cap) (.slice none 0 0)).run Try.prog w = .ok (.bool false) w := fun _ => by kernel_rfl
    clear X hx hcell hm hc3 hc4 hg hbg hc1 hc2 hi hz hs hb
    go_enter Try.func28, Try.ntmps28
    go_wp2_with (at_builtin; refine wpList_append_own_at _ rfl _ _ 48 rfl w.heap.size 40 i _ 2 _ Try.underlying48 HI.out HZ.out HS.out HB.out rfl (by decide) (.slice (some ⟨w.heap.size, 0, none⟩) 0 0) 0 [] rfl HL.out ⟨g, 0, none⟩ m cap (xs.map wcells).flatten rfl (by rw [flat_len (wlen xs), List.length_map, HM.out]) (HC.out _) (cells_one _ wone xs) (by unfold maxLen; omega) (by omega) (by simp) ?_; intro v' w' hown hgrow hnil hat; have HO := Lib.hid hown; have HG := Lib.hid hgrow; have HA := Lib.hid hat; clear hown hgrow hnil hat)
    go_ret
    refine ⟨v', rfl, ?_, ?_⟩
    · have := HO.out
      rw [Nat.zero_add, List.nil_append, HM.out] at this
      exact this
    · have h1 := HG.out
      exact ⟨h1.os.trans (HN.out _).os, h1.tape.trans (HN.out _).tape, h1.output.trans (HN.out _).output, Nat.le_trans (HN.out _).size h1.size, fun b hb => (h1.block b (Nat.lt_of_lt_of_le hb (HN.out _).size) (fun e => by
        have : w.heap.size = b := by simpa [Value.ownBlock] using e.symm
        omega)).trans ((HN.out _).block b hb)⟩
set_option maxRecDepth 100000 in
set_option maxHeartbeats 1000000 in
theorem words_any {w : World} {base h g c : Nat} {A : List Value} {H : Hp} (X : HpAt w base h g c A H) (t : Int) :
    Calls Try.prog 19 #[.pointer (some ⟨h, 0, none⟩), .int .i64 t] w (CopyW w (ws_ H t)) := by
  have HH := Lib.hid (has_any X t)
  by_cases hin : 0 ≤ t ∧ t < (H.length : Int)
  · obtain ⟨k, rfl⟩ : ∃ k : Nat, t = k := ⟨t.toNat, by omega⟩
    have ht : k < H.length := by omega
    obtain ⟨hc, hlt, hglt, h4⟩ := X.seen
    obtain ⟨B, d, hw, hd, -, hrow, h64⟩ := X.words ht
    have hcap := X.cap
    rw [decide_eq_true hin] at HH
    have HC := Lib.hid (cloneW_any hrow h64)
    rw [show ws_ H (k : Int) = (getM H k).ws from by unfold ws_; rw [if_neg (by omega), Int.toNat_natCast]]
    obtain ⟨xs, hxs⟩ : ∃ xs, xs = (getM H k).ws := ⟨_, rfl⟩
    rw [← hxs] at HC hw hd ⊢
    obtain ⟨n, hn⟩ : ∃ n, n = H.length := ⟨_, rfl⟩
    obtain ⟨m, hm⟩ : ∃ m, m = xs.length := ⟨_, rfl⟩
    rw [← hn] at hc ht h4 hcap
    rw [← hm] at hw hd HC
    clear X hin hrow h64 hxs hn hm
    go_enter Try.func19, Try.ntmps19
    go_wp2_with fail
    refine HH.out.mono ?_
    rintro e w2 ⟨rfl, rfl⟩
    go_wp2_with fail
    refine HC.out.mono ?_
    rintro e w2 ⟨v, rfl, hr, hb⟩
    have HR := Lib.hid hr
    have HB := Lib.hid hb
    clear hr hb
    go_wp2
    go_ret
    exact ⟨v, rfl, HR.out, HB.out⟩
  · rw [decide_eq_false hin] at HH
    rw [show ws_ H t = [] from by
      unfold ws_
      split
      · rfl
      · rw [getM_ge (by omega)]]
    clear X hin
    have HD : Hid (CopyW w [] (.returned (.slice none 0 0)) w) := Lib.hid ⟨_, rfl, World.ownsRow_nil _ _ _ _, Below.refl _ _⟩
    go_enter Try.func19, Try.ntmps19
    go_wp2_with fail
    refine HH.out.mono ?_
    rintro e w2 ⟨rfl, rfl⟩
    go_wp2
    go_ret
    exact HD.out


def CopyO (w : World) (xs : List Ob) (e : Ending) (w' : World) : Prop := ∃ v, e = .returned v ∧ RowO w' w.heap.size xs v ∧ Below w.heap.size w w'
set_option maxRecDepth 100000 in
set_option maxHeartbeats 1000000 in
theorem cloneO_any {w : World} {base : Nat} {xs : List Ob} {v : Value} (X : RowO w base xs v) (hl : xs.length ≤ 64) :
    Calls Try.prog 29 #[v] w (CopyO w xs) := by
  have hx : ∀ g c, v = .slice (some ⟨g, 0, none⟩) xs.length c → g < w.heap.size ∧ ∀ j u, (xs.map ocells).flatten[j]? = some u → w.cell? ((⟨g, 0, none⟩ : Addr).add j) = some u := fun g c e => by
    subst e
    exact ⟨(World.ownsRow.lt X g rfl).2, World.ownsRow.cells X rfl⟩
  rcases X.2 with ⟨rfl, h2⟩ | ⟨g, cap, cur, rfl, hbg, hg, hc1, hc2, hc3, hc4⟩
  · have hnil : xs = [] := List.eq_nil_of_length_eq_zero h2
    subst hnil
    have HD : Hid (CopyO w [] (.returned (.slice none 0 0)) w) := Lib.hid ⟨_, rfl, World.ownsRow_nil _ _ _ _, Below.refl _ _⟩
    have hnn : ∀ w : World, (binOp .eql 49 (.slice none 0 0) (.slice none 0 0)).run Try.prog w = .ok (.bool true) w := fun _ => by kernel_rfl
    clear X hx h2 hl
    go_enter Try.func29, Try.ntmps29
    go_wp2
    go_ret
    exact HD.out
  · obtain ⟨hlt, hcell⟩ := hx g cap rfl
    have HX := Lib.hid X
    have HC : Hid (∀ o : Obj, ∀ j u, (xs.map ocells).flatten[j]? = some u → (w.alloc o).cell? ((⟨g, 0, none⟩ : Addr).add j) = some u) := Lib.hid fun o j u hu => alloc_cell (hcell j u hu) (by rw [add_none]; exact hlt) o
    have HN : Hid (∀ o : Obj, Below w.heap.size w (w.alloc o)) := Lib.hid fun o => (Below.refl w.heap.size w).alloc (Nat.le_refl _) o
    have HL : Hid ((w.alloc (.cells #[] 45)).ownsRow w.heap.size 45 4 (.slice (some ⟨w.heap.size, 0, none⟩) 0 0) 0 []) := Lib.hid (World.ownsRow_lit (e := 45) (size := 4) w #[] 0 (Nat.le_refl _) (by unfold maxLen; omega) (by simp))
    obtain ⟨m, hm⟩ : ∃ m, m = xs.length := ⟨_, rfl⟩
    rw [← hm] at hl ⊢
    have HM := Lib.hid hm
    obtain ⟨i, hi, hz, hs, hb⟩ := info_parts infoO
    have HI := Lib.hid hi
    have HZ := Lib.hid hz
    have HS := Lib.hid hs
    have HB := Lib.hid hb
    have hsn : ∀ w : World, (binOp .eql 49 (.slice (some ⟨g, 0, none⟩) m cap) (.slice none 0 0)).run Try.prog w = .ok (.bool false) w := fun _ => by kernel_rfl
    clear X hx hcell hm hc3 hc4 hg hbg hc1 hc2 hi hz hs hb
    go_enter Try.func29, Try.ntmps29
    go_wp2_with (at_builtin; refine wpList_append_own_at _ rfl _ _ 49 rfl w.heap.size 45 i _ 4 _ Try.underlying49 HI.out HZ.out HS.out HB.out rfl (by decide) (.slice (some ⟨w.heap.size, 0, none⟩) 0 0) 0 [] rfl HL.out ⟨g, 0, none⟩ m cap (xs.map ocells).flatten rfl (by rw [flat_len (olen xs), List.length_map, HM.out]) (HC.out _) (cells_one _ oone xs) (by unfold maxLen; omega) (by omega) (by simp) ?_; intro v' w' hown hgrow hnil hat; have HO := Lib.hid hown; have HG := Lib.hid hgrow; have HA := Lib.hid hat; clear hown hgrow hnil hat)
    go_ret
    refine ⟨v', rfl, ?_, ?_⟩
    · have := HO.out
      rw [Nat.zero_add, List.nil_append, HM.out] at this
      exact this
    · have h1 := HG.out
      exact ⟨h1.os.trans (HN.out _).os, h1.tape.trans (HN.out _).tape, h1.output.trans (HN.out _).output, Nat.le_trans (HN.out _).size h1.size, fun b hb => (h1.block b (Nat.lt_of_lt_of_le hb (HN.out _).size) (fun e => by
        have : w.heap.size = b := by simpa [Value.ownBlock] using e.symm
        omega)).trans ((HN.out _).block b hb)⟩
set_option maxRecDepth 100000 in
set_option maxHeartbeats 1000000 in
theorem objects_any {w : World} {base h g c : Nat} {A : List Value} {H : Hp} (X : HpAt w base h g c A H) (t : Int) :
    Calls Try.prog 21 #[.pointer (some ⟨h, 0, none⟩), .int .i64 t] w (CopyO w (os_ H t)) := by
  have HH := Lib.hid (has_any X t)
  by_cases hin : 0 ≤ t ∧ t < (H.length : Int)
  · obtain ⟨k, rfl⟩ : ∃ k : Nat, t = k := ⟨t.toNat, by omega⟩
    have ht : k < H.length := by omega
    obtain ⟨hc, hlt, hglt, h4⟩ := X.seen
    obtain ⟨B, d, hw, hd, -, hrow, h64⟩ := X.objects ht
    have hcap := X.cap
    rw [decide_eq_true hin] at HH
    have HC := Lib.hid (cloneO_any hrow h64)
    rw [show os_ H (k : Int) = (getM H k).os from by unfold os_; rw [if_neg (by omega), Int.toNat_natCast]]
    obtain ⟨xs, hxs⟩ : ∃ xs, xs = (getM H k).os := ⟨_, rfl⟩
    rw [← hxs] at HC hw hd ⊢
    obtain ⟨n, hn⟩ : ∃ n, n = H.length := ⟨_, rfl⟩
    obtain ⟨m, hm⟩ : ∃ m, m = xs.length := ⟨_, rfl⟩
    rw [← hn] at hc ht h4 hcap
    rw [← hm] at hw hd HC
    clear X hin hrow h64 hxs hn hm
    go_enter Try.func21, Try.ntmps21
    go_wp2_with fail
    refine HH.out.mono ?_
    rintro e w2 ⟨rfl, rfl⟩
    go_wp2_with fail
    refine HC.out.mono ?_
    rintro e w2 ⟨v, rfl, hr, hb⟩
    have HR := Lib.hid hr
    have HB := Lib.hid hb
    clear hr hb
    go_wp2
    go_ret
    exact ⟨v, rfl, HR.out, HB.out⟩
  · rw [decide_eq_false hin] at HH
    rw [show os_ H t = [] from by
      unfold os_
      split
      · rfl
      · rw [getM_ge (by omega)]]
    clear X hin
    have HD : Hid (CopyO w [] (.returned (.slice none 0 0)) w) := Lib.hid ⟨_, rfl, World.ownsRow_nil _ _ _ _, Below.refl _ _⟩
    go_enter Try.func21, Try.ntmps21
    go_wp2_with fail
    refine HH.out.mono ?_
    rintro e w2 ⟨rfl, rfl⟩
    go_wp2
    go_ret
    exact HD.out


end Go.Proofs.Ytnplekfpncjnpaa
