/- What is proved: for every text the law ParseIn returns true and leaves its argument as it was, in every world in which the tables and sentinels that the row lists stand as the program lays them; no other condition. -/
import Derived.Test.YtkmpnlbppdekaaaDoorZe4
import Derived.Test.YtkmpnlbppdekaaaDoorZe9
import Derived.Test.YtkmpnlbppdekaaaDoorTie
import Derived.Test.YtkmpnlbppdekaaaDoorCards
import Derived.LaidMore
import Derived.LaidOnce
import Derived.Handed
import Derived.Stop.LaidErr
import Derived.Lib.LaidTab
import Derived.SevenTiedAt
import Derived.JoinedOf
import Derived.Test.YtkmpnlbppdekaaaDoorRows
import Derived.ProofKit
import Derived.Deep.Slices
import Derived.OpenShut
import Derived.ChangeMaps5
import Derived.Shelf.Small.Strs
import Derived.Shelf.LaysM
import Derived.Shelf.Strconv.Clone
import Derived.Shelf.Strings.Search1
import Derived.Shelf.Strings.Prefix
import Derived.WalkKit
import Derived.WalkSpells
import Derived.WalkLawsBesides
import Derived.Lib.Hide
import Derived.Lib.IndexAny
import Derived.OwnWalk
import Derived.Deep.AppendLies
import Derived.Laws.AppendOwnNone
import Derived.Deep.QuietTactic
import Derived.BigQuiet
import Derived.StillTailTactics
import Derived.IntWalk
import Derived.Lib.ItoaNum
import Derived.Recover
import Derived.Lib.AppendStr
import Derived.Lib.BufferRead
import Derived.Shelf.Small.Wraps
import Derived.Shelf.Strconv.Itoa0
import Derived.Shelf.Strconv.Itoa1
import Derived.Shelf.Strconv.Itoa2
import Derived.Shelf.Strconv.Itoa3
import Derived.Shelf.Slices.Turned
import Derived.Lib.AppendIntMem
import Derived.Shelf.Strconv.Atoi
import Derived.Lib.AtoiErrMem
import Derived.Deep.RegionHeld3
import Derived.Deep.RegionLaw
import Derived.Laws.EntriesVeiled
import Derived.Deep.Cut
import Derived.Maps.AppendAt
set_option linter.unusedVariables false
set_option linter.unusedSimpArgs false
namespace Go.Proofs.YtkmpnlbppdekaaaDoor
open Go.RowKit

theorem exprL (s : ByteArray) (hs : s.size ≤ 40000) {x : Ex} {p c : Nat} (h : exprP s.data.toList = (x, p, c)) (w : World) : Calls Tryd.prog 8 #[.string s] w fun e w' => ∃ A k, e = .returned (.tuple #[.agg #[.int .i64 x.kind, .int .i64 x.pl, .int .i64 x.num, .string (strOf x.name), .slice A x.args.length k], .int .i64 (p : Nat), .int .i64 (c : Nat)]) ∧ IsExs w' (fun b => w.heap.size ≤ b ∧ b < w'.heap.size) x.args (.slice A x.args.length k) ∧ Below w.heap.size w w' := by
  refine (exprA_any s hs w).mono ?_
  rintro e w' ⟨v, rfl, ⟨u, rfl, -, hu⟩, hb⟩
  simp only [h] at hu ⊢
  obtain ⟨A, k, rfl, -⟩ := IsExs.slice hu
  exact ⟨A, k, rfl, hu, hb⟩
theorem programL (s : ByteArray) (hs : s.size ≤ 40000) {ds : List Dc} {p c : Nat} (h : progM s.data.toList = (ds, p, c)) (w : World) : Calls Tryd.prog 7 #[.string s] w fun e w' => ∃ A k, e = .returned (.tuple #[.agg #[.slice A ds.length k], .int .i64 (p : Nat), .int .i64 (c : Nat)]) ∧ DcsIn w' (fun b => w.heap.size ≤ b ∧ b < w'.heap.size) ds (.slice A ds.length k) ∧ Below w.heap.size w w' := by
  refine (program_any s hs w).mono ?_
  rintro e w' ⟨v, rfl, ⟨A, n, k, rfl, ho⟩, hb⟩
  simp only [h] at ho ⊢
  have hd := OwnDc.dcs ho
  obtain ⟨A', k', hv⟩ := OwnDc.slice ho
  cases hv
  exact ⟨A, k, rfl, hd, hb⟩
theorem dc_one {w : World} {S : Nat → Prop} {d : Dc} {v : Value} (h : DcsIn w S [d] v) : ∃ b off k B c, v = .slice (some ⟨b, off, none⟩) 1 k ∧ S b ∧ 1 ≤ k ∧ w.cell? ⟨b, off + 6, none⟩ = some (.slice B d.body.length c) ∧ IsSms w S d.body (.slice B d.body.length c) := by
  obtain ⟨A, k, fp, fb, rfl, hc, -, hk, -, hs⟩ := h
  obtain ⟨b, off, rfl, hS, -, -, -, -, -, -, -, -, h6⟩ := hk 0 (by simp)
  have hs0 : IsSms w S d.body (fb 0) := hs 0 (by simp)
  obtain ⟨B, c, e, -⟩ := IsSms.slice hs0
  rw [e] at hs0 h6
  exact ⟨b, off, k, B, c, rfl, hS, by simpa using hc, by simpa using h6, hs0⟩
theorem sm_one {w : World} {S : Nat → Prop} {d : Sm} {v : Value} (h : IsSms w S [d] v) : ∃ b off k B c, v = .slice (some ⟨b, off, none⟩) 1 k ∧ S b ∧ 1 ≤ k ∧ w.cell? ⟨b, off + 4, none⟩ = some (.slice B d.exprs.length c) ∧ IsExs w S d.exprs (.slice B d.exprs.length c) := by
  cases h with
  | mk _ A k fe fb fl hc _ hA he _ _ =>
    obtain ⟨b, off, rfl, hS, -, -, -, -, -, -, h4, -, -⟩ := hA 0 (by simp)
    have he0 : IsExs w S d.exprs (fe 0) := he 0 (by simp)
    obtain ⟨B, c, e, -⟩ := IsExs.slice he0
    rw [e] at he0 h4
    exact ⟨b, off, k, B, c, rfl, hS, by simpa using hc, by simpa using h4, he0⟩
theorem ex_one {w : World} {S : Nat → Prop} {x : Ex} {v : Value} (h : IsExs w S [x] v) : ∃ b off k B c, v = .slice (some ⟨b, off, none⟩) 1 k ∧ S b ∧ 1 ≤ k ∧ w.cell? ⟨b, off, none⟩ = some (.int .i64 x.kind) ∧ w.cell? ⟨b, off + 1, none⟩ = some (.int .i64 x.pl) ∧ w.cell? ⟨b, off + 2, none⟩ = some (.int .i64 x.num) ∧ w.cell? ⟨b, off + 3, none⟩ = some (.string (strOf x.name)) ∧ w.cell? ⟨b, off + 4, none⟩ = some (.slice B x.args.length c) ∧ IsExs w S x.args (.slice B x.args.length c) := by
  cases h with
  | mk _ A k f hc _ hA he =>
    obtain ⟨b, off, rfl, hS, -, h0, h1, h2, h3, h4⟩ := hA 0 (by simp)
    have he0 : IsExs w S x.args (f 0) := he 0 (by simp)
    obtain ⟨B, c, e, -⟩ := IsExs.slice he0
    rw [e] at he0 h4
    exact ⟨b, off, k, B, c, rfl, hS, by simpa using hc, by simpa using h0, by simpa using h1, by simpa using h2, by simpa using h3, by simpa using h4, he0⟩
theorem in_str (s : ByteArray) : ((⟨#[116, 104, 114, 101, 97, 100, 32, 116, 32, 123, 32, 114, 101, 116, 117, 114, 110, 32]⟩ : ByteArray) ++ s ++ ⟨#[32, 59, 32, 125]⟩).data.toList = inT s.data.toList := by
  simp [inT, inA, inZ]
theorem in_size {s C : ByteArray} (hC : C = (⟨#[116, 104, 114, 101, 97, 100, 32, 116, 32, 123, 32, 114, 101, 116, 117, 114, 110, 32]⟩ : ByteArray) ++ s ++ ⟨#[32, 59, 32, 125]⟩) : C.size = s.size + 22 := by
  rw [Lib.size_eq, hC, in_str, Lib.size_eq]
  simp [inT, inA, inZ]

set_option maxRecDepth 100000 in
set_option maxHeartbeats 4000000 in
theorem parseIn_bad (w : World) (s C : ByteArray) (hC : Hid (C = (⟨#[116, 104, 114, 101, 97, 100, 32, 116, 32, 123, 32, 114, 101, 116, 117, 114, 110, 32]⟩ : ByteArray) ++ s ++ ⟨#[32, 59, 32, 125]⟩)) (hs : s.size ≤ 10000) {x : Ex} {p c : Nat} (h : exprP s.data.toList = (x, p, c)) (hc : c ≠ 0) {ds : List Dc} {q f : Nat} (hP : progM C.data.toList = (ds, q, f)) (hno : f = 0 → ∀ (d : Dc) (st : Sm) (v : Ex), ds = [d] → d.body = [st] → st.exprs = [v] → False) : Calls Tryd.prog 4 #[.string s] w fun e w' => e = .returned (.bool true) ∧ Below w.heap.size w w' := by
  have hCe := hC.out.symm
  have hcs : C.size ≤ 40000 := by have := in_size hC.out; omega
  have hq1 : ¬ 9223372036854775807 < 18 + s.size := by omega
  have hq2 : ¬ 9223372036854775807 < 18 + s.size + 4 := by omega
  have h1 : (decide ((10000 : Int) < (s.size : Nat))) = false := decide_eq_false (by omega)
  have hc0 : (((c : Nat) : Int) != 0) = true := by simp; omega
  have hc1 : (((c : Nat) : Int) == 0) = false := by simp; omega
  have HC1 := Lib.hid (exprL s (by omega) h)
  have HC2 := Lib.hid (programL C hcs hP)
  have HNO := Lib.hid hno
  clear h hP hno hC hcs
  go_enter Tryd.func4, Tryd.ntmps4
  go_wp2_with fail
  refine (alive4_any w).mono ?_
  rintro e w1 ⟨rfl, hb1⟩
  have HB1 := Lib.hid hb1
  clear hb1
  go_wp2_with fail
  refine (HC1.out _).mono ?_
  rintro e w2 ⟨A, k, rfl, -, hb2⟩
  have HB2 := Lib.hid (HB1.out.trans (hb2.mono HB1.out.size))
  clear hb2
  go_wp2_with fail
  refine (HC2.out _).mono ?_
  rintro e w3 ⟨D, n, rfl, hd, hb3⟩
  have hb4 := (HB2.out.alloc HB2.out.size (.cells #[.int .i64 x.kind, .int .i64 x.pl, .int .i64 x.num, .string (strOf x.name), .slice A x.args.length k] 32))
  have HB3 := Lib.hid (hb4.trans (hb3.mono hb4.size))
  have HEND := Lib.hid (HB3.out.alloc HB3.out.size (.cells #[.slice D ds.length n] 25))
  clear hb3 hb4 HC1 HC2 HB1 HB2
  by_cases hf : f = 0
  · subst hf
    by_cases hn : ds.length = 1
    · obtain ⟨d, hd1⟩ := List.length_eq_one_iff.1 hn
      subst hd1
      obtain ⟨b, off, k0, B, c0, hv, ⟨-, hS⟩, hk, h6, hbd⟩ := dc_one hd
      cases hv
      by_cases hn1 : d.body.length = 1
      · obtain ⟨st, hst⟩ := List.length_eq_one_iff.1 hn1
        rw [hst] at hbd
        obtain ⟨b1, off1, k1, B1, c1, hv, ⟨-, hS1⟩, hk1, h4, hex⟩ := sm_one hbd
        rw [hst] at h6
        cases hv
        have hn2 : (((st.exprs.length : Nat) : Int) != 1) = true := by
          by_cases hh : st.exprs.length = 1
          · obtain ⟨v, hv⟩ := List.length_eq_one_iff.1 hh
            exact (HNO.out rfl d st v rfl hst hv).elim
          · simp; omega
        clear hd hbd hex HNO hst hn1 hn
        go_wp2
        go_ret
        exact ⟨rfl, HEND.out⟩
      · have hn2 : (((d.body.length : Nat) : Int) != 1) = true := by simp; omega
        clear hd hbd HNO hn1 hn
        go_wp2
        go_ret
        exact ⟨rfl, HEND.out⟩
    · have hn2 : (((ds.length : Nat) : Int) != 1) = true := by simp; omega
      clear hd HNO hn
      go_wp2
      go_ret
      exact ⟨rfl, HEND.out⟩
  · have hf0 : (((f : Nat) : Int) != 0) = true := by simp; omega
    clear hd HNO
    go_wp2
    go_ret
    exact ⟨rfl, HEND.out⟩

set_option maxRecDepth 100000 in
set_option maxHeartbeats 4000000 in
theorem parseIn_long (w : World) (s C : ByteArray) (hC : Hid (C = (⟨#[116, 104, 114, 101, 97, 100, 32, 116, 32, 123, 32, 114, 101, 116, 117, 114, 110, 32]⟩ : ByteArray) ++ s ++ ⟨#[32, 59, 32, 125]⟩)) (hs : s.size ≤ 10000) {x : Ex} {p : Nat} (h : exprP s.data.toList = (x, p, 0)) {q : Nat} (hP : progM C.data.toList = ([], q, 12)) : Calls Tryd.prog 4 #[.string s] w fun e w' => e = .returned (.bool true) ∧ Below w.heap.size w w' := by
  have hCe := hC.out.symm
  have hcs : C.size ≤ 40000 := by have := in_size hC.out; omega
  have hq1 : ¬ 9223372036854775807 < 18 + s.size := by omega
  have hq2 : ¬ 9223372036854775807 < 18 + s.size + 4 := by omega
  have h1 : (decide ((10000 : Int) < (s.size : Nat))) = false := decide_eq_false (by omega)
  have HC1 := Lib.hid (exprL s (by omega) h)
  have HC2 := Lib.hid (programL C hcs hP)
  clear h hP hC hcs
  go_enter Tryd.func4, Tryd.ntmps4
  go_wp2_with fail
  refine (alive4_any w).mono ?_
  rintro e w1 ⟨rfl, hb1⟩
  have HB1 := Lib.hid hb1
  clear hb1
  go_wp2_with fail
  refine (HC1.out _).mono ?_
  rintro e w2 ⟨A, k, rfl, -, hb2⟩
  have HB2 := Lib.hid (HB1.out.trans (hb2.mono HB1.out.size))
  clear hb2
  go_wp2_with fail
  refine (HC2.out _).mono ?_
  rintro e w3 ⟨D, n, rfl, hd, hb3⟩
  have hb4 := (HB2.out.alloc HB2.out.size (.cells #[.int .i64 x.kind, .int .i64 x.pl, .int .i64 x.num, .string (strOf x.name), .slice A x.args.length k] 32))
  have HB3 := Lib.hid (hb4.trans (hb3.mono hb4.size))
  have HEND := Lib.hid (HB3.out.alloc HB3.out.size (.cells #[.slice D 0 n] 25))
  clear hb3 hb4 HC1 HC2 HB1 HB2 hd
  go_wp2
  go_ret
  exact ⟨rfl, HEND.out⟩

set_option maxRecDepth 100000 in
set_option maxHeartbeats 4000000 in
theorem parseIn_good (w : World) (s C : ByteArray) (hC : Hid (C = (⟨#[116, 104, 114, 101, 97, 100, 32, 116, 32, 123, 32, 114, 101, 116, 117, 114, 110, 32]⟩ : ByteArray) ++ s ++ ⟨#[32, 59, 32, 125]⟩)) (hs : s.size ≤ 10000) {x y : Ex} {p : Nat} (h : exprP s.data.toList = (x, p, 0)) (hP : progM C.data.toList = ([inD y], 0, 0)) (hxy : likeE false x y) : Calls Tryd.prog 4 #[.string s] w fun e w' => e = .returned (.bool true) ∧ Below w.heap.size w w' := by
  have hCe := hC.out.symm
  have hcs : C.size ≤ 40000 := by have := in_size hC.out; omega
  have hq1 : ¬ 9223372036854775807 < 18 + s.size := by omega
  have hq2 : ¬ 9223372036854775807 < 18 + s.size + 4 := by omega
  have h1 : (decide ((10000 : Int) < (s.size : Nat))) = false := decide_eq_false (by omega)
  have HC1 := Lib.hid (exprL s (by omega) h)
  have HC2 := Lib.hid (programL C hcs hP)
  have HXY := Lib.hid hxy
  clear h hP hC hcs hxy
  go_enter Tryd.func4, Tryd.ntmps4
  go_wp2_with fail
  refine (alive4_any w).mono ?_
  rintro e w1 ⟨rfl, hb1⟩
  have HB1 := Lib.hid hb1
  clear hb1
  go_wp2_with fail
  refine (HC1.out _).mono ?_
  rintro e w2 ⟨A, k, rfl, hx, hb2⟩
  have HB2 := Lib.hid (HB1.out.trans (hb2.mono HB1.out.size))
  have HX := Lib.hid hx
  clear hb2 hx
  go_wp2_with fail
  obtain ⟨g, hg⟩ : ∃ g, g = w2.heap.size := ⟨_, rfl⟩
  obtain ⟨X, hX⟩ : ∃ X, X = w2.alloc (.cells #[.int .i64 x.kind, .int .i64 x.pl, .int .i64 x.num, .string (strOf x.name), .slice A x.args.length k] 32) := ⟨_, rfl⟩
  have hrow : X.heap[g]? = some (.cells #[.int .i64 x.kind, .int .i64 x.pl, .int .i64 x.num, .string (strOf x.name), .slice A x.args.length k] 32 (0, 0)) := by rw [hX, hg]; exact heap_alloc_new _ _
  have hbX : Below w2.heap.size w2 X := by rw [hX]; exact below_new _ _
  rw [← hX, ← hg]
  clear hX
  refine (HC2.out _).mono ?_
  rintro e w3 ⟨D, n, rfl, hd, hb3⟩
  have hb23 := hbX.trans (hb3.mono hbX.size)
  have HB3 := Lib.hid (HB2.out.trans (hb23.mono HB2.out.size))
  have r3 := (hb3.block g (lt_of_heap hrow)).trans hrow
  have hx3 := Lib.hid (IsExs.keep (S' := fun b => b < w3.heap.size) HX.out (fun b hb => hb23.block b hb.2) (fun b hb => Nat.lt_of_lt_of_le hb.2 hb23.size))
  obtain ⟨b, off, k0, B, c0, hv, ⟨-, hS0⟩, hk, h6, hbd⟩ := dc_one hd
  cases hv
  obtain ⟨b1, off1, k1, B1, c1, hv, ⟨-, hS1⟩, hk1, h4, hex⟩ := sm_one hbd
  have h6' : w3.cell? ⟨b, off + 6, none⟩ = some (.slice B 1 c0) := h6
  cases hv
  obtain ⟨b2, off2, k2, B2, c2, hv, ⟨-, hS2⟩, hk2, m0, m1, m2, m3, m4, hy⟩ := ex_one (show IsExs w3 _ [y] _ from hex)
  have h4' : w3.cell? ⟨b1, off1 + 4, none⟩ = some (.slice B1 1 c1) := h4
  cases hv
  have hy3 := Lib.hid (IsExs.keep (S' := fun b => b < w3.heap.size) hy (fun b hb => rfl) (fun b hb => hb.2))
  obtain ⟨l1, -, l3, l4, l5⟩ := likeE_parts HXY.out
  have HSE : Hid (∀ w', Below w3.heap.size w3 w' → w3.heap.size ≤ w'.heap.size → Calls Tryd.prog 9 #[.agg #[.int .i64 x.kind, .int .i64 x.pl, .int .i64 x.num, .string (strOf x.name), .slice A x.args.length k], .agg #[.int .i64 y.kind, .int .i64 y.pl, .int .i64 y.num, .string (strOf y.name), .slice B2 y.args.length c2], .bool false, .int .i64 300] w' fun e w2 => e = .returned (.bool true) ∧ Below w'.heap.size w' w2) := Lib.hid (fun w' h1 h2 => by
    rw [← l1, ← l3, ← l4]
    exact sameexL_any hx3.out false _ _ hy3.out l5 _ _ _ _ _ _ _ (fun h => by cases h) h1 h2 (by omega) (by omega))
  clear h4 h6 hd hbd hex hy hb3 hb23 l1 l3 l4 l5 HC1 HC2 HXY HX hrow hbX HB1 HB2 hg
  have t0 : g < w3.heap.size := lt_of_heap r3
  go_wp2_with fail
  have hbX3 := below_new w3 (.cells #[.slice (some ⟨b, off, none⟩) 1 n] 25)
  have r9 := heap_alloc_new w3 (.cells #[.slice (some ⟨b, off, none⟩) 1 n] 25)
  have hsz3 : w3.heap.size ≤ (w3.alloc (.cells #[.slice (some ⟨b, off, none⟩) 1 n] 25)).heap.size := by simp
  have HEND := Lib.hid (HB3.out.alloc HB3.out.size (.cells #[.slice (some ⟨b, off, none⟩) 1 n] 25))
  generalize w3.alloc (.cells #[.slice (some ⟨b, off, none⟩) 1 n] 25) = X3 at hbX3 r9 hsz3 HEND ⊢
  have hS := Lib.hid (HSE.out X3.drew hbX3.drew (by simpa using hsz3))
  have r4 := (hbX3.block g t0).trans r3
  have h6x := (World.cell?_of_block (hbX3.block b hS0)).trans h6'
  have h4x := (World.cell?_of_block (hbX3.block b1 hS1)).trans h4'
  have m0x := (World.cell?_of_block (hbX3.block b2 hS2)).trans m0
  have m1x := (World.cell?_of_block (hbX3.block b2 hS2)).trans m1
  have m2x := (World.cell?_of_block (hbX3.block b2 hS2)).trans m2
  have m3x := (World.cell?_of_block (hbX3.block b2 hS2)).trans m3
  have m4x := (World.cell?_of_block (hbX3.block b2 hS2)).trans m4
  generalize w3.heap.size = g3 at r9 ⊢
  have q0 := cell_of_row X3 g 0 _ _ (0, 0) r4
  have q1 := cell_of_row X3 g 1 _ _ (0, 0) r4
  have q2 := cell_of_row X3 g 2 _ _ (0, 0) r4
  have q3 := cell_of_row X3 g 3 _ _ (0, 0) r4
  have q4 := cell_of_row X3 g 4 _ _ (0, 0) r4
  have q9 := cell_of_row X3 g3 0 _ _ (0, 0) r9
  simp at q0 q1 q2 q3 q4 q9
  clear r3 r4 r9 h6' h4' m0 m1 m2 m3 m4 HSE hbX3 hsz3 hS0 hS1 hS2 t0
  go_still_tail 41, (by kernel_rfl)
  change wpList _ _ _ _ _ X3.drew
  go_wp2_with (first
    | ((with_reducible refine hS.out.mono ?_); rintro e w4 ⟨rfl, hb4⟩))
  go_ret
  exact ⟨rfl, HEND.out.drew.trans (hb4.mono (by have := HEND.out.size; simpa using this))⟩

theorem parseIn_walk (w : World) (s : ByteArray) : Calls Tryd.prog 4 #[.string s] w fun e w' => e = .returned (.bool true) ∧ Below w.heap.size w w' := by
  by_cases hl : 10000 < s.size
  · have h1 : (decide ((10000 : Int) < (s.size : Nat))) = true := decide_eq_true (by omega)
    go_enter Tryd.func4, Tryd.ntmps4
    go_wp2_with fail
    refine (alive4_any w).mono ?_
    rintro e w1 ⟨rfl, hb1⟩
    go_wp2
    go_ret
    exact ⟨rfl, hb1⟩
  · obtain ⟨C, hC⟩ : ∃ C, C = (⟨#[116, 104, 114, 101, 97, 100, 32, 116, 32, 123, 32, 114, 101, 116, 117, 114, 110, 32]⟩ : ByteArray) ++ s ++ ⟨#[32, 59, 32, 125]⟩ := ⟨_, rfl⟩
    have hCt : C.data.toList = inT s.data.toList := by rw [hC, in_str]
    have hsl : s.data.toList.length ≤ 16000 := by rw [← Lib.size_eq]; omega
    obtain ⟨x, p, c, h⟩ : ∃ x p c, exprP s.data.toList = (x, p, c) := ⟨_, _, _, rfl⟩
    by_cases hc : c = 0
    · subst hc
      rcases in_good hsl h with ⟨q, h2⟩ | ⟨y, h2, h3⟩
      · exact parseIn_long w s C (Lib.hid hC) (by omega) h (hCt ▸ h2)
      · exact parseIn_good w s C (Lib.hid hC) (by omega) h (hCt ▸ h2) h3
    · obtain ⟨ds, q, f, h2⟩ : ∃ ds q f, progM C.data.toList = (ds, q, f) := ⟨_, _, _, rfl⟩
      refine parseIn_bad w s C (Lib.hid hC) (by omega) h hc h2 fun hf d st v hd hb hx => ?_
      subst hf
      exact in_bad hsl h hc (hCt ▸ h2) d hd st hb v hx

section
open Go Go.ChangeShapes Go.WideShapes Go.ChangeAt Go.ChangeMaps Go.RowKit

theorem shutTI {H : Type} {enc : TypeId × Value → H} {W : World} {base : Nat} {sp : Nat → Bool} {held : Bool} (b : Bool) : DataW.Trod enc Tryd.prog W base sp held 4 (.bool b) (.lit (.bool b)) [] :=
  ⟨1, by simp [DataW.trod, Value.cells, Tryd.underlying4]⟩
set_option maxRecDepth 100000 in
theorem parseIn_lifted (os : Os) (started : os.Started) (H : Type) (enc : TypeId × Value → H) :
    ReturnsInHanded {} Tryd.checked os 4 .any (fun w args => (Rows.parseInSpec.pre enc Tryd.prog Tryd.f4 Rows.parseInRow.domain false w args ∧ laidMetH Tryd.prog laidL w) ∧ sizedMet enc Tryd.prog Tryd.f4 (OpenSpec.ofChange Rows.parseInSpec) false w args)
      (Rows.parseInSpec.post enc Tryd.prog Tryd.f4 false true false false) := by
  refine returnsInHanded_of_change_and (C := Tryd.checked) (X := fun w _ => laidMetH Tryd.prog laidL w) (fun _ _ _ hh h => h.of_heap hh) ownKnob_none started (by kernel_rfl) Tryd.func4
    (ChangeSpec.witness_shaped (enc := enc) (C := Tryd.checked) (os := os) (X := fun w _ => laidMetH Tryd.prog laidL w) false (World.doorLaid Tryd.prog 200 os) #[.string ⟨#[]⟩] 8 rfl (World.shaped_of_RefB (by kernel_rfl) (by kernel_rfl)) (by kernel_rfl) (by kernel_rfl) (by kernel_rfl) (door_met os _)) ?_
  intro W base args ds gs before hval0 hW _ hwt hL _
  have hval : ∀ (j : Nat) t v, Tryd.f4.params[j]? = some t → args[j]? = some v → Value.okWide Tryd.prog W .any base t v := hval0
  have hW' := hW
  obtain ⟨p, q, hA0, hV, rfl, _, _⟩ := hW
  have hA : DataW.TrodAll enc Tryd.prog W 0 (fun _ => true) true Tryd.f4.params.toList args.toList ds p := hA0
  rw [Tryd.params4] at hA hval
  obtain ⟨v0, vs0, d0, ds0, p0, q0, hargs, rfl, rfl, h0, r0⟩ := trodAll_cons hA
  obtain ⟨rfl, rfl, rfl⟩ := trodAll_nil r0
  obtain rfl : args = #[v0] := by cases args; simp_all
  obtain ⟨rfl, rfl⟩ := trodVars_none hV
  obtain ⟨x0, rfl, rfl, rfl, w0⟩ := open_string Tryd.underlying9 (hval 0 9 v0 rfl rfl) h0
  clear hA0 hval0
  simp only [List.append_nil] at hW'
  have hlt := fun x hx => hW'.lt x hx
  refine (parseIn_walk W x0).mono fun e W' ⟨he, hb⟩ => ?_
  subst he
  exact ⟨_, rfl, _, _, _, [], _, [], hW', trodAll_mk1 (shutTI _), (trodAll_cons_mk (shut_string Tryd.underlying9 w0) trodAll_mk0), rfl, hb.frame _, fun h => by cases h⟩

theorem parseIn_holds : Rows.ParseInSaid :=
  OpenClaim.holds_of_wide 4 Tryd.f4 rfl rfl rfl rfl rfl rfl rfl ⟨rfl, rfl, rfl, rfl, rfl⟩ rfl rfl rfl rfl rfl (by kernel_rfl) Tryd.func4 (by kernel_rfl)
    (of_decide_eq_true (by kernel_rfl)) (by unfold Func.isWrapper; first | (rw [if_pos (by decide +kernel)]; kernel_rfl) | (rw [if_neg (by decide +kernel)]; exact ⟨rfl, rfl⟩))
    (fun os started H enc _ => parseIn_lifted os started H enc)

theorem parseIn_card_holds : Rows.ParseInCardSaid :=
  Claim7.holds_tied_plain_at .later [] [.data, .data, .data, .sentinel, .sentinel] true (true, "9e61747805e5a0e9f88a82d6fc0c4c75832224f27e25dc4f036e2a236c44f526") true
    parseIn_holds (fun _ h => by cases h) (by kernel_rfl) (fun _ h => by cases h) parseIn_row_tie rfl ⟨rfl, rfl⟩ (by kernel_rfl) rfl
    (fun f fn hf hfn => by
      obtain rfl : f = 4 := Option.some.inj ((show Tryd.prog.funcNamed "portcullis/portcullislaw04.ParseIn" = some 4 by kernel_rfl).symm.trans hf) |>.symm
      obtain rfl : fn = Tryd.f4 := (Option.some.inj (Tryd.func4.symm.trans hfn)).symm
      exact ⟨by kernel_rfl, fun j t ht => by
        rw [Tryd.params4] at ht
        have hm : t ∈ [9] := by simpa using Array.mem_of_getElem? ht
        have hall : ([9].all fun u => !Tryd.prog.wantsStandIn u) = true := by kernel_rfl
        exact (show Tryd.prog.wantsStandIn t = false by simpa using List.all_eq_true.1 hall t hm)⟩)
    (by kernel_rfl)
end

end Go.Proofs.YtkmpnlbppdekaaaDoor
