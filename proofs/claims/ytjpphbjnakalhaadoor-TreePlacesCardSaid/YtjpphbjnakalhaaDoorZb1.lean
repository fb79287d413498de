/- Vh -/
import Derived.Test.YtjpphbjnakalhaaDoorZa7
import Derived.Lib.AppendIntMem
import Derived.StillTailTactics
import Derived.IntWalk
set_option linter.unusedVariables false
namespace Go.Proofs.YtjpphbjnakalhaaDoor
open Go.RowKit
theorem alloc_cell {w : World} {p : Addr} {v : Value} (h : w.cell? p = some v) : ∀ o, (w.alloc o).cell? p = some v := fun o => (World.cell?_of_block (w := w) (Below.heap_alloc w o p.block (lt_of_cell h))).trans h
theorem alloc_frozen {w : World} {p : Addr} {v : Value} (h : w.cell? p = some v) (hz : w.frozen? p = false) : ∀ o, (w.alloc o).frozen? p = false := fun o => (World.frozen?_of_block (w := w) (Below.heap_alloc w o p.block (lt_of_cell h))).trans hz
theorem takeFirst_no (p : Addr) (A : Option Addr) (c : Nat) (w : World) (hc : w.cell? p = some (.slice A 0 c)) :
    Calls Tryd.prog 47 #[.pointer (some p)] w fun e w' => e = boom ∧ Below w.heap.size w w' := by
  have ac := alloc_cell hc
  go_enter Tryd.func47, Tryd.ntmps47
  go_wp2_with fail
  refine (must_no _).mono ?_
  rintro e w1 ⟨rfl, rfl⟩
  unfold boom
  go_wp2
  exact ⟨rfl, rfl, (Below.refl _ w).alloc (Nat.le_refl _) _⟩
theorem blk_set {w : World} {g : Nat} {k p n : Int} {s : ByteArray} {v : Value} (h : ExBlk w g k p n s v) {q : Addr} (hq : q.block ≠ g) (u : Value) : ExBlk (w.setCell q u) g k p n s v := (Below.heap_setCell _ _ _ _ (fun e => hq e.symm)).trans h
set_option maxHeartbeats 1000000 in
theorem takeFirst_yes (p : Addr) (b off n c : Nat) (w : World) (k pl u : Int) (s : ByteArray) (A5 : Option Addr) (n5 c5 : Nat) (hc : w.cell? p = some (.slice (some ⟨b, off, none⟩) (n + 1) c)) (hz : w.frozen? p = false) (hn : n + 1 ≤ c)
    (r0 : w.cell? ⟨b, off, none⟩ = some (.int .i64 k)) (r1 : w.cell? ⟨b, off + 1, none⟩ = some (.int .i64 pl)) (r2 : w.cell? ⟨b, off + 2, none⟩ = some (.int .i64 u)) (r3 : w.cell? ⟨b, off + 3, none⟩ = some (.string s)) (r4 : w.cell? ⟨b, off + 4, none⟩ = some (.slice A5 n5 c5)) :
    Calls Tryd.prog 47 #[.pointer (some p)] w fun e w' => e = .returned (.agg #[.int .i64 k, .int .i64 pl, .int .i64 u, .string s, .slice A5 n5 c5]) ∧
      ∃ w1 off', Below w.heap.size w w1 ∧ Below w.heap.size (w1.setCell p (.slice (some ⟨b, off', none⟩) n (c - 1))) w' ∧ (0 < n → off' = off + 5) := by
  have ac := alloc_cell hc
  obtain ⟨X, hX⟩ : ∃ X : World, X = w.alloc (.cells #[.int .i64 0, .int .i64 0, .int .i64 0, .string ⟨#[]⟩, .slice none 0 0] 40) := ⟨_, rfl⟩
  have hbX : Below w.heap.size w X := by rw [hX]; exact (Below.refl _ w).alloc (Nat.le_refl _) _
  have up : ∀ {q : Addr} {v : Value}, w.cell? q = some v → X.cell? q = some v := fun h => (hbX.cell (lt_of_cell h)).trans h
  have xz : X.frozen? p = false := (hbX.frozen (lt_of_cell hc)).trans hz
  have xc := up hc
  have x0 := alloc_cell (up r0)
  have x1 := alloc_cell (up r1)
  have x2 := alloc_cell (up r2)
  have x3 := alloc_cell (up r3)
  have x4 := alloc_cell (up r4)
  have y0 := up r0
  have y1 := up r1
  have y2 := up r2
  have y3 := up r3
  have y4 := up r4
  have yc := alloc_cell xc
  have yz := alloc_frozen xc xz
  have hpb : p.block ≠ X.heap.size := fun e => by have := lt_of_cell xc; omega
  have hblk := ExBlk.new X k pl u s (.slice A5 n5 c5)
  have hset := fun v => blk_set hblk hpb v
  have z0 := fun v => (hset v).c0
  have z1 := fun v => (hset v).c1
  have z2 := fun v => (hset v).c2
  have z3 := fun v => (hset v).c3
  have z4 := fun v => (hset v).c4
  have hbY : Below w.heap.size w (X.alloc (.cells #[.int .i64 k, .int .i64 pl, .int .i64 u, .string s, .slice A5 n5 c5] 40)) := hbX.alloc hbX.size _
  have HBY := Lib.hid hbY
  have hres : ExBlk (X.alloc (.cells #[.int .i64 k, .int .i64 pl, .int .i64 u, .string s, .slice A5 n5 c5] 40)) w.heap.size 0 0 0 ⟨#[]⟩ (.slice none 0 0) := by
    have h := ExBlk.new w 0 0 0 ⟨#[]⟩ (.slice none 0 0)
    rw [← hX] at h
    exact h.alloc (by rw [hX]; simp) _
  have hps : p.block ≠ w.heap.size := fun e => by have := lt_of_cell hc; omega
  have hrs := fun v => blk_set hres hps v
  have m0 := fun v => (hrs v).c0
  have m1 := fun v => (hrs v).c1
  have m2 := fun v => (hrs v).c2
  have m3 := fun v => (hrs v).c3
  have m4 := fun v => (hrs v).c4
  have l0 := fun v => (hrs v).fr 0
  have l1 := fun v => (hrs v).fr 1
  have l2 := fun v => (hrs v).fr 2
  have l3 := fun v => (hrs v).fr 3
  have l4 := fun v => (hrs v).fr 4
  clear hblk hset hpb hbY hres hps hrs
  by_cases hc1 : c = 1
  · subst hc1
    obtain rfl : n = 0 := by omega
    go_enter Tryd.func47, Tryd.ntmps47
    clear up r0 r1 r2 r3 r4 hbX
    have HX := Lib.hid hX
    go_wp2_with fail
    clear hc ac hz
    rw [← HX.out]
    clear hX
    refine (must_yes _).mono ?_
    rintro e w1 ⟨rfl, rfl⟩
    go_wp2_with fail
    all_goals (refine bodyPost_ret (v := .agg #[.int .i64 k, .int .i64 pl, .int .i64 u, .string s, .slice A5 n5 c5]) ?_ rfl ⟨rfl, X.alloc (.cells #[.int .i64 k, .int .i64 pl, .int .i64 u, .string s, .slice A5 n5 c5] 40), off, HBY.out, ?_, fun h => by omega⟩; simp [results, Tryd.results47, go_sem, m0, m1, m2, m3, m4]; refine Below.setCell ?_ (by simp) _; refine Below.setCell ?_ (by simp) _; refine Below.setCell ?_ (by simp) _; refine Below.setCell ?_ (by simp) _; refine Below.setCell ?_ (by simp) _; exact Below.refl _ _)
  · have hc2 : ¬ c - 1 = 0 := by omega
    go_enter Tryd.func47, Tryd.ntmps47
    clear up r0 r1 r2 r3 r4 hbX
    have HX := Lib.hid hX
    go_wp2_with fail
    clear hc ac hz
    rw [← HX.out]
    clear hX
    refine (must_yes _).mono ?_
    rintro e w1 ⟨rfl, rfl⟩
    go_wp2_with fail
    all_goals (refine bodyPost_ret (v := .agg #[.int .i64 k, .int .i64 pl, .int .i64 u, .string s, .slice A5 n5 c5]) ?_ rfl ⟨rfl, X.alloc (.cells #[.int .i64 k, .int .i64 pl, .int .i64 u, .string s, .slice A5 n5 c5] 40), off + 5, HBY.out, ?_, fun h => by omega⟩; simp [results, Tryd.results47, go_sem, m0, m1, m2, m3, m4]; refine Below.setCell ?_ (by simp) _; refine Below.setCell ?_ (by simp) _; refine Below.setCell ?_ (by simp) _; refine Below.setCell ?_ (by simp) _; refine Below.setCell ?_ (by simp) _; exact Below.refl _ _)
theorem takeNum_yes (p : Addr) (n a b : Int) (w : World) (hc : w.cell? p = some (.int .i64 n)) (hz : w.frozen? p = false) (h1 : a ≤ n) (h2 : n ≤ b) (l1 : -9223372036854775808 ≤ n) (l2 : n ≤ 9223372036854775807)
    (htab : ∀ u, Lib.TabIs Tryd.prog (w.setCell p u) "internal/strconv.uint64pow10" .u64 Lib.pow10Tab) :
    Calls Tryd.prog 26 #[.pointer (some p), .int .i64 a, .int .i64 b] w fun e w' => e = .returned (.string (strOf (Lib.itoa n))) ∧ Below w.heap.size (w.setCell p (.int .i64 0)) w' := by
  have hd : decide (n ≤ b) = true := by simpa using h2
  have HT := Lib.hid (htab (.int .i64 0))
  clear htab
  go_enter Tryd.func26, Tryd.ntmps26
  go_wp2_with fail
  refine (must_yes _).mono ?_
  rintro e w1 ⟨rfl, rfl⟩
  go_wp2_with fail
  refine (take_int p n _ hc hz).mono ?_
  rintro e w1 ⟨rfl, hw1⟩
  rw [← hw1] at HT
  go_wp2_with fail
  rw [← hw1]
  refine (strconv_Itoa n l1 l2 _ HT.out).mono ?_
  rintro e w2 ⟨rfl, k, os, rfl⟩
  go_wp2_with fail
  go_ret
  exact ⟨rfl, Lib.below_grow _ _ (by simp) _ _⟩
theorem takeNum_no (p : Addr) (n a b : Int) (w : World) (hc : w.cell? p = some (.int .i64 n)) (h : ¬ (a ≤ n ∧ n ≤ b)) :
    Calls Tryd.prog 26 #[.pointer (some p), .int .i64 a, .int .i64 b] w fun e w' => e = boom ∧ w = w' := by
  by_cases h1 : a ≤ n
  · have hd : decide (n ≤ b) = false := by rw [decide_eq_false_iff_not]; exact fun h2 => h ⟨h1, h2⟩
    clear h
    go_enter Tryd.func26, Tryd.ntmps26
    go_wp2_with fail
    refine (must_no _).mono ?_
    rintro e w1 ⟨rfl, rfl⟩
    unfold boom
    go_wp2
    exact ⟨rfl, rfl, rfl⟩
  · clear h
    go_enter Tryd.func26, Tryd.ntmps26
    go_wp2_with fail
    refine (must_no _).mono ?_
    rintro e w1 ⟨rfl, rfl⟩
    unfold boom
    go_wp2
    exact ⟨rfl, rfl, rfl⟩
theorem takeBool_yes (p : Addr) (n : Int) (w : World) (hc : w.cell? p = some (.int .i64 n)) (hz : w.frozen? p = false) (h : n = 0 ∨ n = 1) :
    Calls Tryd.prog 60 #[.pointer (some p)] w fun e w' => e = .returned (.string (strOf (if n = 1 then [116, 114, 117, 101] else [102, 97, 108, 115, 101]))) ∧ w' = w.setCell p (.int .i64 0) := by
  rcases h with rfl | rfl
  all_goals
    go_enter Tryd.func60, Tryd.ntmps60
    go_wp2_with fail
    refine (must_yes _).mono ?_
    rintro e w1 ⟨rfl, rfl⟩
    go_wp2_with fail
    refine (take_int p _ _ hc hz).mono ?_
    rintro e w1 ⟨rfl, hw1⟩
    go_wp2_with fail
    go_ret
    exact ⟨rfl, rfl⟩
theorem takeBool_no (p : Addr) (n : Int) (w : World) (hc : w.cell? p = some (.int .i64 n)) (h : ¬ (n = 0 ∨ n = 1)) :
    Calls Tryd.prog 60 #[.pointer (some p)] w fun e w' => e = boom ∧ w = w' := by
  have h0 : ¬ n = 0 := fun e => h (.inl e)
  have hd : (n == 0 || n == 1) = false := by rw [Bool.or_eq_false_iff]; exact ⟨by simpa using h0, by simpa using fun e => h (.inr e)⟩
  clear h
  go_enter Tryd.func60, Tryd.ntmps60
  go_wp2_with fail
  refine (must_no _).mono ?_
  rintro e w1 ⟨rfl, rfl⟩
  unfold boom
  go_wp2
  exact ⟨rfl, rfl, rfl⟩
set_option maxRecDepth 100000 in
theorem takeSign_any (p : Addr) (s : List UInt8) (g n c : Nat) (zs : List ByteArray) (w : World) (hc : w.cell? p = some (.string (strOf s))) (hz : w.frozen? p = false) (hn : n = zs.length) (hb : n ≤ 1000)
    (hcs : ∀ j, j < zs.length → w.cell? ⟨g, 0 + j, none⟩ = some (.string (zs.getD j ⟨#[]⟩))) (t : Bool) (ht : t = Lib.containsS zs (strOf s)) :
    Calls Tryd.prog 61 #[.pointer (some p), .slice (some ⟨g, 0, none⟩) n c] w fun e w' => (t = true → e = .returned (.string (strOf s)) ∧ w' = w.setCell p (.string ⟨#[]⟩)) ∧ (t = false → e = boom ∧ w = w') := by
  have hcon := slices_Contains_string g 0 n c zs (strOf s) w (by omega) (by omega) hcs
  rw [hn, List.take_length, ← ht, ← hn] at hcon
  have HC := Lib.hid hcon
  clear hcon hcs ht hn hb
  cases t with
  | true =>
    go_enter Tryd.func61, Tryd.ntmps61
    go_wp2_with fail
    refine HC.out.mono ?_
    rintro e w1 ⟨rfl, rfl⟩
    go_wp2_with fail
    refine (must_yes _).mono ?_
    rintro e w2 ⟨rfl, rfl⟩
    go_wp2_with fail
    refine (take_string p _ _ hc hz).mono ?_
    rintro e w2 ⟨rfl, hw2⟩
    go_wp2_with fail
    go_ret
    exact ⟨fun _ => ⟨rfl, rfl⟩, fun h => by cases h⟩
  | false =>
    go_enter Tryd.func61, Tryd.ntmps61
    go_wp2_with fail
    refine HC.out.mono ?_
    rintro e w1 ⟨rfl, rfl⟩
    go_wp2_with fail
    refine (must_no _).mono ?_
    rintro e w2 ⟨rfl, rfl⟩
    unfold boom
    go_wp2
    exact ⟨rfl, fun h => by (cases h), fun _ => ⟨rfl, rfl⟩⟩
end Go.Proofs.YtjpphbjnakalhaaDoor
