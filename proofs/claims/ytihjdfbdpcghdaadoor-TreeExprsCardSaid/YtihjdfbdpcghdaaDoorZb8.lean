/- Kh Vh -/
import Derived.Test.YtihjdfbdpcghdaaDoorZb4
import Derived.IntWalk
import Derived.Lib.AppendIntMem
section
set_option linter.unusedVariables false
set_option linter.unusedSimpArgs false
namespace Go.Proofs.YtihjdfbdpcghdaaDoor
open Go.RowKit
theorem joinT_short {K : Nat} : ∀ (T : List (List UInt8)), (∀ t ∈ T, t.length ≤ K) → (joinT T).length ≤ (K + 1) * T.length
  | [], _ => by simp [joinT]
  | [t], h => by
    have := h t (by simp)
    simp [joinT]; omega
  | t :: u :: r, h => by
    have h1 := h t (by simp)
    have h2 := joinT_short (u :: r) (fun x hx => h x (by simp [hx]))
    show (t ++ 32 :: joinT (u :: r)).length ≤ _
    rw [List.length_append, List.length_cons, List.length_cons, Nat.mul_add, Nat.mul_one]
    omega
theorem itoa_short {n : Int} (h0 : 0 ≤ n) (h : n < 1000000000000000000) : (Lib.itoa n).length ≤ 18 := by
  unfold Lib.itoa
  rw [if_neg (by omega), ← revD_dec, List.length_reverse]
  exact revD_len n.toNat 18 (by omega) (by omega)
theorem nameB_len {s : List UInt8} (h : nameB s = true) : s.length ≤ 16 := by
  rw [name_said] at h
  simp at h
  exact h.1.1
theorem ops_short {s : List UInt8} (h : s ∈ opsL) : s.length ≤ 2 := by
  unfold opsL at h
  simp at h
  rcases h with rfl | rfl | rfl | rfl | rfl | rfl | rfl | rfl | rfl | rfl | rfl <;> decide
theorem head_short {k n c : Int} {s : List UInt8} (k1 : 1 ≤ k) (k2 : k ≤ 13) (h : headB k n s c = true) : s.length ≤ 16 ∧ (k = 1 → (Lib.itoa n).length ≤ 18) := by
  obtain ⟨⟨h1, h2⟩, _⟩ := (head_iff k1 k2).1 h
  constructor
  · unfold nameK at h2
    split at h2
    · exact nameB_len h2
    · split at h2
      · have := of_decide_eq_true h2
        rcases this with rfl | rfl <;> decide
      · split at h2
        · have := ops_short (of_decide_eq_true h2); omega
        · rw [of_decide_eq_true h2]; decide
  · rintro rfl
    unfold numB at h1
    have := of_decide_eq_true h1
    exact itoa_short (by omega) (by omega)
theorem shape_short {k n c : Int} {s : List UInt8} (h : headB k n s c = true) (k1 : 1 ≤ k) (k2 : k ≤ 13) {xs : List (List (List UInt8))} (hx : xs.length = argsN k) (hs : ∀ x ∈ xs, ∀ t ∈ x, t.length ≤ 18) : ∀ t ∈ shapeE k n s xs, t.length ≤ 18 := by
  obtain ⟨h1, h2⟩ := head_short k1 k2 h
  have hw : ∀ (ws : List (List UInt8)), (∀ t ∈ ws, t.length ≤ 18) → True := fun _ _ => trivial
  intro t ht
  unfold argsN at hx
  have hs1 : s.length ≤ 18 := by omega
  rcases kinds k1 k2 with rfl | rfl | rfl | rfl | rfl | rfl | rfl | rfl | rfl | rfl | rfl | rfl | rfl
  all_goals rcases xs with _ | ⟨a, _ | ⟨b, _ | ⟨d, _ | ⟨e, r⟩⟩⟩⟩
  all_goals
    first
    | (exfalso; simp at hx; done)
    | skip
  · simp [shapeE] at ht; rw [ht]; exact h2 rfl
  · simp only [shapeE] at ht
    split at ht
    · simp at *
    · split at ht
      · split at ht <;> (simp at ht; rw [ht]; decide)
      · simp at *
  · simp [shapeE] at ht; rw [ht]; decide
  · simp [shapeE] at ht; rw [ht]; exact hs1
  · simp [shapeE] at ht
    rcases ht with ht | rfl | rfl
    · exact hs a (by simp) t ht
    · decide
    · exact hs1
  · simp [shapeE] at ht
    rcases ht with ht | rfl | ht | rfl
    · exact hs a (by simp) t ht
    · decide
    · exact hs b (by simp) t ht
    · decide
  · simp [shapeE] at ht
    rcases ht with ht | rfl | ht | rfl | ht | rfl
    · exact hs a (by simp) t ht
    · decide
    · exact hs b (by simp) t ht
    · decide
    · exact hs d (by simp) t ht
    · decide
  · simp [shapeE] at ht
    rcases ht with rfl | rfl | ht | rfl
    · decide
    · decide
    · exact hs a (by simp) t ht
    · decide
  · simp [shapeE] at ht
    rcases ht with rfl | rfl | ht | rfl
    · decide
    · exact hs1
    · exact hs a (by simp) t ht
    · decide
  · simp [shapeE] at ht
    rcases ht with rfl | ht | rfl | ht | rfl
    · decide
    · exact hs a (by simp) t ht
    · exact hs1
    · exact hs b (by simp) t ht
    · decide
  · simp [shapeE] at ht
    rcases ht with rfl | rfl
    · decide
    · exact hs1
  · simp [shapeE] at ht
    rcases ht with rfl | rfl | ht | rfl
    · decide
    · decide
    · exact hs a (by simp) t ht
    · decide
  · simp [shapeE] at ht
    rcases ht with rfl | rfl
    · decide
    · exact hs1
mutual
theorem penE_short : ∀ (e : Ex) (d c : Int) (T : List (List UInt8)), penE e d c = some T → ∀ t ∈ T, t.length ≤ 18
  | .mk k p n s es, d, c, T, h => by
    obtain ⟨k1, k2, h2, h3, xs, hp, hl, rfl⟩ := penE_parts h
    exact shape_short h2 k1 k2 (hl.trans h3) (penAs_short es (behindB k) d c xs hp)
theorem penAs_short : ∀ (es : List Ex) (b : Bool) (d c : Int) (xs : List (List (List UInt8))), penAs es b d c = some xs → ∀ x ∈ xs, ∀ t ∈ x, t.length ≤ 18
  | [], b, d, c, xs, h => by rw [penAs] at h; cases h; simp
  | e :: es, b, d, c, xs, h => by
    rw [penAs] at h
    split at h
    · cases h
    · rename_i x h1
      split at h
      · cases h
      · rename_i ys h2
        cases h
        intro y hy
        rcases List.mem_cons.1 hy with rfl | hy
        · split at h1
          · exact penE_short e _ _ _ h1
          · exact penE_short e _ _ _ h1
        · exact penAs_short es false d c ys h2 y hy
end
theorem rise_fin {C : Ts} (h : lim C = none) : fin C = ([], 23) := by unfold fin; rw [h]
theorem fin_none : fin none = ([], 23) := rise_fin rfl
theorem fin_long {T : List (List UInt8)} (h : ¬ fits T) : fin (some T) = ([], 23) := rise_fin (by unfold lim; simp [h])
theorem fin_fits {T : List (List UInt8)} (h : fits T) : fin (some T) = (joinT T, 0) := by unfold fin lim; simp [h]
set_option maxHeartbeats 2000000 in
set_option maxRecDepth 100000 in
theorem refShowExpr_any (w : World) (e : Ex) {v : Value} (hin : IsExs w (· < w.heap.size) e.args v) (hs : smallEs 40000 e.args) (hn : e.name.length ≤ 40000) :
    Calls Tryd.prog 8 #[.agg #[.int .i64 e.kind, .int .i64 e.pl, .int .i64 e.num, .string (strOf e.name), v]] w fun r w' => r = .returned (.tuple #[.string (strOf (fin (penE e 2 0)).1), .int .i64 (fin (penE e 2 0)).2]) ∧ Below w.heap.size w w' := by
  obtain ⟨A, c, rfl, hlc, hM⟩ := hin.slice
  obtain ⟨n, hn'⟩ : ∃ n, n = e.args.length := ⟨_, rfl⟩
  rw [← hn'] at hin ⊢
  have hleft := exprB_pen e 2 0 4096 (by omega)
  have HEX : Hid (∀ wx, Below w.heap.size w wx → Calls Tryd.prog 18 #[.agg #[.int .i64 e.kind, .int .i64 e.pl, .int .i64 e.num, .string (strOf e.name), .slice A n c], .int .i64 2, .int .i64 0, .int .i64 4096] wx
      fun r w' => r = .returned (.int .i64 (exprB e 2 0 4096)) ∧ Below wx.heap.size wx w') := Lib.hid fun wx hb => by
    have := refExpr_any hin e.kind e.pl e.num 2 0 4096 e.name wx hb hb.size hn hs (by omega) (by omega) (by omega) (by omega) (by omega)
    rw [Ex.eta] at this
    exact this
  have HTK : Hid (∀ T wx, penE e 2 0 = some T → T.length ≤ 100000 → Below w.heap.size w wx → Calls Tryd.prog 19 #[.agg #[.int .i64 e.kind, .int .i64 e.pl, .int .i64 e.num, .string (strOf e.name), .slice A n c]] wx
      fun r w' => ∃ v, r = .returned v ∧ OwnStrs w' wx.heap.size v T ∧ Below wx.heap.size wx w') := Lib.hid fun T wx hp hl hb => by
    rw [← Ex.eta e] at hp
    exact refTokens_any hin e.kind e.pl e.num 2 0 e.name T wx hp hl hb hb.size
  have hshort := penE_short e 2 0
  obtain ⟨kk, hkk⟩ : ∃ x, x = e.kind := ⟨_, rfl⟩
  obtain ⟨pp, hpp⟩ : ∃ x, x = e.pl := ⟨_, rfl⟩
  obtain ⟨nn, hnn⟩ : ∃ x, x = e.num := ⟨_, rfl⟩
  obtain ⟨SS, hss⟩ : ∃ x, x = strOf e.name := ⟨_, rfl⟩
  obtain ⟨R, hR⟩ : ∃ R, R = exprB e 2 0 4096 := ⟨_, rfl⟩
  obtain ⟨PE, hPE⟩ : ∃ P, P = penE e 2 0 := ⟨_, rfl⟩
  rw [← hkk, ← hpp, ← hnn, ← hss, ← hR] at HEX
  rw [← hkk, ← hpp, ← hnn, ← hss, ← hPE] at HTK
  rw [← hPE] at hshort
  rw [← hkk, ← hpp, ← hnn, ← hss, ← hPE]
  have hl1 := hleft.1
  rw [← hR, ← hPE] at hl1
  obtain ⟨X, hX⟩ : ∃ X : World, X = w.alloc (.cells #[.int .i64 kk, .int .i64 pp, .int .i64 nn, .string SS, .slice A n c] 24) := ⟨_, rfl⟩
  have hbx : Below w.heap.size w X := by rw [hX]; exact (Below.refl _ _).alloc (Nat.le_refl _) _
  have hrow : ExBlk X w.heap.size kk pp nn SS (.slice A n c) := by rw [hX]; exact ExBlk.new _ _ _ _ _ _
  have HCL : Hid (∀ wx, Below X.heap.size X wx → wx.cell? ⟨w.heap.size, 0, none⟩ = some (.int .i64 kk) ∧ wx.cell? ⟨w.heap.size, 1, none⟩ = some (.int .i64 pp) ∧ wx.cell? ⟨w.heap.size, 2, none⟩ = some (.int .i64 nn) ∧ wx.cell? ⟨w.heap.size, 3, none⟩ = some (.string SS) ∧ wx.cell? ⟨w.heap.size, 4, none⟩ = some (.slice A n c)) := Lib.hid fun wx hb => by
    have hk : ExBlk wx w.heap.size kk pp nn SS (.slice A n c) := hrow.below hb (lt_of_heap hrow)
    exact ⟨hk.c0, hk.c1, hk.c2, hk.c3, hk.c4⟩
  have HX := Lib.hid hX
  have HBX := Lib.hid hbx
  have HSHORT := Lib.hid hshort
  have HL1 := Lib.hid hl1
  have HEX2 := Lib.hid (HEX.out X hbx)
  obtain ⟨q0, q1, q2, q3, q4⟩ := HCL.out X (Below.refl _ _)
  clear hX hbx hrow hkk hpp hnn hss hR hPE hshort hl1 hleft hin hn' hlc
  go_enter Tryd.func8, Tryd.ntmps8
  go_upto_region 1 with fail
  rw [← HX.out]
  by_cases hR0 : R < 0
  · have HF : Hid (fin PE = ([], 23)) := Lib.hid (by
      have h := HL1.out
      cases PE with
      | none => exact fin_none
      | some T =>
        refine fin_long (fun hf => ?_)
        have h2 : if ((T.length : Nat) : Int) ≤ 4096 then R = 4096 - (T.length : Nat) else R < 0 := h
        rw [if_pos (by have := hf.2; omega)] at h2
        have := hf.2
        omega)
    have hd : decide (R < 0) = true := decide_eq_true hR0
    go_wp2_with (first
      | ((with_reducible refine HEX2.out.mono ?_); rintro r w1 ⟨rfl, hb1⟩; have HB1 := Lib.hid (HBX.out.trans (hb1.mono HBX.out.size)); clear hb1))
    go_ret2
    exact ⟨by rw [HF.out]; rfl, HB1.out⟩
  · obtain ⟨T, rfl, hT⟩ : ∃ T, PE = some T ∧ T.length ≤ 4096 := by
      have h := HL1.out
      cases PE with
      | none => have h2 : R < 0 := h; exact absurd h2 hR0
      | some T =>
        have h2 : if ((T.length : Nat) : Int) ≤ 4096 then R = 4096 - (T.length : Nat) else R < 0 := h
        by_cases h3 : ((T.length : Nat) : Int) ≤ 4096
        · exact ⟨T, rfl, by omega⟩
        · rw [if_neg h3] at h2; exact absurd h2 hR0
    have hj : (joinT T).length ≤ 90000 := by
      have := joinT_short T (HSHORT.out T rfl)
      have h2 : (18 + 1) * T.length ≤ 19 * 4096 := Nat.mul_le_mul_left _ hT
      omega
    have HJ := Lib.hid hj
    have HTL := Lib.hid hT
    have hd : decide (R < 0) = false := decide_eq_false hR0
    have HFY : Hid ((joinT T).length ≤ 16384 → fin (some T) = (joinT T, 0)) := Lib.hid (fun h => fin_fits ⟨h, hT⟩)
    have HFN : Hid (¬ (joinT T).length ≤ 16384 → fin (some T) = ([], 23)) := Lib.hid (fun h => fin_long (fun hf => h hf.1))
    have hsz : (strOf (joinT T)).size = (joinT T).length := by rw [Lib.size_eq, strOf_data]
    obtain ⟨JS, hJS⟩ : ∃ J, J = strOf (joinT T) := ⟨_, rfl⟩
    rw [← hJS] at hsz
    have HJS := Lib.hid hJS
    have HSZ := Lib.hid hsz
    have HTX : Hid (∀ wx tv, StrsOK wx wx.heap.size tv T → Calls Tryd.prog 11 #[tv] wx fun r w' => r = .returned (.string JS) ∧ Below wx.heap.size wx w') := Lib.hid fun wx tv h => by
      rw [hJS]; exact refText_any wx T tv h hj (by omega)
    clear hj hT hJS hsz
    by_cases hfit : JS.size ≤ 16384
    · have HF : Hid (fin (some T) = (joinT T, 0)) := Lib.hid (HFY.out (by rw [← HSZ.out]; exact hfit))
      have hd2 : decide (16384 < JS.size) = false := decide_eq_false (by omega)
      have hd3 : decide ((16384 : Int) < (JS.size : Int)) = false := decide_eq_false (by omega)
      go_wp2_with (first
        | ((with_reducible refine HEX2.out.mono ?_); rintro r w1 ⟨rfl, hb1⟩; have HB1 := Lib.hid (HBX.out.trans (hb1.mono HBX.out.size)); obtain ⟨q0', q1', q2', q3', q4'⟩ := HCL.out w1 hb1; have HTK1 := Lib.hid (HTK.out T w1 rfl (by have := HTL.out; omega) HB1.out); clear hb1)
        | ((with_reducible refine HTK1.out.mono ?_); rintro r w2 ⟨tv, rfl, hown2, hb2⟩; have HTX2 := Lib.hid (HTX.out w2 tv hown2.ok); have HB2 := Lib.hid (HB1.out.trans (hb2.mono HB1.out.size)); clear hown2 hb2)
        | ((with_reducible refine HTX2.out.mono ?_); rintro r w3 ⟨rfl, hb3⟩; have HB3 := Lib.hid (HB2.out.trans (hb3.mono HB2.out.size)); clear hb3))
      go_ret2
      exact ⟨by rw [HF.out]; show Ending.returned (.tuple #[.string JS, .int .i64 0]) = _; rw [HJS.out], HB3.out⟩
    · have HF : Hid (fin (some T) = ([], 23)) := Lib.hid (HFN.out (by rw [← HSZ.out]; exact hfit))
      have hd2 : decide (16384 < JS.size) = true := decide_eq_true (by omega)
      have hd3 : decide ((16384 : Int) < (JS.size : Int)) = true := decide_eq_true (by omega)
      go_wp2_with (first
        | ((with_reducible refine HEX2.out.mono ?_); rintro r w1 ⟨rfl, hb1⟩; have HB1 := Lib.hid (HBX.out.trans (hb1.mono HBX.out.size)); obtain ⟨q0', q1', q2', q3', q4'⟩ := HCL.out w1 hb1; have HTK1 := Lib.hid (HTK.out T w1 rfl (by have := HTL.out; omega) HB1.out); clear hb1)
        | ((with_reducible refine HTK1.out.mono ?_); rintro r w2 ⟨tv, rfl, hown2, hb2⟩; have HTX2 := Lib.hid (HTX.out w2 tv hown2.ok); have HB2 := Lib.hid (HB1.out.trans (hb2.mono HB1.out.size)); clear hown2 hb2)
        | ((with_reducible refine HTX2.out.mono ?_); rintro r w3 ⟨rfl, hb3⟩; have HB3 := Lib.hid (HB2.out.trans (hb3.mono HB2.out.size)); clear hb3))
      go_ret2
      exact ⟨by rw [HF.out]; rfl, HB3.out⟩
end Go.Proofs.YtihjdfbdpcghdaaDoor
end
section
set_option linter.unusedVariables false
namespace Go.Proofs.YtihjdfbdpcghdaaDoor
open Go.RowKit
theorem alloc_cell {w : World} {p : Addr} {v : Value} (h : w.cell? p = some v) : ∀ o, (w.alloc o).cell? p = some v := fun o => (World.cell?_of_block (w := w) (Below.heap_alloc w o p.block (lt_of_cell h))).trans h
theorem alloc_frozen {w : World} {p : Addr} {v : Value} (h : w.cell? p = some v) (hz : w.frozen? p = false) : ∀ o, (w.alloc o).frozen? p = false := fun o => (World.frozen?_of_block (w := w) (Below.heap_alloc w o p.block (lt_of_cell h))).trans hz
theorem takeFirst_no (p : Addr) (A : Option Addr) (c : Nat) (w : World) (hc : w.cell? p = some (.slice A 0 c)) :
    Calls Tryd.prog 31 #[.pointer (some p)] w fun e w' => e = boom ∧ Below w.heap.size w w' := by
  have ac := alloc_cell hc
  go_enter Tryd.func31, Tryd.ntmps31
  go_wp2_with fail
  refine (must_no _).mono ?_
  rintro e w1 ⟨rfl, rfl⟩
  unfold boom
  go_wp2
  exact ⟨rfl, rfl, (Below.refl _ w).alloc (Nat.le_refl _) _⟩
theorem blk_set {w : World} {g : Nat} {k p n : Int} {s : ByteArray} {v : Value} (h : ExBlk w g k p n s v) {q : Addr} (hq : q.block ≠ g) (u : Value) : ExBlk (w.setCell q u) g k p n s v := (Below.heap_setCell _ _ _ _ (fun e => hq e.symm)).trans h
set_option maxHeartbeats 1000000 in
theorem takeFirst_yes (p : Addr) (b off n c : Nat) (w : World) (k pl u : Int) (s : ByteArray) (A5 : Option Addr) (n5 c5 : Nat) (hc : w.cell? p = some (.slice (some ⟨b, off, none⟩) (n + 1) c)) (hz : w.frozen? p = false) (hn : n + 1 ≤ c)
    (r0 : w.cell? ⟨b, off, none⟩ = some (.int .i64 k)) (r1 : w.cell? ⟨b, off + 1, none⟩ = some (.int .i64 pl)) (r2 : w.cell? ⟨b, off + 2, none⟩ = some (.int .i64 u)) (r3 : w.cell? ⟨b, off + 3, none⟩ = some (.string s)) (r4 : w.cell? ⟨b, off + 4, none⟩ = some (.slice A5 n5 c5)) :
    Calls Tryd.prog 31 #[.pointer (some p)] w fun e w' => e = .returned (.agg #[.int .i64 k, .int .i64 pl, .int .i64 u, .string s, .slice A5 n5 c5]) ∧
      ∃ w1 off', Below w.heap.size w w1 ∧ Below w.heap.size (w1.setCell p (.slice (some ⟨b, off', none⟩) n (c - 1))) w' ∧ (0 < n → off' = off + 5) := by
  have ac := alloc_cell hc
  obtain ⟨X, hX⟩ : ∃ X : World, X = w.alloc (.cells #[.int .i64 0, .int .i64 0, .int .i64 0, .string ⟨#[]⟩, .slice none 0 0] 24) := ⟨_, rfl⟩
  have hbX : Below w.heap.size w X := by rw [hX]; exact (Below.refl _ w).alloc (Nat.le_refl _) _
  have up : ∀ {q : Addr} {v : Value}, w.cell? q = some v → X.cell? q = some v := fun h => (hbX.cell (lt_of_cell h)).trans h
  have xz : X.frozen? p = false := (hbX.frozen (lt_of_cell hc)).trans hz
  have xc := up hc
  have x0 := alloc_cell (up r0)
  have x1 := alloc_cell (up r1)
  have x2 := alloc_cell (up r2)
  have x3 := alloc_cell (up r3)
  have x4 := alloc_cell (up r4)
  have y0 := up r0
  have y1 := up r1
  have y2 := up r2
  have y3 := up r3
  have y4 := up r4
  have yc := alloc_cell xc
  have yz := alloc_frozen xc xz
  have hpb : p.block ≠ X.heap.size := fun e => by have := lt_of_cell xc; omega
  have hblk := ExBlk.new X k pl u s (.slice A5 n5 c5)
  have hset := fun v => blk_set hblk hpb v
  have z0 := fun v => (hset v).c0
  have z1 := fun v => (hset v).c1
  have z2 := fun v => (hset v).c2
  have z3 := fun v => (hset v).c3
  have z4 := fun v => (hset v).c4
  have hbY : Below w.heap.size w (X.alloc (.cells #[.int .i64 k, .int .i64 pl, .int .i64 u, .string s, .slice A5 n5 c5] 24)) := hbX.alloc hbX.size _
  have HBY := Lib.hid hbY
  have hres : ExBlk (X.alloc (.cells #[.int .i64 k, .int .i64 pl, .int .i64 u, .string s, .slice A5 n5 c5] 24)) w.heap.size 0 0 0 ⟨#[]⟩ (.slice none 0 0) := by
    have h := ExBlk.new w 0 0 0 ⟨#[]⟩ (.slice none 0 0)
    rw [← hX] at h
    exact h.alloc (by rw [hX]; simp) _
  have hps : p.block ≠ w.heap.size := fun e => by have := lt_of_cell hc; omega
  have hrs := fun v => blk_set hres hps v
  have m0 := fun v => (hrs v).c0
  have m1 := fun v => (hrs v).c1
  have m2 := fun v => (hrs v).c2
  have m3 := fun v => (hrs v).c3
  have m4 := fun v => (hrs v).c4
  have l0 := fun v => (hrs v).fr 0
  have l1 := fun v => (hrs v).fr 1
  have l2 := fun v => (hrs v).fr 2
  have l3 := fun v => (hrs v).fr 3
  have l4 := fun v => (hrs v).fr 4
  clear hblk hset hpb hbY hres hps hrs
  by_cases hc1 : c = 1
  · subst hc1
    obtain rfl : n = 0 := by omega
    go_enter Tryd.func31, Tryd.ntmps31
    clear up r0 r1 r2 r3 r4 hbX
    have HX := Lib.hid hX
    go_wp2_with fail
    clear hc ac hz
    rw [← HX.out]
    clear hX
    refine (must_yes _).mono ?_
    rintro e w1 ⟨rfl, rfl⟩
    go_wp2_with fail
    all_goals (refine bodyPost_ret (v := .agg #[.int .i64 k, .int .i64 pl, .int .i64 u, .string s, .slice A5 n5 c5]) ?_ rfl ⟨rfl, X.alloc (.cells #[.int .i64 k, .int .i64 pl, .int .i64 u, .string s, .slice A5 n5 c5] 24), off, HBY.out, ?_, fun h => by omega⟩; simp [results, Tryd.results31, go_sem, m0, m1, m2, m3, m4]; refine Below.setCell ?_ (by simp) _; refine Below.setCell ?_ (by simp) _; refine Below.setCell ?_ (by simp) _; refine Below.setCell ?_ (by simp) _; refine Below.setCell ?_ (by simp) _; exact Below.refl _ _)
  · have hc2 : ¬ c - 1 = 0 := by omega
    go_enter Tryd.func31, Tryd.ntmps31
    clear up r0 r1 r2 r3 r4 hbX
    have HX := Lib.hid hX
    go_wp2_with fail
    clear hc ac hz
    rw [← HX.out]
    clear hX
    refine (must_yes _).mono ?_
    rintro e w1 ⟨rfl, rfl⟩
    go_wp2_with fail
    all_goals (refine bodyPost_ret (v := .agg #[.int .i64 k, .int .i64 pl, .int .i64 u, .string s, .slice A5 n5 c5]) ?_ rfl ⟨rfl, X.alloc (.cells #[.int .i64 k, .int .i64 pl, .int .i64 u, .string s, .slice A5 n5 c5] 24), off + 5, HBY.out, ?_, fun h => by omega⟩; simp [results, Tryd.results31, go_sem, m0, m1, m2, m3, m4]; refine Below.setCell ?_ (by simp) _; refine Below.setCell ?_ (by simp) _; refine Below.setCell ?_ (by simp) _; refine Below.setCell ?_ (by simp) _; refine Below.setCell ?_ (by simp) _; exact Below.refl _ _)
theorem takeNum_yes (p : Addr) (n a b : Int) (w : World) (hc : w.cell? p = some (.int .i64 n)) (hz : w.frozen? p = false) (h1 : a ≤ n) (h2 : n ≤ b) (l1 : -9223372036854775808 ≤ n) (l2 : n ≤ 9223372036854775807)
    (htab : ∀ u, Lib.TabIs Tryd.prog (w.setCell p u) "internal/strconv.uint64pow10" .u64 Lib.pow10Tab) :
    Calls Tryd.prog 33 #[.pointer (some p), .int .i64 a, .int .i64 b] w fun e w' => e = .returned (.string (strOf (Lib.itoa n))) ∧ Below w.heap.size (w.setCell p (.int .i64 0)) w' := by
  have hd : decide (n ≤ b) = true := by simpa using h2
  have HT := Lib.hid (htab (.int .i64 0))
  clear htab
  go_enter Tryd.func33, Tryd.ntmps33
  go_wp2_with fail
  refine (must_yes _).mono ?_
  rintro e w1 ⟨rfl, rfl⟩
  go_wp2_with fail
  refine (take_int p n _ hc hz).mono ?_
  rintro e w1 ⟨rfl, hw1⟩
  rw [← hw1] at HT
  go_wp2_with fail
  rw [← hw1]
  refine (strconv_Itoa n l1 l2 _ HT.out).mono ?_
  rintro e w2 ⟨rfl, k, os, rfl⟩
  go_wp2_with fail
  go_ret
  exact ⟨rfl, Lib.below_grow _ _ (by simp) _ _⟩
theorem takeNum_no (p : Addr) (n a b : Int) (w : World) (hc : w.cell? p = some (.int .i64 n)) (h : ¬ (a ≤ n ∧ n ≤ b)) :
    Calls Tryd.prog 33 #[.pointer (some p), .int .i64 a, .int .i64 b] w fun e w' => e = boom ∧ w = w' := by
  by_cases h1 : a ≤ n
  · have hd : decide (n ≤ b) = false := by rw [decide_eq_false_iff_not]; exact fun h2 => h ⟨h1, h2⟩
    clear h
    go_enter Tryd.func33, Tryd.ntmps33
    go_wp2_with fail
    refine (must_no _).mono ?_
    rintro e w1 ⟨rfl, rfl⟩
    unfold boom
    go_wp2
    exact ⟨rfl, rfl, rfl⟩
  · clear h
    go_enter Tryd.func33, Tryd.ntmps33
    go_wp2_with fail
    refine (must_no _).mono ?_
    rintro e w1 ⟨rfl, rfl⟩
    unfold boom
    go_wp2
    exact ⟨rfl, rfl, rfl⟩
theorem takeBool_yes (p : Addr) (n : Int) (w : World) (hc : w.cell? p = some (.int .i64 n)) (hz : w.frozen? p = false) (h : n = 0 ∨ n = 1) :
    Calls Tryd.prog 34 #[.pointer (some p)] w fun e w' => e = .returned (.string (strOf (if n = 1 then [116, 114, 117, 101] else [102, 97, 108, 115, 101]))) ∧ w' = w.setCell p (.int .i64 0) := by
  rcases h with rfl | rfl
  all_goals
    go_enter Tryd.func34, Tryd.ntmps34
    go_wp2_with fail
    refine (must_yes _).mono ?_
    rintro e w1 ⟨rfl, rfl⟩
    go_wp2_with fail
    refine (take_int p _ _ hc hz).mono ?_
    rintro e w1 ⟨rfl, hw1⟩
    go_wp2_with fail
    go_ret
    exact ⟨rfl, rfl⟩
theorem takeBool_no (p : Addr) (n : Int) (w : World) (hc : w.cell? p = some (.int .i64 n)) (h : ¬ (n = 0 ∨ n = 1)) :
    Calls Tryd.prog 34 #[.pointer (some p)] w fun e w' => e = boom ∧ w = w' := by
  have h0 : ¬ n = 0 := fun e => h (.inl e)
  have hd : (n == 0 || n == 1) = false := by rw [Bool.or_eq_false_iff]; exact ⟨by simpa using h0, by simpa using fun e => h (.inr e)⟩
  clear h
  go_enter Tryd.func34, Tryd.ntmps34
  go_wp2_with fail
  refine (must_no _).mono ?_
  rintro e w1 ⟨rfl, rfl⟩
  unfold boom
  go_wp2
  exact ⟨rfl, rfl, rfl⟩
set_option maxRecDepth 100000 in
theorem takeSign_any (p : Addr) (s : List UInt8) (g n c : Nat) (zs : List ByteArray) (w : World) (hc : w.cell? p = some (.string (strOf s))) (hz : w.frozen? p = false) (hn : n = zs.length) (hb : n ≤ 1000)
    (hcs : ∀ j, j < zs.length → w.cell? ⟨g, 0 + j, none⟩ = some (.string (zs.getD j ⟨#[]⟩))) (t : Bool) (ht : t = Lib.containsS zs (strOf s)) :
    Calls Tryd.prog 35 #[.pointer (some p), .slice (some ⟨g, 0, none⟩) n c] w fun e w' => (t = true → e = .returned (.string (strOf s)) ∧ w' = w.setCell p (.string ⟨#[]⟩)) ∧ (t = false → e = boom ∧ w = w') := by
  have hcon := slices_Contains_string g 0 n c zs (strOf s) w (by omega) (by omega) hcs
  rw [hn, List.take_length, ← ht, ← hn] at hcon
  have HC := Lib.hid hcon
  clear hcon hcs ht hn hb
  cases t with
  | true =>
    go_enter Tryd.func35, Tryd.ntmps35
    go_wp2_with fail
    refine HC.out.mono ?_
    rintro e w1 ⟨rfl, rfl⟩
    go_wp2_with fail
    refine (must_yes _).mono ?_
    rintro e w2 ⟨rfl, rfl⟩
    go_wp2_with fail
    refine (take_string p _ _ hc hz).mono ?_
    rintro e w2 ⟨rfl, hw2⟩
    go_wp2_with fail
    go_ret
    exact ⟨fun _ => ⟨rfl, rfl⟩, fun h => by cases h⟩
  | false =>
    go_enter Tryd.func35, Tryd.ntmps35
    go_wp2_with fail
    refine HC.out.mono ?_
    rintro e w1 ⟨rfl, rfl⟩
    go_wp2_with fail
    refine (must_no _).mono ?_
    rintro e w2 ⟨rfl, rfl⟩
    unfold boom
    go_wp2
    exact ⟨rfl, fun h => by (cases h), fun _ => ⟨rfl, rfl⟩⟩
end Go.Proofs.YtihjdfbdpcghdaaDoor
end
