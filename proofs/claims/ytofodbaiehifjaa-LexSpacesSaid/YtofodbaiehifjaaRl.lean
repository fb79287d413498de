/- The walk of the document's Tokens. -/
import Derived.Test.YtofodbaiehifjaaRk
set_option linter.unusedVariables false
namespace Go.Proofs.Ytofodbaiehifjaa
open Go.RowKit

theorem first_small {l : List UInt8} {c : UInt8} {r : List UInt8} (hl : l = c :: r) (h : small c = true) : firstOf l = (if isWord (l.take (runOf tailB l)) then 4 else 1, runOf tailB l) ∧ 0 < runOf tailB l := by
  have hn : nameLen l = runOf tailB l := by rw [hl, nameLen_cons, if_pos h]
  have hp : 0 < runOf tailB l := by
    rw [hl]
    unfold runOf
    rw [List.takeWhile_cons, if_pos (by simp [tailB, h])]
    simp
  have := first_name (l := l) (by rw [hn]; exact hp)
  rw [hn] at this
  exact ⟨this, hp⟩
theorem first_dig {l : List UInt8} {c : UInt8} {r : List UInt8} (hl : l = c :: r) (h : small c = false) (h2 : digit c = true) : firstOf l = (2, runOf digit l) ∧ 0 < runOf digit l := by
  have hn : nameLen l = 0 := by rw [hl, nameLen_cons, if_neg (by simp [h])]
  have hp : 0 < runOf digit l := by
    rw [hl]
    unfold runOf
    rw [List.takeWhile_cons, if_pos h2]
    simp
  exact ⟨first_digit hn hp, hp⟩
theorem first_else {l : List UInt8} {c : UInt8} {r : List UInt8} (hl : l = c :: r) (h : small c = false) (h2 : digit c = false) : firstOf l = if 0 < signLen l then (3, signLen l) else (0, 0) := by
  have hn : nameLen l = 0 := by rw [hl, nameLen_cons, if_neg (by simp [h])]
  have hd : runOf digit l = 0 := by
    rw [hl]
    unfold runOf
    rw [List.takeWhile_cons, if_neg (by simp [h2])]
    rfl
  by_cases h3 : 0 < signLen l
  · rw [if_pos h3]; exact first_sign hn hd h3
  · rw [if_neg h3]; exact first_no hn hd (by omega)
theorem St.err' {s : List UInt8} {a k z er : Nat} {acc : List Tok} (h : St s a acc) (ha : a < s.length) (hb : blankB s[a] = false) (hf : firstOf (s.drop a) = (k, z))
    (he : wrongOf k ((s.drop a).take z) acc.length = er) (h0 : er ≠ 0) : sc s 0 0 0 = .err a er := by
  have := h.err ha hb (by rw [hf]; rw [he]; exact h0)
  rw [hf] at this
  rw [this, he]
theorem St.tok' {s : List UInt8} {a k z : Nat} {acc : List Tok} (h : St s a acc) (ha : a < s.length) (hb : blankB s[a] = false) (hf : firstOf (s.drop a) = (k, z))
    (he : wrongOf k ((s.drop a).take z) acc.length = 0) : St s (a + z) (acc ++ [⟨k, (s.drop a).take z, a⟩]) := by
  have := h.tok ha hb (by rw [hf]; exact he)
  rw [hf] at this
  exact this.1
/-- block g is a token -/
def TokAt (w : World) (g : Nat) (k : Int) (x : ByteArray) (p : Int) : Prop := w.heap[g]? = some (.cells #[.int .i64 k, .string x, .int .i64 p] 31 (0, 0))
theorem TokAt.new (w : World) (k : Int) (x : ByteArray) (p : Int) : TokAt (w.alloc (.cells #[.int .i64 k, .string x, .int .i64 p] 31)) w.heap.size k x p := heap_alloc_new w _
theorem TokAt.below {w w' : World} {g B : Nat} {k p : Int} {x : ByteArray} (h : TokAt w g k x p) (hb : Below B w w') (hg : g < B) : TokAt w' g k x p := (hb.block g hg).trans h
theorem TokAt.drawn {w w' : World} {g : Nat} {k p : Int} {x : ByteArray} (h : TokAt w g k x p) (hd : Drawn w w') : TokAt w' g k x p := by
  unfold TokAt at h ⊢; rw [hd.heap]; exact h
theorem TokAt.c0 {w : World} {g : Nat} {k p : Int} {x : ByteArray} (h : TokAt w g k x p) : w.cell? ⟨g, 0, none⟩ = some (.int .i64 k) := by
  rw [cell_of_row w g 0 _ _ (0, 0) h]; rfl
theorem TokAt.c1 {w : World} {g : Nat} {k p : Int} {x : ByteArray} (h : TokAt w g k x p) : w.cell? ⟨g, 1, none⟩ = some (.string x) := by
  rw [cell_of_row w g 1 _ _ (0, 0) h]; rfl
theorem TokAt.c2 {w : World} {g : Nat} {k p : Int} {x : ByteArray} (h : TokAt w g k x p) : w.cell? ⟨g, 2, none⟩ = some (.int .i64 p) := by
  rw [cell_of_row w g 2 _ _ (0, 0) h]; rfl
theorem TokAt.fr {w : World} {g : Nat} {k p : Int} {x : ByteArray} (h : TokAt w g k x p) (j : Nat) : w.frozen? ⟨g, j, none⟩ = false := frozen_of_row w g j _ _ h
theorem OwnToks.set_ {w : World} {base : Nat} {v : Value} {l : List Tok} (h : OwnToks w base v l) {p : Addr} (hp : ∀ k, v.ownBlock = some k → k ≠ p.block) (u : Value) : OwnToks (w.setCell p u) base v l := by
  rcases h with ⟨h1, h2 | ⟨g, cap, cur, hv, hbg, hg, h3⟩⟩
  · exact ⟨h1, .inl h2⟩
  · refine ⟨h1, .inr ⟨g, cap, cur, hv, hbg, ?_, h3⟩⟩
    exact (Below.heap_setCell w p u g (hp g (by rw [hv]; rfl))).trans hg
/-- a loop over a run of bytes has come to a place -/
def Ran (p : UInt8 → Bool) (l : List UInt8) (a j : Nat) : Prop := j - a + runOf p (l.drop j) = runOf p (l.drop a)

set_option maxHeartbeats 16000000 in
set_option maxRecDepth 100000 in
theorem rtokens_any (s : ByteArray) (w : World) (hs : s.size ≤ 40000) : Calls Try.prog 11 #[.string s] w (TokPost w (toks s.data.toList)) := by
  have HS := Lib.hid (size_len s)
  by_cases hlong : 16384 < s.size
  · go_enter Try.func11, Try.ntmps11
    go_wp2
    go_ret3
    rw [toks_long (by rw [← HS.out]; exact hlong)]
    exact ⟨Below.refl _ _, rfl⟩
  · obtain ⟨B, hB⟩ : ∃ B, B = w.heap.size := ⟨_, rfl⟩
    have HT := Lib.hid (toks_fit (by rw [← HS.out]; exact hlong))
    have HB := Lib.hid hB
    have ho0 : OwnToks (w.alloc (.cells #[] 31)) B (.slice (some ⟨w.heap.size, 0, none⟩) 0 0) [] :=
      World.ownsRow_lit (e := 31) (size := 3) w #[] 0 (by omega) (by unfold maxLen; omega) rfl
    have HO0 := Lib.hid ho0
    clear hB ho0
    go_enter Try.func11, Try.ntmps11
    go_wp2
    go_loopw [6, 5] (fun i v wr => ∃ (a : Nat) (acc : List Tok), a ≤ s.size ∧ acc.length ≤ 4096 ∧ i = .int .i64 a ∧ Hid (OwnToks wr B v acc) ∧ Hid (Below B w wr) ∧ B ≤ wr.heap.size ∧ Hid (St s.data.toList a acc)) (fun i _ _ => s.size - (intOf i).toNat)
    case atStart => exact ⟨0, [], Nat.zero_le _, Nat.zero_le _, rfl, HO0, Lib.hid ((Below.refl _ _).alloc (by have := HB.out; omega) _), by have := HB.out; simp; omega, Lib.hid (St.start _)⟩
    case round =>
      obtain ⟨wo, rfl⟩ : ∃ wo : World, wo = wr := ⟨_, rfl⟩
      obtain ⟨a, acc, ha, hacc, rfl, HO, HBel, hsr, HSt⟩ := hrel
      by_cases hlt : a < s.size
      · have hl : a < s.data.toList.length := by rw [← HS.out]; exact hlt
        have hg : s.data.toList[a] = s[a] := rfl
        have HG := Lib.hid hg
        clear hg
        by_cases h32 : s[a].toNat = 32
        · have HN := Lib.hid (HSt.out.blank hl (by rw [HG.out]; simp [blankB, h32]))
          have t32 : ((s[a].toNat : Int) == 32) = true := by rw [h32]; rfl
          clear h32
          go_wp2
          go_roundw
          case rel => exact ⟨a + 1, acc, by omega, hacc, by go_num, HO, HBel, hsr, HN⟩
          case measure => simp [intOf]; omega
        have t32 : ((s[a].toNat : Int) == 32) = false := by rw [beq_eq_false_iff_ne]; omega
        by_cases h10 : s[a].toNat = 10
        · have HN := Lib.hid (HSt.out.blank hl (by rw [HG.out]; simp [blankB, h10]))
          have t10 : ((s[a].toNat : Int) == 10) = true := by rw [h10]; rfl
          clear h10 h32
          go_wp2
          go_roundw
          case rel => exact ⟨a + 1, acc, by omega, hacc, by go_num, HO, HBel, hsr, HN⟩
          case measure => simp [intOf]; omega
        have t10 : ((s[a].toNat : Int) == 10) = false := by rw [beq_eq_false_iff_ne]; omega
        have HBL : Hid (blankB s[a] = false) := Lib.hid (by simp [blankB, h32, h10])
        have HDR : Hid (s.data.toList.drop a = s[a] :: s.data.toList.drop (a + 1)) := Lib.hid (by rw [drop_at hl, HG.out])
        clear h10 h32
        obtain ⟨A, c, rfl, hc1, hc2, hT⟩ := HO.out.toks
        unfold maxLen at hc2
        clear hT
        by_cases h1 : small s[a] = true
        · obtain ⟨z, hz0⟩ : ∃ z, z = runOf tailB (s.data.toList.drop a) := ⟨_, rfl⟩
          have hzl : a + z ≤ s.size := by
            have := runOf_le tailB (s.data.toList.drop a)
            rw [List.length_drop, ← HS.out, ← hz0] at this
            omega
          obtain ⟨tx, htx⟩ : ∃ tx, tx = (s.data.toList.drop a).take z := ⟨_, rfl⟩
          have hsz : (strOf tx).size = z := by rw [Lib.size_eq, strOf_data, htx, List.length_take, List.length_drop, ← HS.out]; omega
          have hex : s.extract a (a + z) = strOf tx := by rw [extract_str, htx]; congr 2; omega
          obtain ⟨f1, f2⟩ := first_small HDR.out h1
          rw [← hz0] at f1 f2
          obtain ⟨wd, hwd⟩ : ∃ b, b = isWord tx := ⟨_, rfl⟩
          have c4 : ∀ w, Calls Try.prog 15 #[.string (strOf tx)] w fun e w' => e = .returned (.bool wd) ∧ Below w.heap.size w w' := fun w => by
            rw [hwd]; exact rword_any (strOf tx) w
          rw [← htx, ← hwd] at f1
          have HF := Lib.hid f1
          have HZ := Lib.hid hz0
          have HTX := Lib.hid htx
          have HEX := Lib.hid hex
          have HSZ := Lib.hid hsz
          have C4 := Lib.hid c4
          clear htx hwd hsz c4 hex hz0 f1
          go_wp2_with (first
            | (go_at_call 21; refine (rsmall_any _ _).mono ?_; rintro e w' ⟨rfl, rfl⟩)
            | (go_at_call 22; refine (rdigit_any _ _).mono ?_; rintro e w' ⟨rfl, rfl⟩))
          go_loop [8] (fun i => ∃ j : Nat, a ≤ j ∧ j ≤ s.size ∧ i = .int .i64 j ∧ Hid (Ran tailB s.data.toList a j)) (fun i => s.size - (intOf i).toNat)
          case atStart => exact ⟨a, Nat.le_refl _, by omega, rfl, Lib.hid (by unfold Ran; omega)⟩
          case round =>
            obtain ⟨j, hj0, hj, rfl, HR⟩ := hrel
            by_cases hjl : j < s.size
            · have hjl2 : j < s.data.toList.length := by rw [← HS.out]; exact hjl
              have hgj : s.data.toList[j] = s[j] := rfl
              have HGJ := Lib.hid hgj
              clear hgj
              have yes : tailB s[j] = true → Ran tailB s.data.toList a (j + 1) := fun h => by
                have h2 := runOf_go (p := tailB) hjl2 (by rw [HGJ.out]; exact h)
                have := HR.out
                unfold Ran at this ⊢
                omega
              have YES := Lib.hid yes
              clear yes
              by_cases j1 : small s[j] = true
              · have HY := Lib.hid (YES.out (by simp [tailB, j1]))
                go_wp2_with (first
                  | (go_at_call 21; refine (rsmall_any _ _).mono ?_; rintro e w' ⟨rfl, rfl⟩)
                  | (go_at_call 22; refine (rdigit_any _ _).mono ?_; rintro e w' ⟨rfl, rfl⟩))
                go_round
                case rel => exact ⟨j + 1, by omega, by omega, by go_num, HY⟩
                case measure => simp [intOf]; omega
              have j1' : small s[j] = false := by simpa using j1
              by_cases j2 : digit s[j] = true
              · have HY := Lib.hid (YES.out (by simp [tailB, j2]))
                clear j1
                go_wp2_with (first
                  | (go_at_call 21; refine (rsmall_any _ _).mono ?_; rintro e w' ⟨rfl, rfl⟩)
                  | (go_at_call 22; refine (rdigit_any _ _).mono ?_; rintro e w' ⟨rfl, rfl⟩))
                go_round
                case rel => exact ⟨j + 1, by omega, by omega, by go_num, HY⟩
                case measure => simp [intOf]; omega
              have j2' : digit s[j] = false := by simpa using j2
              by_cases j3 : s[j].toNat = 95
              · have HY := Lib.hid (YES.out (by simp [tailB, j3]))
                have j3' : ((s[j].toNat : Int) == 95) = true := by rw [j3]; rfl
                clear j1 j2 j3
                go_wp2_with (first
                  | (go_at_call 21; refine (rsmall_any _ _).mono ?_; rintro e w' ⟨rfl, rfl⟩)
                  | (go_at_call 22; refine (rdigit_any _ _).mono ?_; rintro e w' ⟨rfl, rfl⟩))
                go_round
                case rel => exact ⟨j + 1, by omega, by omega, by go_num, HY⟩
                case measure => simp [intOf]; omega
              have j3' : ((s[j].toNat : Int) == 95) = false := by rw [beq_eq_false_iff_ne]; omega
              obtain rfl : j = a + z := by
                have h2 := runOf_no (p := tailB) hjl2 (by rw [HGJ.out]; simp [tailB, j1', j2', j3])
                have := HR.out
                have := HZ.out
                unfold Ran at *
                omega
              clear j1 j2 j3 YES
              have hx := HEX.out
              go_wp2_with (first
                | (go_at_call 21; refine (rsmall_any _ _).mono ?_; rintro e w' ⟨rfl, rfl⟩)
                | (go_at_call 22; refine (rdigit_any _ _).mono ?_; rintro e w' ⟨rfl, rfl⟩))
              refine (C4.out _).mono ?_
              rintro e w1 ⟨rfl, hb1⟩
              have T1 := (TokAt.new wo 1 ⟨#[]⟩ a).below hb1 (by simp)
              have hc0 := T1.c0
              have hc1' := T1.c1
              have hc2' := T1.c2
              have hf0 := T1.fr 0
              have hf1 := T1.fr 1
              have hgne : ∀ k, (Value.slice A acc.length c).ownBlock = some k → k ≠ wo.heap.size := fun k hk => by have := (HO.out.lt k hk).2; omega
              have HO1 := (HO.out.alloc (.cells #[.int .i64 1, .string ⟨#[]⟩, .int .i64 a] 31)).below hb1
              have hb1' : Below B w w1 := (HBel.out.alloc hsr _).trans (hb1.mono (by simp; omega))
              have RO1 : Hid (∀ x, OwnToks (w1.setCell ⟨wo.heap.size, 1, none⟩ x) B (.slice A acc.length c) acc) := Lib.hid (fun x => HO1.set_ hgne x)
              have RO2 : Hid (∀ u x, OwnToks ((w1.setCell ⟨wo.heap.size, 0, none⟩ u).setCell ⟨wo.heap.size, 1, none⟩ x) B (.slice A acc.length c) acc) := Lib.hid (fun u x => (HO1.set_ hgne u).set_ hgne x)
              have RB1 : Hid (∀ x, Below B w (w1.setCell ⟨wo.heap.size, 1, none⟩ x)) := Lib.hid (fun x => hb1'.setCell hsr x)
              have RB2 : Hid (∀ u x, Below B w ((w1.setCell ⟨wo.heap.size, 0, none⟩ u).setCell ⟨wo.heap.size, 1, none⟩ x)) := Lib.hid (fun u x => (hb1'.setCell hsr u).setCell hsr x)
              have hs1 := hb1.size
              have hsz' := HSZ.out
              clear hb1 hb1' T1 HO1 hgne
              cases wd
              · have HF' : Hid (firstOf (s.data.toList.drop a) = (1, z)) := Lib.hid (by rw [HF.out]; rfl)
                by_cases hz : 16 < z
                · go_wp2
                  go_ret3
                  rw [HT.out, HSt.out.err' hl (by rw [HG.out]; exact HBL.out) HF'.out (er := 12) (by rw [wrong_of1, ← HTX.out, ← strOf_data tx, ← size_len, HSZ.out, if_pos (Or.inl hz)]) (by decide)]
                  exact ⟨by rw [← HB.out]; exact RB1.out _, rfl⟩
                by_cases hn : 4096 ≤ acc.length
                · go_wp2
                  go_ret3
                  rw [HT.out, HSt.out.err' hl (by rw [HG.out]; exact HBL.out) HF'.out (er := 12) (by rw [wrong_of1, if_pos (Or.inr hn)]) (by decide)]
                  exact ⟨by rw [← HB.out]; exact RB1.out _, rfl⟩
                have HN : Hid (St s.data.toList (a + z) (acc ++ [⟨1, tx, a⟩])) := Lib.hid (by
                  have h := HSt.out.tok' hl (by rw [HG.out]; exact HBL.out) HF'.out (by rw [wrong_of1, ← HTX.out, ← strOf_data tx, ← size_len, HSZ.out, if_neg (by omega)])
                  rw [← HTX.out] at h
                  exact h)
                have HOQ := Lib.hid (RO1.out (.string (strOf tx)))
                have HBQ := Lib.hid (RB1.out (.string (strOf tx)))
                have hsq := Nat.le_trans (Nat.le_of_eq HB.out) HBQ.out.size
                go_wp2_with (first
                  | (go_at_call 21; refine (rsmall_any _ _).mono ?_; rintro e w' ⟨rfl, rfl⟩)
                  | (go_at_call 22; refine (rdigit_any _ _).mono ?_; rintro e w' ⟨rfl, rfl⟩)
                  | (at_builtin; refine wpList_append_tok rfl _ _ rfl B _ acc rfl (HOQ.out.alloc _) ⟨w1.heap.size, 0, none⟩ 1 ⟨1, tx, a⟩ rfl (one_tok (by simp)) (by omega) (by simp at hsq ⊢; omega) ?_; intro v' w3 hown3 hgr))
                go_roundw
                case rel =>
                  have hb3 := (HBQ.out.alloc (by simp at hsq ⊢; omega) _).grown hgr (by simp at hsq ⊢; omega) (fun g hg => (HOQ.out.lt g hg).1)
                  exact ⟨a + z, acc ++ [_], by omega, by simp; omega, by go_num, Lib.hid hown3, Lib.hid hb3, Nat.le_trans (Nat.le_of_eq HB.out) hb3.size, HN⟩
                case measure => simp [intOf]; omega
              · have HF' : Hid (firstOf (s.data.toList.drop a) = (4, z)) := Lib.hid (by rw [HF.out]; rfl)
                by_cases hn : 4096 ≤ acc.length
                · go_wp2
                  go_ret3
                  rw [HT.out, HSt.out.err' hl (by rw [HG.out]; exact HBL.out) HF'.out (er := 12) (by rw [wrong_of4, if_pos hn]) (by decide)]
                  exact ⟨by rw [← HB.out]; exact RB2.out _ _, rfl⟩
                have HN : Hid (St s.data.toList (a + z) (acc ++ [⟨4, tx, a⟩])) := Lib.hid (by
                  have h := HSt.out.tok' hl (by rw [HG.out]; exact HBL.out) HF'.out (by rw [wrong_of4, if_neg hn])
                  rw [← HTX.out] at h
                  exact h)
                have HOQ := Lib.hid (RO2.out (.int .i64 4) (.string (strOf tx)))
                have HBQ := Lib.hid (RB2.out (.int .i64 4) (.string (strOf tx)))
                have hsq := Nat.le_trans (Nat.le_of_eq HB.out) HBQ.out.size
                go_wp2_with (first
                  | (go_at_call 21; refine (rsmall_any _ _).mono ?_; rintro e w' ⟨rfl, rfl⟩)
                  | (go_at_call 22; refine (rdigit_any _ _).mono ?_; rintro e w' ⟨rfl, rfl⟩)
                  | (at_builtin; refine wpList_append_tok rfl _ _ rfl B _ acc rfl (HOQ.out.alloc _) ⟨w1.heap.size, 0, none⟩ 1 ⟨4, tx, a⟩ rfl (one_tok (by simp)) (by omega) (by simp at hsq ⊢; omega) ?_; intro v' w3 hown3 hgr))
                go_roundw
                case rel =>
                  have hb3 := (HBQ.out.alloc (by simp at hsq ⊢; omega) _).grown hgr (by simp at hsq ⊢; omega) (fun g hg => (HOQ.out.lt g hg).1)
                  exact ⟨a + z, acc ++ [_], by omega, by simp; omega, by go_num, Lib.hid hown3, Lib.hid hb3, Nat.le_trans (Nat.le_of_eq HB.out) hb3.size, HN⟩
                case measure => simp [intOf]; omega
            · obtain rfl : j = a + z := by
                have h2 := runOf_end (p := tailB) (l := s.data.toList) (k := j) (by rw [← HS.out]; exact hjl)
                have := HR.out
                have := HZ.out
                unfold Ran at *
                omega
              have hx := HEX.out
              go_wp2_with fail
              refine (C4.out _).mono ?_
              rintro e w1 ⟨rfl, hb1⟩
              have T1 := (TokAt.new wo 1 ⟨#[]⟩ a).below hb1 (by simp)
              have hc0 := T1.c0
              have hc1' := T1.c1
              have hc2' := T1.c2
              have hf0 := T1.fr 0
              have hf1 := T1.fr 1
              have hgne : ∀ k, (Value.slice A acc.length c).ownBlock = some k → k ≠ wo.heap.size := fun k hk => by have := (HO.out.lt k hk).2; omega
              have HO1 := (HO.out.alloc (.cells #[.int .i64 1, .string ⟨#[]⟩, .int .i64 a] 31)).below hb1
              have hb1' : Below B w w1 := (HBel.out.alloc hsr _).trans (hb1.mono (by simp; omega))
              have RO1 : Hid (∀ x, OwnToks (w1.setCell ⟨wo.heap.size, 1, none⟩ x) B (.slice A acc.length c) acc) := Lib.hid (fun x => HO1.set_ hgne x)
              have RO2 : Hid (∀ u x, OwnToks ((w1.setCell ⟨wo.heap.size, 0, none⟩ u).setCell ⟨wo.heap.size, 1, none⟩ x) B (.slice A acc.length c) acc) := Lib.hid (fun u x => (HO1.set_ hgne u).set_ hgne x)
              have RB1 : Hid (∀ x, Below B w (w1.setCell ⟨wo.heap.size, 1, none⟩ x)) := Lib.hid (fun x => hb1'.setCell hsr x)
              have RB2 : Hid (∀ u x, Below B w ((w1.setCell ⟨wo.heap.size, 0, none⟩ u).setCell ⟨wo.heap.size, 1, none⟩ x)) := Lib.hid (fun u x => (hb1'.setCell hsr u).setCell hsr x)
              have hs1 := hb1.size
              have hsz' := HSZ.out
              clear hb1 hb1' T1 HO1 hgne
              cases wd
              · have HF' : Hid (firstOf (s.data.toList.drop a) = (1, z)) := Lib.hid (by rw [HF.out]; rfl)
                by_cases hz : 16 < z
                · go_wp2
                  go_ret3
                  rw [HT.out, HSt.out.err' hl (by rw [HG.out]; exact HBL.out) HF'.out (er := 12) (by rw [wrong_of1, ← HTX.out, ← strOf_data tx, ← size_len, HSZ.out, if_pos (Or.inl hz)]) (by decide)]
                  exact ⟨by rw [← HB.out]; exact RB1.out _, rfl⟩
                by_cases hn : 4096 ≤ acc.length
                · go_wp2
                  go_ret3
                  rw [HT.out, HSt.out.err' hl (by rw [HG.out]; exact HBL.out) HF'.out (er := 12) (by rw [wrong_of1, if_pos (Or.inr hn)]) (by decide)]
                  exact ⟨by rw [← HB.out]; exact RB1.out _, rfl⟩
                have HN : Hid (St s.data.toList (a + z) (acc ++ [⟨1, tx, a⟩])) := Lib.hid (by
                  have h := HSt.out.tok' hl (by rw [HG.out]; exact HBL.out) HF'.out (by rw [wrong_of1, ← HTX.out, ← strOf_data tx, ← size_len, HSZ.out, if_neg (by omega)])
                  rw [← HTX.out] at h
                  exact h)
                have HOQ := Lib.hid (RO1.out (.string (strOf tx)))
                have HBQ := Lib.hid (RB1.out (.string (strOf tx)))
                have hsq := Nat.le_trans (Nat.le_of_eq HB.out) HBQ.out.size
                go_wp2_with (first
                  | (go_at_call 21; refine (rsmall_any _ _).mono ?_; rintro e w' ⟨rfl, rfl⟩)
                  | (go_at_call 22; refine (rdigit_any _ _).mono ?_; rintro e w' ⟨rfl, rfl⟩)
                  | (at_builtin; refine wpList_append_tok rfl _ _ rfl B _ acc rfl (HOQ.out.alloc _) ⟨w1.heap.size, 0, none⟩ 1 ⟨1, tx, a⟩ rfl (one_tok (by simp)) (by omega) (by simp at hsq ⊢; omega) ?_; intro v' w3 hown3 hgr))
                go_roundw
                case rel =>
                  have hb3 := (HBQ.out.alloc (by simp at hsq ⊢; omega) _).grown hgr (by simp at hsq ⊢; omega) (fun g hg => (HOQ.out.lt g hg).1)
                  exact ⟨a + z, acc ++ [_], by omega, by simp; omega, by go_num, Lib.hid hown3, Lib.hid hb3, Nat.le_trans (Nat.le_of_eq HB.out) hb3.size, HN⟩
                case measure => simp [intOf]; omega
              · have HF' : Hid (firstOf (s.data.toList.drop a) = (4, z)) := Lib.hid (by rw [HF.out]; rfl)
                by_cases hn : 4096 ≤ acc.length
                · go_wp2
                  go_ret3
                  rw [HT.out, HSt.out.err' hl (by rw [HG.out]; exact HBL.out) HF'.out (er := 12) (by rw [wrong_of4, if_pos hn]) (by decide)]
                  exact ⟨by rw [← HB.out]; exact RB2.out _ _, rfl⟩
                have HN : Hid (St s.data.toList (a + z) (acc ++ [⟨4, tx, a⟩])) := Lib.hid (by
                  have h := HSt.out.tok' hl (by rw [HG.out]; exact HBL.out) HF'.out (by rw [wrong_of4, if_neg hn])
                  rw [← HTX.out] at h
                  exact h)
                have HOQ := Lib.hid (RO2.out (.int .i64 4) (.string (strOf tx)))
                have HBQ := Lib.hid (RB2.out (.int .i64 4) (.string (strOf tx)))
                have hsq := Nat.le_trans (Nat.le_of_eq HB.out) HBQ.out.size
                go_wp2_with (first
                  | (go_at_call 21; refine (rsmall_any _ _).mono ?_; rintro e w' ⟨rfl, rfl⟩)
                  | (go_at_call 22; refine (rdigit_any _ _).mono ?_; rintro e w' ⟨rfl, rfl⟩)
                  | (at_builtin; refine wpList_append_tok rfl _ _ rfl B _ acc rfl (HOQ.out.alloc _) ⟨w1.heap.size, 0, none⟩ 1 ⟨4, tx, a⟩ rfl (one_tok (by simp)) (by omega) (by simp at hsq ⊢; omega) ?_; intro v' w3 hown3 hgr))
                go_roundw
                case rel =>
                  have hb3 := (HBQ.out.alloc (by simp at hsq ⊢; omega) _).grown hgr (by simp at hsq ⊢; omega) (fun g hg => (HOQ.out.lt g hg).1)
                  exact ⟨a + z, acc ++ [_], by omega, by simp; omega, by go_num, Lib.hid hown3, Lib.hid hb3, Nat.le_trans (Nat.le_of_eq HB.out) hb3.size, HN⟩
                case measure => simp [intOf]; omega
        have h1' : small s[a] = false := by simpa using h1
        clear h1
        by_cases h2 : digit s[a] = true
        · obtain ⟨z, hz0⟩ : ∃ z, z = runOf digit (s.data.toList.drop a) := ⟨_, rfl⟩
          have hzl : a + z ≤ s.size := by
            have := runOf_le digit (s.data.toList.drop a)
            rw [List.length_drop, ← HS.out, ← hz0] at this
            omega
          obtain ⟨tx, htx⟩ : ∃ tx, tx = (s.data.toList.drop a).take z := ⟨_, rfl⟩
          have hsz : (strOf tx).size = z := by rw [Lib.size_eq, strOf_data, htx, List.length_take, List.length_drop, ← HS.out]; omega
          have hex : s.extract a (a + z) = strOf tx := by rw [extract_str, htx]; congr 2; omega
          obtain ⟨f1, f2⟩ := first_dig HDR.out h1' h2
          rw [← hz0] at f1 f2
          have hd48 : tx.head? = some 48 ↔ s[a].toNat = 48 := by
            rw [htx, HDR.out]
            obtain ⟨m, rfl⟩ : ∃ m, z = m + 1 := ⟨z - 1, by omega⟩
            rw [List.take_succ_cons, List.head?_cons]
            constructor
            · intro e; rw [Option.some.inj e]; rfl
            · intro e; congr 1; exact UInt8.toNat_inj.1 e
          have HD48 := Lib.hid hd48
          have HF' := Lib.hid f1
          have HZ := Lib.hid hz0
          have HTX := Lib.hid htx
          have HEX := Lib.hid hex
          have HSZ := Lib.hid hsz
          clear htx hsz hex hz0 f1 hd48
          go_wp2_with (first
            | (go_at_call 21; refine (rsmall_any _ _).mono ?_; rintro e w' ⟨rfl, rfl⟩)
            | (go_at_call 22; refine (rdigit_any _ _).mono ?_; rintro e w' ⟨rfl, rfl⟩))
          go_loop [8] (fun i => ∃ j : Nat, a ≤ j ∧ j ≤ s.size ∧ i = .int .i64 j ∧ Hid (Ran digit s.data.toList a j)) (fun i => s.size - (intOf i).toNat)
          case atStart => exact ⟨a, Nat.le_refl _, by omega, rfl, Lib.hid (by unfold Ran; omega)⟩
          case round =>
            obtain ⟨j, hj0, hj, rfl, HR⟩ := hrel
            by_cases hjl : j < s.size
            · have hjl2 : j < s.data.toList.length := by rw [← HS.out]; exact hjl
              have hgj : s.data.toList[j] = s[j] := rfl
              have HGJ := Lib.hid hgj
              clear hgj
              by_cases j2 : digit s[j] = true
              · have HY : Hid (Ran digit s.data.toList a (j + 1)) := Lib.hid (by
                  have h2 := runOf_go (p := digit) hjl2 (by rw [HGJ.out]; exact j2)
                  have := HR.out
                  unfold Ran at this ⊢
                  omega)
                go_wp2_with (first
                  | (go_at_call 21; refine (rsmall_any _ _).mono ?_; rintro e w' ⟨rfl, rfl⟩)
                  | (go_at_call 22; refine (rdigit_any _ _).mono ?_; rintro e w' ⟨rfl, rfl⟩))
                go_round
                case rel => exact ⟨j + 1, by omega, by omega, by go_num, HY⟩
                case measure => simp [intOf]; omega
              have j2' : digit s[j] = false := by simpa using j2
              obtain rfl : j = a + z := by
                have h2 := runOf_no (p := digit) hjl2 (by rw [HGJ.out]; exact j2')
                have := HR.out
                have := HZ.out
                unfold Ran at *
                omega
              clear j2
              have hsz' := HSZ.out
              have hx := HEX.out
              by_cases hn : 4096 ≤ acc.length
              · go_wp2_with (first
                    | (go_at_call 21; refine (rsmall_any _ _).mono ?_; rintro e w' ⟨rfl, rfl⟩)
                    | (go_at_call 22; refine (rdigit_any _ _).mono ?_; rintro e w' ⟨rfl, rfl⟩))
                go_ret3
                rw [HT.out, HSt.out.err' hl (by rw [HG.out]; exact HBL.out) HF'.out (er := 12) (by rw [wrong_of2, if_pos hn]) (by decide)]
                exact ⟨by rw [← HB.out]; exact HBel.out.alloc hsr _, rfl⟩
              by_cases hz : 18 < z
              · go_wp2_with (first
                    | (go_at_call 21; refine (rsmall_any _ _).mono ?_; rintro e w' ⟨rfl, rfl⟩)
                    | (go_at_call 22; refine (rdigit_any _ _).mono ?_; rintro e w' ⟨rfl, rfl⟩))
                go_ret3
                rw [HT.out, HSt.out.err' hl (by rw [HG.out]; exact HBL.out) HF'.out (er := 11) (by rw [wrong_of2, if_neg hn, ← HTX.out, if_pos (Or.inl (by rw [← strOf_data tx, ← size_len, HSZ.out]; exact hz))]) (by decide)]
                exact ⟨by rw [← HB.out]; exact HBel.out.alloc hsr _, rfl⟩
              have hd48 := HD48.out
              by_cases hz1 : 1 < z
              · by_cases h48 : s[a].toNat = 48
                · have t48 : ((s[a].toNat : Int) == 48) = true := by rw [h48]; rfl
                  have HD0 := Lib.hid (hd48.2 h48)
                  clear h48 hd48
                  go_wp2_with (first
                    | (go_at_call 21; refine (rsmall_any _ _).mono ?_; rintro e w' ⟨rfl, rfl⟩)
                    | (go_at_call 22; refine (rdigit_any _ _).mono ?_; rintro e w' ⟨rfl, rfl⟩))
                  go_ret3
                  rw [HT.out, HSt.out.err' hl (by rw [HG.out]; exact HBL.out) HF'.out (er := 11) (by rw [wrong_of2, if_neg hn, ← HTX.out, if_pos (Or.inr ⟨by rw [← strOf_data tx, ← size_len, HSZ.out]; exact hz1, HD0.out⟩)]) (by decide)]
                  exact ⟨by rw [← HB.out]; exact HBel.out.alloc hsr _, rfl⟩
                · have t48 : ((s[a].toNat : Int) == 48) = false := by rw [beq_eq_false_iff_ne]; omega
                  have HD0 := Lib.hid (fun h => h48 (hd48.1 h))
                  clear h48 hd48
                  have HNO : Hid (¬ (18 < tx.length ∨ (1 < tx.length ∧ tx.head? = some 48))) := Lib.hid (by
                    rintro (h | ⟨_, h⟩)
                    · rw [← strOf_data tx, ← size_len, HSZ.out] at h; omega
                    · exact HD0.out h)
                  have HN : Hid (St s.data.toList (a + z) (acc ++ [⟨2, tx, a⟩])) := Lib.hid (by
                    have h := HSt.out.tok' hl (by rw [HG.out]; exact HBL.out) HF'.out (by rw [wrong_of2, if_neg hn, ← HTX.out, if_neg HNO.out])
                    rw [← HTX.out] at h
                    exact h)
                  have HOQ := Lib.hid ((HO.out.alloc (.cells #[.int .i64 2, .string (strOf tx), .int .i64 a] 31)))
                  have HBQ := Lib.hid ((HBel.out.alloc hsr (.cells #[.int .i64 2, .string (strOf tx), .int .i64 a] 31)))
                  have hsq := Nat.le_trans (Nat.le_of_eq HB.out) HBQ.out.size
                  go_wp2_with (first
                    | (go_at_call 21; refine (rsmall_any _ _).mono ?_; rintro e w' ⟨rfl, rfl⟩)
                    | (go_at_call 22; refine (rdigit_any _ _).mono ?_; rintro e w' ⟨rfl, rfl⟩)
                    | (at_builtin; refine wpList_append_tok rfl _ _ rfl B _ acc rfl (HOQ.out.alloc _) ⟨wo.heap.size + 1, 0, none⟩ 1 ⟨2, tx, a⟩ rfl (one_tok (by simp)) (by omega) (by simp at hsq ⊢; omega) ?_; intro v' w3 hown3 hgr))
                  go_roundw
                  case rel =>
                    have hb3 := (HBQ.out.alloc (by simp at hsq ⊢; omega) _).grown hgr (by simp at hsq ⊢; omega) (fun g hg => (HOQ.out.lt g hg).1)
                    exact ⟨a + z, acc ++ [_], by omega, by simp; omega, by go_num, Lib.hid hown3, Lib.hid hb3, Nat.le_trans (Nat.le_of_eq HB.out) hb3.size, HN⟩
                  case measure => simp [intOf]; omega
              · clear hd48
                have HN : Hid (St s.data.toList (a + z) (acc ++ [⟨2, tx, a⟩])) := Lib.hid (by
                  have h := HSt.out.tok' hl (by rw [HG.out]; exact HBL.out) HF'.out (by rw [wrong_of2, if_neg hn, ← HTX.out, if_neg (by rintro (h | ⟨h, _⟩) <;> (rw [← strOf_data tx, ← size_len, HSZ.out] at h; omega))])
                  rw [← HTX.out] at h
                  exact h)
                have HOQ := Lib.hid ((HO.out.alloc (.cells #[.int .i64 2, .string (strOf tx), .int .i64 a] 31)))
                have HBQ := Lib.hid ((HBel.out.alloc hsr (.cells #[.int .i64 2, .string (strOf tx), .int .i64 a] 31)))
                have hsq := Nat.le_trans (Nat.le_of_eq HB.out) HBQ.out.size
                go_wp2_with (first
                  | (go_at_call 21; refine (rsmall_any _ _).mono ?_; rintro e w' ⟨rfl, rfl⟩)
                  | (go_at_call 22; refine (rdigit_any _ _).mono ?_; rintro e w' ⟨rfl, rfl⟩)
                  | (at_builtin; refine wpList_append_tok rfl _ _ rfl B _ acc rfl (HOQ.out.alloc _) ⟨wo.heap.size + 1, 0, none⟩ 1 ⟨2, tx, a⟩ rfl (one_tok (by simp)) (by omega) (by simp at hsq ⊢; omega) ?_; intro v' w3 hown3 hgr))
                go_roundw
                case rel =>
                  have hb3 := (HBQ.out.alloc (by simp at hsq ⊢; omega) _).grown hgr (by simp at hsq ⊢; omega) (fun g hg => (HOQ.out.lt g hg).1)
                  exact ⟨a + z, acc ++ [_], by omega, by simp; omega, by go_num, Lib.hid hown3, Lib.hid hb3, Nat.le_trans (Nat.le_of_eq HB.out) hb3.size, HN⟩
                case measure => simp [intOf]; omega
            · obtain rfl : j = a + z := by
                have h2 := runOf_end (p := digit) (l := s.data.toList) (k := j) (by rw [← HS.out]; exact hjl)
                have := HR.out
                have := HZ.out
                unfold Ran at *
                omega
              have hsz' := HSZ.out
              have hx := HEX.out
              by_cases hn : 4096 ≤ acc.length
              · go_wp2
                go_ret3
                rw [HT.out, HSt.out.err' hl (by rw [HG.out]; exact HBL.out) HF'.out (er := 12) (by rw [wrong_of2, if_pos hn]) (by decide)]
                exact ⟨by rw [← HB.out]; exact HBel.out.alloc hsr _, rfl⟩
              by_cases hz : 18 < z
              · go_wp2
                go_ret3
                rw [HT.out, HSt.out.err' hl (by rw [HG.out]; exact HBL.out) HF'.out (er := 11) (by rw [wrong_of2, if_neg hn, ← HTX.out, if_pos (Or.inl (by rw [← strOf_data tx, ← size_len, HSZ.out]; exact hz))]) (by decide)]
                exact ⟨by rw [← HB.out]; exact HBel.out.alloc hsr _, rfl⟩
              have hd48 := HD48.out
              by_cases hz1 : 1 < z
              · by_cases h48 : s[a].toNat = 48
                · have t48 : ((s[a].toNat : Int) == 48) = true := by rw [h48]; rfl
                  have HD0 := Lib.hid (hd48.2 h48)
                  clear h48 hd48
                  go_wp2
                  go_ret3
                  rw [HT.out, HSt.out.err' hl (by rw [HG.out]; exact HBL.out) HF'.out (er := 11) (by rw [wrong_of2, if_neg hn, ← HTX.out, if_pos (Or.inr ⟨by rw [← strOf_data tx, ← size_len, HSZ.out]; exact hz1, HD0.out⟩)]) (by decide)]
                  exact ⟨by rw [← HB.out]; exact HBel.out.alloc hsr _, rfl⟩
                · have t48 : ((s[a].toNat : Int) == 48) = false := by rw [beq_eq_false_iff_ne]; omega
                  have HD0 := Lib.hid (fun h => h48 (hd48.1 h))
                  clear h48 hd48
                  have HNO : Hid (¬ (18 < tx.length ∨ (1 < tx.length ∧ tx.head? = some 48))) := Lib.hid (by
                    rintro (h | ⟨_, h⟩)
                    · rw [← strOf_data tx, ← size_len, HSZ.out] at h; omega
                    · exact HD0.out h)
                  have HN : Hid (St s.data.toList (a + z) (acc ++ [⟨2, tx, a⟩])) := Lib.hid (by
                    have h := HSt.out.tok' hl (by rw [HG.out]; exact HBL.out) HF'.out (by rw [wrong_of2, if_neg hn, ← HTX.out, if_neg HNO.out])
                    rw [← HTX.out] at h
                    exact h)
                  have HOQ := Lib.hid ((HO.out.alloc (.cells #[.int .i64 2, .string (strOf tx), .int .i64 a] 31)))
                  have HBQ := Lib.hid ((HBel.out.alloc hsr (.cells #[.int .i64 2, .string (strOf tx), .int .i64 a] 31)))
                  have hsq := Nat.le_trans (Nat.le_of_eq HB.out) HBQ.out.size
                  go_wp2_with (first
                    | (go_at_call 21; refine (rsmall_any _ _).mono ?_; rintro e w' ⟨rfl, rfl⟩)
                    | (go_at_call 22; refine (rdigit_any _ _).mono ?_; rintro e w' ⟨rfl, rfl⟩)
                    | (at_builtin; refine wpList_append_tok rfl _ _ rfl B _ acc rfl (HOQ.out.alloc _) ⟨wo.heap.size + 1, 0, none⟩ 1 ⟨2, tx, a⟩ rfl (one_tok (by simp)) (by omega) (by simp at hsq ⊢; omega) ?_; intro v' w3 hown3 hgr))
                  go_roundw
                  case rel =>
                    have hb3 := (HBQ.out.alloc (by simp at hsq ⊢; omega) _).grown hgr (by simp at hsq ⊢; omega) (fun g hg => (HOQ.out.lt g hg).1)
                    exact ⟨a + z, acc ++ [_], by omega, by simp; omega, by go_num, Lib.hid hown3, Lib.hid hb3, Nat.le_trans (Nat.le_of_eq HB.out) hb3.size, HN⟩
                  case measure => simp [intOf]; omega
              · clear hd48
                have HN : Hid (St s.data.toList (a + z) (acc ++ [⟨2, tx, a⟩])) := Lib.hid (by
                  have h := HSt.out.tok' hl (by rw [HG.out]; exact HBL.out) HF'.out (by rw [wrong_of2, if_neg hn, ← HTX.out, if_neg (by rintro (h | ⟨h, _⟩) <;> (rw [← strOf_data tx, ← size_len, HSZ.out] at h; omega))])
                  rw [← HTX.out] at h
                  exact h)
                have HOQ := Lib.hid ((HO.out.alloc (.cells #[.int .i64 2, .string (strOf tx), .int .i64 a] 31)))
                have HBQ := Lib.hid ((HBel.out.alloc hsr (.cells #[.int .i64 2, .string (strOf tx), .int .i64 a] 31)))
                have hsq := Nat.le_trans (Nat.le_of_eq HB.out) HBQ.out.size
                go_wp2_with (first
                  | (go_at_call 21; refine (rsmall_any _ _).mono ?_; rintro e w' ⟨rfl, rfl⟩)
                  | (go_at_call 22; refine (rdigit_any _ _).mono ?_; rintro e w' ⟨rfl, rfl⟩)
                  | (at_builtin; refine wpList_append_tok rfl _ _ rfl B _ acc rfl (HOQ.out.alloc _) ⟨wo.heap.size + 1, 0, none⟩ 1 ⟨2, tx, a⟩ rfl (one_tok (by simp)) (by omega) (by simp at hsq ⊢; omega) ?_; intro v' w3 hown3 hgr))
                go_roundw
                case rel =>
                  have hb3 := (HBQ.out.alloc (by simp at hsq ⊢; omega) _).grown hgr (by simp at hsq ⊢; omega) (fun g hg => (HOQ.out.lt g hg).1)
                  exact ⟨a + z, acc ++ [_], by omega, by simp; omega, by go_num, Lib.hid hown3, Lib.hid hb3, Nat.le_trans (Nat.le_of_eq HB.out) hb3.size, HN⟩
                case measure => simp [intOf]; omega
        have h2' : digit s[a] = false := by simpa using h2
        clear h2
        have f1 := first_else HDR.out h1' h2'
        obtain ⟨z, hz0⟩ : ∃ z, z = signLen (s.data.toList.drop a) := ⟨_, rfl⟩
        have hzl : a + z ≤ s.size := by
          have := signLen_le (s.data.toList.drop a)
          rw [List.length_drop, ← HS.out, ← hz0] at this
          omega
        obtain ⟨tx, htx⟩ : ∃ tx, tx = (s.data.toList.drop a).take z := ⟨_, rfl⟩
        have hsz : (strOf tx).size = z := by rw [Lib.size_eq, strOf_data, htx, List.length_take, List.length_drop, ← HS.out]; omega
        have hex : s.extract a (a + z) = strOf tx := by rw [extract_str, htx]; congr 2; omega
        have c5 : ∀ w, Calls Try.prog 23 #[.string s, .int .i64 a] w (SignPost w z) := fun w => by
          rw [hz0]; exact sign_any s a w hs hlt
        rw [← hz0] at f1
        have HF := Lib.hid f1
        have HTX := Lib.hid htx
        have HEX := Lib.hid hex
        have HSZ := Lib.hid hsz
        have C5 := Lib.hid c5
        clear htx hsz hex hz0 f1 c5
        go_wp2_with (first
          | (go_at_call 21; refine (rsmall_any _ _).mono ?_; rintro e w' ⟨rfl, rfl⟩)
          | (go_at_call 22; refine (rdigit_any _ _).mono ?_; rintro e w' ⟨rfl, rfl⟩))
        refine (C5.out _).mono ?_
        rintro e w1 ⟨rfl, hdr⟩
        have T1 := (TokAt.new wo 0 ⟨#[]⟩ a).drawn hdr
        have hb1 := hdr.below (B := wo.heap.size + 1)
        have hc0 := T1.c0
        have hc1' := T1.c1
        have hc2' := T1.c2
        have hf0 := T1.fr 0
        have hf1 := T1.fr 1
        have hgne : ∀ k, (Value.slice A acc.length c).ownBlock = some k → k ≠ wo.heap.size := fun k hk => by have := (HO.out.lt k hk).2; omega
        have HO1 := (HO.out.alloc (.cells #[.int .i64 0, .string ⟨#[]⟩, .int .i64 a] 31)).below (hdr.below)
        have hb1' : Below B w w1 := (HBel.out.alloc hsr _).trans (hb1.mono (by omega))
        have RB0 : Hid (∀ u, Below B w (w1.setCell ⟨wo.heap.size, 0, none⟩ u)) := Lib.hid (fun u => hb1'.setCell hsr u)
        have RO2 : Hid (∀ u x, OwnToks ((w1.setCell ⟨wo.heap.size, 0, none⟩ u).setCell ⟨wo.heap.size, 1, none⟩ x) B (.slice A acc.length c) acc) := Lib.hid (fun u x => (HO1.set_ hgne u).set_ hgne x)
        have RB2 : Hid (∀ u x, Below B w ((w1.setCell ⟨wo.heap.size, 0, none⟩ u).setCell ⟨wo.heap.size, 1, none⟩ x)) := Lib.hid (fun u x => (hb1'.setCell hsr u).setCell hsr x)
        have hs1 : wo.heap.size < w1.heap.size := by rw [hdr.heap]; simp
        have hsz' := HSZ.out
        have hx := HEX.out
        clear hb1 hb1' T1 HO1 hgne hdr
        by_cases hz : 0 < z
        · have HF' : Hid (firstOf (s.data.toList.drop a) = (3, z)) := Lib.hid (by rw [HF.out, if_pos hz])
          by_cases hn : 4096 ≤ acc.length
          · go_wp2
            go_ret3
            rw [HT.out, HSt.out.err' hl (by rw [HG.out]; exact HBL.out) HF'.out (er := 12) (by rw [wrong_of3, if_pos hn]) (by decide)]
            exact ⟨by rw [← HB.out]; exact RB2.out _ _, rfl⟩
          have HN : Hid (St s.data.toList (a + z) (acc ++ [⟨3, tx, a⟩])) := Lib.hid (by
            have h := HSt.out.tok' hl (by rw [HG.out]; exact HBL.out) HF'.out (by rw [wrong_of3, if_neg hn])
            rw [← HTX.out] at h
            exact h)
          have HOQ := Lib.hid (RO2.out (.int .i64 3) (.string (strOf tx)))
          have HBQ := Lib.hid (RB2.out (.int .i64 3) (.string (strOf tx)))
          have hsq := Nat.le_trans (Nat.le_of_eq HB.out) HBQ.out.size
          go_wp2_with (first
            | (go_at_call 21; refine (rsmall_any _ _).mono ?_; rintro e w' ⟨rfl, rfl⟩)
            | (go_at_call 22; refine (rdigit_any _ _).mono ?_; rintro e w' ⟨rfl, rfl⟩)
            | (at_builtin; refine wpList_append_tok rfl _ _ rfl B _ acc rfl (HOQ.out.alloc _) ⟨w1.heap.size, 0, none⟩ 1 ⟨3, tx, a⟩ rfl (one_tok (by simp)) (by omega) (by simp at hsq ⊢; omega) ?_; intro v' w3 hown3 hgr))
          go_roundw
          case rel =>
            have hb3 := (HBQ.out.alloc (by simp at hsq ⊢; omega) _).grown hgr (by simp at hsq ⊢; omega) (fun g hg => (HOQ.out.lt g hg).1)
            exact ⟨a + z, acc ++ [_], by omega, by simp; omega, by go_num, Lib.hid hown3, Lib.hid hb3, Nat.le_trans (Nat.le_of_eq HB.out) hb3.size, HN⟩
          case measure => simp [intOf]; omega
        · obtain rfl : z = 0 := by omega
          have HF' : Hid (firstOf (s.data.toList.drop a) = (0, 0)) := Lib.hid (by rw [HF.out]; rfl)
          go_wp2
          go_ret3
          rw [HT.out, HSt.out.err' hl (by rw [HG.out]; exact HBL.out) HF'.out (er := 10) (by rfl) (by decide)]
          exact ⟨by rw [← HB.out]; exact RB0.out _, rfl⟩
      · go_wp2
        go_ret3
        rw [HT.out, HSt.out.stop (by rw [← HS.out]; exact hlt)]
        exact ⟨by rw [← HB.out]; exact HBel.out, hacc, _, rfl, by rw [← HB.out]; exact HO.out⟩

end Go.Proofs.Ytofodbaiehifjaa
