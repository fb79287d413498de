/- The walk of LexAgain. -/
import Derived.Test.YtofodbaiehifjaaSh
import Derived.Deep.QuietTactic
import Derived.BigQuiet
import Derived.IntWalk
set_option linter.unusedVariables false
namespace Go.Proofs.Ytofodbaiehifjaa
open Go.RowKit

theorem flat_take {y : List Tok} {k : Nat} (h : k < y.length) : flat (y.take (k + 1)) = flat (y.take k) ++ y[k].text ++ [32] := by
  rw [List.take_succ_eq_append_getElem h, flat_app]
  simp [flat]
theorem flat_le {y : List Tok} (k : Nat) : (flat (y.take k)).length ≤ (flat y).length := by
  have : flat y = flat (y.take k) ++ flat (y.drop k) := by rw [← flat_app, List.take_append_drop]
  rw [this, List.length_append]; omega
theorem lastAt_next {y : List Tok} {k : Nat} (h : k < y.length) : lastAt y (k + 1) = y[k].pl + y[k].text.length := by
  show (y[k]?.map fun t => t.pl + t.text.length).getD 0 = _
  rw [List.getElem?_eq_getElem h]; rfl

theorem Drawn.more {w w' : World} (h : Drawn w w') (n : Nat) : Drawn w (w'.drewN n) := by
  obtain ⟨m, rfl⟩ := h
  exact ⟨m + n, by simp [World.drewN, Nat.add_assoc]⟩
theorem one_blank (w : World) : (w.alloc (.cells #[.int .u8 32] 5)).cell? ⟨w.heap.size, 0, none⟩ = some (.int .u8 32) := by
  rw [cell_of_row _ _ 0 _ _ (0, 0) (heap_alloc_new w _)]
  rfl

set_option maxHeartbeats 4000000 in
set_option maxRecDepth 100000 in
theorem again_walk (w : World) (s : ByteArray) : Calls Try.prog 5 #[.string s] w (TruePost w) := by
  have hal := Lib.hid (alive_any w)
  by_cases hs : s.size ≤ 8192
  · have HS := Lib.hid (size_len s)
    cases hT : toks s.data.toList with
    | err p c =>
      have hcn := toks_err_ne hT
      have hc0 : ((c : Int) != 0) = true := by simp; exact hcn
      have c1 := Lib.hid (fun w1 => tok_err (by omega) hT (w := w) w1)
      clear hT hcn
      go_enter Try.func5, Try.ntmps5
      go_wp2_with fail
      refine (hal.out w (Below.refl _ _)).mono ?_
      rintro e w1 ⟨rfl, hb1⟩
      go_wp2_with fail
      refine (c1.out _ hb1).mono ?_
      rintro e w2 ⟨rfl, _, hb2⟩
      go_wp2
      go_ret
      exact ⟨rfl, hb2⟩
    | ok y =>
      have hT' := hT
      rw [toks_small (by rw [← HS.out]; omega)] at hT'
      have hpl := sc_placed s.data.toList s.data.toList 0 0 y rfl hT'
      obtain ⟨z, hz, hal2⟩ := sc_again _ _ _ _ hT' 0
      have hfl := flat_len _ _ _ _ hT'
      rw [← HS.out] at hfl
      have hzt : toks (strOf (flat y)).data.toList = .ok z := by rw [strOf_data, toks_small (by omega)]; exact hz
      have hfs : (strOf (flat y)).size ≤ 40000 := by rw [Lib.size_eq, strOf_data]; omega
      obtain ⟨ny, hny⟩ : ∃ ny, ny = y.length := ⟨_, rfl⟩
      have hzl : z.length = ny := by rw [hny, ← hal2.len]
      have c1 := Lib.hid (fun w1 => tok_ok (by omega) hT (w := w) w1)
      have c2 := Lib.hid (fun w1 => tok_ok hfs hzt (w := w) w1)
      have HPL := Lib.hid hpl
      have HAL := Lib.hid hal2
      have HFL := Lib.hid hfl
      have HNY := Lib.hid hny
      have HZL := Lib.hid hzl
      clear hT hT' hpl hz hal2 hfl hzt hfs hny hzl
      go_enter Try.func5, Try.ntmps5
      go_wp2_with fail
      refine (hal.out w (Below.refl _ _)).mono ?_
      rintro e w1 ⟨rfl, hb1⟩
      go_wp2_with fail
      refine (c1.out _ hb1).mono ?_
      rintro e w2 ⟨A, c, rfl, hT1, hc1, hc2, hx4, hb12, hb2⟩
      rw [← HNY.out] at hc1 hx4 ⊢
      have HT1 := Lib.hid hT1
      have ho0 : OwnBytes (w2.alloc (.cells #[] 5)) w2.heap.size (.slice (some ⟨w2.heap.size, 0, none⟩) 0 0) (flat (y.take 0)) :=
        World.ownsRow_lit (e := 5) (size := 1) w2 #[] 0 (Nat.le_refl _) (by unfold maxLen; omega) rfl
      have HO0 := Lib.hid ho0
      have HB2 := Lib.hid hb2
      clear hT1 ho0 hb2 hb12
      go_wp2
      go_loopw [8, 6, 7] (fun i v la wr => ∃ k : Nat, k ≤ ny ∧ i = .int .i64 k ∧ la = .int .i64 (lastAt y k : Nat) ∧ Hid (OwnBytes wr w2.heap.size v (flat (y.take k))) ∧ Hid (Below w2.heap.size w2 wr)) (fun i _ _ _ => ny - (intOf i).toNat)
      case atStart => exact ⟨0, Nat.zero_le _, rfl, rfl, HO0, Lib.hid ((Below.refl _ _).alloc (Nat.le_refl _) _)⟩
      case round =>
        obtain ⟨wo, rfl⟩ : ∃ wo : World, wo = wr := ⟨_, rfl⟩
        obtain ⟨k, hk, rfl, rfl, HO, HBL⟩ := hrel
        by_cases hlt : k < ny
        · have hky : k < y.length := by rw [← HNY.out]; exact hlt
          obtain ⟨g1, g2, g3, g4, g5⟩ := HPL.out.get k hky
          obtain ⟨b1, rfl, hbb1, p0, p1, p2⟩ := (HT1.out.below HBL.out) k hky
          have hft := flat_take hky
          have hfle := flat_le (y := y) (k + 1)
          have hln := lastAt_next hky
          have g1' : lastAt y k ≤ y[k].pl := by
            by_cases h0 : k = 0
            · subst h0; exact Nat.zero_le _
            · rw [if_neg h0] at g1; exact g1
          obtain ⟨la, hla⟩ : ∃ la, la = lastAt y k := ⟨_, rfl⟩
          obtain ⟨tk, htk⟩ : ∃ t : Int, t = (y[k].kind : Nat) := ⟨_, rfl⟩
          obtain ⟨tx, htx⟩ : ∃ t, t = y[k].text := ⟨_, rfl⟩
          obtain ⟨p, hp⟩ : ∃ t : Nat, t = y[k].pl := ⟨_, rfl⟩
          obtain ⟨zl, hzl⟩ : ∃ zl, zl = tx.length := ⟨_, rfl⟩
          obtain ⟨fl, hfl⟩ : ∃ fl, fl = flat (y.take k) := ⟨_, rfl⟩
          rw [← hla, ← hp] at g1'
          rw [← hp, ← htx] at g2 g3 hln
          rw [← htx] at g4 g5 hft
          rw [← hzl] at g2 g3 hln
          rw [← hfl] at hft HO
          rw [← htk] at p0
          rw [← htx] at p1
          rw [← hp] at p2
          rw [← hla]
          rw [← HS.out] at g2
          have hsz : (strOf tx).size = zl := by rw [Lib.size_eq, strOf_data, hzl]
          have hex : s.extract p (p + zl) = strOf tx := by rw [extract_str, show p + zl - p = zl from by omega, g3]
          have hz0 : 0 < zl := by rw [hzl]; exact List.length_pos_iff.2 g4
          have hflb : fl.length + zl ≤ 20000 := by
            have := HFL.out
            rw [hft] at hfle
            simp at hfle
            omega
          have HFT := Lib.hid hft
          have HLN := Lib.hid hln
          have HG5 := Lib.hid g5
          have HSZ := Lib.hid hsz
          have HZL' := Lib.hid hzl
          have t1 : ((zl : Int) == 0) = false := by rw [beq_eq_false_iff_ne]; omega
          have t2 : decide ((p : Int) < (la : Int)) = false := by simp; omega
          have t2' : decide (p < la) = false := by simp; omega
          have t3 : decide ((s.size : Int) - (zl : Int) < (p : Int)) = false := by simp; omega
          have t4 : ((strOf tx).toList != (strOf tx).toList) = false := by simp
          clear g1 g3 g4 g5 hft hfle hln htk htx hp hzl hfl hla
          have b3 : -9223372036854775808 ≤ (s.size : Int) - (zl : Int) ∧ (s.size : Int) - (zl : Int) ≤ 9223372036854775807 := by omega
          have b4 : -9223372036854775808 ≤ (p : Int) + (zl : Int) ∧ (p : Int) + (zl : Int) ≤ 9223372036854775807 := by omega
          have r1 : 0 ≤ (p : Int) + (zl : Int) := by omega
          have r2 : ((p : Int) + (zl : Int)).toNat = p + zl := by omega
          have r3 := IntWalk.i64_in _ b3
          have r4 := IntWalk.i64_in _ b4
          clear b3 b4
          go_wp2
          go_quiet (fail)
          generalize hwq : (wo.alloc (.cells #[.int .i64 tk, .string (strOf tx), .int .i64 p] 31)).drewN _ = wq
          have hd : Drawn (wo.alloc (.cells #[.int .i64 tk, .string (strOf tx), .int .i64 p] 31)) wq := ⟨_, hwq.symm⟩
          have hTA := (TokAt.new wo tk (strOf tx) p).drawn hd
          have k1 := hTA.c1
          have k2 := hTA.c2
          have hwo : w2.heap.size ≤ wo.heap.size := HBL.out.size
          have HOq := Lib.hid ((HO.out.alloc (.cells #[.int .i64 tk, .string (strOf tx), .int .i64 p] 31)).below hd.below)
          have HBq := Lib.hid ((HBL.out.alloc hwo (.cells #[.int .i64 tk, .string (strOf tx), .int .i64 p] 31)).trans hd.below)
          clear hwq hd hTA p0 p1 p2 r1 r2 r3 r4 hex t1 t2 t2' t3 t4 HO
          go_wp2
          go_loop [10] (fun i => ∃ m : Nat, m ≤ zl ∧ i = .int .i64 m) (fun i => zl - (intOf i).toNat)
          case atStart => exact ⟨0, Nat.zero_le _, rfl⟩
          case round =>
            obtain ⟨m, hm, rfl⟩ := hrel
            by_cases hmz : m < zl
            · have hmt : m < (strOf tx).size := by rw [HSZ.out]; exact hmz
              have hby : 32 < (strOf tx)[m].toNat := HG5.out _ (by
                have : (strOf tx)[m] = tx[m]'(by rw [← HZL'.out]; exact hmz) := rfl
                rw [this]; exact List.getElem_mem _)
              have hle : decide (((strOf tx)[m].toNat : Int) ≤ 32) = false := by simp; omega
              go_wp2
              go_round
              case rel => exact ⟨m + 1, by omega, by go_num⟩
              case measure => simp [intOf]; omega
            · have hsb := HBq.out.size
              have hle2 : fl.length + tx.length ≤ 100000 := by rw [← HZL'.out]; omega
              have hle3 : (fl ++ tx).length ≤ 100000 := by rw [List.length_append]; exact hle2
              go_wp2_with (first
                | (at_builtin; refine wpList_append_text rfl _ _ rfl w2.heap.size u6 fl rfl HOq.out tx rfl hle2 hsb ?_; intro v3 w3 hown3 hgr3; have hb3 := HBq.out.grown hgr3 hsb (fun g hg => (HOq.out.lt g hg).1); have hsb3 := hb3.size)
                | (at_builtin; refine wpList_append_blank rfl _ _ rfl w2.heap.size v3 (fl ++ tx) rfl (hown3.alloc _) w3.heap.size 1 rfl (one_blank w3) hle3 (by simp; omega) ?_; intro v4 w4 hown4 hgr4))
              go_roundw
              case rel =>
                have hb4 := (hb3.alloc hsb3 _).grown hgr4 (by simp; omega) (fun g hg => (hown3.lt g hg).1)
                exact ⟨k + 1, by omega, by go_num, by rw [HLN.out]; go_num, Lib.hid (by rw [HFT.out]; exact hown4), Lib.hid hb4⟩
              case measure => simp [intOf]; omega
        · have hke : k = ny := by omega
          subst hke
          have hty : y.take k = y := List.take_of_length_le (by rw [HNY.out]; exact Nat.le_refl _)
          rw [hty] at HO
          have hcv := HO.out.conv
          have hbw : Below w.heap.size w wo := HB2.out.trans (HBL.out.mono HB2.out.size)
          have HT1w := Lib.hid ((HT1.out.below HBL.out))
          have HBL2 := Lib.hid HBL.out
          clear hty HO HBL
          go_wp2_with fail
          refine (c2.out _ hbw).mono ?_
          rintro e w3 ⟨D, d, rfl, hT2, hd1, hd2, hl5, hb23, hb3⟩
          have hzl := HZL.out
          rw [hzl] at hd1 ⊢
          have HT2 := Lib.hid hT2
          have HT3 := Lib.hid (HT1w.out.below (hb23.mono HBL2.out.size))
          have HB3 := Lib.hid hb3
          clear hT2 hb23 hzl hl5 hb3 hcv
          go_wp2
          go_loopw [13] (fun i wr => ∃ m : Nat, m ≤ k ∧ i = .int .i64 m ∧ Drawn w3 wr) (fun i _ => k - (intOf i).toNat)
          case atStart => exact ⟨0, Nat.zero_le _, rfl, Drawn.refl _⟩
          case round =>
            obtain ⟨m, hm, rfl, hq⟩ := hrel
            by_cases hmk : m < k
            · have hmy : m < y.length := by rw [← HNY.out]; exact hmk
              have hmz : m < z.length := by rw [HZL.out]; exact hmk
              obtain ⟨a1, a2⟩ := HAL.out.get m hmy hmz
              obtain ⟨b1, rfl, _, p0, p1, pz⟩ := HT3.out m hmy
              obtain ⟨b2, rfl, _, q0, q1, qz⟩ := HT2.out m hmz
              rw [← a1] at q0
              rw [← a2] at q1
              obtain ⟨tk, htk⟩ : ∃ t : Int, t = (y[m].kind : Nat) := ⟨_, rfl⟩
              obtain ⟨tx, htx⟩ : ∃ t, t = strOf y[m].text := ⟨_, rfl⟩
              rw [← htk] at p0 q0
              rw [← htx] at p1 q1
              have p0' := (hq.cell _).trans p0
              have p1' := (hq.cell _).trans p1
              have q0' := (hq.cell _).trans q0
              have q1' := (hq.cell _).trans q1
              have e1 : (tk != tk) = false := by simp
              have e2 : (tx.toList != tx.toList) = false := by simp
              clear p0 p1 q0 q1 pz qz htk htx a1 a2
              clear hmy hmz
              go_wp2
              go_quiet (fail)
              go_wp2
              go_roundw
              case rel => exact ⟨m + 1, by omega, by go_num, hq.more _⟩
              case measure => simp [intOf]; omega
            · go_wp2
              go_ret
              exact ⟨rfl, HB3.out.trans hq.below⟩
  · go_enter Try.func5, Try.ntmps5
    go_wp2_with fail
    refine (hal.out w (Below.refl _ _)).mono ?_
    rintro e w1 ⟨rfl, hb1⟩
    go_wp2
    go_ret
    exact ⟨rfl, hb1⟩

end Go.Proofs.Ytofodbaiehifjaa
