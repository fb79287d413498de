/- Kf Kb -/
import Derived.Test.YtodociiaobjfgaaGreatDoorVc4
set_option linter.unusedVariables false
set_option linter.unusedSimpArgs false
namespace Go.Proofs.YtodociiaobjfgaaGreatDoor
open Go.RowKit
theorem Xgx {w w' : World} {base : Nat} {v : Value} {l : List UInt8} (hown : Xas w base v l) (hgr : w.grownBy w' v.ownBlock) (hbase : base ≤ w.heap.size) : Below base w w' := by
 refine ⟨hgr.os, hgr.tape, hgr.output, hgr.size, fun k hk => hgr.block k (by omega) (fun e => ?_)⟩
 have := hown.blk e.symm
 omega
def Xqb (w : World) (B : Nat) (v : Value) (t : List (List UInt8)) : Prop :=
 ∃ A c, v = .slice A t.length c ∧ ∀ (k : Nat) (hk : k < t.length), ∃ g, A = some ⟨g, 0, none⟩ ∧ g < B ∧ w.cell? ⟨g, k, none⟩ = some (.string (Xaa t[k]))
theorem Xau.ok {w : World} {base : Nat} {v : Value} {l : List (List UInt8)} (h : Xau w base v l) : Xqb w w.heap.size v l := by
 have hh := h
 rcases h with ⟨h1, ⟨rfl, h2⟩ | ⟨g, cap, cur, rfl, hbg, hg, h3⟩⟩
 · exact ⟨none, 0, by rw [h2], fun k hk => by omega⟩
 · refine ⟨some ⟨g, 0, none⟩, cap, rfl, fun k hk => ⟨g, rfl, Xab hg, ?_⟩⟩
   have := World.ownsRow.cells (g := g) hh rfl k (.string (Xaa l[k])) (by simp [stV, hk])
   rwa [Xco, Nat.zero_add] at this
theorem Xau.lit {w : World} {base : Nat} (cs : Array Value) (l : List (List UInt8)) (n : Nat) (hn : n = l.length) (hc : cs.toList = stV l) (hb : base ≤ w.heap.size) (hm : l.length ≤ 1000) : Xau (w.alloc (.cells cs 9)) base (.slice (some ⟨w.heap.size, 0, none⟩) n n) l := by
 subst hn
 have hl : cs.size = l.length := by rw [← Array.length_toList, hc, Xmf]
 refine ⟨by rw [Xmf, Nat.mul_one], .inr ⟨w.heap.size, l.length, cs, rfl, hb, heap_alloc_new w _, Nat.le_refl _, by unfold maxLen; omega, by rw [hl, Nat.mul_one], ?_⟩⟩
 rw [hc, Nat.mul_one, ← Xmf, List.take_length]
theorem Xsd {T : List (List UInt8)} {j : Nat} (h : j < T.length) : Xbj (T.take (j + 1)) = Xbj (T.take j) ++ (if j = 0 then [] else [32]) ++ T[j] := by
 rw [List.take_succ_eq_append_getElem h, Xla]
 by_cases h0 : j = 0
 · subst h0; simp
 · have h1 : T.take j ≠ [] := by
    intro e
    have := congrArg List.length e
    rw [List.length_take, List.length_nil] at this
    omega
   rw [if_neg h0, if_neg h1]
theorem Xlx (T : List (List UInt8)) (j : Nat) : (Xbj (T.take j)).length ≤ (Xbj T).length := by
 have := Xir (T.take j) (T.drop j)
 rwa [List.take_append_drop] at this
set_option maxHeartbeats 2000000 in
set_option maxRecDepth 100000 in
theorem Xjz (w : World) (T : List (List UInt8)) (tv : Value) (hin : Xqb w w.heap.size tv T) (hlen : (Xbj T).length ≤ 90000) (hT : T.length ≤ 100000) :
  Calls Tryz.prog 19 #[tv] w fun e w' => e = .returned (.string (Xaa (Xbj T))) ∧ Below w.heap.size w w' := by
 obtain ⟨A, c, rfl, hcells⟩ := hin
 obtain ⟨n, hn⟩ : ∃ n, n = T.length := ⟨_, rfl⟩
 rw [← hn]
 rw [← hn] at hT
 obtain ⟨g, hg⟩ : ∃ g, g = w.heap.size := ⟨_, rfl⟩
 rw [← hg] at hcells
 have HCE := lh hcells
 have HN := lh hn
 have HL := lh hlen
 have HG := lh hg
 have HE := lh (Xas.empty (w := w) (base := g) (by omega))
 have HBE := lh ((Below.refl g w).alloc (by omega) (.cells #[] 5))
 clear hcells hn hlen hg
 go_enter Tryz.func19, Tryz.ntmps19
 go_wp2
 go_loopw [3, 4] (fun o i wr => ∃ (j M : Nat) (A3 : Option Addr) (c3 : Nat), j ≤ n ∧ i = .int .i64 j ∧ o = .slice A3 M c3 ∧ Hid (M = (Xbj (T.take j)).length) ∧ Hid (Xas wr g (.slice A3 M c3) (Xbj (T.take j))) ∧ Hid (Below g w wr)) (fun _ i _ => n - (intOf i).toNat)
 case atStart => exact ⟨0, 0, _, 0, Nat.zero_le _, rfl, rfl, lh rfl, HE, HBE⟩
 case round =>
  obtain ⟨wq, rfl⟩ : ∃ wq : World, wq = wr := ⟨_, rfl⟩
  obtain ⟨j, M, A3, c3, hj, rfl, rfl, HM, HO, HB⟩ := hrel
  have hgq : g ≤ wq.heap.size := by have := HB.out.size; have h := HG.out; omega
  have HGQ := lh hgq
  clear hgq
  by_cases hlt : j < n
  · have hjT : j < T.length := by rw [← HN.out]; exact hlt
    obtain ⟨gt, rfl, hgt, hc0⟩ := HCE.out j hjT
    have hca : ∀ V : World, Below g w V → V.cell? ⟨gt, j, none⟩ = some (.string (Xaa T[j])) := fun V hV => (hV.cell (p := ⟨gt, j, none⟩) hgt).trans hc0
    have hc1 := hca wq HB.out
    have hnext := Xsd hjT
    have hle := Xlx T (j + 1)
    obtain ⟨t, ht⟩ : ∃ t, t = T[j] := ⟨_, rfl⟩
    rw [← ht] at hc1 hnext hca
    have HCA := lh hca
    obtain ⟨C, hC⟩ : ∃ C, C = Xbj (T.take j) := ⟨_, rfl⟩
    obtain ⟨C2, hC2⟩ : ∃ C2, C2 = Xbj (T.take (j + 1)) := ⟨_, rfl⟩
    rw [← hC] at HM HO hnext
    rw [← hC2] at hnext hle
    have hle2 := Nat.le_trans hle HL.out
    have HNX := lh hnext
    have HLE := lh hle2
    have HC2 := lh hC2
    clear hca hc0 ht hle hle2 hnext hC hC2 hjT HCE hgt
    by_cases hj0 : j = 0
    · subst hj0
      have HN2 : Hid (C2 = C ++ t) := lh (by rw [HNX.out, if_pos rfl, List.append_nil])
      go_wp2_with (at_builtin; refine Xbk rfl _ _ rfl g (.slice A3 M c3) C (by rw [HM.out]; rfl) HO.out t rfl (by have h1 := HLE.out; rw [HN2.out, List.length_append] at h1; omega) HGQ.out ?_; intro v4 w4 hown4 hgr4 _; have hb4 := Xgx HO.out hgr4 HGQ.out; rw [← HN2.out] at hown4; obtain ⟨A4, c4, hv4⟩ := hown4.form; obtain ⟨M4, hM4⟩ : ∃ M4, M4 = C2.length := ⟨_, rfl⟩; rw [← hM4] at hv4; subst hv4; have HM4 := lh hM4; have HO4 := lh hown4; have HB4 := lh (HB.out.trans hb4); clear hown4 hgr4 hb4 hM4)
      go_roundw
      case rel => exact ⟨0 + 1, M4, A4, c4, by omega, by go_num, rfl, by rw [← HC2.out]; exact HM4, by rw [← HC2.out]; exact HO4, HB4⟩
      case measure => first | (simp [intOf]; done) | (simp [intOf]; omega)
    · have HN2 : Hid (C2 = (C ++ [32]) ++ t) := lh (by rw [HNX.out, if_neg hj0])
      have hjp : 0 < j := by omega
      have hd : decide (0 < j) = true := by simpa using hjp
      go_wp2_with (first
       | (at_builtin; refine Xbt rfl _ _ rfl g (.slice A3 M c3) C (by rw [HM.out]; rfl) (HO.out.alloc _) wq.heap.size 1 rfl 32 (Xma wq 32) (by have h1 := HLE.out; rw [HN2.out, List.length_append, List.length_append] at h1; omega) (by have := HGQ.out; simp; omega) ?_; intro v5 w5 hown5 hb5; have hb5' := (HB.out.alloc HGQ.out _).trans hb5; have hc5 := HCA.out w5 hb5'; have HB5 := lh hb5'; have HO5 := lh hown5; obtain ⟨A5, c5, hv5⟩ := hown5.form; obtain ⟨M5, hM5⟩ : ∃ M5, M5 = (C ++ [32]).length := ⟨_, rfl⟩; rw [← hM5] at hv5; subst hv5; have HM5 := lh hM5; have HG5 : Hid (g ≤ w5.heap.size) := lh (by have := hb5'.size; have h := HG.out; omega); clear hown5 hb5 hb5' hM5)
       | (at_builtin; refine Xbk rfl _ _ rfl g (.slice A5 M5 c5) (C ++ [32]) (by rw [HM5.out]; rfl) HO5.out t rfl (by have h1 := HLE.out; rw [HN2.out, List.length_append] at h1; omega) HG5.out ?_; intro v4 w4 hown4 hgr4 _; have hb4 := Xgx HO5.out hgr4 HG5.out; rw [← HN2.out] at hown4; obtain ⟨A4, c4, hv4⟩ := hown4.form; obtain ⟨M4, hM4⟩ : ∃ M4, M4 = C2.length := ⟨_, rfl⟩; rw [← hM4] at hv4; subst hv4; have HM4 := lh hM4; have HO4 := lh hown4; have HB4 := lh (HB5.out.trans hb4); clear hown4 hgr4 hb4 hM4))
      go_roundw
      case rel => exact ⟨j + 1, M4, A4, c4, by omega, by go_num, rfl, by rw [← HC2.out]; exact HM4, by rw [← HC2.out]; exact HO4, HB4⟩
      case measure => first | (simp [intOf]; done) | (simp [intOf]; omega)
  · have hcv := HO.out.conv
    rw [List.take_of_length_le (by rw [← HN.out]; omega)] at hcv
    go_wp2
    go_ret
    exact ⟨rfl, HG.out ▸ HB.out⟩
set_option maxHeartbeats 2000000 in
set_option maxRecDepth 100000 in
theorem Xfg (w : World) (t : List UInt8) (ht : t.length ≤ 40000) :
  Calls Tryz.prog 31 #[.string (Xaa t)] w fun e w' => ∃ v, e = .returned v ∧ Xau w' w.heap.size v ((tyT t).getD []) ∧ Below w.heap.size w w' := by
 obtain ⟨S, hS⟩ : ∃ S, S = Xaa t := ⟨_, rfl⟩
 have htl : S.toList = t := by rw [hS, Lib.toList_data]; rfl
 rw [← hS]
 have HS := lh hS
 have HTL := lh htl
 clear hS htl
 by_cases s1 : t = [105, 110, 116]
 · have t1 : S.toList = [105, 110, 116] := HTL.out.trans s1
   have HO := lh (Xau.lit (w := w) (base := w.heap.size) #[.string S] ((tyT t).getD []) 1 (by rw [s1]; rfl) (by rw [HS.out, s1]; rfl) (Nat.le_refl _) (by rw [s1]; decide))
   clear s1
   go_enter Tryz.func31, Tryz.ntmps31
   go_wp2
   go_ret
   exact ⟨_, rfl, HO.out, (Below.refl _ _).alloc (Nat.le_refl _) _⟩
 have q1 : (S.toList == [105, 110, 116]) = false := by rw [HTL.out]; simpa using s1
 by_cases s2 : t = [98, 111, 111, 108]
 · have t1 : S.toList = [98, 111, 111, 108] := HTL.out.trans s2
   have HO := lh (Xau.lit (w := w) (base := w.heap.size) #[.string S] ((tyT t).getD []) 1 (by rw [s2]; rfl) (by rw [HS.out, s2]; rfl) (Nat.le_refl _) (by rw [s2]; decide))
   clear s1 s2
   go_enter Tryz.func31, Tryz.ntmps31
   go_wp2
   go_ret
   exact ⟨_, rfl, HO.out, (Below.refl _ _).alloc (Nat.le_refl _) _⟩
 have q2 : (S.toList == [98, 111, 111, 108]) = false := by rw [HTL.out]; simpa using s2
 by_cases s3 : t = [91, 93, 105, 110, 116]
 · have t1 : S.toList = [91, 93, 105, 110, 116] := HTL.out.trans s3
   have HO := lh (Xau.lit (w := w) (base := w.heap.size) #[.string ⟨#[91]⟩, .string ⟨#[93]⟩, .string ⟨#[105, 110, 116]⟩] ((tyT t).getD []) 3 (by rw [s3]; rfl) (by rw [s3]; rfl) (Nat.le_refl _) (by rw [s3]; decide))
   clear s1 s2 s3
   go_enter Tryz.func31, Tryz.ntmps31
   go_wp2
   go_ret
   exact ⟨_, rfl, HO.out, (Below.refl _ _).alloc (Nat.le_refl _) _⟩
 have q3 : (S.toList == [91, 93, 105, 110, 116]) = false := by rw [HTL.out]; simpa using s3
 have hsz : S.size = t.length := by rw [HS.out, Lib.size_eq, Xak]
 have hex : S.extract 1 S.size = Xaa t.tail := by
  rw [Lib.extract_eq, HS.out, Xak, List.drop_one, List.take_of_length_le (by rw [List.length_tail, Lib.size_eq, Xak]; omega)]
  rfl
 have hnm := Xkb (S.extract 1 S.size) w (by rw [hex, Lib.size_eq, Xak, List.length_tail]; omega)
 rw [hex, Xak] at hnm
 have hhd : ∀ (h2 : 0 < S.size), t.head? = some 42 → (S[0].toNat : Int) = 42 := by
  intro h2 h4
  have := HS.out
  subst this
  cases t with
  | nil => cases h4
  | cons b r =>
    have e : b = 42 := by simpa using h4
    subst e
    rfl
 have hh2 : ∀ (h2 : 0 < S.size), (S[0].toNat : Int) = 42 → t.head? = some 42 := by
  intro h2 h4
  have := HS.out
  subst this
  cases t with
  | nil => simp [Lib.size_eq, Xak] at h2
  | cons b r =>
    have h5 : (b.toNat : Int) = 42 := h4
    have h6 : b = 42 := by apply UInt8.toNat_inj.1; simpa using (by omega : b.toNat = 42)
    rw [h6]; rfl
 have ht1 : ¬ t.head? = some 42 → (tyT t).getD [] = [] := fun h => by
  unfold tyT
  rw [if_neg h, if_neg s3, if_neg (by intro h; rcases h with h | h; exact s1 h; exact s2 h)]
  rfl
 have ht0 : t.length ≤ 1 → (tyT t).getD [] = [] := fun h => by
  by_cases h4 : t.head? = some 42
  · unfold tyT
    rw [if_pos h4]
    have e : t.tail = [] := List.eq_nil_of_length_eq_zero (by rw [List.length_tail]; omega)
    rw [e]
    rfl
  · exact ht1 h4
 have ht2 : t.head? = some 42 → (tyT t).getD [] = if Xam t.tail = true then [[42], t.tail] else [] := fun h => by
  unfold tyT
  rw [if_pos h]
  split <;> rfl
 have HSZ := lh hsz
 have HEX := lh hex
 have HNM := lh hnm
 have HHD := lh hhd
 have HH2 := lh hh2
 have HT0 := lh ht0
 have HT1 := lh ht1
 have HT2 := lh ht2
 clear hsz hnm hhd hh2 ht0 ht1 ht2 s1 s2 s3
 go_enter Tryz.func31, Tryz.ntmps31
 go_wp2_with (first
  | (go_at_call 30; refine (HNM.out).mono ?_; rintro e w2 ⟨rfl, hb2⟩; have HB2 := lh hb2; clear hb2))
 · go_ret
   refine ⟨_, rfl, ?_, HB2.out.alloc HB2.out.size _⟩
   rw [HT2.out (HH2.out (by assumption) (by assumption)), if_pos (by assumption)]
   exact Xau.lit #[.string ⟨#[42]⟩, .string (Xaa t.tail)] [[42], t.tail] 2 rfl rfl HB2.out.size (by simp)
 · go_ret
   refine ⟨_, rfl, ?_, HB2.out⟩
   rw [HT2.out (HH2.out (by assumption) (by assumption)), if_neg (by first | assumption | (rw [Bool.not_eq_true]; assumption))]
   exact Xau.nil _ _
 · rename_i h1 h2 h3
   go_ret
   refine ⟨_, rfl, ?_, Below.refl _ _⟩
   rw [HT1.out (fun h4 => h3 (HHD.out h2 h4))]
   exact Xau.nil _ _
 · rename_i h1
   go_ret
   refine ⟨_, rfl, ?_, Below.refl _ _⟩
   rw [HT0.out (by have := HSZ.out; omega)]
   exact Xau.nil _ _
theorem Xjx (k : Int) (w : World) : Calls Tryz.prog 75 #[.int .i64 k] w fun e w' => e = .returned (.int .i64 (argsN k : Nat)) ∧ w' = w := by
 by_cases h1 : k = 5 ∨ k = 8 ∨ k = 9 ∨ k = 12
 · have e : argsN k = 1 := by unfold argsN; rw [if_pos h1]
   rw [e]
   rcases h1 with rfl | rfl | rfl | rfl
   all_goals
    go_enter Tryz.func75, Tryz.ntmps75
    go_wp2
    go_ret
    exact ⟨rfl, rfl⟩
 · by_cases h2 : k = 6 ∨ k = 10
   · have e : argsN k = 2 := by unfold argsN; rw [if_neg h1, if_pos h2]
     rw [e]
     rcases h2 with rfl | rfl
     all_goals
      go_enter Tryz.func75, Tryz.ntmps75
      go_wp2
      go_ret
      exact ⟨rfl, rfl⟩
   · by_cases h3 : k = 7
     · subst h3
       go_enter Tryz.func75, Tryz.ntmps75
       go_wp2
       go_ret
       exact ⟨rfl, rfl⟩
     · have e : argsN k = 0 := by unfold argsN; rw [if_neg h1, if_neg h2, if_neg h3]
       rw [e]
       have q5 : (k == 5) = false := by simp; omega
       have q8 : (k == 8) = false := by simp; omega
       have q9 : (k == 9) = false := by simp; omega
       have q12 : (k == 12) = false := by simp; omega
       have q6 : (k == 6) = false := by simp; omega
       have q10 : (k == 10) = false := by simp; omega
       have q7 : (k == 7) = false := by simp; omega
       clear h1 h2 h3 e
       go_enter Tryz.func75, Tryz.ntmps75
       go_wp2
       go_ret
       exact ⟨rfl, rfl⟩
theorem Xht (k : Int) (w : World) : Calls Tryz.prog 76 #[.int .i64 k] w fun e w' => e = .returned (.bool (Xbb k)) ∧ w' = w := by
 by_cases h1 : k = 5 ∨ k = 6 ∨ k = 7
 · have e : Xbb k = true := by unfold Xbb; simpa using h1
   rw [e]
   rcases h1 with rfl | rfl | rfl
   all_goals
    go_enter Tryz.func76, Tryz.ntmps76
    go_wp2
    go_ret
    exact ⟨rfl, rfl⟩
 · have e : Xbb k = false := by unfold Xbb; simpa using h1
   rw [e]
   have q5 : (k == 5) = false := by simp; omega
   have q6 : (k == 6) = false := by simp; omega
   have q7 : (k == 7) = false := by simp; omega
   clear h1 e
   go_enter Tryz.func76, Tryz.ntmps76
   go_wp2
   go_ret
   exact ⟨rfl, rfl⟩
end Go.Proofs.YtodociiaobjfgaaGreatDoor
