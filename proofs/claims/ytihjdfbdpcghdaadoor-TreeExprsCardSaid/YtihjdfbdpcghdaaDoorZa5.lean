/- Ke -/
import Derived.Test.YtihjdfbdpcghdaaDoorZa6
import Derived.IntWalk
set_option linter.unusedVariables false
set_option linter.unusedSimpArgs false
namespace Go.Proofs.YtihjdfbdpcghdaaDoor
open Go.RowKit
theorem wpList_append_byte {ops : Array Oper} {rest : List Oper} {o : Oper} {a : Act} {w : World} {Q : Exit → Act → World → Prop} (hgd : o.guard = none) (sl x : Operand)
    (ho : o.op = .call { callee := .builtin .append, args := #[sl, x], argTypes := #[56, 56] })
    (base : Nat) (v : Value) (l : List UInt8) (hs : a.eval sl = v) (hown : OwnBytes w base v l) (g c : Nat) (hx : a.eval x = .slice (some ⟨g, 0, none⟩) 1 c) (b : UInt8) (hg : w.cell? ⟨g, 0, none⟩ = some (.int .u8 (b.toNat : Nat))) (hb : l.length ≤ 100000) (hbase : base ≤ w.heap.size)
    (h : ∀ v' w', OwnBytes w' base v' (l ++ [b]) → Below base w w' → wpList Tryd.prog ops Q rest (a.put o.dst v') w') : wpList Tryd.prog ops Q (o :: rest) a w := by
  obtain ⟨i0, hi, hz0, hz1, hz2⟩ := info_parts info_u8
  refine wpList_append_lies _ hgd sl x 56 ho base 5 i0 (.int .u8 0) 1 1 Tryd.underlying56 hi hz0 hz1 hz2 rfl (by decide) v l.length (byV l) hs hown ⟨g, 0, none⟩ 1 c [.int .u8 (b.toNat : Nat)] hx rfl (fun j u hu => ?_) (by simp [Value.oneCell']) (by omega) (by unfold maxLen; omega) (by omega) hbase w.heap.size rfl fun g' cap w' hown' hgr hat _ => h _ w' ?_ ?_
  · match j, hu with
    | 0, hu =>
      have e : Value.int .u8 (b.toNat : Nat) = u := by simpa using hu
      rw [add_pl, ← e]; exact hg
    | j + 1, hu => simp at hu
  · unfold OwnBytes
    rw [List.length_append, byV_app]
    exact hown'
  · refine ⟨hgr.os, hgr.tape, hgr.output, hgr.size, fun k hk => hgr.block k (by omega) (fun e => ?_)⟩
    have := hown.blk e.symm
    omega
def revD (u : Nat) : List UInt8 := if h : u < 10 then [UInt8.ofNat (48 + u)] else UInt8.ofNat (48 + u % 10) :: revD (u / 10)
termination_by u
decreasing_by omega
theorem revD_small {u : Nat} (h : u < 10) : revD u = [UInt8.ofNat (48 + u)] := by rw [revD, dif_pos h]
theorem revD_big {u : Nat} (h : ¬ u < 10) : revD u = UInt8.ofNat (48 + u % 10) :: revD (u / 10) := by rw [revD, dif_neg h]
theorem revD_dec (u : Nat) : (revD u).reverse = Lib.decDigits u := by
  induction u using Nat.strongRecOn with
  | _ u ih =>
    by_cases h : u < 10
    · rw [revD_small h, Lib.decDigits, dif_pos h]; rfl
    · rw [revD_big h, Lib.decDigits, dif_neg h, List.reverse_cons, ih (u / 10) (by omega)]
theorem revD_len (u : Nat) : ∀ (k : Nat), u < 10 ^ k → 0 < k → (revD u).length ≤ k := by
  induction u using Nat.strongRecOn with
  | _ u ih =>
    intro k hk h0
    by_cases h : u < 10
    · rw [revD_small h]; exact h0
    · rw [revD_big h, List.length_cons]
      match k, h0 with
      | k + 1, _ =>
        rw [Nat.pow_succ] at hk
        have hk2 : 0 < k := by
          rcases Nat.eq_zero_or_pos k with rfl | h2
          · simp at hk; omega
          · exact h2
        have := ih (u / 10) (by omega) k (by omega) hk2
        omega
theorem OwnBytes.empty {w : World} {base : Nat} (h : base ≤ w.heap.size) : OwnBytes (w.alloc (.cells #[] 5)) base (.slice (some ⟨w.heap.size, 0, none⟩) 0 0) [] :=
  ⟨rfl, .inr ⟨w.heap.size, 0, #[], rfl, h, heap_alloc_new w _, Nat.le_refl _, Nat.zero_le _, rfl, rfl⟩⟩
theorem one_byte (w : World) (b : UInt8) : (w.alloc (.cells #[.int .u8 (b.toNat : Nat)] 5)).cell? ⟨w.heap.size, 0, none⟩ = some (.int .u8 (b.toNat : Nat)) := by
  rw [cell_of_row _ _ 0 _ _ (0, 0) (heap_alloc_new w _)]; rfl
theorem OwnBytes.at_ {w : World} {base : Nat} {v : Value} {l : List UInt8} (h : OwnBytes w base v l) (hl : l ≠ []) : ∃ g cap, v = .slice (some ⟨g, 0, none⟩) l.length cap ∧ base ≤ g ∧ g < w.heap.size ∧ ∀ (k : Nat) (hk : k < l.length), w.cell? ⟨g, k, none⟩ = some (.int .u8 (l[k].toNat : Nat)) := by
  have hh := h
  rcases h with ⟨h1, ⟨rfl, h2⟩ | ⟨g, cap, cur, rfl, hbg, hg, h3⟩⟩
  · exact absurd (List.eq_nil_of_length_eq_zero h2) hl
  · refine ⟨g, cap, rfl, hbg, lt_of_heap hg, fun k hk => ?_⟩
    have := World.ownsRow.cells (g := g) hh rfl k (.int .u8 (l[k].toNat : Nat)) (by simp [byV, hk])
    rwa [add_pl, Nat.zero_add] at this
set_option maxHeartbeats 2000000 in
set_option maxRecDepth 100000 in
theorem showN_any (u : Nat) (hu : u < 1000000000000000000) (w : World) :
    Calls Tryd.prog 38 #[.int .i64 u] w fun e w' => e = .returned (.string (strOf (Lib.itoa u))) ∧ Below w.heap.size w w' := by
  have hit : Lib.itoa u = (revD u).reverse := by
    unfold Lib.itoa
    rw [if_neg (by omega), revD_dec]
    simp
  have hlen := revD_len u 18 (by omega) (by omega)
  rw [hit]
  obtain ⟨D, hD⟩ : ∃ D, D = revD u := ⟨_, rfl⟩
  rw [← hD] at hlen ⊢
  obtain ⟨g, hg⟩ : ∃ g, g = w.heap.size := ⟨_, rfl⟩
  have HL := Lib.hid hlen
  have HD := Lib.hid hD
  have HG := Lib.hid hg
  have HOW := Lib.hid (OwnBytes.empty (w := w) (base := g) (by omega))
  have HBL := Lib.hid ((Below.refl g w).alloc (by omega) (.cells #[] 5))
  clear hit hlen hD hg
  go_enter Tryd.func38, Tryd.ntmps38
  have hpos : decide (0 < u) = true ∨ u = 0 := by
    rcases Nat.eq_zero_or_pos u with h | h
    · exact .inr h
    · exact .inl (by simpa using h)
  have hrev : ∀ q r : Nat, q < 10 → r = q → revD q = [UInt8.ofNat (48 + r)] := fun q r h e => by rw [revD_small h, e]
  have HRV := Lib.hid hrev
  clear hrev
  rcases hpos with hp | rfl
  · have hneg : ∀ x : Nat, decide ((x : Int) < 0) = false := fun x => decide_eq_false (by omega)
    go_wp2
    go_loopw [3, 4] (fun n d wr => ∃ (q L : Nat) (l : List UInt8) (A : Option Addr) (c : Nat), n = .int .i64 (-(q : Int)) ∧ d = .slice A L c ∧ Hid (L = l.length) ∧ q < 1000000000000000000 ∧ Hid (OwnBytes wr g (.slice A L c) l) ∧ Hid (l ++ revD q = D) ∧ Hid (Below g w wr)) (fun n _ _ => (intOf n).natAbs)
    case atStart => exact ⟨u, 0, [], _, 0, rfl, rfl, Lib.hid rfl, hu, HOW, Lib.hid (by rw [HD.out]; rfl), HBL⟩
    case round =>
      obtain ⟨wo, rfl⟩ : ∃ wo : World, wo = wr := ⟨_, rfl⟩
      obtain ⟨q, L, l, A, c, rfl, rfl, HLL, hq, HO, HR, HB⟩ := hrel
      obtain ⟨r, hr⟩ : ∃ r, r = q % 10 := ⟨_, rfl⟩
      obtain ⟨p, hp'⟩ : ∃ p, p = q / 10 := ⟨_, rfl⟩
      have e1 : (-(q : Int)).tmod 10 = -(r : Int) := by rw [Int.neg_tmod]; congr 1; rw [hr]; rfl
      have e2 : (-(q : Int)).tdiv 10 = -(p : Int) := by rw [Int.neg_tdiv]; congr 1; rw [hp']; rfl
      have hr10 : r < 10 := by omega
      have hpb : p < 1000000000000000000 := by omega
      obtain ⟨B, hB⟩ : ∃ B, B = UInt8.ofNat (48 + r) := ⟨_, rfl⟩
      have hBn : B.toNat = 48 + r := by rw [hB]; exact Nat.mod_eq_of_lt (by omega)
      have hcell : (wo.alloc (.cells #[.int .u8 (48 + (r : Int))] 5)).cell? ⟨wo.heap.size, 0, none⟩ = some (.int .u8 (B.toNat : Nat)) := by
        rw [cell_of_row _ _ 0 _ _ (0, 0) (heap_alloc_new wo _), hBn]
        show some (Value.int IntKind.u8 (48 + (r : Int))) = some (.int .u8 ((48 + r : Nat) : Int))
        rw [Int.natCast_add]; rfl
      have hgw : g ≤ wo.heap.size := Nat.le_trans (by rw [HG.out]; exact Nat.le_refl _) HB.out.size
      have hL18 : l.length ≤ 18 := by
        have h1 := HL.out
        rw [← HR.out, List.length_append] at h1
        omega
      have hLb : L ≤ 18 := by rw [HLL.out]; exact hL18
      have HC1 := Lib.hid hcell
      have HBV := Lib.hid hB
      have HRQ := Lib.hid hr
      have HPQ := Lib.hid hp'
      have HGW := Lib.hid hgw
      have HL18 := Lib.hid hL18
      clear hcell hB hBn hr hp' hgw hL18
      have hstep : 10 ≤ q → Hid ((l ++ [B]) ++ revD p = D) := fun h => Lib.hid (by
        rw [← HR.out, revD_big (u := q) (by omega), List.append_assoc, HBV.out, HRQ.out, HPQ.out]; rfl)
      have hlast : p = 0 → Hid (l ++ [B] = D) := fun h => Lib.hid (by
        have h2 := HPQ.out
        have h3 := HRQ.out
        rw [← HR.out, HRV.out q r (by omega) (by omega), HBV.out])
      have hwp : IntKind.i64.wrap (-(p : Int)) = -(p : Int) := IntWalk.i64_in _ ⟨by omega, by omega⟩
      by_cases hp0 : p = 0
      · have HLAST := hlast hp0
        subst hp0
        clear hstep hlast hwp
        go_wp2_with (at_builtin; refine wpList_append_byte rfl _ _ rfl g (.slice A L c) l rfl (HO.out.alloc _) wo.heap.size 1 rfl B HC1.out (by have := HL18.out; omega) (by have := HGW.out; simp; omega) ?_; intro v2 w2 hown2 hb2; obtain ⟨gd, cd, hvd, hgd0, hgd1, hdc⟩ := hown2.at_ (by simp); rw [List.length_append, List.length_singleton, ← HLL.out] at hvd; subst hvd; have HDC : Hid (∀ (k : Nat) (hk : k < D.length), w2.cell? ⟨gd, k, none⟩ = some (.int .u8 (D[k].toNat : Nat))) := Lib.hid (HLAST.out ▸ hdc); have HB2 := Lib.hid ((HB.out.alloc HGW.out _).trans hb2); have HGD := Lib.hid hgd1; clear hown2 hb2 hdc hgd0 hgd1)
        have HLD : Hid (L + 1 = D.length) := Lib.hid (by rw [← HLAST.out, HLL.out]; simp)
        obtain ⟨g2, hg2⟩ : ∃ g2, g2 = w2.heap.size := ⟨_, rfl⟩
        have HG2 := Lib.hid hg2
        have HE2 := Lib.hid (OwnBytes.empty (w := w2) (base := g2) (by omega))
        have HBE := Lib.hid ((Below.refl g2 w2).alloc (by omega) (.cells #[] 5))
        have hgle : g ≤ g2 := by have := HGD.out; have h3 := HB2.out.size; have h4 := HG.out; omega
        have HGL := Lib.hid hgle
        clear hg2 hgle
        go_loopw [5, 6] (fun o i wr => ∃ (m M : Nat) (x : Int) (A3 : Option Addr) (c3 : Nat), m ≤ L + 1 ∧ i = .int .i64 x ∧ Hid (x = (m : Int) - 1) ∧ o = .slice A3 M c3 ∧ Hid (M = ((D.drop m).reverse).length) ∧ Hid (OwnBytes wr g2 (.slice A3 M c3) (D.drop m).reverse) ∧ Hid (Below g2 w2 wr)) (fun _ i _ => (intOf i + 1).toNat)
        case atStart => exact ⟨L + 1, 0, _, _, 0, Nat.le_refl _, rfl, Lib.hid (by omega), rfl, Lib.hid (by rw [HLD.out]; simp), Lib.hid (by rw [HLD.out, List.drop_length]; exact HE2.out), HBE⟩
        case round =>
          obtain ⟨wq, rfl⟩ : ∃ wq : World, wq = wr := ⟨_, rfl⟩
          obtain ⟨m, M, x, A3, c3, hm, rfl, HX, rfl, HM, HO3, HB3⟩ := hrel
          rcases Nat.eq_zero_or_pos m with rfl | hm0
          · obtain rfl : x = -1 := by have := HX.out; omega
            have hcv := HO3.out.conv
            rw [List.drop_zero] at hcv
            go_wp2
            go_ret
            exact ⟨rfl, HG.out ▸ HB2.out.trans (HB3.out.mono HGL.out)⟩
          · obtain ⟨k, rfl⟩ : ∃ k, m = k + 1 := ⟨m - 1, by omega⟩
            obtain rfl : x = (k : Int) := by have := HX.out; omega
            have hkD : k < D.length := by have := HLD.out; omega
            have hck := (HB3.out.cell (p := ⟨gd, k, none⟩) (by show gd < g2; have := HGD.out; have h := HG2.out; omega)).trans (HDC.out k hkD)
            obtain ⟨Bk, hBk⟩ : ∃ Bk, Bk = D[k] := ⟨_, rfl⟩
            rw [← hBk] at hck
            have hdk : (D.drop (k + 1)).reverse ++ [Bk] = (D.drop k).reverse := by rw [List.drop_eq_getElem_cons hkD, List.reverse_cons, hBk]
            have hM18 : M ≤ 18 := by have h1 := HM.out; have h2 := HL.out; simp at h1; omega
            have hgq : g2 ≤ wq.heap.size := by have := HB3.out.size; have h := HG2.out; omega
            have hkL : k < L + 1 := by omega
            have HDK := Lib.hid hdk
            have HGQ := Lib.hid hgq
            clear hdk hBk hgq hm hm0
            go_wp2_with (at_builtin; refine wpList_append_byte rfl _ _ rfl g2 (.slice A3 M c3) (D.drop (k + 1)).reverse (by rw [HM.out]; rfl) (HO3.out.alloc _) wq.heap.size 1 rfl Bk (one_byte wq Bk) (by have := HL.out; simp; omega) (by have := HGQ.out; simp; omega) ?_; intro v4 w4 hown4 hb4; rw [HDK.out] at hown4; obtain ⟨A4, c4, hv4⟩ := hown4.form; have hM4 : (D.drop k).reverse.length = M + 1 := (by rw [← HDK.out, List.length_append, List.length_singleton, HM.out]); rw [hM4] at hv4; subst hv4; have HM4 := Lib.hid hM4.symm; have HO4 := Lib.hid hown4; have HB4 := Lib.hid ((HB3.out.alloc HGQ.out _).trans hb4); clear hown4 hb4 hM4)
            go_roundw
            case rel => exact ⟨k, M + 1, _, A4, c4, by omega, rfl, Lib.hid (by omega), rfl, HM4, HO4, HB4⟩
            case measure => first | (simp [intOf]; done) | (simp [intOf]; omega)
      · have HSTEP := hstep (by have := HPQ.out; omega)
        have qp : (-(p : Int) == 0) = false := by simp; omega
        have qp2 : (p == 0) = false := by simp; omega
        have qp3 : ((p : Int) == 0) = false := by simp; omega
        clear hstep hlast
        go_wp2_with (at_builtin; refine wpList_append_byte rfl _ _ rfl g (.slice A L c) l rfl (HO.out.alloc _) wo.heap.size 1 rfl B HC1.out (by have := HL18.out; omega) (by have := HGW.out; simp; omega) ?_; intro v2 w2 hown2 hb2; obtain ⟨A2, c2, hv2⟩ := hown2.form; rw [List.length_append, List.length_singleton, ← HLL.out] at hv2; subst hv2; have HO2 := Lib.hid hown2; have HB2 := Lib.hid ((HB.out.alloc HGW.out _).trans hb2); clear hown2 hb2)
        go_roundw
        case rel => exact ⟨p, L + 1, l ++ [B], A2, c2, rfl, rfl, Lib.hid (by rw [HLL.out]; simp), by have := HPQ.out; omega, HO2, HSTEP, HB2⟩
        case measure => have := HPQ.out; first | (simp [intOf]; done) | (simp [intOf]; omega)
  · have hneg : ∀ x : Nat, decide ((x : Int) < 0) = false := fun x => decide_eq_false (by omega)
    go_wp2
    go_loopw [3, 4] (fun n d wr => ∃ (q L : Nat) (l : List UInt8) (A : Option Addr) (c : Nat), n = .int .i64 (-(q : Int)) ∧ d = .slice A L c ∧ Hid (L = l.length) ∧ Hid (q = 0) ∧ Hid (OwnBytes wr g (.slice A L c) l) ∧ Hid (l ++ revD q = D) ∧ Hid (Below g w wr)) (fun n _ _ => (intOf n).natAbs)
    case atStart => exact ⟨0, 0, [], _, 0, rfl, rfl, Lib.hid rfl, Lib.hid rfl, HOW, Lib.hid (by rw [HD.out]; rfl), HBL⟩
    case round =>
      obtain ⟨wo, rfl⟩ : ∃ wo : World, wo = wr := ⟨_, rfl⟩
      obtain ⟨q, L, l, A, c, rfl, rfl, HLL, HQ0, HO, HR, HB⟩ := hrel
      have hq : q < 1000000000000000000 := by have := HQ0.out; omega
      obtain ⟨r, hr⟩ : ∃ r, r = q % 10 := ⟨_, rfl⟩
      obtain ⟨p, hp'⟩ : ∃ p, p = q / 10 := ⟨_, rfl⟩
      have e1 : (-(q : Int)).tmod 10 = -(r : Int) := by rw [Int.neg_tmod]; congr 1; rw [hr]; rfl
      have e2 : (-(q : Int)).tdiv 10 = -(p : Int) := by rw [Int.neg_tdiv]; congr 1; rw [hp']; rfl
      have hr10 : r < 10 := by omega
      have hpb : p < 1000000000000000000 := by omega
      obtain ⟨B, hB⟩ : ∃ B, B = UInt8.ofNat (48 + r) := ⟨_, rfl⟩
      have hBn : B.toNat = 48 + r := by rw [hB]; exact Nat.mod_eq_of_lt (by omega)
      have hcell : (wo.alloc (.cells #[.int .u8 (48 + (r : Int))] 5)).cell? ⟨wo.heap.size, 0, none⟩ = some (.int .u8 (B.toNat : Nat)) := by
        rw [cell_of_row _ _ 0 _ _ (0, 0) (heap_alloc_new wo _), hBn]
        show some (Value.int IntKind.u8 (48 + (r : Int))) = some (.int .u8 ((48 + r : Nat) : Int))
        rw [Int.natCast_add]; rfl
      have hgw : g ≤ wo.heap.size := Nat.le_trans (by rw [HG.out]; exact Nat.le_refl _) HB.out.size
      have hL18 : l.length ≤ 18 := by
        have h1 := HL.out
        rw [← HR.out, List.length_append] at h1
        omega
      have hLb : L ≤ 18 := by rw [HLL.out]; exact hL18
      have HC1 := Lib.hid hcell
      have HBV := Lib.hid hB
      have HRQ := Lib.hid hr
      have HPQ := Lib.hid hp'
      have HGW := Lib.hid hgw
      have HL18 := Lib.hid hL18
      clear hcell hB hBn hr hp' hgw hL18
      have hstep : 10 ≤ q → Hid ((l ++ [B]) ++ revD p = D) := fun h => Lib.hid (by
        rw [← HR.out, revD_big (u := q) (by omega), List.append_assoc, HBV.out, HRQ.out, HPQ.out]; rfl)
      have hlast : p = 0 → Hid (l ++ [B] = D) := fun h => Lib.hid (by
        have h2 := HPQ.out
        have h3 := HRQ.out
        rw [← HR.out, HRV.out q r (by omega) (by omega), HBV.out])
      have hwp : IntKind.i64.wrap (-(p : Int)) = -(p : Int) := IntWalk.i64_in _ ⟨by omega, by omega⟩
      by_cases hp0 : p = 0
      · have HLAST := hlast hp0
        subst hp0
        clear hstep hlast hwp
        go_wp2_with (at_builtin; refine wpList_append_byte rfl _ _ rfl g (.slice A L c) l rfl (HO.out.alloc _) wo.heap.size 1 rfl B HC1.out (by have := HL18.out; omega) (by have := HGW.out; simp; omega) ?_; intro v2 w2 hown2 hb2; obtain ⟨gd, cd, hvd, hgd0, hgd1, hdc⟩ := hown2.at_ (by simp); rw [List.length_append, List.length_singleton, ← HLL.out] at hvd; subst hvd; have HDC : Hid (∀ (k : Nat) (hk : k < D.length), w2.cell? ⟨gd, k, none⟩ = some (.int .u8 (D[k].toNat : Nat))) := Lib.hid (HLAST.out ▸ hdc); have HB2 := Lib.hid ((HB.out.alloc HGW.out _).trans hb2); have HGD := Lib.hid hgd1; clear hown2 hb2 hdc hgd0 hgd1)
        have HLD : Hid (L + 1 = D.length) := Lib.hid (by rw [← HLAST.out, HLL.out]; simp)
        obtain ⟨g2, hg2⟩ : ∃ g2, g2 = w2.heap.size := ⟨_, rfl⟩
        have HG2 := Lib.hid hg2
        have HE2 := Lib.hid (OwnBytes.empty (w := w2) (base := g2) (by omega))
        have HBE := Lib.hid ((Below.refl g2 w2).alloc (by omega) (.cells #[] 5))
        have hgle : g ≤ g2 := by have := HGD.out; have h3 := HB2.out.size; have h4 := HG.out; omega
        have HGL := Lib.hid hgle
        clear hg2 hgle
        go_loopw [5, 6] (fun o i wr => ∃ (m M : Nat) (x : Int) (A3 : Option Addr) (c3 : Nat), m ≤ L + 1 ∧ i = .int .i64 x ∧ Hid (x = (m : Int) - 1) ∧ o = .slice A3 M c3 ∧ Hid (M = ((D.drop m).reverse).length) ∧ Hid (OwnBytes wr g2 (.slice A3 M c3) (D.drop m).reverse) ∧ Hid (Below g2 w2 wr)) (fun _ i _ => (intOf i + 1).toNat)
        case atStart => exact ⟨L + 1, 0, _, _, 0, Nat.le_refl _, rfl, Lib.hid (by omega), rfl, Lib.hid (by rw [HLD.out]; simp), Lib.hid (by rw [HLD.out, List.drop_length]; exact HE2.out), HBE⟩
        case round =>
          obtain ⟨wq, rfl⟩ : ∃ wq : World, wq = wr := ⟨_, rfl⟩
          obtain ⟨m, M, x, A3, c3, hm, rfl, HX, rfl, HM, HO3, HB3⟩ := hrel
          rcases Nat.eq_zero_or_pos m with rfl | hm0
          · obtain rfl : x = -1 := by have := HX.out; omega
            have hcv := HO3.out.conv
            rw [List.drop_zero] at hcv
            go_wp2
            go_ret
            exact ⟨rfl, HG.out ▸ HB2.out.trans (HB3.out.mono HGL.out)⟩
          · obtain ⟨k, rfl⟩ : ∃ k, m = k + 1 := ⟨m - 1, by omega⟩
            obtain rfl : x = (k : Int) := by have := HX.out; omega
            have hkD : k < D.length := by have := HLD.out; omega
            have hck := (HB3.out.cell (p := ⟨gd, k, none⟩) (by show gd < g2; have := HGD.out; have h := HG2.out; omega)).trans (HDC.out k hkD)
            obtain ⟨Bk, hBk⟩ : ∃ Bk, Bk = D[k] := ⟨_, rfl⟩
            rw [← hBk] at hck
            have hdk : (D.drop (k + 1)).reverse ++ [Bk] = (D.drop k).reverse := by rw [List.drop_eq_getElem_cons hkD, List.reverse_cons, hBk]
            have hM18 : M ≤ 18 := by have h1 := HM.out; have h2 := HL.out; simp at h1; omega
            have hgq : g2 ≤ wq.heap.size := by have := HB3.out.size; have h := HG2.out; omega
            have hkL : k < L + 1 := by omega
            have HDK := Lib.hid hdk
            have HGQ := Lib.hid hgq
            clear hdk hBk hgq hm hm0
            go_wp2_with (at_builtin; refine wpList_append_byte rfl _ _ rfl g2 (.slice A3 M c3) (D.drop (k + 1)).reverse (by rw [HM.out]; rfl) (HO3.out.alloc _) wq.heap.size 1 rfl Bk (one_byte wq Bk) (by have := HL.out; simp; omega) (by have := HGQ.out; simp; omega) ?_; intro v4 w4 hown4 hb4; rw [HDK.out] at hown4; obtain ⟨A4, c4, hv4⟩ := hown4.form; have hM4 : (D.drop k).reverse.length = M + 1 := (by rw [← HDK.out, List.length_append, List.length_singleton, HM.out]); rw [hM4] at hv4; subst hv4; have HM4 := Lib.hid hM4.symm; have HO4 := Lib.hid hown4; have HB4 := Lib.hid ((HB3.out.alloc HGQ.out _).trans hb4); clear hown4 hb4 hM4)
            go_roundw
            case rel => exact ⟨k, M + 1, _, A4, c4, by omega, rfl, Lib.hid (by omega), rfl, HM4, HO4, HB4⟩
            case measure => first | (simp [intOf]; done) | (simp [intOf]; omega)
      · exact absurd (by have := HPQ.out; have := HQ0.out; omega) hp0
end Go.Proofs.YtihjdfbdpcghdaaDoor
