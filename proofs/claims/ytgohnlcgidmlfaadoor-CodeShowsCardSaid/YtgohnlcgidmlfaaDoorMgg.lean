/- A number's text, by the document's own Show (portcullisref00): every number of the machine. -/
import Derived.Test.YtgohnlcgidmlfaaDoorMdj
import Derived.Test.YtgohnlcgidmlfaaDoorMem
import Derived.IntWalk
import Derived.Laws.IdiomStrings
import Derived.Lib.ConvBytes
set_option linter.unusedVariables false
set_option linter.unusedSimpArgs false
namespace Go.Proofs.YtgohnlcgidmlfaaDoor
open Go.RowKit

/-- bytes -/
def KB : Kd UInt8 where
  sz := 1
  pos := by decide
  Q := fun _ _ b cs => cs = [.int .u8 (b.toNat : Nat)]
  keep := fun h _ _ => h
  len := fun h => by rw [h]; rfl
  one := fun h u hu => by rw [h] at hu; simp at hu; subst hu; rfl
def OwnBytes (w : World) (base : Nat) (v : Value) (l : List UInt8) : Prop := OwnL KB 5 w base l v
theorem info_byte : (Tryd.prog.info? 5).map (fun i => (i.zero, i.size, i.bytes)) = some (some (.int .u8 0), 1, 1) := by kernel_rfl
theorem OwnBytes.alloc {w : World} {base : Nat} {v : Value} {l : List UInt8} (h : OwnBytes w base v l) (o : Obj) : OwnBytes (w.alloc o) base v l := OwnL.below h ((Below.refl _ w).alloc (Nat.le_refl _) o)
theorem OwnBytes.form {w : World} {base : Nat} {v : Value} {l : List UInt8} (h : OwnBytes w base v l) : ∃ A c, v = .slice A l.length c := by
  obtain ⟨A, c, e, _⟩ := h.lies.form
  exact ⟨A, c, e⟩
theorem OwnBytes.empty {w : World} {base : Nat} (h : base = w.heap.size) : OwnBytes (w.alloc (.cells #[] 5)) base (.slice (some ⟨w.heap.size, 0, none⟩) 0 0) [] := by
  subst h
  exact OwnL.lit (E := KB) 5 w
theorem OwnBytes.at_ {w : World} {base : Nat} {v : Value} {l : List UInt8} (h : OwnBytes w base v l) (hl : l ≠ []) : ∃ g cap, v = .slice (some ⟨g, 0, none⟩) l.length cap ∧ base ≤ g ∧ g < w.heap.size ∧ ∀ (k : Nat) (hk : k < l.length), w.cell? ⟨g, k, none⟩ = some (.int .u8 (l[k].toNat : Nat)) := by
  have hh : OwnH KB 5 w base w.heap.size l v := OwnL.h h
  have h0 : 0 < l.length := List.length_pos_iff.2 hl
  obtain ⟨g, cap, row, hv, -, h1, h2, -⟩ := hh.at_ 0 h0
  refine ⟨g, cap, hv, h1, h2, fun k hk => ?_⟩
  obtain ⟨g', cap', row', hv', -, -, -, hq, hc, -⟩ := hh.at_ k hk
  rw [hv] at hv'
  injection hv' with e1
  injection e1 with e1
  injection e1 with e1
  subst e1
  have := hc 0 (by decide)
  rw [hq, show k * KB.sz + 0 = k from by show k * 1 + 0 = k; omega] at this
  exact this
theorem OwnBytes.conv {w : World} {base : Nat} {A : Option Addr} {n c : Nat} {l : List UInt8} (h : OwnBytes w base (.slice A n c) l) (hl : l ≠ []) :
    (convert 60 9 (.slice A n c)).run Tryd.prog w = .ok (.string (bs l)) w := by
  obtain ⟨g, cap, hv, -, -, hc⟩ := h.at_ hl
  rw [hv]
  exact run_convert_bytes_back w 60 9 5 ⟨g, 0, none⟩ cap l Tryd.underlying60 Tryd.underlying5 Tryd.underlying9 (fun j hj => by
    rw [add_none, Nat.zero_add]; exact hc j hj)
theorem wpList_append_byte {ops : Array Oper} {rest : List Oper} {o : Oper} {a : Act} {w : World} {Q : Exit → Act → World → Prop} (hgd : o.guard = none) (sl x : Operand)
    (ho : o.op = .call { callee := .builtin .append, args := #[sl, x], argTypes := #[60, 60] })
    (base : Nat) (v : Value) (l : List UInt8) (hs : a.eval sl = v) (hown : OwnBytes w base v l) (g c : Nat) (hx : a.eval x = .slice (some ⟨g, 0, none⟩) 1 c) (b : UInt8) (hg : w.cell? ⟨g, 0, none⟩ = some (.int .u8 (b.toNat : Nat))) (hb : l.length ≤ 100000) (hbase : base ≤ w.heap.size)
    (h : ∀ v' w', OwnBytes w' base v' (l ++ [b]) → Below base w w' → wpList Tryd.prog ops Q rest (a.put o.dst v') w') : wpList Tryd.prog ops Q (o :: rest) a w := by
  refine wpList_append_one (E := KB) hgd sl x 60 5 ho Tryd.underlying60 _ _ info_byte rfl (by decide) base l v hs hown (by omega) ⟨g, 0, none⟩ c b [.int .u8 (b.toNat : Nat)] hx (fun j u hu => ?_) rfl hbase h
  match j, hu with
  | 0, hu =>
    have e : Value.int .u8 (b.toNat : Nat) = u := by simpa using hu
    rw [add_none, ← e]; exact hg
  | j + 1, hu => simp at hu

/-- the digits of a number, the last ahead -/
def revD (u : Nat) : List UInt8 := if h : u < 10 then [UInt8.ofNat (48 + u)] else UInt8.ofNat (48 + u % 10) :: revD (u / 10)
termination_by u
decreasing_by omega
theorem revD_small {u : Nat} (h : u < 10) : revD u = [UInt8.ofNat (48 + u)] := by rw [revD, dif_pos h]
theorem revD_big {u : Nat} (h : ¬ u < 10) : revD u = UInt8.ofNat (48 + u % 10) :: revD (u / 10) := by rw [revD, dif_neg h]
theorem revD_dec (u : Nat) : (revD u).reverse = Lib.decDigits u := by
  induction u using Nat.strongRecOn with
  | _ u ih =>
    by_cases h : u < 10
    · rw [revD_small h, Lib.decDigits, dif_pos h]; rfl
    · rw [revD_big h, Lib.decDigits, dif_neg h, List.reverse_cons, ih (u / 10) (by omega)]
theorem revD_len (u : Nat) : ∀ (k : Nat), u < 10 ^ k → 0 < k → (revD u).length ≤ k := by
  induction u using Nat.strongRecOn with
  | _ u ih =>
    intro k hk h0
    by_cases h : u < 10
    · rw [revD_small h]; exact h0
    · rw [revD_big h, List.length_cons]
      match k, h0 with
      | k + 1, _ =>
        rw [Nat.pow_succ] at hk
        have hk2 : 0 < k := by
          rcases Nat.eq_zero_or_pos k with rfl | h2
          · simp at hk; omega
          · exact h2
        have := ih (u / 10) (by omega) k (by omega) hk2
        omega

theorem one_byte (w : World) (b : UInt8) : (w.alloc (.cells #[.int .u8 (b.toNat : Nat)] 5)).cell? ⟨w.heap.size, 0, none⟩ = some (.int .u8 (b.toNat : Nat)) := by
  rw [cell_of_row _ _ 0 _ _ (0, 0) (heap_alloc_new w _)]; rfl

/-- the text of a number, the last byte ahead -/
def revZ (x : Int) : List UInt8 := revD x.natAbs ++ if x < 0 then [45] else []
theorem revZ_itoa (x : Int) : (revZ x).reverse = Lib.itoa x := by
  unfold revZ Lib.itoa
  rw [List.reverse_append, revD_dec]
  split
  · rfl
  · rename_i h
    rw [List.reverse_nil, List.nil_append, show x.natAbs = x.toNat from by omega]
theorem revD_ne (u : Nat) : revD u ≠ [] := by
  rw [revD]
  split <;> simp

set_option maxHeartbeats 4000000 in
set_option maxRecDepth 100000 in
theorem showZ_any (x : Int) (hx : In64 x) (w : World) :
    Calls Tryd.prog 41 #[.int .i64 x] w fun e w' => e = .returned (.string (bs (Lib.itoa x))) ∧ Below w.heap.size w w' := by
  unfold In64 at hx
  obtain ⟨u, hu⟩ : ∃ u, u = x.natAbs := ⟨_, rfl⟩
  have hub : u ≤ 9223372036854775808 := by omega
  have hlen := revD_len u 19 (by omega) (by omega)
  rw [← revZ_itoa]
  obtain ⟨D, hD⟩ : ∃ D, D = revD u := ⟨_, rfl⟩
  have hZ : revZ x = D ++ if x < 0 then [45] else [] := by rw [hD, hu]; rfl
  have hDne : D ≠ [] := by rw [hD]; exact revD_ne u
  rw [hZ]
  rw [← hD] at hlen
  obtain ⟨g, hg⟩ : ∃ g, g = w.heap.size := ⟨_, rfl⟩
  have HL := Lib.hid hlen
  have HD := Lib.hid hD
  have HG := Lib.hid hg
  have HNE := Lib.hid hDne
  have HOW := Lib.hid (OwnBytes.empty (w := w) (base := g) hg)
  have HBL := Lib.hid ((Below.refl g w).alloc (by omega) (.cells #[] 5))
  have hrev : ∀ q r : Nat, q < 10 → r = q → revD q = [UInt8.ofNat (48 + r)] := fun q r h e => by rw [revD_small h, e]
  have HRV := Lib.hid hrev
  have HUB := Lib.hid hub
  have HXI := Lib.hid hx
  clear hlen hD hg hZ hDne hrev hub
  obtain ⟨nD, hnD⟩ : ∃ n, n = D.length := ⟨_, rfl⟩
  have HND := Lib.hid hnD
  clear hnD
  by_cases hneg : x < 0
  · rw [if_pos hneg]
    have hxe : x = -(u : Int) := by omega
    have hdn : decide (x < 0) = true := decide_eq_true hneg
    obtain ⟨E, hE⟩ : ∃ E, E = D ++ [45] := ⟨_, rfl⟩
    rw [← hE]
    have HE := Lib.hid hE
    obtain ⟨nE, hnE⟩ : ∃ n, n = E.length := ⟨_, rfl⟩
    have HNE2 := Lib.hid hnE
    have HEN : Hid (E ≠ []) := Lib.hid (by rw [hE]; simp)
    have HEL : Hid (E.length ≤ 20) := Lib.hid (by rw [hE]; have := HL.out; simp; omega)
    have hnE20 : nE ≤ 20 := by rw [hnE]; exact HEL.out
    have hnE1 : 1 ≤ nE := by rw [hnE]; exact List.length_pos_iff.2 HEN.out
    subst hxe
    clear hx hneg hu hE hnE
    have hgt : decide (0 < -(u : Int)) = false := decide_eq_false (by omega)
    have hup : decide (0 < u) = true := decide_eq_true (by have h1 := of_decide_eq_true hdn; omega)
    have hup2 : 0 < u := of_decide_eq_true hup
    go_enter Tryd.func41, Tryd.ntmps41
    go_wp2
    go_loopw [3, 4] (fun n d wr => ∃ (q L : Nat) (l : List UInt8) (A : Option Addr) (c : Nat), n = .int .i64 (-(q : Int)) ∧ d = .slice A L c ∧ Hid (L = l.length) ∧ Hid (q ≤ 9223372036854775808) ∧ Hid (OwnBytes wr g (.slice A L c) l) ∧ Hid (l ++ revD q = D) ∧ Hid (Below g w wr)) (fun n _ _ => (intOf n).natAbs)
    case atStart => exact ⟨u, 0, [], _, 0, rfl, rfl, Lib.hid rfl, HUB, HOW, Lib.hid (by rw [HD.out]; rfl), HBL⟩
    case round =>
      obtain ⟨wo, rfl⟩ : ∃ wo : World, wo = wr := ⟨_, rfl⟩
      obtain ⟨q, L, l, A, c, rfl, rfl, HLL, HQ, HO, HR, HB⟩ := hrel
      obtain ⟨r, hr⟩ : ∃ r, r = q % 10 := ⟨_, rfl⟩
      obtain ⟨p, hp'⟩ : ∃ p, p = q / 10 := ⟨_, rfl⟩
      have e1 : (-(q : Int)).tmod 10 = -(r : Int) := by rw [Int.neg_tmod]; congr 1; rw [hr]; rfl
      have e2 : (-(q : Int)).tdiv 10 = -(p : Int) := by rw [Int.neg_tdiv]; congr 1; rw [hp']; rfl
      have hr10 : r < 10 := by omega
      have hpb : p < 1000000000000000000 := by have := HQ.out; omega
      obtain ⟨B, hB⟩ : ∃ B, B = UInt8.ofNat (48 + r) := ⟨_, rfl⟩
      have hBn : B.toNat = 48 + r := by rw [hB]; exact Nat.mod_eq_of_lt (by omega)
      have hcell : (wo.alloc (.cells #[.int .u8 (48 + (r : Int))] 5)).cell? ⟨wo.heap.size, 0, none⟩ = some (.int .u8 (B.toNat : Nat)) := by
        rw [cell_of_row _ _ 0 _ _ (0, 0) (heap_alloc_new wo _), hBn]
        show some (Value.int IntKind.u8 (48 + (r : Int))) = some (.int .u8 ((48 + r : Nat) : Int))
        rw [Int.natCast_add]; rfl
      have hgw : g ≤ wo.heap.size := Nat.le_trans (by rw [HG.out]; exact Nat.le_refl _) HB.out.size
      have hL18 : l.length ≤ 19 := by
        have h1 := HL.out
        rw [← HR.out, List.length_append] at h1
        omega
      have hLb : L ≤ 19 := by rw [HLL.out]; exact hL18
      have HC1 := Lib.hid hcell
      have HBV := Lib.hid hB
      have HRQ := Lib.hid hr
      have HPQ := Lib.hid hp'
      have HGW := Lib.hid hgw
      have HL18 := Lib.hid hL18
      clear hcell hB hBn hr hp' hgw hL18
      have hstep : 10 ≤ q → Hid ((l ++ [B]) ++ revD p = D) := fun h => Lib.hid (by
        rw [← HR.out, revD_big (u := q) (by omega), List.append_assoc, HBV.out, HRQ.out, HPQ.out]; rfl)
      have hlast : p = 0 → Hid (l ++ [B] = D) := fun h => Lib.hid (by
        have h2 := HPQ.out
        have h3 := HRQ.out
        rw [← HR.out, HRV.out q r (by omega) (by omega), HBV.out])
      have hwp : IntKind.i64.wrap (-(p : Int)) = -(p : Int) := IntWalk.i64_in _ ⟨by omega, by omega⟩
      by_cases hp0 : p = 0
      · have HLAST := hlast hp0
        subst hp0
        clear hstep hlast hwp
        go_wp2_with (at_builtin; (first
              | (refine wpList_append_byte rfl _ _ rfl g (.slice A L c) l rfl (HO.out.alloc _) wo.heap.size 1 rfl B HC1.out (by have := HL18.out; omega) (by have := HGW.out; simp; omega) ?_; intro v1 w1 hown1 hb1; rw [HLAST.out] at hown1; obtain ⟨A1, c1, hv1⟩ := hown1.form; rw [← HND.out] at hv1; subst hv1; have HO1 := Lib.hid hown1; have HB1 := Lib.hid ((HB.out.alloc HGW.out _).trans hb1); have HGW1 : Hid (g ≤ w1.heap.size) := Lib.hid (Nat.le_trans (by rw [HG.out]; exact Nat.le_refl _) HB1.out.size); have HC2 := Lib.hid (one_byte w1 45); clear hown1 hb1)
              | (refine wpList_append_byte rfl _ _ rfl g (.slice A1 nD c1) D rfl (HO1.out.alloc _) w1.heap.size 1 rfl 45 HC2.out (by have := HL.out; omega) (by have := HGW1.out; simp; omega) ?_; intro v2 w2 hown2 hb2; obtain ⟨gd, cd, hvd, hgd0, hgd1, hdc⟩ := hown2.at_ (by simp); rw [← HE.out, ← HNE2.out] at hvd; rw [← HE.out] at hdc; subst hvd; have HDC := Lib.hid hdc; have HB2 := Lib.hid ((HB1.out.alloc HGW1.out _).trans hb2); have HGD := Lib.hid hgd1; clear hown2 hb2 hdc hgd0 hgd1)))
        obtain ⟨g2, hg2⟩ : ∃ g2, g2 = w2.heap.size := ⟨_, rfl⟩
        have HG2 := Lib.hid hg2
        have HE2 := Lib.hid (OwnBytes.empty (w := w2) (base := g2) hg2)
        have HBE := Lib.hid ((Below.refl g2 w2).alloc (by omega) (.cells #[] 5))
        have hgle : g ≤ g2 := by have := HGD.out; have h3 := HB2.out.size; have h4 := HG.out; omega
        have HGL := Lib.hid hgle
        clear hg2 hgle
        try go_wp2
        go_loopw [5, 6] (fun o i wr => ∃ (m M : Nat) (x : Int) (A3 : Option Addr) (c3 : Nat), m ≤ nE ∧ i = .int .i64 x ∧ Hid (x = (m : Int) - 1) ∧ o = .slice A3 M c3 ∧ Hid (M = ((E.drop m).reverse).length) ∧ Hid (OwnBytes wr g2 (.slice A3 M c3) (E.drop m).reverse) ∧ Hid (Below g2 w2 wr)) (fun _ i _ => (intOf i + 1).toNat)
        case atStart => exact ⟨nE, 0, _, _, 0, Nat.le_refl _, rfl, Lib.hid (by omega), rfl, Lib.hid (by rw [HNE2.out]; simp), Lib.hid (by rw [HNE2.out, List.drop_length]; exact HE2.out), HBE⟩
        case round =>
          obtain ⟨wq, rfl⟩ : ∃ wq : World, wq = wr := ⟨_, rfl⟩
          obtain ⟨m, M, x, A3, c3, hm, rfl, HX, rfl, HM, HO3, HB3⟩ := hrel
          rcases Nat.eq_zero_or_pos m with rfl | hm0
          · obtain rfl : x = -1 := by have := HX.out; omega
            have ho3 := HO3.out
            rw [List.drop_zero] at ho3
            have hcv := ho3.conv (by rw [List.reverse_ne_nil_iff]; exact HEN.out)
            clear ho3
            go_wp2
            go_ret
            exact ⟨rfl, HG.out ▸ HB2.out.trans (HB3.out.mono HGL.out)⟩
          · obtain ⟨k, rfl⟩ : ∃ k, m = k + 1 := ⟨m - 1, by omega⟩
            obtain rfl : x = (k : Int) := by have := HX.out; omega
            have hkD : k < E.length := by have := HNE2.out; omega
            have hck := (HB3.out.cell (p := ⟨gd, k, none⟩) (by show gd < g2; have := HGD.out; have h := HG2.out; omega)).trans (HDC.out k hkD)
            obtain ⟨Bk, hBk⟩ : ∃ Bk, Bk = E[k] := ⟨_, rfl⟩
            rw [← hBk] at hck
            have hdk : (E.drop (k + 1)).reverse ++ [Bk] = (E.drop k).reverse := by rw [List.drop_eq_getElem_cons hkD, List.reverse_cons, hBk]
            have hM18 : M ≤ 20 := by have h1 := HM.out; have h2 := HEL.out; simp at h1; omega
            have hgq : g2 ≤ wq.heap.size := by have := HB3.out.size; have h := HG2.out; omega
            have hkL : k < nE := by omega
            have HDK := Lib.hid hdk
            have HGQ := Lib.hid hgq
            clear hdk hBk hgq hm hm0
            go_wp2_with (at_builtin; refine wpList_append_byte rfl _ _ rfl g2 (.slice A3 M c3) (E.drop (k + 1)).reverse (by rw [HM.out]; rfl) (HO3.out.alloc _) wq.heap.size 1 rfl Bk (one_byte wq Bk) (by have := HEL.out; simp; omega) (by have := HGQ.out; simp; omega) ?_; intro v4 w4 hown4 hb4; rw [HDK.out] at hown4; obtain ⟨A4, c4, hv4⟩ := hown4.form; have hM4 : (E.drop k).reverse.length = M + 1 := (by rw [← HDK.out, List.length_append, List.length_singleton, HM.out]); rw [hM4] at hv4; subst hv4; have HM4 := Lib.hid hM4.symm; have HO4 := Lib.hid hown4; have HB4 := Lib.hid ((HB3.out.alloc HGQ.out _).trans hb4); clear hown4 hb4 hM4)
            go_roundw
            case rel => exact ⟨k, M + 1, _, A4, c4, by omega, rfl, Lib.hid (by omega), rfl, HM4, HO4, HB4⟩
            case measure => first | (simp [intOf]; done) | (simp [intOf]; omega)
      · have HSTEP := hstep (by have := HPQ.out; omega)
        have qp : (-(p : Int) == 0) = false := by simp; omega
        have qp2 : (p == 0) = false := by simp; omega
        have qp3 : ((p : Int) == 0) = false := by simp; omega
        clear hstep hlast
        go_wp2_with (at_builtin; refine wpList_append_byte rfl _ _ rfl g (.slice A L c) l rfl (HO.out.alloc _) wo.heap.size 1 rfl B HC1.out (by have := HL18.out; omega) (by have := HGW.out; simp; omega) ?_; intro v2 w2 hown2 hb2; obtain ⟨A2, c2, hv2⟩ := hown2.form; rw [List.length_append, List.length_singleton, ← HLL.out] at hv2; subst hv2; have HO2 := Lib.hid hown2; have HB2 := Lib.hid ((HB.out.alloc HGW.out _).trans hb2); clear hown2 hb2)
        go_roundw
        case rel => exact ⟨p, L + 1, l ++ [B], A2, c2, rfl, rfl, Lib.hid (by rw [HLL.out]; simp), Lib.hid (by have := HPQ.out; have := HQ.out; omega), HO2, HSTEP, HB2⟩
        case measure => have := HPQ.out; first | (simp [intOf]; done) | (simp [intOf]; omega)
  · rw [if_neg hneg, List.append_nil]
    have hdn : decide (x < 0) = false := decide_eq_false hneg
    have hxe : x = (u : Int) := by omega
    obtain ⟨E, hE⟩ : ∃ E, E = D := ⟨_, rfl⟩
    have HE := Lib.hid hE
    obtain ⟨nE, hnE⟩ : ∃ n, n = E.length := ⟨_, rfl⟩
    have HNE2 := Lib.hid hnE
    have HEN : Hid (E ≠ []) := Lib.hid (by rw [hE]; exact HNE.out)
    have HEL : Hid (E.length ≤ 20) := Lib.hid (by rw [hE]; have := HL.out; omega)
    rw [← hE]
    have hnE20 : nE ≤ 20 := by rw [hnE]; exact HEL.out
    have hnE1 : 1 ≤ nE := by rw [hnE]; exact List.length_pos_iff.2 HEN.out
    subst hxe
    have hng' := IntWalk.i64_in (-(u : Int)) (by omega)
    clear hx hneg hu hE hnE
    by_cases hz : u = 0
    · have hgt : decide (0 < u) = false := decide_eq_false (by omega)
      have HZ := Lib.hid hz
      clear hz hng'
      go_enter Tryd.func41, Tryd.ntmps41
      go_wp2
      go_loopw [3, 4] (fun n d wr => ∃ (q L : Nat) (l : List UInt8) (A : Option Addr) (c : Nat), n = .int .i64 (-(q : Int)) ∧ d = .slice A L c ∧ Hid (L = l.length) ∧ Hid (q ≤ 9223372036854775808) ∧ Hid (OwnBytes wr g (.slice A L c) l) ∧ Hid (l ++ revD q = D) ∧ Hid (Below g w wr)) (fun n _ _ => (intOf n).natAbs)
      case atStart => exact ⟨u, 0, [], _, 0, by rw [HZ.out]; rfl, rfl, Lib.hid rfl, HUB, HOW, Lib.hid (by rw [HD.out]; rfl), HBL⟩
      case round =>
        obtain ⟨wo, rfl⟩ : ∃ wo : World, wo = wr := ⟨_, rfl⟩
        obtain ⟨q, L, l, A, c, rfl, rfl, HLL, HQ, HO, HR, HB⟩ := hrel
        obtain ⟨r, hr⟩ : ∃ r, r = q % 10 := ⟨_, rfl⟩
        obtain ⟨p, hp'⟩ : ∃ p, p = q / 10 := ⟨_, rfl⟩
        have e1 : (-(q : Int)).tmod 10 = -(r : Int) := by rw [Int.neg_tmod]; congr 1; rw [hr]; rfl
        have e2 : (-(q : Int)).tdiv 10 = -(p : Int) := by rw [Int.neg_tdiv]; congr 1; rw [hp']; rfl
        have hr10 : r < 10 := by omega
        have hpb : p < 1000000000000000000 := by have := HQ.out; omega
        obtain ⟨B, hB⟩ : ∃ B, B = UInt8.ofNat (48 + r) := ⟨_, rfl⟩
        have hBn : B.toNat = 48 + r := by rw [hB]; exact Nat.mod_eq_of_lt (by omega)
        have hcell : (wo.alloc (.cells #[.int .u8 (48 + (r : Int))] 5)).cell? ⟨wo.heap.size, 0, none⟩ = some (.int .u8 (B.toNat : Nat)) := by
          rw [cell_of_row _ _ 0 _ _ (0, 0) (heap_alloc_new wo _), hBn]
          show some (Value.int IntKind.u8 (48 + (r : Int))) = some (.int .u8 ((48 + r : Nat) : Int))
          rw [Int.natCast_add]; rfl
        have hgw : g ≤ wo.heap.size := Nat.le_trans (by rw [HG.out]; exact Nat.le_refl _) HB.out.size
        have hL18 : l.length ≤ 19 := by
          have h1 := HL.out
          rw [← HR.out, List.length_append] at h1
          omega
        have hLb : L ≤ 19 := by rw [HLL.out]; exact hL18
        have HC1 := Lib.hid hcell
        have HBV := Lib.hid hB
        have HRQ := Lib.hid hr
        have HPQ := Lib.hid hp'
        have HGW := Lib.hid hgw
        have HL18 := Lib.hid hL18
        clear hcell hB hBn hr hp' hgw hL18
        have hstep : 10 ≤ q → Hid ((l ++ [B]) ++ revD p = D) := fun h => Lib.hid (by
          rw [← HR.out, revD_big (u := q) (by omega), List.append_assoc, HBV.out, HRQ.out, HPQ.out]; rfl)
        have hlast : p = 0 → Hid (l ++ [B] = D) := fun h => Lib.hid (by
          have h2 := HPQ.out
          have h3 := HRQ.out
          rw [← HR.out, HRV.out q r (by omega) (by omega), HBV.out])
        have hwp : IntKind.i64.wrap (-(p : Int)) = -(p : Int) := IntWalk.i64_in _ ⟨by omega, by omega⟩
        by_cases hp0 : p = 0
        · have HLAST := hlast hp0
          subst hp0
          clear hstep hlast hwp
          go_wp2_with (at_builtin; (refine wpList_append_byte rfl _ _ rfl g (.slice A L c) l rfl (HO.out.alloc _) wo.heap.size 1 rfl B HC1.out (by have := HL18.out; omega) (by have := HGW.out; simp; omega) ?_; intro v2 w2 hown2 hb2; rw [HLAST.out] at hown2; obtain ⟨gd, cd, hvd, hgd0, hgd1, hdc⟩ := hown2.at_ HNE.out; rw [← HE.out] at hvd hdc; rw [← HNE2.out] at hvd; subst hvd; have HDC := Lib.hid hdc; have HB2 := Lib.hid ((HB.out.alloc HGW.out _).trans hb2); have HGD := Lib.hid hgd1; clear hown2 hb2 hdc hgd0 hgd1))
          obtain ⟨g2, hg2⟩ : ∃ g2, g2 = w2.heap.size := ⟨_, rfl⟩
          have HG2 := Lib.hid hg2
          have HE2 := Lib.hid (OwnBytes.empty (w := w2) (base := g2) hg2)
          have HBE := Lib.hid ((Below.refl g2 w2).alloc (by omega) (.cells #[] 5))
          have hgle : g ≤ g2 := by have := HGD.out; have h3 := HB2.out.size; have h4 := HG.out; omega
          have HGL := Lib.hid hgle
          clear hg2 hgle
          try go_wp2
          go_loopw [5, 6] (fun o i wr => ∃ (m M : Nat) (x : Int) (A3 : Option Addr) (c3 : Nat), m ≤ nE ∧ i = .int .i64 x ∧ Hid (x = (m : Int) - 1) ∧ o = .slice A3 M c3 ∧ Hid (M = ((E.drop m).reverse).length) ∧ Hid (OwnBytes wr g2 (.slice A3 M c3) (E.drop m).reverse) ∧ Hid (Below g2 w2 wr)) (fun _ i _ => (intOf i + 1).toNat)
          case atStart => exact ⟨nE, 0, _, _, 0, Nat.le_refl _, rfl, Lib.hid (by omega), rfl, Lib.hid (by rw [HNE2.out]; simp), Lib.hid (by rw [HNE2.out, List.drop_length]; exact HE2.out), HBE⟩
          case round =>
            obtain ⟨wq, rfl⟩ : ∃ wq : World, wq = wr := ⟨_, rfl⟩
            obtain ⟨m, M, x, A3, c3, hm, rfl, HX, rfl, HM, HO3, HB3⟩ := hrel
            rcases Nat.eq_zero_or_pos m with rfl | hm0
            · obtain rfl : x = -1 := by have := HX.out; omega
              have ho3 := HO3.out
              rw [List.drop_zero] at ho3
              have hcv := ho3.conv (by rw [List.reverse_ne_nil_iff]; exact HEN.out)
              clear ho3
              go_wp2
              go_ret
              exact ⟨rfl, HG.out ▸ HB2.out.trans (HB3.out.mono HGL.out)⟩
            · obtain ⟨k, rfl⟩ : ∃ k, m = k + 1 := ⟨m - 1, by omega⟩
              obtain rfl : x = (k : Int) := by have := HX.out; omega
              have hkD : k < E.length := by have := HNE2.out; omega
              have hck := (HB3.out.cell (p := ⟨gd, k, none⟩) (by show gd < g2; have := HGD.out; have h := HG2.out; omega)).trans (HDC.out k hkD)
              obtain ⟨Bk, hBk⟩ : ∃ Bk, Bk = E[k] := ⟨_, rfl⟩
              rw [← hBk] at hck
              have hdk : (E.drop (k + 1)).reverse ++ [Bk] = (E.drop k).reverse := by rw [List.drop_eq_getElem_cons hkD, List.reverse_cons, hBk]
              have hM18 : M ≤ 20 := by have h1 := HM.out; have h2 := HEL.out; simp at h1; omega
              have hgq : g2 ≤ wq.heap.size := by have := HB3.out.size; have h := HG2.out; omega
              have hkL : k < nE := by omega
              have HDK := Lib.hid hdk
              have HGQ := Lib.hid hgq
              clear hdk hBk hgq hm hm0
              go_wp2_with (at_builtin; refine wpList_append_byte rfl _ _ rfl g2 (.slice A3 M c3) (E.drop (k + 1)).reverse (by rw [HM.out]; rfl) (HO3.out.alloc _) wq.heap.size 1 rfl Bk (one_byte wq Bk) (by have := HEL.out; simp; omega) (by have := HGQ.out; simp; omega) ?_; intro v4 w4 hown4 hb4; rw [HDK.out] at hown4; obtain ⟨A4, c4, hv4⟩ := hown4.form; have hM4 : (E.drop k).reverse.length = M + 1 := (by rw [← HDK.out, List.length_append, List.length_singleton, HM.out]); rw [hM4] at hv4; subst hv4; have HM4 := Lib.hid hM4.symm; have HO4 := Lib.hid hown4; have HB4 := Lib.hid ((HB3.out.alloc HGQ.out _).trans hb4); clear hown4 hb4 hM4)
              go_roundw
              case rel => exact ⟨k, M + 1, _, A4, c4, by omega, rfl, Lib.hid (by omega), rfl, HM4, HO4, HB4⟩
              case measure => first | (simp [intOf]; done) | (simp [intOf]; omega)
        · have HSTEP := hstep (by have := HPQ.out; omega)
          have qp : (-(p : Int) == 0) = false := by simp; omega
          have qp2 : (p == 0) = false := by simp; omega
          have qp3 : ((p : Int) == 0) = false := by simp; omega
          clear hstep hlast
          go_wp2_with (at_builtin; refine wpList_append_byte rfl _ _ rfl g (.slice A L c) l rfl (HO.out.alloc _) wo.heap.size 1 rfl B HC1.out (by have := HL18.out; omega) (by have := HGW.out; simp; omega) ?_; intro v2 w2 hown2 hb2; obtain ⟨A2, c2, hv2⟩ := hown2.form; rw [List.length_append, List.length_singleton, ← HLL.out] at hv2; subst hv2; have HO2 := Lib.hid hown2; have HB2 := Lib.hid ((HB.out.alloc HGW.out _).trans hb2); clear hown2 hb2)
          go_roundw
          case rel => exact ⟨p, L + 1, l ++ [B], A2, c2, rfl, rfl, Lib.hid (by rw [HLL.out]; simp), Lib.hid (by have := HPQ.out; have := HQ.out; omega), HO2, HSTEP, HB2⟩
          case measure => have := HPQ.out; first | (simp [intOf]; done) | (simp [intOf]; omega)
    · have hgt : decide (0 < u) = true := decide_eq_true (by omega)
      clear hz
      go_enter Tryd.func41, Tryd.ntmps41
      go_wp2
      go_loopw [3, 4] (fun n d wr => ∃ (q L : Nat) (l : List UInt8) (A : Option Addr) (c : Nat), n = .int .i64 (-(q : Int)) ∧ d = .slice A L c ∧ Hid (L = l.length) ∧ Hid (q ≤ 9223372036854775808) ∧ Hid (OwnBytes wr g (.slice A L c) l) ∧ Hid (l ++ revD q = D) ∧ Hid (Below g w wr)) (fun n _ _ => (intOf n).natAbs)
      case atStart => exact ⟨u, 0, [], _, 0, rfl, rfl, Lib.hid rfl, HUB, HOW, Lib.hid (by rw [HD.out]; rfl), HBL⟩
      case round =>
        obtain ⟨wo, rfl⟩ : ∃ wo : World, wo = wr := ⟨_, rfl⟩
        obtain ⟨q, L, l, A, c, rfl, rfl, HLL, HQ, HO, HR, HB⟩ := hrel
        obtain ⟨r, hr⟩ : ∃ r, r = q % 10 := ⟨_, rfl⟩
        obtain ⟨p, hp'⟩ : ∃ p, p = q / 10 := ⟨_, rfl⟩
        have e1 : (-(q : Int)).tmod 10 = -(r : Int) := by rw [Int.neg_tmod]; congr 1; rw [hr]; rfl
        have e2 : (-(q : Int)).tdiv 10 = -(p : Int) := by rw [Int.neg_tdiv]; congr 1; rw [hp']; rfl
        have hr10 : r < 10 := by omega
        have hpb : p < 1000000000000000000 := by have := HQ.out; omega
        obtain ⟨B, hB⟩ : ∃ B, B = UInt8.ofNat (48 + r) := ⟨_, rfl⟩
        have hBn : B.toNat = 48 + r := by rw [hB]; exact Nat.mod_eq_of_lt (by omega)
        have hcell : (wo.alloc (.cells #[.int .u8 (48 + (r : Int))] 5)).cell? ⟨wo.heap.size, 0, none⟩ = some (.int .u8 (B.toNat : Nat)) := by
          rw [cell_of_row _ _ 0 _ _ (0, 0) (heap_alloc_new wo _), hBn]
          show some (Value.int IntKind.u8 (48 + (r : Int))) = some (.int .u8 ((48 + r : Nat) : Int))
          rw [Int.natCast_add]; rfl
        have hgw : g ≤ wo.heap.size := Nat.le_trans (by rw [HG.out]; exact Nat.le_refl _) HB.out.size
        have hL18 : l.length ≤ 19 := by
          have h1 := HL.out
          rw [← HR.out, List.length_append] at h1
          omega
        have hLb : L ≤ 19 := by rw [HLL.out]; exact hL18
        have HC1 := Lib.hid hcell
        have HBV := Lib.hid hB
        have HRQ := Lib.hid hr
        have HPQ := Lib.hid hp'
        have HGW := Lib.hid hgw
        have HL18 := Lib.hid hL18
        clear hcell hB hBn hr hp' hgw hL18
        have hstep : 10 ≤ q → Hid ((l ++ [B]) ++ revD p = D) := fun h => Lib.hid (by
          rw [← HR.out, revD_big (u := q) (by omega), List.append_assoc, HBV.out, HRQ.out, HPQ.out]; rfl)
        have hlast : p = 0 → Hid (l ++ [B] = D) := fun h => Lib.hid (by
          have h2 := HPQ.out
          have h3 := HRQ.out
          rw [← HR.out, HRV.out q r (by omega) (by omega), HBV.out])
        have hwp : IntKind.i64.wrap (-(p : Int)) = -(p : Int) := IntWalk.i64_in _ ⟨by omega, by omega⟩
        by_cases hp0 : p = 0
        · have HLAST := hlast hp0
          subst hp0
          clear hstep hlast hwp
          go_wp2_with (at_builtin; (refine wpList_append_byte rfl _ _ rfl g (.slice A L c) l rfl (HO.out.alloc _) wo.heap.size 1 rfl B HC1.out (by have := HL18.out; omega) (by have := HGW.out; simp; omega) ?_; intro v2 w2 hown2 hb2; rw [HLAST.out] at hown2; obtain ⟨gd, cd, hvd, hgd0, hgd1, hdc⟩ := hown2.at_ HNE.out; rw [← HE.out] at hvd hdc; rw [← HNE2.out] at hvd; subst hvd; have HDC := Lib.hid hdc; have HB2 := Lib.hid ((HB.out.alloc HGW.out _).trans hb2); have HGD := Lib.hid hgd1; clear hown2 hb2 hdc hgd0 hgd1))
          obtain ⟨g2, hg2⟩ : ∃ g2, g2 = w2.heap.size := ⟨_, rfl⟩
          have HG2 := Lib.hid hg2
          have HE2 := Lib.hid (OwnBytes.empty (w := w2) (base := g2) hg2)
          have HBE := Lib.hid ((Below.refl g2 w2).alloc (by omega) (.cells #[] 5))
          have hgle : g ≤ g2 := by have := HGD.out; have h3 := HB2.out.size; have h4 := HG.out; omega
          have HGL := Lib.hid hgle
          clear hg2 hgle
          try go_wp2
          go_loopw [5, 6] (fun o i wr => ∃ (m M : Nat) (x : Int) (A3 : Option Addr) (c3 : Nat), m ≤ nE ∧ i = .int .i64 x ∧ Hid (x = (m : Int) - 1) ∧ o = .slice A3 M c3 ∧ Hid (M = ((E.drop m).reverse).length) ∧ Hid (OwnBytes wr g2 (.slice A3 M c3) (E.drop m).reverse) ∧ Hid (Below g2 w2 wr)) (fun _ i _ => (intOf i + 1).toNat)
          case atStart => exact ⟨nE, 0, _, _, 0, Nat.le_refl _, rfl, Lib.hid (by omega), rfl, Lib.hid (by rw [HNE2.out]; simp), Lib.hid (by rw [HNE2.out, List.drop_length]; exact HE2.out), HBE⟩
          case round =>
            obtain ⟨wq, rfl⟩ : ∃ wq : World, wq = wr := ⟨_, rfl⟩
            obtain ⟨m, M, x, A3, c3, hm, rfl, HX, rfl, HM, HO3, HB3⟩ := hrel
            rcases Nat.eq_zero_or_pos m with rfl | hm0
            · obtain rfl : x = -1 := by have := HX.out; omega
              have ho3 := HO3.out
              rw [List.drop_zero] at ho3
              have hcv := ho3.conv (by rw [List.reverse_ne_nil_iff]; exact HEN.out)
              clear ho3
              go_wp2
              go_ret
              exact ⟨rfl, HG.out ▸ HB2.out.trans (HB3.out.mono HGL.out)⟩
            · obtain ⟨k, rfl⟩ : ∃ k, m = k + 1 := ⟨m - 1, by omega⟩
              obtain rfl : x = (k : Int) := by have := HX.out; omega
              have hkD : k < E.length := by have := HNE2.out; omega
              have hck := (HB3.out.cell (p := ⟨gd, k, none⟩) (by show gd < g2; have := HGD.out; have h := HG2.out; omega)).trans (HDC.out k hkD)
              obtain ⟨Bk, hBk⟩ : ∃ Bk, Bk = E[k] := ⟨_, rfl⟩
              rw [← hBk] at hck
              have hdk : (E.drop (k + 1)).reverse ++ [Bk] = (E.drop k).reverse := by rw [List.drop_eq_getElem_cons hkD, List.reverse_cons, hBk]
              have hM18 : M ≤ 20 := by have h1 := HM.out; have h2 := HEL.out; simp at h1; omega
              have hgq : g2 ≤ wq.heap.size := by have := HB3.out.size; have h := HG2.out; omega
              have hkL : k < nE := by omega
              have HDK := Lib.hid hdk
              have HGQ := Lib.hid hgq
              clear hdk hBk hgq hm hm0
              go_wp2_with (at_builtin; refine wpList_append_byte rfl _ _ rfl g2 (.slice A3 M c3) (E.drop (k + 1)).reverse (by rw [HM.out]; rfl) (HO3.out.alloc _) wq.heap.size 1 rfl Bk (one_byte wq Bk) (by have := HEL.out; simp; omega) (by have := HGQ.out; simp; omega) ?_; intro v4 w4 hown4 hb4; rw [HDK.out] at hown4; obtain ⟨A4, c4, hv4⟩ := hown4.form; have hM4 : (E.drop k).reverse.length = M + 1 := (by rw [← HDK.out, List.length_append, List.length_singleton, HM.out]); rw [hM4] at hv4; subst hv4; have HM4 := Lib.hid hM4.symm; have HO4 := Lib.hid hown4; have HB4 := Lib.hid ((HB3.out.alloc HGQ.out _).trans hb4); clear hown4 hb4 hM4)
              go_roundw
              case rel => exact ⟨k, M + 1, _, A4, c4, by omega, rfl, Lib.hid (by omega), rfl, HM4, HO4, HB4⟩
              case measure => first | (simp [intOf]; done) | (simp [intOf]; omega)
        · have HSTEP := hstep (by have := HPQ.out; omega)
          have qp : (-(p : Int) == 0) = false := by simp; omega
          have qp2 : (p == 0) = false := by simp; omega
          have qp3 : ((p : Int) == 0) = false := by simp; omega
          clear hstep hlast
          go_wp2_with (at_builtin; refine wpList_append_byte rfl _ _ rfl g (.slice A L c) l rfl (HO.out.alloc _) wo.heap.size 1 rfl B HC1.out (by have := HL18.out; omega) (by have := HGW.out; simp; omega) ?_; intro v2 w2 hown2 hb2; obtain ⟨A2, c2, hv2⟩ := hown2.form; rw [List.length_append, List.length_singleton, ← HLL.out] at hv2; subst hv2; have HO2 := Lib.hid hown2; have HB2 := Lib.hid ((HB.out.alloc HGW.out _).trans hb2); clear hown2 hb2)
          go_roundw
          case rel => exact ⟨p, L + 1, l ++ [B], A2, c2, rfl, rfl, Lib.hid (by rw [HLL.out]; simp), Lib.hid (by have := HPQ.out; have := HQ.out; omega), HO2, HSTEP, HB2⟩
          case measure => have := HPQ.out; first | (simp [intOf]; done) | (simp [intOf]; omega)

end Go.Proofs.YtgohnlcgidmlfaaDoor
