/- The document's text of code: the walk of its Show. -/
import Derived.Test.YtgohnlcgidmlfaaDoorMgh
import Derived.Test.YtgohnlcgidmlfaaDoorMgi
import Derived.Test.YtgohnlcgidmlfaaDoorMes
import Derived.Test.YtgohnlcgidmlfaaDoorMgd
import Derived.Deep.Cut
import Derived.Deep.RegionHeldLaw
set_option linter.unusedVariables false
set_option linter.unusedSimpArgs false
namespace Go.Proofs.YtgohnlcgidmlfaaDoor
open Go.RowKit

theorem take_at {P : Program} {ops : Array Oper} {Q : Exit → Act → World → Prop} {md : Region.Mode} {S : World → Prop} {i d : Nat} {oi : Oper} {v : Value} {fuel : Nat} {listed : Array Bool} {a : Act} {w : World} (hi : ops[i]? = some oi) (hd : oi.dst = some d)
    (hs : Region.noSelect ops = true) (hf : Region.free md ops listed i = true) (hr : (Region.ready md ops listed).contains i = true)
    (hQ : ∀ c a w, Q (.panic c) (a.put oi.dst v) w → Q (.panic c) a w) (hy : YieldsIf P ops S oi v a) (hS : S w)
    (h : wpAnyH P md ops Q S fuel (listed.setIfInBounds i true) ⟨a.tmps.setIfInBounds d v, a.defers⟩ w) : wpAnyH P md ops Q S (fuel + 1) listed a w :=
  wpAnyH_take hi hs hf hr hQ hy hS (by rw [hd]; exact h)
theorem bs_add (a b : List UInt8) : bs a ++ bs b = bs (a ++ b) := by unfold bs; ext1; simp
def nmL : List (List UInt8) := (List.range 24).map kname
def nmA : Array Value := (nmL.map fun t => Value.string (bs t)).toArray
def nmZ : Array Value := Array.replicate 24 (.string ⟨#[]⟩)
theorem nm_cell (w : World) (k : Nat) (h : k < 24) : (w.alloc (.cells nmA 64)).cell? ⟨w.heap.size, k, none⟩ = some (.string (bs (kname k))) := by
  rw [cell_of_row _ _ k _ _ (0, 0) (heap_alloc_new w _)]
  have : k < nmL.length := h
  simp [nmA, nmL, h]

set_option maxHeartbeats 4000000 in
set_option maxRecDepth 100000 in
theorem refshow_any {w : World} {m : Mo} {v : Vm} (h : IsMo w (· < w.heap.size) m v) :
    Calls Tryd.prog 19 #[.agg v.arr] w fun e w' => e = .returned (.tuple #[.string (bs (showR m)), .int .i64 (if rightM m = true then 0 else 70)]) ∧ Below w.heap.size w w' := by
  obtain ⟨X, hX⟩ : ∃ X : World, X = w.alloc (.cells #[v.g, v.s, v.c, v.l, v.i, v.o, v.h, v.f, v.t] 27) := ⟨_, rfl⟩
  have hxb : Below w.heap.size w X := by rw [hX]; exact (Below.refl _ w).alloc (Nat.le_refl _) _
  have hx1 : MoBlk X w.heap.size v := by rw [hX]; exact MoBlk.grow
  have hxs : X.heap.size = w.heap.size + 1 := by rw [hX, asz]
  have C0 := Lib.hid (refright_any (h.grow hxb))
  obtain ⟨A0, c0, e0, -, -⟩ := h.g.form
  obtain ⟨A1, c1, e1, -, -⟩ := h.s.form
  obtain ⟨A2, c2, e2, -, -⟩ := h.c.form
  obtain ⟨A3, c3, e3, -, -⟩ := h.l.form
  obtain ⟨A4, c4, e4, -, -⟩ := h.i.form
  obtain ⟨A5, c5, e5, -, -⟩ := h.o.form
  obtain ⟨A6, c6, e6, -, -⟩ := h.h.form
  obtain ⟨A8, c8, e8, -, -⟩ := h.t.form
  obtain ⟨A7, c7, e7, hc7, hl7⟩ := h.f.form
  obtain ⟨n7, hn7⟩ : ∃ n, n = m.funcs.length := ⟨_, rfl⟩
  have hfl := h.f
  rw [e7] at hfl
  rw [← hn7] at e7 hl7 hfl hc7
  obtain ⟨q, hq⟩ : ∃ q, q = rightM m := ⟨_, rfl⟩
  have HRP : Hid (q = true → RightP m) := Lib.hid (fun h => rightP (hq ▸ h))
  have HSR : Hid (showR m = if q = true then showU m n7 else []) := Lib.hid (by rw [hq, hn7]; rfl)
  rw [← hq] at C0 ⊢
  simp only [Vm.arr] at C0 ⊢
  have CC := Lib.hid (fun wx (hb : Below X.heap.size X wx) => show wx.cell? ⟨w.heap.size, 7, none⟩ = some (.slice A7 n7 c7) from by rw [← e7]; exact (hx1.below hb (by omega)).cell 7)
  have HX := Lib.hid hX
  have HXB := Lib.hid hxb
  have HXS := Lib.hid hxs
  have HFL := Lib.hid hfl
  have HN7 := Lib.hid hn7
  obtain ⟨n0, hn0⟩ : ∃ n, n = m.globals.length := ⟨_, rfl⟩
  obtain ⟨n1, hn1⟩ : ∃ n, n = m.structs.length := ⟨_, rfl⟩
  obtain ⟨n2, hn2⟩ : ∃ n, n = m.chans.length := ⟨_, rfl⟩
  obtain ⟨n3, hn3⟩ : ∃ n, n = m.locks.length := ⟨_, rfl⟩
  obtain ⟨n4, hn4⟩ : ∃ n, n = m.inputs.length := ⟨_, rfl⟩
  obtain ⟨n5, hn5⟩ : ∃ n, n = m.sinks.length := ⟨_, rfl⟩
  obtain ⟨n6, hn6⟩ : ∃ n, n = m.hatches.length := ⟨_, rfl⟩
  obtain ⟨n8, hn8⟩ : ∃ n, n = m.threads.length := ⟨_, rfl⟩
  rw [← hn0] at e0
  rw [← hn1] at e1
  rw [← hn2] at e2
  rw [← hn3] at e3
  rw [← hn4] at e4
  rw [← hn5] at e5
  rw [← hn6] at e6
  rw [← hn8] at e8
  have hm0 := fun j => (cell_of_row X w.heap.size j _ _ (0, 0) (hX ▸ heap_alloc_new w (.cells #[v.g, v.s, v.c, v.l, v.i, v.o, v.h, v.f, v.t] 27)))
  clear hX hxb hx1 hxs hn7 hfl hq h hn0 hn1 hn2 hn3 hn4 hn5 hn6 hn8
  rw [e0, e1, e2, e3, e4, e5, e6, e7, e8] at C0 HX hm0 ⊢
  have z0 := hm0 0
  have z1 := hm0 1
  have z2 := hm0 2
  have z3 := hm0 3
  have z4 := hm0 4
  have z5 := hm0 5
  have z6 := hm0 6
  have z7 := hm0 7
  have z8 := hm0 8
  simp at z0 z1 z2 z3 z4 z5 z6 z7 z8
  obtain ⟨wA, hwA⟩ : ∃ wA, wA = nmA := ⟨_, rfl⟩
  have HBU : Hid (∀ vs : List (Nat × Value), Tryd.prog.built 64 vs = some nmA → Tryd.prog.built 64 vs = some wA) := Lib.hid (fun vs h => by rw [h, hwA])
  have HSZ : Hid ((Tryd.prog.info? 64).map (·.size) = some wA.size) := Lib.hid (by rw [hwA]; kernel_rfl)
  have HONE : Hid (wA.all (·.oneCell') = true) := Lib.hid (by rw [hwA]; kernel_rfl)
  obtain ⟨zA, hzA⟩ : ∃ zA, zA = nmZ := ⟨_, rfl⟩
  have HZZ : Hid ((Tryd.prog.info? 64).map (fun i => (i.zero, i.size)) = some (some (.agg zA), 24)) := Lib.hid (by rw [hzA]; kernel_rfl)
  have HS2 : Hid (zA.size = wA.size) := Lib.hid (by rw [hwA, hzA]; rfl)
  have HWA := Lib.hid (show ∀ (wx : World) (k : Nat), k < 24 → (wx.alloc (.cells wA 64)).cell? ⟨wx.heap.size, k, none⟩ = some (.string (bs (kname k))) from fun wx k hk => by rw [hwA]; exact nm_cell wx k hk)
  clear hwA hzA e0 e1 e2 e3 e4 e5 e6 e7 e8 hm0
  go_enter Tryd.func19, Tryd.ntmps19
  go_wp2_with fail
  rw [← HX.out]
  with_reducible refine C0.out.mono ?_
  rintro e w1 ⟨rfl, h1⟩
  have HE1 := Lib.hid (HXB.out.trans (h1.mono (by have := HXS.out; omega)))
  have k7 := CC.out w1 h1
  have hs1 : w.heap.size + 1 ≤ w1.heap.size := by have := h1.size; have := HXS.out; omega
  have hz7 : w.heap.size < w1.heap.size := by omega
  clear h1 C0 CC z0 z1 z2 z3 z4 z5 z6 z7 z8
  cases q with
  | false =>
    have HS : Hid (showR m = []) := Lib.hid (by rw [HSR.out]; rfl)
    clear HRP HSR
    go_wp2
    exact bodyPost_ret (v := .tuple #[.string ⟨#[]⟩, .int .i64 70]) (by simp [results, Tryd.results19, go_sem]) rfl ⟨by rw [HS.out]; rfl, HE1.out⟩
  | true =>
    have HR := Lib.hid (HRP.out (by first | rfl | trivial))
    have HS : Hid (showR m = showU m n7) := Lib.hid (by rw [HSR.out]; rfl)
    clear HRP HSR
    have hnm := HWA.out w1
    have hnb : Below w1.heap.size w1 (w1.alloc (.cells wA 64)) := (Below.refl _ w1).alloc (Nat.le_refl _) _
    have hns : (w1.alloc (.cells wA 64)).heap.size = w1.heap.size + 1 := by rw [asz]
    go_wp2_with (first
      | (with_reducible refine wpList_build_lit rfl 64 _ rfl _ rfl wA (HBU.out _ (by kernel_rfl)) ?_)
      | (with_reducible refine wpList_alloc_lit rfl 64 rfl (.agg zA) 24 HZZ.out zA rfl ?_)
      | (with_reducible refine wpList_store_lit rfl 64 _ _ rfl rfl zA wA rfl HSZ.out HS2.out HONE.out ?_))
    generalize w1.alloc (.cells wA 64) = W1 at hnm hnb hns ⊢
    obtain ⟨P, hP⟩ : ∃ P, P = w1.heap.size + 1 := ⟨_, rfl⟩
    obtain ⟨W2, hW2⟩ : ∃ W2 : World, W2 = W1.alloc (.cells #[] 5) := ⟨_, rfl⟩
    have hlit := BRow.lit W1
    rw [hns, ← hP] at hlit
    have hb2 : Below W1.heap.size W1 W2 := by rw [hW2]; exact (Below.refl _ W1).alloc (Nat.le_refl _) _
    have hs2 : W2.heap.size = P + 1 := by rw [hW2, asz, hns, hP]
    rw [← hW2] at hlit
    have HLIT : Hid (BX W2 (· < P) [] (.slice (some ⟨P, 0, none⟩) 0 0)) := Lib.hid ⟨⟨hlit.1, hlit.2.imp id (fun ⟨g, cap, cur, h1, h2, h3⟩ => ⟨g, cap, cur, h1, Nat.zero_le _, h3⟩)⟩, fun b hb => by
      have : P = b := by simpa [Value.ownBlock] using hb
      omega⟩
    have hPP : w1.heap.size < P := by omega
    have hPw : w.heap.size < P := by omega
    have HNM : Hid (∀ k, k < 24 → W2.cell? ⟨w1.heap.size, k, none⟩ = some (.string (bs (kname k)))) := Lib.hid (fun k hk => (hb2.cell (p := ⟨w1.heap.size, k, none⟩) (by show w1.heap.size < W1.heap.size; omega)).trans (hnm k hk))
    have HW2B : Hid (Below w.heap.size w W2) := Lib.hid ((HE1.out.trans (hnb.mono (by omega))).trans (hb2.mono (by omega)))
    have HK7 : Hid (W2.cell? ⟨w.heap.size, 7, none⟩ = some (.slice A7 n7 c7)) := Lib.hid ((hb2.cell (p := ⟨w.heap.size, 7, none⟩) (by show w.heap.size < W1.heap.size; omega)).trans ((hnb.cell (p := ⟨w.heap.size, 7, none⟩) hz7).trans k7))
    have HKB : Hid (∀ b, b < w.heap.size → W2.heap[b]? = w.heap[b]?) := Lib.hid HW2B.out.block
    rw [← hP, ← hW2]
    obtain ⟨gn, hgn⟩ : ∃ g, g = w1.heap.size := ⟨_, rfl⟩
    have HS2W := Lib.hid hs2
    rw [← hgn] at HNM hPP ⊢
    clear hnm hnb hns hP hW2 hlit hb2 hs2 k7 hz7 hs1 hgn HBU HSZ HONE HZZ HS2 HWA HE1 HX HXB HXS
    go_loopw [5, 6] (fun o x wr => ∃ (i L : Nat) (A : Option Addr) (c : Nat), i ≤ n7 ∧ x = .int .i64 (i : Nat) ∧ o = .slice A L c ∧ Hid (L = (showU m i).length) ∧ Hid (BX wr (· < P) (showU m i) (.slice A L c)) ∧ Hid (Kp (· < P) W2 wr) ∧ Hid ((showU m i).length ≤ 100 * i + 23000 * sumN (m.funcs.take i)) ∧ P ≤ wr.heap.size) (fun _ x _ => n7 - (intOf x).toNat)
    case atStart => exact ⟨0, 0, _, 0, Nat.zero_le _, rfl, rfl, Lib.hid rfl, HLIT, Lib.hid (Kp.refl _ _), Lib.hid (by simp [showU]), by have := HS2W.out; omega⟩
    case round =>
      obtain ⟨wo, rfl⟩ : ∃ wo : World, wo = wr := ⟨_, rfl⟩
      obtain ⟨i, L, A, c, hi, rfl, rfl, HLL, HO, HKP, HL, hso⟩ := hrel
      have k7 := HKP.out.cell hPw HK7.out
      by_cases hlt : i < n7
      · have hie : i < m.funcs.length := by rw [← HN7.out]; exact hlt
        obtain ⟨b, off, cv, rfl, hbS, hat, hcode, hfin⟩ := HFL.out.fn i hie
        have hmem := List.getElem_mem hie
        have hsn := sumN_take hie
        have hsu := showU_succ hie
        have hkk := HR.out.kinds _ hmem
        obtain ⟨Y, hY⟩ : ∃ Y, Y = m.funcs[i] := ⟨_, rfl⟩
        rw [← hY] at hat hcode hfin hsn hsu hkk
        obtain ⟨A9, c9, rfl, -, hl9⟩ := hcode.form
        obtain ⟨n9, hn9⟩ : ∃ n, n = Y.code.length := ⟨_, rfl⟩
        rw [← hn9] at hat hcode hl9 hsn
        have hkw : ∀ b, b < w.heap.size → wo.heap[b]? = w.heap[b]? := fun b hb => (HKP.out.keep b (by show b < P; omega) (by have := HS2W.out; omega)).trans (HKB.out b hb)
        obtain ⟨r0, r1, r2, r3, r4⟩ := hat.keep (hkw b hbS)
        have hiI := In64.nat (show i ≤ 140737488355328 by omega)
        have hfp := funcPts_len (i := i) (f := Y) hiI hfin
        rw [head_ref] at hfp
        obtain ⟨P1, hP1⟩ : ∃ P, P = wo.heap.size := ⟨_, rfl⟩
        obtain ⟨X1, hX1⟩ : ∃ X1 : World, X1 = wo.alloc (.cells #[.string (bs Y.name), .int .i64 Y.params, .int .i64 Y.regs, .int .i64 Y.result, .slice A9 n9 c9] 39) := ⟨_, rfl⟩
        have hx1 : FnBlk X1 P1 Y (.slice A9 n9 c9) := by rw [hX1, hP1]; exact FnBlk.new wo Y _
        have hx1s : X1.heap.size = P1 + 1 := by rw [hX1, hP1, asz]
        have hx1b : Below wo.heap.size wo X1 := by rw [hX1]; exact (Below.refl _ wo).alloc (Nat.le_refl _) _
        have hbnd : (showU m i).length ≤ 100000000 := by have h1 := HL.out; have h2 := HR.out.sum; have h3 := HR.out.few.1; omega
        have hP1s : P ≤ P1 := by omega
        have hox : BX X1 (fun b => b < P ∨ b = P1) (showU m i) (.slice A L c) := HO.out.more hx1b (fun b hb => by
          rcases hb with h | h
          · exact .inl h
          · exact .inr (by omega))
        have hL9 : L ≤ 100000000 := by rw [HLL.out]; exact hbnd
        have HYI := Lib.hid hfin
        have HX1 := Lib.hid hx1
        have HX1E := Lib.hid hX1
        have HPE := Lib.hid hP1
        have HX1S := Lib.hid hx1s
        have HOX := Lib.hid hox
        have HKX : Hid (Kp (· < P) W2 X1) := Lib.hid (HKP.out.trans (Kp.of hx1b))
        have HCO := Lib.hid hcode
        have HKK := Lib.hid hkk
        have HSN := Lib.hid hsn
        have HSU := Lib.hid hsu
        have HN9 := Lib.hid hn9
        have HFP := Lib.hid hfp.1
        obtain ⟨f1, f2, f3⟩ := (⟨itoa_len hfin.params, itoa_len hfin.regs, itoa_len hfin.result⟩ : _ ∧ _ ∧ _)
        have f0 := itoa_len hiI
        have HC0 := Lib.hid (fun wx => showZ_any (i : Int) hiI wx)
        have HC1 := Lib.hid (fun wx => showZ_any Y.params hfin.params wx)
        have HC2 := Lib.hid (fun wx => showZ_any Y.regs hfin.regs wx)
        have HC3 := Lib.hid (fun wx => showZ_any Y.result hfin.result wx)
        have HREF : Hid (refHead i Y = [102, 117, 110, 99, 32] ++ Lib.itoa i ++ [32] ++ Lib.itoa Y.params ++ [32] ++ Lib.itoa Y.regs ++ [32] ++ Lib.itoa Y.result ++ [10]) := Lib.hid rfl
        clear hat hcode hfin hsn hsu hkk hmem hiI hfp hX1 hP1 hx1 hx1s hx1b hn9 hkw hbnd hox hY
        go_upto_region 9 with fail
        rw [← HX1E.out, ← HPE.out]
        clear r0 r1 r2 r3 r4 k7
        go_cut [5] from 29 to 51 (fun o wx => ∃ (L' : Nat) (A' : Option Addr) (c' : Nat), o = .slice A' L' c' ∧ Hid (L' = (showU m i ++ refHead i Y).length) ∧ Hid (BX wx (fun b => b < P ∨ b = P1) (showU m i ++ refHead i Y) (.slice A' L' c')) ∧ Hid (Kp (fun b => b < P ∨ b = P1) X1 wx))
        case first =>
          obtain ⟨s0, hs0⟩ : ∃ s, s = bs (Lib.itoa (i : Int)) := ⟨_, rfl⟩
          obtain ⟨s1, hs1⟩ : ∃ s, s = bs (Lib.itoa Y.params) := ⟨_, rfl⟩
          obtain ⟨s2, hs2⟩ : ∃ s, s = bs (Lib.itoa Y.regs) := ⟨_, rfl⟩
          obtain ⟨s3, hs3⟩ : ∃ s, s = bs (Lib.itoa Y.result) := ⟨_, rfl⟩
          have g0 : s0.size ≤ 21 := by rw [hs0, bs_size]; exact f0
          have g1 : s1.size ≤ 21 := by rw [hs1, bs_size]; exact f1
          have g2 : s2.size ≤ 21 := by rw [hs2, bs_size]; exact f2
          have g3 : s3.size ≤ 21 := by rw [hs3, bs_size]; exact f3
          rw [← hs0] at HC0
          rw [← hs1] at HC1
          rw [← hs2] at HC2
          rw [← hs3] at HC3
          obtain ⟨U1, u1e⟩ : ∃ U, (⟨#[102, 117, 110, 99, 32]⟩ : ByteArray) ++ s0 = U := ⟨_, rfl⟩
          obtain ⟨U2, u2e⟩ : ∃ U, U1 ++ (⟨#[32]⟩ : ByteArray) = U := ⟨_, rfl⟩
          obtain ⟨U3, u3e⟩ : ∃ U, U2 ++ s1 = U := ⟨_, rfl⟩
          obtain ⟨U4, u4e⟩ : ∃ U, U3 ++ (⟨#[32]⟩ : ByteArray) = U := ⟨_, rfl⟩
          obtain ⟨U5, u5e⟩ : ∃ U, U4 ++ s2 = U := ⟨_, rfl⟩
          obtain ⟨U6, u6e⟩ : ∃ U, U5 ++ (⟨#[32]⟩ : ByteArray) = U := ⟨_, rfl⟩
          obtain ⟨U7, u7e⟩ : ∃ U, U6 ++ s3 = U := ⟨_, rfl⟩
          obtain ⟨U8, u8e⟩ : ∃ U, U7 ++ (⟨#[10]⟩ : ByteArray) = U := ⟨_, rfl⟩
          have z1 : U1.size = 5 + s0.size := by rw [← u1e]; simp; rfl
          have z2 : U2.size = U1.size + 1 := by rw [← u2e]; simp; rfl
          have z3 : U3.size = U2.size + s1.size := by rw [← u3e]; simp
          have z4 : U4.size = U3.size + 1 := by rw [← u4e]; simp; rfl
          have z5 : U5.size = U4.size + s2.size := by rw [← u5e]; simp
          have z6 : U6.size = U5.size + 1 := by rw [← u6e]; simp; rfl
          have z7 : U7.size = U6.size + s3.size := by rw [← u7e]; simp
          have hU8 : U8 = bs (refHead i Y) := by
            rw [← u8e, ← u7e, ← u6e, ← u5e, ← u4e, ← u3e, ← u2e, ← u1e, hs0, hs1, hs2, hs3, HREF.out, show (⟨#[102, 117, 110, 99, 32]⟩ : ByteArray) = bs [102, 117, 110, 99, 32] from rfl, show (⟨#[32]⟩ : ByteArray) = bs [32] from rfl, show (⟨#[10]⟩ : ByteArray) = bs [10] from rfl]
            simp only [bs_add]
          have q1 : ¬ 9223372036854775807 < 5 + s0.size := by omega
          have q2 : ¬ 9223372036854775807 < U1.size + 1 := by omega
          have q3 : ¬ 9223372036854775807 < U2.size + s1.size := by omega
          have q4 : ¬ 9223372036854775807 < U3.size + 1 := by omega
          have q5 : ¬ 9223372036854775807 < U4.size + s2.size := by omega
          have q6 : ¬ 9223372036854775807 < U5.size + 1 := by omega
          have q7 : ¬ 9223372036854775807 < U6.size + s3.size := by omega
          have q8 : ¬ 9223372036854775807 < U7.size + 1 := by omega
          obtain ⟨T, hT⟩ : ∃ T, T = refHead i Y := ⟨_, rfl⟩
          rw [← hT] at hU8 HFP HREF
          have HTT := Lib.hid hT
          obtain ⟨NT, hNT⟩ : ∃ n, n = T.length := ⟨_, rfl⟩
          have hcv : ∀ wx : World, (convert 9 60 (.string U8)).run Tryd.prog wx = .ok (.slice (some ⟨wx.heap.size, 0, none⟩) NT (grownCap wx NT 0 5)) (Lib.bytesWorld wx 5 U8) := fun wx => by rw [hU8, hNT]; exact conv_run wx T
          have hcw : ∀ wx : World, BAt (Lib.bytesWorld wx 5 U8) wx.heap.size T := fun wx => by rw [hU8]; exact conv_at wx T
          have HCW := Lib.hid hcw
          have HNT := Lib.hid hNT
          obtain ⟨y1, y2, y3⟩ : X1.cell? ⟨P1, 1, none⟩ = some (.int .i64 Y.params) ∧ X1.cell? ⟨P1, 2, none⟩ = some (.int .i64 Y.regs) ∧ X1.cell? ⟨P1, 3, none⟩ = some (.int .i64 Y.result) := ⟨HX1.out.all.2.1, HX1.out.all.2.2.1, HX1.out.all.2.2.2.1⟩
          obtain ⟨p1, hp1⟩ : ∃ p, p = Y.params := ⟨_, rfl⟩
          obtain ⟨p2, hp2⟩ : ∃ p, p = Y.regs := ⟨_, rfl⟩
          obtain ⟨p3, hp3⟩ : ∃ p, p = Y.result := ⟨_, rfl⟩
          rw [← hp1] at HC1 y1
          rw [← hp2] at HC2 y2
          rw [← hp3] at HC3 y3
          have HKS : Hid (∀ wx : World, Below X1.heap.size X1 wx → wx.cell? ⟨P1, 1, none⟩ = some (.int .i64 p1) ∧ wx.cell? ⟨P1, 2, none⟩ = some (.int .i64 p2) ∧ wx.cell? ⟨P1, 3, none⟩ = some (.int .i64 p3)) := Lib.hid (fun wx hb => ⟨(hb.cell (p := ⟨P1, 1, none⟩) (by show P1 < _; have := HX1S.out; omega)).trans y1, (hb.cell (p := ⟨P1, 2, none⟩) (by show P1 < _; have := HX1S.out; omega)).trans y2, (hb.cell (p := ⟨P1, 3, none⟩) (by show P1 < _; have := HX1S.out; omega)).trans y3⟩)
          have HBW : Hid (∀ wx : World, Below X1.heap.size X1 wx → Below X1.heap.size X1 (Lib.bytesWorld wx 5 U8)) := Lib.hid (fun wx hb => hb.trans ((Go.Joins.below_bytesWorld _ wx 5 U8 (Nat.le_refl _)).mono hb.size))
          have LD : Hid (Below X1.heap.size X1 X1.drew) := Lib.hid ((Below.refl _ X1).drew)
          clear hcw hU8 hT hNT hs0 hs1 hs2 hs3 hp1 hp2 hp3 z1 z2 z3 z4 z5 z6 z7 HX1E HPE HR f0 f1 f2 f3 g0 g1 g2 g3
          refine wp_region_held_drew (S := fun W => W.cell? ⟨P1, 1, none⟩ = some (.int .i64 p1) ∧ W.cell? ⟨P1, 2, none⟩ = some (.int .i64 p2) ∧ W.cell? ⟨P1, 3, none⟩ = some (.int .i64 p3)) (by kernel_rfl) (HKS.out _ LD.out) (fun hHeld => ?_)
          refine take_at (i := 0) (oi := _) (v := .slice A L c) rfl rfl (by kernel_rfl) (by kernel_rfl) (by kernel_rfl) (fun _ _ _ h => h) (Or.inl ⟨by rfl, fun W hSw => ?_⟩) hHeld ?_
          · obtain ⟨e1, e2, e3⟩ := hSw
            go_simp
          simp only [List.setIfInBounds_toArray, List.set_cons_zero, List.set_cons_succ]
          refine take_at (i := 1) (oi := _) (v := .int .i64 (i : Nat)) rfl rfl (by kernel_rfl) (by kernel_rfl) (by kernel_rfl) (fun _ _ _ h => h) (Or.inl ⟨by rfl, fun W hSw => ?_⟩) hHeld ?_
          · obtain ⟨e1, e2, e3⟩ := hSw
            go_simp
          simp only [List.setIfInBounds_toArray, List.set_cons_zero, List.set_cons_succ]
          refine take_at (i := 5) (oi := _) (v := .pointer (some ⟨P1, 1, none⟩)) rfl rfl (by kernel_rfl) (by kernel_rfl) (by kernel_rfl) (fun _ _ _ h => h) (Or.inl ⟨by rfl, fun W hSw => ?_⟩) hHeld ?_
          · obtain ⟨e1, e2, e3⟩ := hSw
            go_simp
          simp only [List.setIfInBounds_toArray, List.set_cons_zero, List.set_cons_succ]
          refine take_at (i := 6) (oi := _) (v := .int .i64 p1) rfl rfl (by kernel_rfl) (by kernel_rfl) (by kernel_rfl) (fun _ _ _ h => h) (Or.inl ⟨by rfl, fun W hSw => ?_⟩) hHeld ?_
          · obtain ⟨e1, e2, e3⟩ := hSw
            go_simp
          simp only [List.setIfInBounds_toArray, List.set_cons_zero, List.set_cons_succ]
          refine take_at (i := 10) (oi := _) (v := .pointer (some ⟨P1, 2, none⟩)) rfl rfl (by kernel_rfl) (by kernel_rfl) (by kernel_rfl) (fun _ _ _ h => h) (Or.inl ⟨by rfl, fun W hSw => ?_⟩) hHeld ?_
          · obtain ⟨e1, e2, e3⟩ := hSw
            go_simp
          simp only [List.setIfInBounds_toArray, List.set_cons_zero, List.set_cons_succ]
          refine take_at (i := 11) (oi := _) (v := .int .i64 p2) rfl rfl (by kernel_rfl) (by kernel_rfl) (by kernel_rfl) (fun _ _ _ h => h) (Or.inl ⟨by rfl, fun W hSw => ?_⟩) hHeld ?_
          · obtain ⟨e1, e2, e3⟩ := hSw
            go_simp
          simp only [List.setIfInBounds_toArray, List.set_cons_zero, List.set_cons_succ]
          refine take_at (i := 15) (oi := _) (v := .pointer (some ⟨P1, 3, none⟩)) rfl rfl (by kernel_rfl) (by kernel_rfl) (by kernel_rfl) (fun _ _ _ h => h) (Or.inl ⟨by rfl, fun W hSw => ?_⟩) hHeld ?_
          · obtain ⟨e1, e2, e3⟩ := hSw
            go_simp
          simp only [List.setIfInBounds_toArray, List.set_cons_zero, List.set_cons_succ]
          refine take_at (i := 16) (oi := _) (v := .int .i64 p3) rfl rfl (by kernel_rfl) (by kernel_rfl) (by kernel_rfl) (fun _ _ _ h => h) (Or.inl ⟨by rfl, fun W hSw => ?_⟩) hHeld ?_
          · obtain ⟨e1, e2, e3⟩ := hSw
            go_simp
          simp only [List.setIfInBounds_toArray, List.set_cons_zero, List.set_cons_succ]
          refine wpAnyH_ready (rs := [2]) (by kernel_rfl) (by simp) ?_
          refine AllReadyH.cons rfl (fun K hK => ?_) AllReadyH.nil
          go_simp
          refine (HC0.out _).mono ?_
          rintro e wa ⟨rfl, hbq⟩
          have L1 := Lib.hid (LD.out.trans (hbq.mono LD.out.size))
          clear hbq hHeld
          go_wp2_with fail
          refine hK.out _ _ (HKS.out _ L1.out) (fun hHeld => ?_)
          clear hK K
          refine take_at (i := 3) (oi := _) (v := .string U1) rfl rfl (by kernel_rfl) (by kernel_rfl) (by kernel_rfl) (fun _ _ _ h => h) (Or.inl ⟨by rfl, fun W hSw => ?_⟩) hHeld ?_
          · obtain ⟨e1, e2, e3⟩ := hSw
            go_simp
          simp only [List.setIfInBounds_toArray, List.set_cons_zero, List.set_cons_succ]
          refine take_at (i := 4) (oi := _) (v := .string U2) rfl rfl (by kernel_rfl) (by kernel_rfl) (by kernel_rfl) (fun _ _ _ h => h) (Or.inl ⟨by rfl, fun W hSw => ?_⟩) hHeld ?_
          · obtain ⟨e1, e2, e3⟩ := hSw
            go_simp
          simp only [List.setIfInBounds_toArray, List.set_cons_zero, List.set_cons_succ]
          refine wpAnyH_ready (rs := [7]) (by kernel_rfl) (by simp) ?_
          refine AllReadyH.cons rfl (fun K hK => ?_) AllReadyH.nil
          go_simp
          refine (HC1.out _).mono ?_
          rintro e wb ⟨rfl, hbq⟩
          have L2 := Lib.hid (L1.out.trans (hbq.mono L1.out.size))
          clear hbq hHeld
          go_wp2_with fail
          refine hK.out _ _ (HKS.out _ L2.out) (fun hHeld => ?_)
          clear hK K
          refine take_at (i := 8) (oi := _) (v := .string U3) rfl rfl (by kernel_rfl) (by kernel_rfl) (by kernel_rfl) (fun _ _ _ h => h) (Or.inl ⟨by rfl, fun W hSw => ?_⟩) hHeld ?_
          · obtain ⟨e1, e2, e3⟩ := hSw
            go_simp
          simp only [List.setIfInBounds_toArray, List.set_cons_zero, List.set_cons_succ]
          refine take_at (i := 9) (oi := _) (v := .string U4) rfl rfl (by kernel_rfl) (by kernel_rfl) (by kernel_rfl) (fun _ _ _ h => h) (Or.inl ⟨by rfl, fun W hSw => ?_⟩) hHeld ?_
          · obtain ⟨e1, e2, e3⟩ := hSw
            go_simp
          simp only [List.setIfInBounds_toArray, List.set_cons_zero, List.set_cons_succ]
          refine wpAnyH_ready (rs := [12]) (by kernel_rfl) (by simp) ?_
          refine AllReadyH.cons rfl (fun K hK => ?_) AllReadyH.nil
          go_simp
          refine (HC2.out _).mono ?_
          rintro e wc ⟨rfl, hbq⟩
          have L3 := Lib.hid (L2.out.trans (hbq.mono L2.out.size))
          clear hbq hHeld
          go_wp2_with fail
          refine hK.out _ _ (HKS.out _ L3.out) (fun hHeld => ?_)
          clear hK K
          refine take_at (i := 13) (oi := _) (v := .string U5) rfl rfl (by kernel_rfl) (by kernel_rfl) (by kernel_rfl) (fun _ _ _ h => h) (Or.inl ⟨by rfl, fun W hSw => ?_⟩) hHeld ?_
          · obtain ⟨e1, e2, e3⟩ := hSw
            go_simp
          simp only [List.setIfInBounds_toArray, List.set_cons_zero, List.set_cons_succ]
          refine take_at (i := 14) (oi := _) (v := .string U6) rfl rfl (by kernel_rfl) (by kernel_rfl) (by kernel_rfl) (fun _ _ _ h => h) (Or.inl ⟨by rfl, fun W hSw => ?_⟩) hHeld ?_
          · obtain ⟨e1, e2, e3⟩ := hSw
            go_simp
          simp only [List.setIfInBounds_toArray, List.set_cons_zero, List.set_cons_succ]
          refine wpAnyH_ready (rs := [17]) (by kernel_rfl) (by simp) ?_
          refine AllReadyH.cons rfl (fun K hK => ?_) AllReadyH.nil
          go_simp
          refine (HC3.out _).mono ?_
          rintro e wd ⟨rfl, hbq⟩
          have L4 := Lib.hid (L3.out.trans (hbq.mono L3.out.size))
          clear hbq hHeld
          go_wp2_with fail
          refine hK.out _ _ (HKS.out _ L4.out) (fun hHeld => ?_)
          clear hK K
          refine take_at (i := 18) (oi := _) (v := .string U7) rfl rfl (by kernel_rfl) (by kernel_rfl) (by kernel_rfl) (fun _ _ _ h => h) (Or.inl ⟨by rfl, fun W hSw => ?_⟩) hHeld ?_
          · obtain ⟨e1, e2, e3⟩ := hSw
            go_simp
          simp only [List.setIfInBounds_toArray, List.set_cons_zero, List.set_cons_succ]
          refine take_at (i := 19) (oi := _) (v := .string U8) rfl rfl (by kernel_rfl) (by kernel_rfl) (by kernel_rfl) (fun _ _ _ h => h) (Or.inl ⟨by rfl, fun W hSw => ?_⟩) hHeld ?_
          · obtain ⟨e1, e2, e3⟩ := hSw
            go_simp
          simp only [List.setIfInBounds_toArray, List.set_cons_zero, List.set_cons_succ]
          refine wpAnyH_ready (rs := [20]) (by kernel_rfl) (by simp) ?_
          refine AllReadyH.cons rfl (fun K hK => ?_) AllReadyH.nil
          go_simp
          refine hK.out _ _ (HKS.out _ (HBW.out _ L4.out)) (fun hHeld => ?_)
          clear hK K
          refine wpAnyH_ready (rs := [21]) (by kernel_rfl) (by simp) ?_
          refine AllReadyH.cons rfl (fun K hK => ?_) AllReadyH.nil
          refine step_append_bytes_at 50 rfl rfl _ _ rfl (S := fun b => b < P ∨ b = P1) (by intro b hb; have h1 := L4.out.size; have h2 := HX1S.out; rw [Lib.bytesWorld_size]; rcases hb with h | h <;> omega) (showU m i) T (.slice A L c) rfl ((HOX.out.keep L4.out).keep (Go.Joins.below_bytesWorld _ _ _ _ (Nat.le_refl _))) wd.heap.size _ (by rw [← HNT.out]; rfl) (HCW.out wd) (by have := HLL.out; have := HFP.out; omega) ?_
          intro v6 w6 hown6 hk6
          obtain ⟨A6, c6, rfl⟩ := hown6.1.form
          have H6 := Lib.hid hown6
          have K6 := Lib.hid (((Kp.of (HBW.out _ L4.out)).mono (fun _ h => h)).trans hk6)
          have L5 : w6.cell? ⟨P1, 1, none⟩ = some (.int .i64 p1) ∧ w6.cell? ⟨P1, 2, none⟩ = some (.int .i64 p2) ∧ w6.cell? ⟨P1, 3, none⟩ = some (.int .i64 p3) := ⟨hk6.cell (.inr rfl) (HKS.out _ (HBW.out _ L4.out)).1, hk6.cell (.inr rfl) (HKS.out _ (HBW.out _ L4.out)).2.1, hk6.cell (.inr rfl) (HKS.out _ (HBW.out _ L4.out)).2.2⟩
          refine hK.out _ _ L5 (fun hHeld => ?_)
          clear hK K hown6 hk6 L5
          simp only [List.setIfInBounds_toArray, List.set_cons_zero, List.set_cons_succ]
          refine take_at (i := 22) (oi := _) (v := .slice A6 (showU m i ++ T).length c6) rfl rfl (by kernel_rfl) (by kernel_rfl) (by kernel_rfl) (fun _ _ _ h => h) (Or.inl ⟨by rfl, fun W hSw => ?_⟩) hHeld ?_
          · obtain ⟨e1, e2, e3⟩ := hSw
            go_simp
          simp only [List.setIfInBounds_toArray, List.set_cons_zero, List.set_cons_succ]
          refine wpAnyH_done (by kernel_rfl) ?_ _
          go_wp2_with fail
          go_meet
          rw [HTT.out] at H6
          rw [HTT.out]
          exact ⟨_, A6, c6, rfl, Lib.hid rfl, H6, K6⟩
        case rest =>
          obtain ⟨LB, AB, cB, rfl, HLB, HOB, HKB2⟩ := hcut
          clear HC0 HC1 HC2 HC3 HREF f0 f1 f2 f3 HO HLL HX1E HPE
          obtain ⟨B0, hB0⟩ : ∃ B, B = showU m i ++ refHead i Y := ⟨_, rfl⟩
          rw [← hB0] at HLB HOB
          have HB0 := Lib.hid hB0
          clear hB0
          have HS1 : Hid (∀ b, (b < P ∨ b = P1) → b < wc.heap.size) := Lib.hid (fun b hb => by have h1 := HKB2.out.size; have h2 := HX1S.out; rcases hb with h | h <;> omega)
          have hk4 : wc.cell? ⟨P1, 4, none⟩ = some (.slice A9 n9 c9) := HKB2.out.cell (.inr rfl) HX1.out.all.2.2.2.2
          have HK4 := Lib.hid (HX1.out.all.2.2.2.2)
          have HKW : Hid (∀ (wx : World), Kp (fun b => b < P ∨ b = P1) X1 wx → ∀ b, b < w.heap.size → wx.heap[b]? = w.heap[b]?) := Lib.hid (fun wx hk b hb => ((hk.keep b (.inl (by show b < P; omega)) (by have := HX1S.out; omega)).trans (HKX.out.keep b (by show b < P; omega) (by have := HS2W.out; omega))).trans (HKB.out b hb))
          have HNMX : Hid (∀ (wx : World), Kp (fun b => b < P ∨ b = P1) X1 wx → ∀ k, k < 24 → wx.cell? ⟨gn, k, none⟩ = some (.string (bs (kname k)))) := Lib.hid (fun wx hk k hk2 => hk.cell (.inl (by show gn < P; omega)) (HKX.out.cell (by show gn < P; omega) (HNM.out k hk2)))
          have hLB0 : B0.length ≤ 100000100 := by
            rw [HB0.out, List.length_append]
            have h1 := HL.out; have h2 := HR.out.sum; have h3 := HR.out.few.1; have h4 := HFP.out; have h5 := HSN.out; omega
          go_wp2_with fail
          clear hk4
          go_loopw [5, 8] (fun o x wr => ∃ (k L : Nat) (A : Option Addr) (c : Nat), k ≤ n9 ∧ x = .int .i64 (k : Nat) ∧ o = .slice A L c ∧ Hid (L = (B0 ++ opsU Y.code k).length) ∧ Hid (BX wr (fun b => b < P ∨ b = P1) (B0 ++ opsU Y.code k) (.slice A L c)) ∧ Hid (Kp (fun b => b < P ∨ b = P1) X1 wr) ∧ Hid ((opsU Y.code k).length ≤ 23000 * k)) (fun _ x _ => n9 - (intOf x).toNat)
          case atStart => exact ⟨0, LB, AB, cB, Nat.zero_le _, rfl, rfl, Lib.hid (by simpa [opsU] using HLB.out), Lib.hid (by simpa [opsU] using HOB.out), HKB2, Lib.hid (by simp [opsU])⟩
          case round =>
            obtain ⟨wi, rfl⟩ : ∃ wi : World, wi = wr := ⟨_, rfl⟩
            clear HLB HOB HKB2 HS1
            obtain ⟨k, L, A, c, hk, rfl, rfl, HLL, HO, HKP1, HLO⟩ := hrel
            have hk4 : wi.cell? ⟨P1, 4, none⟩ = some (.slice A9 n9 c9) := HKP1.out.cell (.inr rfl) HK4.out
            have hwi : P1 + 1 ≤ wi.heap.size := by have := HKP1.out.size; have := HX1S.out; omega
            by_cases hlk : k < n9
            · have hke : k < Y.code.length := by rw [← HN9.out]; exact hlk
              obtain ⟨b4, off4, av, rfl, hb4, hat4, hargs, hin4⟩ := HCO.out.op k hke
              obtain ⟨⟨hk1, hk23⟩, ha24⟩ := HKK.out _ (List.getElem_mem hke)
              have hou := opsU_succ hke
              obtain ⟨Z, hZ⟩ : ∃ Z, Z = Y.code[k] := ⟨_, rfl⟩
              rw [← hZ] at hat4 hargs hin4 hk1 hk23 ha24 hou
              obtain ⟨A10, c10, rfl, -, -⟩ := hargs.form
              obtain ⟨n10, hn10⟩ : ∃ n, n = Z.args.length := ⟨_, rfl⟩
              have hai : ∀ x ∈ Z.args, In64 x := fun x hx => by
                obtain ⟨y, hy, rfl⟩ := List.getElem_of_mem hx
                obtain ⟨_, _, _, _, _, h6⟩ := hargs.int y hy
                exact h6
              obtain ⟨kd, hkd⟩ := Int.eq_ofNat_of_zero_le (show 0 ≤ Z.kind by omega)
              have hkdb : kd < 24 := by omega
              have hkd1 : 1 ≤ kd := by omega
              rw [← hn10] at hat4 hargs ha24
              obtain ⟨s0, s1, s2, s3, s4, s5, s6, s7, s8, s9, s10, s11⟩ := hat4.keep (HKW.out wi HKP1.out b4 hb4)
              have hkI := In64.nat (show k ≤ 140737488355328 by omega)
              obtain ⟨P2, hP2⟩ : ∃ P, P = wi.heap.size := ⟨_, rfl⟩
              obtain ⟨Y1, hY1⟩ : ∃ Y1 : World, Y1 = wi.alloc (.cells #[.int .i64 Z.kind, .int .i64 Z.a, .int .i64 Z.b, .int .i64 Z.c, .int .i64 Z.d, .int .i64 Z.e, .int .i64 Z.f, .int .i64 Z.k, .slice A10 n10 c10, .int .i64 Z.next, .int .i64 Z.els, .int .i64 Z.pl] 42) := ⟨_, rfl⟩
              have hy1 : Below wi.heap.size wi Y1 := by rw [hY1]; exact (Below.refl _ wi).alloc (Nat.le_refl _) _
              have hy1s : Y1.heap.size = P2 + 1 := by rw [hY1, hP2, asz]
              have hyb : OpBlk Y1 P2 Z (.slice A10 n10 c10) := by rw [hY1, hP2]; exact OpBlk.new wi Z _
              have hoy : BX Y1 (fun b => (b < P ∨ b = P1) ∨ b = P2) (B0 ++ opsU Y.code k) (.slice A L c) := HO.out.more hy1 (fun b hb => by
                rcases hb with h | h
                · exact .inl h
                · exact .inr (by omega))
              have hky : Kp (fun b => b < P ∨ b = P1) X1 Y1 := HKP1.out.trans (Kp.of hy1)
              have hargY : Lies KI Y1 (· < w.heap.size) Z.args (.slice A10 n10 c10) := hargs.keep (fun b hb => HKW.out Y1 hky b hb) (fun _ h => h)
              have hlen := opT_len (k := k) (O := Z) (w := w) (S := fun _ => True) (z := .nilIface) (by omega) hin4 hkI hai
              have hLb : L ≤ 200000000 := by
                rw [HLL.out, List.length_append]
                have h1 := HLO.out; have h5 := HSN.out; have h6 := HR.out.sum; omega
              rw [op_ref] at hlen hou
              have HFL7 : Hid (fl Z = [Z.a, Z.b, Z.c, Z.d, Z.e, Z.f, Z.k]) := Lib.hid rfl
              have HVI : Hid (∀ x ∈ fl Z ++ Z.args, In64 x) := Lib.hid (fun x hx => by
                rcases List.mem_append.1 hx with h | h
                · rw [HFL7.out] at h
                  simp at h
                  rcases h with rfl | rfl | rfl | rfl | rfl | rfl | rfl
                  · exact hin4.a
                  · exact hin4.b
                  · exact hin4.c
                  · exact hin4.d
                  · exact hin4.e
                  · exact hin4.f
                  · exact hin4.k
                · exact hai x h)
              have HNX := Lib.hid hin4.next
              have HEL := Lib.hid hin4.els
              have HKI := Lib.hid hkI
              have HY1E := Lib.hid hY1
              have HP2E := Lib.hid hP2
              have HY1S := Lib.hid hy1s
              have HYB := Lib.hid hyb
              have HOY := Lib.hid hoy
              have HKY := Lib.hid hky
              have HARG := Lib.hid hargY
              have HLEN := Lib.hid hlen
              have HOU := Lib.hid hou
              have HKD := Lib.hid hkd
              have HN10 := Lib.hid hn10
              have hP12 : P1 < P2 := by omega
              clear hat4 hargs hin4 hk1 hk23 hou hn10 hai hkI hY1 hP2 hy1 hy1s hyb hoy hky hargY hlen hZ hkd
              go_upto_region 14 with fail
              rw [← HY1E.out, ← HP2E.out]
              clear s0 s1 s2 s3 s4 s5 s6 s7 s8 s9 s10 s11 hk4
              obtain ⟨s0, s1, s2, s3, s4, s5, s6, s7, s8, s9, s10, s11⟩ := HYB.out.all
              have hP2l : P2 < Y1.heap.size := by have := HY1S.out; omega
              have HR7 : Hid ((Y1.alloc (.cells #[.int .i64 Z.a, .int .i64 Z.b, .int .i64 Z.c, .int .i64 Z.d, .int .i64 Z.e, .int .i64 Z.f, .int .i64 Z.k] 3)).ownsRow Y1.heap.size 3 1 (.slice (some ⟨Y1.heap.size, 0, none⟩) 7 7) 7 (iv (fl Z))) := Lib.hid (by
                rw [HFL7.out]
                exact ⟨rfl, .inr ⟨Y1.heap.size, 7, _, rfl, Nat.le_refl _, heap_alloc_new Y1 _, Nat.le_refl _, by unfold maxLen; omega, rfl, rfl⟩⟩)
              have HB7 : Hid (Below Y1.heap.size Y1 (Y1.alloc (.cells #[.int .i64 Z.a, .int .i64 Z.b, .int .i64 Z.c, .int .i64 Z.d, .int .i64 Z.e, .int .i64 Z.f, .int .i64 Z.k] 3))) := Lib.hid ((Below.refl _ Y1).alloc (Nat.le_refl _) _)
              have HA7 := Lib.hid (HARG.out.keep (w' := Y1.alloc (.cells #[.int .i64 Z.a, .int .i64 Z.b, .int .i64 Z.c, .int .i64 Z.d, .int .i64 Z.e, .int .i64 Z.f, .int .i64 Z.k] 3)) (fun b hb => HB7.out.block b (by omega)) (fun _ h => h))
              go_upto_region 16 with (at_builtin; refine wpList_append_ints rfl _ _ rfl Y1.heap.size 7 7 (fl Z) Z.args rfl HR7.out (.slice A10 n10 c10) rfl HA7.out (by have := HN10.out; omega) HB7.out.size (Nat.le_refl _) ?_; intro gv cv w5 hown5 hb5 hge5 hlt5; rw [← HN10.out] at hown5; have HOW5 := Lib.hid hown5; have HBE5 := Lib.hid (HB7.out.trans hb5); have HGE5 := Lib.hid hge5; have HGL5 := Lib.hid hlt5; clear hown5 hb5 hge5 hlt5)
              rw [← HN10.out]
              clear s0 s1 s2 s3 s4 s5 s6 s7 s8 s9 s10 s11 HR7 HB7 HA7 HARG
              have HO5 : Hid (BX w5 (fun b => ((b < P ∨ b = P1) ∨ b = P2) ∨ b = gv) (B0 ++ opsU Y.code k) (.slice A L c)) := Lib.hid (HOY.out.more HBE5.out (fun b hb => by
                rcases hb with h | h
                · exact .inl h
                · exact .inr (by rw [h]; exact HGE5.out)))
              have HS5 : Hid (∀ b, (((b < P ∨ b = P1) ∨ b = P2) ∨ b = gv) → b < w5.heap.size) := Lib.hid (fun b hb => by
                have h1 := HBE5.out.size; have h2 := HGL5.out
                rcases hb with ((h | h) | h) | h <;> omega)
              have HK5 : Hid (Kp (fun b => b < P ∨ b = P1) X1 w5) := Lib.hid (HKY.out.trans (Kp.of HBE5.out))
              have HY5 : Hid (OpBlk w5 P2 Z (.slice A10 n10 c10)) := Lib.hid (HYB.out.below HBE5.out hP2l)
              have HVL : Hid (∀ j (hj : j < (fl Z ++ Z.args).length), w5.cell? ⟨gv, j, none⟩ = some (.int .i64 (fl Z ++ Z.args)[j])) := Lib.hid (fun j hj => by
                have := World.ownsRow.cells HOW5.out (g := gv) rfl j (.int .i64 (fl Z ++ Z.args)[j]) (by unfold iv; rw [List.getElem?_map, List.getElem?_eq_getElem hj]; rfl)
                rwa [add_none, Nat.zero_add] at this)
              have HVN : Hid ((fl Z ++ Z.args).length = 7 + n10) := Lib.hid (by rw [List.length_append, HFL7.out, HN10.out]; rfl)
              obtain ⟨B1, hB1⟩ : ∃ B, B = (B0 ++ opsU Y.code k) := ⟨_, rfl⟩
              rw [← hB1] at HO5
              have HB1 := Lib.hid hB1
              have hL1 : B1.length ≤ 200000000 := by rw [hB1, ← HLL.out]; exact hLb
              have hLB1 : L = B1.length := by rw [hB1]; exact HLL.out
              have HLB1 := Lib.hid hLB1
              clear hB1 hLB1 HOY HKY HYB HBE5 HGE5 HOW5 HLL HO HKP1
              go_cut [5] from 82 to 93 (fun o wx => ∃ (L' : Nat) (A' : Option Addr) (c' : Nat), o = .slice A' L' c' ∧ Hid (L' = (B1 ++ (Lib.itoa (k : Int) ++ [32] ++ kname kd)).length) ∧ Hid (BX wx (fun b => ((b < P ∨ b = P1) ∨ b = P2) ∨ b = gv) (B1 ++ (Lib.itoa (k : Int) ++ [32] ++ kname kd)) (.slice A' L' c')) ∧ Hid (Kp (fun b => ((b < P ∨ b = P1) ∨ b = P2) ∨ b = gv) w5 wx))
              case first =>
                have hlk := kname_len kd
                have hf0 := itoa_len HKI.out
                obtain ⟨s0, hs0⟩ : ∃ s, s = bs (Lib.itoa (k : Int)) := ⟨_, rfl⟩
                obtain ⟨NM, hNM⟩ : ∃ s, s = bs (kname kd) := ⟨_, rfl⟩
                have HC0 := Lib.hid (fun wx => showZ_any (k : Int) HKI.out wx)
                rw [← hs0] at HC0
                have g0 : s0.size ≤ 21 := by rw [hs0, bs_size]; exact hf0
                have g1 : NM.size ≤ 7 := by rw [hNM, bs_size]; exact hlk
                obtain ⟨U1, u1e⟩ : ∃ U, s0 ++ (⟨#[32]⟩ : ByteArray) = U := ⟨_, rfl⟩
                obtain ⟨U2, u2e⟩ : ∃ U, U1 ++ NM = U := ⟨_, rfl⟩
                have z1 : U1.size = s0.size + 1 := by rw [← u1e]; simp; rfl
                have hU2 : U2 = bs (Lib.itoa (k : Int) ++ [32] ++ kname kd) := by rw [← u2e, ← u1e, hs0, hNM, show (⟨#[32]⟩ : ByteArray) = bs [32] from rfl, bs_add, bs_add]
                have q1 : ¬ 9223372036854775807 < s0.size + 1 := by omega
                have q2 : ¬ 9223372036854775807 < U1.size + NM.size := by omega
                obtain ⟨T, hT⟩ : ∃ T, T = Lib.itoa (k : Int) ++ [32] ++ kname kd := ⟨_, rfl⟩
                rw [← hT] at hU2
                have HTT := Lib.hid hT
                have hTl : T.length ≤ 100 := by rw [hT]; simp; omega
                obtain ⟨NT, hNT⟩ : ∃ n, n = T.length := ⟨_, rfl⟩
                have hcv : ∀ wx : World, (convert 9 60 (.string U2)).run Tryd.prog wx = .ok (.slice (some ⟨wx.heap.size, 0, none⟩) NT (grownCap wx NT 0 5)) (Lib.bytesWorld wx 5 U2) := fun wx => by rw [hU2, hNT]; exact conv_run wx T
                have HCW : Hid (∀ wx : World, BAt (Lib.bytesWorld wx 5 U2) wx.heap.size T) := Lib.hid (fun wx => by rw [hU2]; exact conv_at wx T)
                have HNT := Lib.hid hNT
                have y1 : w5.cell? ⟨P2, 0, none⟩ = some (.int .i64 (kd : Nat)) := by rw [← HKD.out]; exact HY5.out.all.1
                have y2 : w5.cell? ⟨gn, kd, none⟩ = some (.string NM) := by rw [hNM]; exact HNMX.out w5 HK5.out kd hkdb
                have HKS : Hid (∀ wx : World, Below w5.heap.size w5 wx → wx.cell? ⟨P2, 0, none⟩ = some (.int .i64 (kd : Nat)) ∧ wx.cell? ⟨gn, kd, none⟩ = some (.string NM)) := Lib.hid (fun wx hb => ⟨(hb.cell (p := ⟨P2, 0, none⟩) (cell_in y1).1).trans y1, (hb.cell (p := ⟨gn, kd, none⟩) (cell_in y2).1).trans y2⟩)
                have HBW : Hid (∀ wx : World, Below w5.heap.size w5 wx → Below w5.heap.size w5 (Lib.bytesWorld wx 5 U2)) := Lib.hid (fun wx hb => hb.trans ((Go.Joins.below_bytesWorld _ wx 5 U2 (Nat.le_refl _)).mono hb.size))
                have LD : Hid (Below w5.heap.size w5 w5.drew) := Lib.hid ((Below.refl _ w5).drew)
                have i1 : (0 : Int) ≤ (kd : Int) := by omega
                have i2 : (kd : Int) < 24 := by omega
                clear hU2 hT hNT hs0 hNM z1 g0 g1 hlk hf0 y1 y2
                refine wp_region_held_drew (S := fun W => W.cell? ⟨P2, 0, none⟩ = some (.int .i64 (kd : Nat)) ∧ W.cell? ⟨gn, kd, none⟩ = some (.string NM)) (by kernel_rfl) (HKS.out _ LD.out) (fun hHeld => ?_)
                refine take_at (i := 0) (oi := _) (v := .slice A L c) rfl rfl (by kernel_rfl) (by kernel_rfl) (by kernel_rfl) (fun _ _ _ h => h) (Or.inl ⟨by rfl, fun W hSw => ?_⟩) hHeld ?_
                · obtain ⟨e1, e2⟩ := hSw
                  go_simp
                simp only [List.setIfInBounds_toArray, List.set_cons_zero, List.set_cons_succ]
                refine take_at (i := 1) (oi := _) (v := .int .i64 (k : Nat)) rfl rfl (by kernel_rfl) (by kernel_rfl) (by kernel_rfl) (fun _ _ _ h => h) (Or.inl ⟨by rfl, fun W hSw => ?_⟩) hHeld ?_
                · obtain ⟨e1, e2⟩ := hSw
                  go_simp
                simp only [List.setIfInBounds_toArray, List.set_cons_zero, List.set_cons_succ]
                refine take_at (i := 4) (oi := _) (v := .pointer (some ⟨P2, 0, none⟩)) rfl rfl (by kernel_rfl) (by kernel_rfl) (by kernel_rfl) (fun _ _ _ h => h) (Or.inl ⟨by rfl, fun W hSw => ?_⟩) hHeld ?_
                · obtain ⟨e1, e2⟩ := hSw
                  go_simp
                simp only [List.setIfInBounds_toArray, List.set_cons_zero, List.set_cons_succ]
                refine take_at (i := 5) (oi := _) (v := .int .i64 (kd : Nat)) rfl rfl (by kernel_rfl) (by kernel_rfl) (by kernel_rfl) (fun _ _ _ h => h) (Or.inl ⟨by rfl, fun W hSw => ?_⟩) hHeld ?_
                · obtain ⟨e1, e2⟩ := hSw
                  go_simp
                simp only [List.setIfInBounds_toArray, List.set_cons_zero, List.set_cons_succ]
                refine take_at (i := 6) (oi := _) (v := .pointer (some ⟨gn, kd, none⟩)) rfl rfl (by kernel_rfl) (by kernel_rfl) (by kernel_rfl) (fun _ _ _ h => h) (Or.inl ⟨by rfl, fun W hSw => ?_⟩) hHeld ?_
                · obtain ⟨e1, e2⟩ := hSw
                  go_simp
                simp only [List.setIfInBounds_toArray, List.set_cons_zero, List.set_cons_succ]
                refine take_at (i := 7) (oi := _) (v := .string NM) rfl rfl (by kernel_rfl) (by kernel_rfl) (by kernel_rfl) (fun _ _ _ h => h) (Or.inl ⟨by rfl, fun W hSw => ?_⟩) hHeld ?_
                · obtain ⟨e1, e2⟩ := hSw
                  go_simp
                simp only [List.setIfInBounds_toArray, List.set_cons_zero, List.set_cons_succ]
                refine wpAnyH_ready (rs := [2]) (by kernel_rfl) (by simp) ?_
                refine AllReadyH.cons rfl (fun K hK => ?_) AllReadyH.nil
                go_simp
                refine (HC0.out _).mono ?_
                rintro e wa ⟨rfl, hbq⟩
                have L1 := Lib.hid (LD.out.trans (hbq.mono LD.out.size))
                clear hbq hHeld
                go_wp2_with fail
                refine hK.out _ _ (HKS.out _ L1.out) (fun hHeld => ?_)
                clear hK K
                refine take_at (i := 3) (oi := _) (v := .string U1) rfl rfl (by kernel_rfl) (by kernel_rfl) (by kernel_rfl) (fun _ _ _ h => h) (Or.inl ⟨by rfl, fun W hSw => ?_⟩) hHeld ?_
                · obtain ⟨e1, e2⟩ := hSw
                  go_simp
                simp only [List.setIfInBounds_toArray, List.set_cons_zero, List.set_cons_succ]
                refine take_at (i := 8) (oi := _) (v := .string U2) rfl rfl (by kernel_rfl) (by kernel_rfl) (by kernel_rfl) (fun _ _ _ h => h) (Or.inl ⟨by rfl, fun W hSw => ?_⟩) hHeld ?_
                · obtain ⟨e1, e2⟩ := hSw
                  go_simp
                simp only [List.setIfInBounds_toArray, List.set_cons_zero, List.set_cons_succ]
                refine wpAnyH_ready (rs := [9]) (by kernel_rfl) (by simp) ?_
                refine AllReadyH.cons rfl (fun K hK => ?_) AllReadyH.nil
                go_simp
                refine hK.out _ _ (HKS.out _ (HBW.out _ L1.out)) (fun hHeld => ?_)
                clear hK K
                refine wpAnyH_ready (rs := [10]) (by kernel_rfl) (by simp) ?_
                refine AllReadyH.cons rfl (fun K hK => ?_) AllReadyH.nil
                refine step_append_bytes_at 92 rfl rfl _ _ rfl (S := fun b => ((b < P ∨ b = P1) ∨ b = P2) ∨ b = gv) (fun b hb => Nat.lt_of_lt_of_le (HS5.out b hb) (HBW.out _ L1.out).size) B1 T (.slice A L c) rfl ((HO5.out.keep L1.out).keep (Go.Joins.below_bytesWorld _ _ _ _ (Nat.le_refl _))) wa.heap.size _ (by rw [← HNT.out]; rfl) (HCW.out wa) (by omega) ?_
                intro v6 w6 hown6 hk6
                obtain ⟨A6, c6, rfl⟩ := hown6.1.form
                have H6 := Lib.hid hown6
                have K6 := Lib.hid (((Kp.of (HBW.out _ L1.out)).mono (fun _ h => h)).trans hk6)
                have L5 : w6.cell? ⟨P2, 0, none⟩ = some (.int .i64 (kd : Nat)) ∧ w6.cell? ⟨gn, kd, none⟩ = some (.string NM) := ⟨hk6.cell (.inl (.inr rfl)) (HKS.out _ (HBW.out _ L1.out)).1, hk6.cell (.inl (.inl (.inl (by omega)))) (HKS.out _ (HBW.out _ L1.out)).2⟩
                refine hK.out _ _ L5 (fun hHeld => ?_)
                clear hK K hown6 hk6 L5
                simp only [List.setIfInBounds_toArray, List.set_cons_zero, List.set_cons_succ]
                refine take_at (i := 11) (oi := _) (v := .slice A6 (B1 ++ T).length c6) rfl rfl (by kernel_rfl) (by kernel_rfl) (by kernel_rfl) (fun _ _ _ h => h) (Or.inl ⟨by rfl, fun W hSw => ?_⟩) hHeld ?_
                · obtain ⟨e1, e2⟩ := hSw
                  go_simp
                simp only [List.setIfInBounds_toArray, List.set_cons_zero, List.set_cons_succ]
                refine wpAnyH_done (by kernel_rfl) ?_ _
                go_wp2_with fail
                go_meet
                rw [HTT.out] at H6
                rw [HTT.out]
                exact ⟨_, A6, c6, rfl, Lib.hid rfl, H6, K6⟩
              case rest =>
                obtain ⟨L6, A6, c6, rfl, HL6, HO6, HK6⟩ := hcut
                obtain ⟨B2, hB2⟩ : ∃ B, B = B1 ++ (Lib.itoa (k : Int) ++ [32] ++ kname kd) := ⟨_, rfl⟩
                rw [← hB2] at HL6 HO6
                have hL2 : B2.length ≤ 200000100 := by
                  rw [hB2]
                  have h1 := itoa_len HKI.out
                  have h2 := kname_len kd
                  simp
                  omega
                have HB2 := Lib.hid hB2
                clear hB2 HO5 hL9
                obtain ⟨VL, hVL⟩ : ∃ V, V = fl Z ++ Z.args := ⟨_, rfl⟩
                rw [← hVL] at HVL HVN HVI
                have HVE := Lib.hid hVL
                clear hVL
                go_wp2_with fail
                go_loopw [5, 11] (fun o x wr => ∃ (j L : Nat) (A : Option Addr) (c : Nat), j ≤ 7 + n10 ∧ x = .int .i64 (j : Nat) ∧ o = .slice A L c ∧ Hid (L = (B2 ++ (VL.take j).flatMap sp).length) ∧ Hid (BX wr (fun b => ((b < P ∨ b = P1) ∨ b = P2) ∨ b = gv) (B2 ++ (VL.take j).flatMap sp) (.slice A L c)) ∧ Hid (Kp (fun b => ((b < P ∨ b = P1) ∨ b = P2) ∨ b = gv) w5 wr) ∧ Hid (((VL.take j).flatMap sp).length ≤ 22 * j)) (fun _ x _ => 7 + n10 - (intOf x).toNat)
                case atStart => exact ⟨0, L6, A6, c6, Nat.zero_le _, rfl, rfl, Lib.hid (by simpa using HL6.out), Lib.hid (by simpa using HO6.out), HK6, Lib.hid (by simp)⟩
                case round =>
                  obtain ⟨wj, rfl⟩ : ∃ wj : World, wj = wr := ⟨_, rfl⟩
                  clear HL6 HO6 HK6
                  obtain ⟨j, L, A, c, hj, rfl, rfl, HL3, HO3, HK3, HLV⟩ := hrel
                  have hj5 : w5.heap.size ≤ wj.heap.size := HK3.out.size
                  by_cases hlj : j < 7 + n10
                  · have hjv : j < VL.length := by rw [HVN.out]; exact hlj
                    have hcj := HK3.out.cell (.inr rfl) (HVL.out j hjv)
                    have hin := HVI.out _ (List.getElem_mem hjv)
                    have htk : (VL.take (j + 1)).flatMap sp = (VL.take j).flatMap sp ++ sp VL[j] := by rw [List.take_add_one, List.flatMap_append, List.getElem?_eq_getElem hjv]; simp
                    obtain ⟨xj, hxj⟩ : ∃ x, x = VL[j] := ⟨_, rfl⟩
                    rw [← hxj] at hcj hin htk
                    have hf0 := itoa_len hin
                    obtain ⟨s0, hs0⟩ : ∃ s, s = bs (Lib.itoa xj) := ⟨_, rfl⟩
                    have HC0 := Lib.hid (fun wx => showZ_any xj hin wx)
                    rw [← hs0] at HC0
                    have g0 : s0.size ≤ 21 := by rw [hs0, bs_size]; exact hf0
                    obtain ⟨U1, u1e⟩ : ∃ U, (⟨#[32]⟩ : ByteArray) ++ s0 = U := ⟨_, rfl⟩
                    have HU1 : Hid (U1 = bs (sp xj)) := Lib.hid (by rw [← u1e, hs0, show (⟨#[32]⟩ : ByteArray) = bs [32] from rfl, bs_add]; rfl)
                    have q1 : ¬ 9223372036854775807 < 1 + s0.size := by omega
                    obtain ⟨T, hT⟩ : ∃ T, T = sp xj := ⟨_, rfl⟩
                    rw [← hT] at htk HU1
                    have hTl : T.length ≤ 22 := by rw [hT]; simp [sp]; omega
                    obtain ⟨Bj, hBj⟩ : ∃ B, B = B2 ++ (VL.take j).flatMap sp := ⟨_, rfl⟩
                    have HEB : Hid (B2 ++ (VL.take (j + 1)).flatMap sp = Bj ++ T) := Lib.hid (by rw [htk, ← List.append_assoc, ← hBj])
                    rw [← hBj] at HL3 HO3
                    have hbj : Bj.length ≤ 200100000 := by rw [hBj, List.length_append]; have := HLV.out; omega
                    have HTK := Lib.hid htk
                    clear hBj
                    have hLV : ((VL.take j).flatMap sp).length ≤ 22 * 1031 := by have := HLV.out; omega
                    clear hxj hs0 hT htk hin hf0 g0 hjv
                    go_wp2_with fail
                    refine (HC0.out _).mono ?_
                    rintro e wa ⟨rfl, hba⟩
                    have HOA := Lib.hid (HO3.out.keep hba)
                    have HKA : Hid (Kp (fun b => ((b < P ∨ b = P1) ∨ b = P2) ∨ b = gv) w5 wa) := Lib.hid (HK3.out.trans (Kp.of hba))
                    clear hba HC0 HO3 HK3 hcj
                    go_wp2_with (first
                      | (refine wpList_conv rfl _ rfl T (by rw [← HU1.out]; rfl) ?_; intro wb cb hbb hwb hat; have HOB3 := Lib.hid (HOA.out.keep hbb); have HKB3 : Hid (Kp (fun b => ((b < P ∨ b = P1) ∨ b = P2) ∨ b = gv) w5 wb) := Lib.hid (HKA.out.trans (Kp.of hbb)); have HAT := Lib.hid hat; clear hbb hwb hat)
                      | (at_builtin; refine wpList_append_bytes rfl _ _ rfl (S := (fun b => ((b < P ∨ b = P1) ∨ b = P2) ∨ b = gv)) (fun b hb => Nat.lt_of_lt_of_le (HS5.out b hb) HKB3.out.size) Bj T (.slice A L c) rfl HOB3.out wa.heap.size cb rfl HAT.out (by omega) ?_; intro v7 w7 hown7 hk7; obtain ⟨A7', c7', rfl⟩ := hown7.1.form; have HO7 := Lib.hid hown7; have HK7' := Lib.hid (HKB3.out.trans hk7); clear hown7 hk7))
                    go_roundw
                    case rel =>
                      refine ⟨j + 1, _, A7', c7', by omega, by go_num, rfl, Lib.hid ?_, Lib.hid ?_, HK7', Lib.hid ?_⟩
                      · rw [HEB.out]; first | rfl | rw [List.length_append]
                      · rw [HEB.out]; first | exact HO7.out | simpa only [List.length_append] using HO7.out
                      · rw [HTK.out, List.length_append]
                        have := HLV.out
                        omega
                    case measure => simp [intOf]; omega
                  · obtain rfl : j = 7 + n10 := by omega
                    rw [List.take_of_length_le (by rw [HVN.out]; exact Nat.le_refl _)] at HL3 HO3 HLV
                    obtain ⟨B3, hB3⟩ : ∃ B, B = B2 ++ VL.flatMap sp := ⟨_, rfl⟩
                    rw [← hB3] at HL3 HO3
                    have hb3 : B3.length ≤ 200100000 := by rw [hB3, List.length_append]; have := HLV.out; omega
                    have HB3 := Lib.hid hB3
                    clear hB3
                    obtain ⟨y0, -, -, -, -, -, -, -, -, y9, y10, -⟩ := HY5.out.all
                    rw [HKD.out] at y0
                    have HQ0 := Lib.hid (fun (wx : World) (hk : Kp (fun b => ((b < P ∨ b = P1) ∨ b = P2) ∨ b = gv) w5 wx) => (⟨hk.cell (.inl (.inr rfl)) y0, hk.cell (.inl (.inr rfl)) y9, hk.cell (.inl (.inr rfl)) y10⟩ : wx.cell? ⟨P2, 0, none⟩ = some (.int .i64 (kd : Nat)) ∧ wx.cell? ⟨P2, 9, none⟩ = some (.int .i64 Z.next) ∧ wx.cell? ⟨P2, 10, none⟩ = some (.int .i64 Z.els)))
                    obtain ⟨x0, x9, x10⟩ := HQ0.out wj HK3.out
                    have HCN := Lib.hid (fun wx => showZ_any Z.next HNX.out wx)
                    have HCE := Lib.hid (fun wx => showZ_any Z.els HEL.out wx)
                    have hf1 := itoa_len HNX.out
                    have hf2 := itoa_len HEL.out
                    obtain ⟨sn, hsn⟩ : ∃ s, s = bs (Lib.itoa Z.next) := ⟨_, rfl⟩
                    obtain ⟨se, hse⟩ : ∃ s, s = bs (Lib.itoa Z.els) := ⟨_, rfl⟩
                    rw [← hsn] at HCN
                    rw [← hse] at HCE
                    have g1 : sn.size ≤ 21 := by rw [hsn, bs_size]; exact hf1
                    have g2 : se.size ≤ 21 := by rw [hse, bs_size]; exact hf2
                    obtain ⟨UN, une⟩ : ∃ U, (⟨#[32, 45, 62, 32]⟩ : ByteArray) ++ sn = U := ⟨_, rfl⟩
                    obtain ⟨UE, uee⟩ : ∃ U, (⟨#[32]⟩ : ByteArray) ++ se = U := ⟨_, rfl⟩
                    obtain ⟨TN, hTN⟩ : ∃ T, T = [32, 45, 62, 32] ++ Lib.itoa Z.next := ⟨_, rfl⟩
                    obtain ⟨TE, hTE⟩ : ∃ T, T = 32 :: Lib.itoa Z.els := ⟨_, rfl⟩
                    have HUN : Hid (UN = bs TN) := Lib.hid (by rw [← une, hsn, hTN, show (⟨#[32, 45, 62, 32]⟩ : ByteArray) = bs [32, 45, 62, 32] from rfl, bs_add])
                    have HUE : Hid (UE = bs TE) := Lib.hid (by rw [← uee, hse, hTE, show (⟨#[32]⟩ : ByteArray) = bs [32] from rfl, bs_add]; rfl)
                    have q1 : ¬ 9223372036854775807 < 4 + sn.size := by omega
                    have q2 : ¬ 9223372036854775807 < 1 + se.size := by omega
                    have hl1 : TN.length ≤ 30 := by rw [hTN]; simp; omega
                    have hl2 : TE.length ≤ 30 := by rw [hTE]; simp; omega
                    have HTN := Lib.hid hTN
                    have HTE := Lib.hid hTE
                    have HREF : Hid (refOp k Z = Lib.itoa (k : Int) ++ [32] ++ kname kd ++ VL.flatMap sp ++ (if Z.kind = 23 then [] else TN) ++ (if Z.kind = 21 then TE else []) ++ [10]) := Lib.hid (by unfold refOp; rw [HKD.out, Int.toNat_natCast, HVE.out, hTN, hTE])
                    have HFIN : Hid (∀ E : List UInt8, (if Z.kind = 23 then [] else TN) ++ (if Z.kind = 21 then TE else []) = E → B0 ++ opsU Y.code (k + 1) = B3 ++ E ++ [10]) := Lib.hid (fun E hE => by
                      rw [HOU.out, HREF.out, HB3.out, HB2.out, HB1.out, ← hE]
                      simp only [List.append_assoc])
                    have hd23 : Z.kind = (kd : Int) := HKD.out
                    clear hsn hse hTN hTE hf1 hf2 y0 y9 y10 g1 g2 HLV HREF
                    by_cases h23 : kd = 23
                    · subst h23
                      have HE := HFIN.out [] (by rw [hd23]; rfl)
                      rw [List.append_nil] at HE
                      have HE := Lib.hid HE
                      clear hd23 HFIN x9 x10
                      go_upto_region 25 with fail
                      go_wp2_with (at_builtin; refine wpList_append_bytes rfl _ _ rfl (S := (fun b => ((b < P ∨ b = P1) ∨ b = P2) ∨ b = gv)) (fun b hb => Nat.lt_of_lt_of_le (HS5.out b hb) (Nat.le_trans HK3.out.size (by simp))) B3 [10] (.slice A L c) rfl (HO3.out.keep ((Below.refl _ wj).alloc (Nat.le_refl _) _)) wj.heap.size 1 rfl (bat_ten wj) (by simp; omega) ?_; intro v9 w9 hown9 hk9; obtain ⟨A9', c9', rfl⟩ := hown9.1.form; have HO9 := Lib.hid hown9; have HK9 := Lib.hid ((HK3.out.trans (Kp.of ((Below.refl _ wj).alloc (Nat.le_refl _) _))).trans hk9); clear hown9 hk9)
                      go_roundw
                      case rel =>
                        refine ⟨k + 1, _, A9', c9', by omega, by go_num, rfl, Lib.hid ?_, Lib.hid ?_, Lib.hid (HK5.out.trans (HK9.out.mono (fun _ h => .inl (.inl h)))), Lib.hid ?_⟩
                        · rw [HE.out]; first | rfl | simp
                        · rw [HE.out]; have := HO9.out.mono (S' := fun b => b < P ∨ b = P1) (fun _ h => .inl (.inl h)); first | exact this | simpa only [List.length_append, List.length_cons, List.length_nil, Nat.zero_add] using this
                        · rw [HOU.out, List.length_append]; have := HLO.out; have := HLEN.out; omega
                      case measure => simp [intOf]; omega
                    · by_cases h21 : kd = 21
                      · subst h21
                        have HE := HFIN.out (TN ++ TE) (by rw [hd23]; rfl)
                        have HE := Lib.hid HE
                        clear hd23 HFIN h23
                        go_wp2_with fail
                        refine (HCN.out _).mono ?_
                        rintro e wa1 ⟨rfl, hba⟩
                        have HOA1 := Lib.hid (HO3.out.keep hba)
                        have HKA1 : Hid (Kp (fun b => ((b < P ∨ b = P1) ∨ b = P2) ∨ b = gv) w5 wa1) := Lib.hid (HK3.out.trans (Kp.of hba))
                        clear hba
                        go_upto_region 23 with (first | (refine wpList_conv rfl _ rfl TN (by rw [← HUN.out]; rfl) ?_; intro wb1 cb1 hbb hwb hat; have HOB1 := Lib.hid (HOA1.out.keep hbb); have HKB1 : Hid (Kp (fun b => ((b < P ∨ b = P1) ∨ b = P2) ∨ b = gv) w5 wb1) := Lib.hid (HKA1.out.trans (Kp.of hbb)); have HAT1 := Lib.hid hat; clear hbb hwb hat) | (at_builtin; refine wpList_append_bytes rfl _ _ rfl (S := (fun b => ((b < P ∨ b = P1) ∨ b = P2) ∨ b = gv)) (fun b hb => Nat.lt_of_lt_of_le (HS5.out b hb) HKB1.out.size) B3 TN (.slice A L c) rfl HOB1.out wa1.heap.size cb1 rfl HAT1.out (by omega) ?_; intro v7 w71 hown7 hk7; obtain ⟨A71, c71, rfl⟩ := hown7.1.form; have HO71 := Lib.hid hown7; have HK71 := Lib.hid (HKB1.out.trans hk7); clear hown7 hk7))
                        obtain ⟨B71, hB71⟩ : ∃ B, B = B3 ++ TN := ⟨_, rfl⟩
                        obtain ⟨L71, hL71⟩ : ∃ L, L = B71.length := ⟨_, rfl⟩
                        have hLs1 : B3.length + TN.length = L71 := by rw [hL71, hB71, List.length_append]
                        have hb71 : B71.length ≤ B3.length + 30 := by rw [hB71, List.length_append]; omega
                        have HL71 : Hid (L71 = B71.length) := Lib.hid hL71
                        rw [← hB71, ← hL71] at HO71
                        try rw [hLs1]
                        have HB71 := Lib.hid hB71
                        clear hL71 hB71 hLs1
                        clear x0 x9 x10
                        obtain ⟨x0, -, x10⟩ := HQ0.out w71 HK71.out
                        go_wp2_with fail
                        refine (HCE.out _).mono ?_
                        rintro e wa2 ⟨rfl, hba⟩
                        have HOA2 := Lib.hid (HO71.out.keep hba)
                        have HKA2 : Hid (Kp (fun b => ((b < P ∨ b = P1) ∨ b = P2) ∨ b = gv) w5 wa2) := Lib.hid (HK71.out.trans (Kp.of hba))
                        clear hba
                        go_upto_region 25 with (first | (refine wpList_conv rfl _ rfl TE (by rw [← HUE.out]; rfl) ?_; intro wb2 cb2 hbb hwb hat; have HOB2 := Lib.hid (HOA2.out.keep hbb); have HKB2 : Hid (Kp (fun b => ((b < P ∨ b = P1) ∨ b = P2) ∨ b = gv) w5 wb2) := Lib.hid (HKA2.out.trans (Kp.of hbb)); have HAT2 := Lib.hid hat; clear hbb hwb hat) | (at_builtin; refine wpList_append_bytes rfl _ _ rfl (S := (fun b => ((b < P ∨ b = P1) ∨ b = P2) ∨ b = gv)) (fun b hb => Nat.lt_of_lt_of_le (HS5.out b hb) HKB2.out.size) B71 TE (.slice A71 L71 c71) rfl HOB2.out wa2.heap.size cb2 rfl HAT2.out (by omega) ?_; intro v7 w72 hown7 hk7; obtain ⟨A72, c72, rfl⟩ := hown7.1.form; have HO72 := Lib.hid hown7; have HK72 := Lib.hid (HKB2.out.trans hk7); clear hown7 hk7))
                        obtain ⟨B72, hB72⟩ : ∃ B, B = B71 ++ TE := ⟨_, rfl⟩
                        obtain ⟨L72, hL72⟩ : ∃ L, L = B72.length := ⟨_, rfl⟩
                        have hLs2 : B71.length + TE.length = L72 := by rw [hL72, hB72, List.length_append]
                        have hb72 : B72.length ≤ B71.length + 30 := by rw [hB72, List.length_append]; omega
                        have HL72 : Hid (L72 = B72.length) := Lib.hid hL72
                        rw [← hB72, ← hL72] at HO72
                        try rw [hLs2]
                        have HB72 := Lib.hid hB72
                        clear hL72 hB72 hLs2
                        rw [← List.append_assoc B3 TN TE, ← HB71.out, ← HB72.out] at HE
                        go_wp2_with (at_builtin; refine wpList_append_bytes rfl _ _ rfl (S := (fun b => ((b < P ∨ b = P1) ∨ b = P2) ∨ b = gv)) (fun b hb => Nat.lt_of_lt_of_le (HS5.out b hb) (Nat.le_trans HK72.out.size (by simp))) B72 [10] (.slice A72 L72 c72) rfl (HO72.out.keep ((Below.refl _ w72).alloc (Nat.le_refl _) _)) w72.heap.size 1 rfl (bat_ten w72) (by simp; omega) ?_; intro v9 w9 hown9 hk9; obtain ⟨A9', c9', rfl⟩ := hown9.1.form; have HO9 := Lib.hid hown9; have HK9 := Lib.hid ((HK72.out.trans (Kp.of ((Below.refl _ w72).alloc (Nat.le_refl _) _))).trans hk9); clear hown9 hk9)
                        go_roundw
                        case rel =>
                          refine ⟨k + 1, _, A9', c9', by omega, by go_num, rfl, Lib.hid ?_, Lib.hid ?_, Lib.hid (HK5.out.trans (HK9.out.mono (fun _ h => .inl (.inl h)))), Lib.hid ?_⟩
                          · rw [HE.out]; first | rfl | simp
                          · rw [HE.out]; have := HO9.out.mono (S' := fun b => b < P ∨ b = P1) (fun _ h => .inl (.inl h)); first | exact this | simpa only [List.length_append, List.length_cons, List.length_nil, Nat.zero_add] using this
                          · rw [HOU.out, List.length_append]; have := HLO.out; have := HLEN.out; omega
                        case measure => simp [intOf]; omega
                      · have n23 : ((kd : Int) == 23) = false := by simp; omega
                        have n21 : ((kd : Int) == 21) = false := by simp; omega
                        have HE := HFIN.out TN (by rw [hd23, if_neg (by omega), if_neg (by omega), List.append_nil])
                        have HE := Lib.hid HE
                        clear hd23 HFIN
                        go_wp2_with fail
                        refine (HCN.out _).mono ?_
                        rintro e wa1 ⟨rfl, hba⟩
                        have HOA1 := Lib.hid (HO3.out.keep hba)
                        have HKA1 : Hid (Kp (fun b => ((b < P ∨ b = P1) ∨ b = P2) ∨ b = gv) w5 wa1) := Lib.hid (HK3.out.trans (Kp.of hba))
                        clear hba
                        go_upto_region 23 with (first | (refine wpList_conv rfl _ rfl TN (by rw [← HUN.out]; rfl) ?_; intro wb1 cb1 hbb hwb hat; have HOB1 := Lib.hid (HOA1.out.keep hbb); have HKB1 : Hid (Kp (fun b => ((b < P ∨ b = P1) ∨ b = P2) ∨ b = gv) w5 wb1) := Lib.hid (HKA1.out.trans (Kp.of hbb)); have HAT1 := Lib.hid hat; clear hbb hwb hat) | (at_builtin; refine wpList_append_bytes rfl _ _ rfl (S := (fun b => ((b < P ∨ b = P1) ∨ b = P2) ∨ b = gv)) (fun b hb => Nat.lt_of_lt_of_le (HS5.out b hb) HKB1.out.size) B3 TN (.slice A L c) rfl HOB1.out wa1.heap.size cb1 rfl HAT1.out (by omega) ?_; intro v7 w71 hown7 hk7; obtain ⟨A71, c71, rfl⟩ := hown7.1.form; have HO71 := Lib.hid hown7; have HK71 := Lib.hid (HKB1.out.trans hk7); clear hown7 hk7))
                        obtain ⟨B71, hB71⟩ : ∃ B, B = B3 ++ TN := ⟨_, rfl⟩
                        obtain ⟨L71, hL71⟩ : ∃ L, L = B71.length := ⟨_, rfl⟩
                        have hLs1 : B3.length + TN.length = L71 := by rw [hL71, hB71, List.length_append]
                        have hb71 : B71.length ≤ B3.length + 30 := by rw [hB71, List.length_append]; omega
                        have HL71 : Hid (L71 = B71.length) := Lib.hid hL71
                        rw [← hB71, ← hL71] at HO71
                        try rw [hLs1]
                        have HB71 := Lib.hid hB71
                        clear hL71 hB71 hLs1
                        clear x0 x9 x10
                        obtain ⟨x0, -, x10⟩ := HQ0.out w71 HK71.out
                        go_upto_region 25 with fail
                        rw [← HB71.out] at HE
                        go_wp2_with (at_builtin; refine wpList_append_bytes rfl _ _ rfl (S := (fun b => ((b < P ∨ b = P1) ∨ b = P2) ∨ b = gv)) (fun b hb => Nat.lt_of_lt_of_le (HS5.out b hb) (Nat.le_trans HK71.out.size (by simp))) B71 [10] (.slice A71 L71 c71) rfl (HO71.out.keep ((Below.refl _ w71).alloc (Nat.le_refl _) _)) w71.heap.size 1 rfl (bat_ten w71) (by simp; omega) ?_; intro v9 w9 hown9 hk9; obtain ⟨A9', c9', rfl⟩ := hown9.1.form; have HO9 := Lib.hid hown9; have HK9 := Lib.hid ((HK71.out.trans (Kp.of ((Below.refl _ w71).alloc (Nat.le_refl _) _))).trans hk9); clear hown9 hk9)
                        go_roundw
                        case rel =>
                          refine ⟨k + 1, _, A9', c9', by omega, by go_num, rfl, Lib.hid ?_, Lib.hid ?_, Lib.hid (HK5.out.trans (HK9.out.mono (fun _ h => .inl (.inl h)))), Lib.hid ?_⟩
                          · rw [HE.out]; first | rfl | simp
                          · rw [HE.out]; have := HO9.out.mono (S' := fun b => b < P ∨ b = P1) (fun _ h => .inl (.inl h)); first | exact this | simpa only [List.length_append, List.length_cons, List.length_nil, Nat.zero_add] using this
                          · rw [HOU.out, List.length_append]; have := HLO.out; have := HLEN.out; omega
                        case measure => simp [intOf]; omega
            · obtain rfl : k = n9 := by omega
              go_wp2
              go_roundw
              case rel =>
                have HE : Hid (B0 ++ opsU Y.code k = showU m (i + 1)) := Lib.hid (by rw [HSU.out, fnT, head_ref, ← HN9.out, HB0.out, List.append_assoc])
                have e2 := HLL.out
                have e3 := HO.out.mono (S' := fun b => b < P) (fun _ h => .inl h)
                rw [HE.out] at e2 e3
                refine ⟨i + 1, L, A, c, by omega, by go_num, rfl, Lib.hid e2, Lib.hid e3, Lib.hid (HKX.out.trans (HKP1.out.mono (fun _ h => .inl h))), Lib.hid ?_, by omega⟩
                rw [← HE.out, HB0.out, List.length_append, List.length_append]
                have h1 := HL.out; have h2 := HFP.out; have h3 := HLO.out; have h4 := HSN.out.1
                rw [h4]
                omega
              case measure => simp [intOf]; omega
      · obtain rfl : i = n7 := by omega
        have hne : showU m i ≠ [] := by
          obtain ⟨j, rfl⟩ : ∃ j, i = j + 1 := ⟨i - 1, by have := HR.out.few.2; have := HN7.out; omega⟩
          rw [showU_succ (by have := HN7.out; omega)]
          unfold fnT lineT
          simp
        have hcv := HO.out.1.conv hne
        have HEND : Hid (Below w.heap.size w wo) := Lib.hid (HW2B.out.trans ((HKP.out.below (by have := HS2W.out; omega)).mono (by omega)))
        obtain ⟨us, hus⟩ : ∃ us, us = showU m i := ⟨_, rfl⟩
        have HUS : Hid (showR m = us) := Lib.hid (by rw [HS.out, hus])
        rw [← hus] at hcv
        clear hne hus HFL
        go_wp2
        exact bodyPost_ret (v := .tuple #[.string (bs us), .int .i64 0]) (by simp [results, Tryd.results19, go_sem]) rfl ⟨by rw [HUS.out], HEND.out⟩

end Go.Proofs.YtgohnlcgidmlfaaDoor
