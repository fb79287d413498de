/- slices.ContainsFunc at this program's lists, for any closure whose answer is known. -/
import Derived.Test.YtgohnlcgidmlfaaDoorMdj
set_option linter.unusedVariables false
set_option linter.unusedSimpArgs false
namespace Go.Proofs.YtgohnlcgidmlfaaDoor
open Go.RowKit

/-- a closure that answers p of each element of a list, and leaves what was there as it was -/
structure Pred (w : World) (F : FuncId) (caps : Array Value) (n : Nat) (arg : Nat → Value → Prop) (p : Nat → Bool) : Prop where
  ent : ∀ args w, (callFunc F args).run Tryd.prog w = .ok (.enter F args) w
  call : ∀ k, k < n → ∀ x, arg k x → ∀ wx, Below w.heap.size w wx → Calls Tryd.prog F (#[x] ++ caps) wx fun e w' => e = .returned (.bool (p k)) ∧ Below wx.heap.size wx w'
def AnyPost (w : World) (b : Bool) (e : Ending) (w' : World) : Prop := e = .returned (.bool b) ∧ Below w.heap.size w w'
def IxPost (w : World) (b : Bool) (e : Ending) (w' : World) : Prop := ∃ r : Int, e = .returned (.int .i64 r) ∧ -1 ≤ r ∧ r ≤ 9223372036854775807 ∧ (b = true ↔ 0 ≤ r) ∧ Below w.heap.size w w'
theorem any_true {n k : Nat} {p : Nat → Bool} (hk : k < n) (h : p k = true) : (List.range n).any p = true := List.any_eq_true.2 ⟨k, List.mem_range.2 hk, h⟩
theorem any_false {n : Nat} {p : Nat → Bool} (h : ∀ k, k < n → p k = false) : (List.range n).any p = false := by
  rw [List.any_eq_false]
  intro k hk
  rw [h k (List.mem_range.1 hk)]
  simp
theorem any_range {α : Type} (xs : List α) (q : α → Bool) (p : Nat → Bool) (h : ∀ (k : Nat) (hk : k < xs.length), p k = q xs[k]) : (List.range xs.length).any p = xs.any q := by
  rw [Bool.eq_iff_iff, List.any_eq_true, List.any_eq_true]
  constructor
  · rintro ⟨k, hk, h1⟩
    have hk := List.mem_range.1 hk
    exact ⟨xs[k], List.getElem_mem hk, by rw [← h k hk]; exact h1⟩
  · rintro ⟨x, hx, h1⟩
    obtain ⟨k, hk, rfl⟩ := List.getElem_of_mem hx
    exact ⟨k, List.mem_range.2 hk, by rw [h k hk]; exact h1⟩


/-- the argument for the k-th element -/
def ArgI (w : World) (S : Nat → Prop) (xs : List Int) (k : Nat) (x : Value) : Prop := ∃ hk : k < xs.length, x = .int .i64 xs[k] ∧ In64 xs[k]
set_option maxHeartbeats 2000000 in
set_option maxRecDepth 100000 in
theorem indexI_any {w : World} {S : Nat → Prop} {xs : List Int} {v : Value} (h : Lies KI w S xs v) (hS : ∀ b, S b → b < w.heap.size) {F : FuncId} {caps : Array Value} {q : Nat → Bool} (hp : Pred w F caps xs.length (ArgI w S xs) q) :
    Calls Tryd.prog 57 #[v, .func (.func F) #[] caps] w (IxPost w ((List.range xs.length).any q)) := by
  obtain ⟨A, c, rfl, hc, hM⟩ := h.form
  obtain ⟨ns, hns⟩ : ∃ ns, ns = xs.length := ⟨_, rfl⟩
  rw [← hns] at h hc hM hp ⊢
  have hent := hp.ent
  have HX := Lib.hid h
  have HP := Lib.hid hp
  have HS := Lib.hid hS
  have HNS := Lib.hid hns
  clear h hp hS hns
  go_enter Tryd.func57, Tryd.ntmps57
  go_wp2
  go_loopw [8] (fun i wr => ∃ j : Nat, j ≤ ns ∧ i = .int .i64 j ∧ Hid (∀ k, k < j → q k = false) ∧ Hid (Below w.heap.size w wr)) (fun i _ => ns - (intOf i).toNat)
  case atStart => exact ⟨0, Nat.zero_le _, rfl, Lib.hid (fun k hk => absurd hk (Nat.not_lt_zero _)), Lib.hid (Below.refl _ _)⟩
  case round =>
    obtain ⟨wo, rfl⟩ : ∃ wo : World, wo = wr := ⟨_, rfl⟩
    obtain ⟨j, hj, rfl, HNO, HBL⟩ := hrel
    by_cases hlt : j < ns
    · have hje : j < xs.length := by rw [← HNS.out]; exact hlt
      obtain ⟨b, off, rfl, hbS, r0, hin⟩ := HX.out.int j hje
      have k0 := (HBL.out.cell (p := ⟨b, off + j, none⟩) (HS.out b hbS)).trans r0
      have hx : ArgI w S xs j (.int .i64 xs[j]) := ⟨hje, rfl, hin⟩
      obtain ⟨x, hxx⟩ : ∃ x, x = xs[j] := ⟨_, rfl⟩
      rw [← hxx] at k0 hx
      clear r0 hxx
      have HCALL := Lib.hid (HP.out.call j hlt _ hx wo HBL.out)
      clear hx
      go_wp2_with fail
      refine HCALL.out.mono ?_
      rintro e w2 ⟨rfl, hb2⟩
      have HB2 := Lib.hid (HBL.out.trans (hb2.mono HBL.out.size))
      clear hb2 HCALL
      cases hq : q j with
      | true =>
        have HAN := Lib.hid (any_true hlt hq)
        clear hq
        go_wp2
        go_ret
        exact ⟨_, rfl, by omega, by omega, ⟨fun _ => by omega, fun _ => HAN.out⟩, HB2.out⟩
      | false =>
        have HQ := Lib.hid hq
        clear hq
        go_wp2
        go_roundw
        case rel =>
          refine ⟨j + 1, by omega, by go_num, Lib.hid (fun k hk => ?_), HB2⟩
          by_cases e : k = j
          · rw [e]; exact HQ.out
          · exact HNO.out k (by omega)
        case measure => simp [intOf]; omega
    · obtain rfl : j = ns := by omega
      have HAN := Lib.hid (any_false HNO.out)
      clear HX
      go_wp2
      go_ret
      exact ⟨_, rfl, by omega, by omega, iff_of_false (by rw [HAN.out]; simp) (by omega), HBL.out⟩
set_option maxHeartbeats 2000000 in
set_option maxRecDepth 100000 in
theorem containsI_any {w : World} {S : Nat → Prop} {xs : List Int} {v : Value} (h : Lies KI w S xs v) (hS : ∀ b, S b → b < w.heap.size) {F : FuncId} {caps : Array Value} {q : Nat → Bool} (hp : Pred w F caps xs.length (ArgI w S xs) q) :
    Calls Tryd.prog 47 #[v, .func (.func F) #[] caps] w (AnyPost w ((List.range xs.length).any q)) := by
  have HC := Lib.hid (indexI_any h hS hp)
  obtain ⟨A, c, rfl, -, -⟩ := h.form
  obtain ⟨b, hb⟩ : ∃ b, b = (List.range xs.length).any q := ⟨_, rfl⟩
  rw [← hb] at HC ⊢
  clear h hS hp hb
  go_enter Tryd.func47, Tryd.ntmps47
  go_wp2_with fail
  refine HC.out.mono ?_
  rintro e w2 ⟨r, rfl, h1, h2, h3, h4⟩
  have HB := Lib.hid h4
  have HR : Hid (b = decide (0 ≤ r)) := Lib.hid (by rw [Bool.eq_iff_iff, h3]; simp)
  clear h3 h4
  go_wp2
  go_ret
  exact ⟨rbool HR.out.symm, HB.out⟩


/-- the argument for the k-th element -/
def ArgS (w : World) (S : Nat → Prop) (xs : List Sz) (k : Nat) (x : Value) : Prop := ∃ hk : k < xs.length, x = .agg #[.string (bs xs[k].name), .int .i64 xs[k].size] ∧ In64 xs[k].size
set_option maxHeartbeats 2000000 in
set_option maxRecDepth 100000 in
theorem indexS_any {w : World} {S : Nat → Prop} {xs : List Sz} {v : Value} (h : Lies KS w S xs v) (hS : ∀ b, S b → b < w.heap.size) {F : FuncId} {caps : Array Value} {q : Nat → Bool} (hp : Pred w F caps xs.length (ArgS w S xs) q) :
    Calls Tryd.prog 63 #[v, .func (.func F) #[] caps] w (IxPost w ((List.range xs.length).any q)) := by
  obtain ⟨A, c, rfl, hc, hM⟩ := h.form
  obtain ⟨ns, hns⟩ : ∃ ns, ns = xs.length := ⟨_, rfl⟩
  rw [← hns] at h hc hM hp ⊢
  have hent := hp.ent
  have HX := Lib.hid h
  have HP := Lib.hid hp
  have HS := Lib.hid hS
  have HNS := Lib.hid hns
  clear h hp hS hns
  go_enter Tryd.func63, Tryd.ntmps63
  go_wp2
  go_loopw [8] (fun i wr => ∃ j : Nat, j ≤ ns ∧ i = .int .i64 j ∧ Hid (∀ k, k < j → q k = false) ∧ Hid (Below w.heap.size w wr)) (fun i _ => ns - (intOf i).toNat)
  case atStart => exact ⟨0, Nat.zero_le _, rfl, Lib.hid (fun k hk => absurd hk (Nat.not_lt_zero _)), Lib.hid (Below.refl _ _)⟩
  case round =>
    obtain ⟨wo, rfl⟩ : ∃ wo : World, wo = wr := ⟨_, rfl⟩
    obtain ⟨j, hj, rfl, HNO, HBL⟩ := hrel
    by_cases hlt : j < ns
    · have hje : j < xs.length := by rw [← HNS.out]; exact hlt
      obtain ⟨b, off, rfl, hbS, r0, r1, -, hin⟩ := HX.out.sized j hje
      have k0 := (HBL.out.cell (p := ⟨b, off + j * 2, none⟩) (HS.out b hbS)).trans r0
      have k1 := (HBL.out.cell (p := ⟨b, off + j * 2 + 1, none⟩) (HS.out b hbS)).trans r1
      have hx : ArgS w S xs j (.agg #[.string (bs xs[j].name), .int .i64 xs[j].size]) := ⟨hje, rfl, hin⟩
      obtain ⟨x, hxx⟩ : ∃ x, x = xs[j] := ⟨_, rfl⟩
      rw [← hxx] at k0 k1 hx
      clear r0 r1 hxx
      have HCALL := Lib.hid (HP.out.call j hlt _ hx wo HBL.out)
      clear hx
      go_wp2_with fail
      refine HCALL.out.mono ?_
      rintro e w2 ⟨rfl, hb2⟩
      have HB2 := Lib.hid (HBL.out.trans (hb2.mono HBL.out.size))
      clear hb2 HCALL
      cases hq : q j with
      | true =>
        have HAN := Lib.hid (any_true hlt hq)
        clear hq
        go_wp2
        go_ret
        exact ⟨_, rfl, by omega, by omega, ⟨fun _ => by omega, fun _ => HAN.out⟩, HB2.out⟩
      | false =>
        have HQ := Lib.hid hq
        clear hq
        go_wp2
        go_roundw
        case rel =>
          refine ⟨j + 1, by omega, by go_num, Lib.hid (fun k hk => ?_), HB2⟩
          by_cases e : k = j
          · rw [e]; exact HQ.out
          · exact HNO.out k (by omega)
        case measure => simp [intOf]; omega
    · obtain rfl : j = ns := by omega
      have HAN := Lib.hid (any_false HNO.out)
      clear HX
      go_wp2
      go_ret
      exact ⟨_, rfl, by omega, by omega, iff_of_false (by rw [HAN.out]; simp) (by omega), HBL.out⟩
set_option maxHeartbeats 2000000 in
set_option maxRecDepth 100000 in
theorem containsS_any {w : World} {S : Nat → Prop} {xs : List Sz} {v : Value} (h : Lies KS w S xs v) (hS : ∀ b, S b → b < w.heap.size) {F : FuncId} {caps : Array Value} {q : Nat → Bool} (hp : Pred w F caps xs.length (ArgS w S xs) q) :
    Calls Tryd.prog 54 #[v, .func (.func F) #[] caps] w (AnyPost w ((List.range xs.length).any q)) := by
  have HC := Lib.hid (indexS_any h hS hp)
  obtain ⟨A, c, rfl, -, -⟩ := h.form
  obtain ⟨b, hb⟩ : ∃ b, b = (List.range xs.length).any q := ⟨_, rfl⟩
  rw [← hb] at HC ⊢
  clear h hS hp hb
  go_enter Tryd.func54, Tryd.ntmps54
  go_wp2_with fail
  refine HC.out.mono ?_
  rintro e w2 ⟨r, rfl, h1, h2, h3, h4⟩
  have HB := Lib.hid h4
  have HR : Hid (b = decide (0 ≤ r)) := Lib.hid (by rw [Bool.eq_iff_iff, h3]; simp)
  clear h3 h4
  go_wp2
  go_ret
  exact ⟨rbool HR.out.symm, HB.out⟩


/-- the argument for the k-th element -/
def ArgF (w : World) (S : Nat → Prop) (xs : List Fn) (k : Nat) (x : Value) : Prop := ∃ (hk : k < xs.length) (u : Value), x = .agg #[.string (bs xs[k].name), .int .i64 xs[k].params, .int .i64 xs[k].regs, .int .i64 xs[k].result, u] ∧ Lies KO w S xs[k].code u ∧ xs[k].In
set_option maxHeartbeats 2000000 in
set_option maxRecDepth 100000 in
theorem indexF_any {w : World} {S : Nat → Prop} {xs : List Fn} {v : Value} (h : Lies KF w S xs v) (hS : ∀ b, S b → b < w.heap.size) {F : FuncId} {caps : Array Value} {q : Nat → Bool} (hp : Pred w F caps xs.length (ArgF w S xs) q) :
    Calls Tryd.prog 56 #[v, .func (.func F) #[] caps] w (IxPost w ((List.range xs.length).any q)) := by
  obtain ⟨A, c, rfl, hc, hM⟩ := h.form
  obtain ⟨ns, hns⟩ : ∃ ns, ns = xs.length := ⟨_, rfl⟩
  rw [← hns] at h hc hM hp ⊢
  have hent := hp.ent
  have HX := Lib.hid h
  have HP := Lib.hid hp
  have HS := Lib.hid hS
  have HNS := Lib.hid hns
  clear h hp hS hns
  go_enter Tryd.func56, Tryd.ntmps56
  go_wp2
  go_loopw [8] (fun i wr => ∃ j : Nat, j ≤ ns ∧ i = .int .i64 j ∧ Hid (∀ k, k < j → q k = false) ∧ Hid (Below w.heap.size w wr)) (fun i _ => ns - (intOf i).toNat)
  case atStart => exact ⟨0, Nat.zero_le _, rfl, Lib.hid (fun k hk => absurd hk (Nat.not_lt_zero _)), Lib.hid (Below.refl _ _)⟩
  case round =>
    obtain ⟨wo, rfl⟩ : ∃ wo : World, wo = wr := ⟨_, rfl⟩
    obtain ⟨j, hj, rfl, HNO, HBL⟩ := hrel
    by_cases hlt : j < ns
    · have hje : j < xs.length := by rw [← HNS.out]; exact hlt
      obtain ⟨b, off, u, rfl, hbS, hat, hco, hin⟩ := HX.out.fn j hje
      obtain ⟨k0, k1, k2, k3, k4⟩ := hat.keep (HBL.out.block b (HS.out b hbS))
      have hx : ArgF w S xs j (.agg #[.string (bs xs[j].name), .int .i64 xs[j].params, .int .i64 xs[j].regs, .int .i64 xs[j].result, u]) := ⟨hje, u, rfl, hco, hin⟩
      obtain ⟨Au, cu, rfl, -, -⟩ := hco.form
      obtain ⟨nu, hnu⟩ : ∃ n, n = xs[j].code.length := ⟨_, rfl⟩
      rw [← hnu] at k4 hx
      obtain ⟨x, hxx⟩ : ∃ x, x = xs[j] := ⟨_, rfl⟩
      rw [← hxx] at k0 k1 k2 k3 hx
      clear hat hco hin hnu hxx
      have HCALL := Lib.hid (HP.out.call j hlt _ hx wo HBL.out)
      clear hx
      go_wp2_with fail
      refine HCALL.out.mono ?_
      rintro e w2 ⟨rfl, hb2⟩
      have HB2 := Lib.hid (HBL.out.trans (hb2.mono HBL.out.size))
      clear hb2 HCALL
      cases hq : q j with
      | true =>
        have HAN := Lib.hid (any_true hlt hq)
        clear hq
        go_wp2
        go_ret
        exact ⟨_, rfl, by omega, by omega, ⟨fun _ => by omega, fun _ => HAN.out⟩, HB2.out⟩
      | false =>
        have HQ := Lib.hid hq
        clear hq
        go_wp2
        go_roundw
        case rel =>
          refine ⟨j + 1, by omega, by go_num, Lib.hid (fun k hk => ?_), HB2⟩
          by_cases e : k = j
          · rw [e]; exact HQ.out
          · exact HNO.out k (by omega)
        case measure => simp [intOf]; omega
    · obtain rfl : j = ns := by omega
      have HAN := Lib.hid (any_false HNO.out)
      clear HX
      go_wp2
      go_ret
      exact ⟨_, rfl, by omega, by omega, iff_of_false (by rw [HAN.out]; simp) (by omega), HBL.out⟩
set_option maxHeartbeats 2000000 in
set_option maxRecDepth 100000 in
theorem containsF_any {w : World} {S : Nat → Prop} {xs : List Fn} {v : Value} (h : Lies KF w S xs v) (hS : ∀ b, S b → b < w.heap.size) {F : FuncId} {caps : Array Value} {q : Nat → Bool} (hp : Pred w F caps xs.length (ArgF w S xs) q) :
    Calls Tryd.prog 46 #[v, .func (.func F) #[] caps] w (AnyPost w ((List.range xs.length).any q)) := by
  have HC := Lib.hid (indexF_any h hS hp)
  obtain ⟨A, c, rfl, -, -⟩ := h.form
  obtain ⟨b, hb⟩ : ∃ b, b = (List.range xs.length).any q := ⟨_, rfl⟩
  rw [← hb] at HC ⊢
  clear h hS hp hb
  go_enter Tryd.func46, Tryd.ntmps46
  go_wp2_with fail
  refine HC.out.mono ?_
  rintro e w2 ⟨r, rfl, h1, h2, h3, h4⟩
  have HB := Lib.hid h4
  have HR : Hid (b = decide (0 ≤ r)) := Lib.hid (by rw [Bool.eq_iff_iff, h3]; simp)
  clear h3 h4
  go_wp2
  go_ret
  exact ⟨rbool HR.out.symm, HB.out⟩


/-- the argument for the k-th element -/
def ArgO (w : World) (S : Nat → Prop) (xs : List Opx) (k : Nat) (x : Value) : Prop := ∃ (hk : k < xs.length) (u : Value), x = .agg #[.int .i64 xs[k].kind, .int .i64 xs[k].a, .int .i64 xs[k].b, .int .i64 xs[k].c, .int .i64 xs[k].d, .int .i64 xs[k].e, .int .i64 xs[k].f, .int .i64 xs[k].k, u, .int .i64 xs[k].next, .int .i64 xs[k].els, .int .i64 xs[k].pl] ∧ Lies KI w S xs[k].args u ∧ xs[k].In
set_option maxHeartbeats 2000000 in
set_option maxRecDepth 100000 in
theorem indexO_any {w : World} {S : Nat → Prop} {xs : List Opx} {v : Value} (h : Lies KO w S xs v) (hS : ∀ b, S b → b < w.heap.size) {F : FuncId} {caps : Array Value} {q : Nat → Bool} (hp : Pred w F caps xs.length (ArgO w S xs) q) :
    Calls Tryd.prog 61 #[v, .func (.func F) #[] caps] w (IxPost w ((List.range xs.length).any q)) := by
  obtain ⟨A, c, rfl, hc, hM⟩ := h.form
  obtain ⟨ns, hns⟩ : ∃ ns, ns = xs.length := ⟨_, rfl⟩
  rw [← hns] at h hc hM hp ⊢
  have hent := hp.ent
  have HX := Lib.hid h
  have HP := Lib.hid hp
  have HS := Lib.hid hS
  have HNS := Lib.hid hns
  clear h hp hS hns
  go_enter Tryd.func61, Tryd.ntmps61
  go_wp2
  go_loopw [8] (fun i wr => ∃ j : Nat, j ≤ ns ∧ i = .int .i64 j ∧ Hid (∀ k, k < j → q k = false) ∧ Hid (Below w.heap.size w wr)) (fun i _ => ns - (intOf i).toNat)
  case atStart => exact ⟨0, Nat.zero_le _, rfl, Lib.hid (fun k hk => absurd hk (Nat.not_lt_zero _)), Lib.hid (Below.refl _ _)⟩
  case round =>
    obtain ⟨wo, rfl⟩ : ∃ wo : World, wo = wr := ⟨_, rfl⟩
    obtain ⟨j, hj, rfl, HNO, HBL⟩ := hrel
    by_cases hlt : j < ns
    · have hje : j < xs.length := by rw [← HNS.out]; exact hlt
      obtain ⟨b, off, u, rfl, hbS, hat, hco, hin⟩ := HX.out.op j hje
      obtain ⟨k0, k1, k2, k3, k4, k5, k6, k7, k8, k9, k10, k11⟩ := hat.keep (HBL.out.block b (HS.out b hbS))
      have hx : ArgO w S xs j (.agg #[.int .i64 xs[j].kind, .int .i64 xs[j].a, .int .i64 xs[j].b, .int .i64 xs[j].c, .int .i64 xs[j].d, .int .i64 xs[j].e, .int .i64 xs[j].f, .int .i64 xs[j].k, u, .int .i64 xs[j].next, .int .i64 xs[j].els, .int .i64 xs[j].pl]) := ⟨hje, u, rfl, hco, hin⟩
      obtain ⟨Au, cu, rfl, -, -⟩ := hco.form
      obtain ⟨nu, hnu⟩ : ∃ n, n = xs[j].args.length := ⟨_, rfl⟩
      rw [← hnu] at k8 hx
      obtain ⟨x, hxx⟩ : ∃ x, x = xs[j] := ⟨_, rfl⟩
      rw [← hxx] at k0 k1 k2 k3 k4 k5 k6 k7 k9 k10 k11 hx
      clear hat hco hin hnu hxx
      have HCALL := Lib.hid (HP.out.call j hlt _ hx wo HBL.out)
      clear hx
      go_wp2_with fail
      refine HCALL.out.mono ?_
      rintro e w2 ⟨rfl, hb2⟩
      have HB2 := Lib.hid (HBL.out.trans (hb2.mono HBL.out.size))
      clear hb2 HCALL
      cases hq : q j with
      | true =>
        have HAN := Lib.hid (any_true hlt hq)
        clear hq
        go_wp2
        go_ret
        exact ⟨_, rfl, by omega, by omega, ⟨fun _ => by omega, fun _ => HAN.out⟩, HB2.out⟩
      | false =>
        have HQ := Lib.hid hq
        clear hq
        go_wp2
        go_roundw
        case rel =>
          refine ⟨j + 1, by omega, by go_num, Lib.hid (fun k hk => ?_), HB2⟩
          by_cases e : k = j
          · rw [e]; exact HQ.out
          · exact HNO.out k (by omega)
        case measure => simp [intOf]; omega
    · obtain rfl : j = ns := by omega
      have HAN := Lib.hid (any_false HNO.out)
      clear HX
      go_wp2
      go_ret
      exact ⟨_, rfl, by omega, by omega, iff_of_false (by rw [HAN.out]; simp) (by omega), HBL.out⟩
set_option maxHeartbeats 2000000 in
set_option maxRecDepth 100000 in
theorem containsO_any {w : World} {S : Nat → Prop} {xs : List Opx} {v : Value} (h : Lies KO w S xs v) (hS : ∀ b, S b → b < w.heap.size) {F : FuncId} {caps : Array Value} {q : Nat → Bool} (hp : Pred w F caps xs.length (ArgO w S xs) q) :
    Calls Tryd.prog 50 #[v, .func (.func F) #[] caps] w (AnyPost w ((List.range xs.length).any q)) := by
  have HC := Lib.hid (indexO_any h hS hp)
  obtain ⟨A, c, rfl, -, -⟩ := h.form
  obtain ⟨b, hb⟩ : ∃ b, b = (List.range xs.length).any q := ⟨_, rfl⟩
  rw [← hb] at HC ⊢
  clear h hS hp hb
  go_enter Tryd.func50, Tryd.ntmps50
  go_wp2_with fail
  refine HC.out.mono ?_
  rintro e w2 ⟨r, rfl, h1, h2, h3, h4⟩
  have HB := Lib.hid h4
  have HR : Hid (b = decide (0 ≤ r)) := Lib.hid (by rw [Bool.eq_iff_iff, h3]; simp)
  clear h3 h4
  go_wp2
  go_ret
  exact ⟨rbool HR.out.symm, HB.out⟩


end Go.Proofs.YtgohnlcgidmlfaaDoor
