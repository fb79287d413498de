/- The table's Ring. -/
import Derived.Test.YtpdihmlilbccjaaJld
set_option linter.unusedVariables false
set_option linter.unusedSimpArgs false
namespace Go.Proofs.Ytpdihmlilbccjaa
open Go.RowKit

theorem OwnN.at {w : World} {base g n c : Nat} {xs : List Int} (h : OwnN w base (.slice (some ⟨g, 0, none⟩) n c) xs) {k : Nat} (hk : k < xs.length) : w.cell? ⟨g, k, none⟩ = some (.int .i64 xs[k]) := by
  obtain ⟨g', e, hc⟩ := h.cell k hk
  cases e
  rw [Nat.zero_add] at hc
  exact hc
theorem OwnN.some_ {w : World} {base : Nat} {v : Value} {xs : List Int} (h : OwnN w base v xs) (hn : xs ≠ []) : ∃ g c, v = .slice (some ⟨g, 0, none⟩) xs.length c ∧ base ≤ g ∧ g < w.heap.size := by
  rcases h.2 with ⟨rfl, h2⟩ | ⟨g, cap, cur, rfl, hg, hh, -⟩
  · exact absurd (List.eq_nil_of_length_eq_zero h2) hn
  · exact ⟨g, cap, rfl, hg, heap_lt hh⟩
theorem LieN.at {w : World} {A : Option Addr} {n c : Nat} {xs : List Int} (h : LieN w (.slice A n c) xs) {k : Nat} (hk : k < xs.length) : ∃ b off, A = some ⟨b, off, none⟩ ∧ w.cell? ⟨b, off + k, none⟩ = some (.int .i64 xs[k]) := by
  obtain ⟨A', c', e, -, -, h3⟩ := h
  cases e
  exact h3 k hk
theorem LieN.form {w : World} {v : Value} {xs : List Int} (h : LieN w v xs) : ∃ A c, v = .slice A xs.length c ∧ xs.length ≤ c ∧ c ≤ 9223372036854775807 := by
  obtain ⟨A, c, e, h1, h2, -⟩ := h
  exact ⟨A, c, e, h1, h2⟩
def RingF (w : World) (r : Option (List Int)) (e : Ending) (w' : World) : Prop :=
  match r with
  | none => e = .returned (.slice none 0 0) ∧ Below w.heap.size w w'
  | some r => ∃ v, e = .returned v ∧ OwnN w' w.heap.size v r ∧ Below w.heap.size w w'

set_option maxRecDepth 100000 in
set_option maxHeartbeats 2000000 in
theorem ringFrom_any {w : World} {base h g c : Nat} {hs ws : List Int} {v : Value} (X : LtAt w base h g c hs) (HV : LieN w v ws) (first : Int) (hl : ws.length ≤ 1000000) :
    Calls Try.prog 27 #[.pointer (some ⟨h, 0, none⟩), .int .i64 first, v] w (RingF w (ringFromM hs ws first)) := by
  obtain ⟨A, cv, rfl, hv1, hv2⟩ := HV.form
  have hc := X.cell
  have hlt := X.hlt
  have hgl := X.glt
  have h8 := X.good.len
  have hcap := X.cap
  have HX := Lib.hid X
  have HVV := Lib.hid HV
  unfold ringFromM
  obtain ⟨n, hn⟩ : ∃ n, n = hs.length := ⟨_, rfl⟩
  obtain ⟨m, hm⟩ : ∃ m, m = ws.length := ⟨_, rfl⟩
  rw [← hn] at hc h8 hcap ⊢
  rw [← hm] at hv1 hl HVV ⊢
  obtain ⟨R, hR⟩ : ∃ R, R = rfM hs ws first n first [] := ⟨_, rfl⟩
  rw [← hR]
  have HR := Lib.hid hR
  have HM := Lib.hid hm
  have HN := Lib.hid hn
  have HV63 := Lib.hid hv2
  clear X HV hn hm hR
  go_enter Try.func27, Try.ntmps27
  go_wp2
  go_loopw [7, 8, 15] (fun vr vt vi wr => ∃ (k : Nat) (t : Int) (acc : List Int), k ≤ n ∧ vi = .int .i64 (k : Nat) ∧ vt = .int .i64 t ∧ Hid (acc.length = k) ∧ Hid (OwnN wr w.heap.size vr acc) ∧ Hid (Below w.heap.size w wr) ∧ Hid (R = rfM hs ws first (n - k) t acc)) (fun _ _ vi _ => n - (intOf vi).toNat)
  case atStart => exact ⟨0, first, [], Nat.zero_le _, rfl, rfl, Lib.hid rfl, Lib.hid (OwnN.nil _ _), Lib.hid (Below.refl _ _), HR⟩
  case round =>
    obtain ⟨wo, rfl⟩ : ∃ wo : World, wo = wr := ⟨_, rfl⟩
    obtain ⟨k, t, acc, hk, rfl, rfl, HAC, HO, HB, HQ⟩ := hrel
    clear HR
    by_cases hlk : k < n
    · have HQ2 := HQ.out
      rw [show n - k = (n - (k + 1)) + 1 from by omega, rfM] at HQ2
      by_cases hin : Inr ws t
      · rw [if_pos hin] at HQ2
        unfold Inr at hin
        have hwt : t.toNat < ws.length := by omega
        obtain ⟨b, off, rfl, hcell⟩ := HVV.out.at hwt
        have hbl : b < w.heap.size := World.block_lt_of_cell? w _ hcell
        have hgd : ws.getD t.toNat (-1) = ws[t.toNat] := by rw [List.getD_eq_getElem?_getD, List.getElem?_eq_getElem hwt]; rfl
        unfold nxt at HQ2
        rw [hgd] at HQ2
        obtain ⟨x, hx⟩ : ∃ x, x = ws[t.toNat] := ⟨_, rfl⟩
        rw [← hx] at HQ2 hcell
        obtain ⟨tn, rfl⟩ : ∃ tn : Nat, t = tn := ⟨t.toNat, by omega⟩
        rw [Int.toNat_natCast] at hcell hwt
        have htm : tn < m := by rw [HM.out]; exact hwt
        have hsz : w.heap.size ≤ wo.heap.size := HB.out.size
        have HLEN : Hid (acc.length ≤ 1000000) := Lib.hid (by have := HAC.out; omega)
        have HQ3 := Lib.hid HQ2
        have HCELL := Lib.hid hcell
        clear HQ2 HQ hin hx hgd hwt hcell
        go_wp2_with (first
          | (at_builtin
             go_loud (refine wpList_app rfl _ _ rfl w.heap.size _ acc rfl (w := wo) (tn : Nat) rfl HO.out HLEN.out 1 rfl hsz ?_)
             go_loud (intro v4 w4 o4 c4 n4)
             have HB4 := Lib.hid (HB.out.trans c4.bel)
             have hcl := (HB4.out.cell (p := ⟨b, off + tn, none⟩) hbl).trans HCELL.out))
        have HH := Lib.hid (holder_any (HX.out.below HB4.out) x)
        have HO4 := Lib.hid o4
        have HAC4 : Hid ((acc ++ [((tn : Nat) : Int)]).length = k + 1) := Lib.hid (by simp [HAC.out])
        obtain ⟨y, hy⟩ : ∃ y, y = holdM hs x := ⟨_, rfl⟩
        rw [← hy] at HH HQ3
        clear c4 n4 hy HO HB HAC HLEN o4
        go_wp2_with fail
        refine HH.out.mono ?_
        rintro e w5 ⟨rfl, rfl⟩
        by_cases hyf : y = first
        · have HE : Hid (R = some (acc ++ [((tn : Nat) : Int)])) := Lib.hid (by rw [HQ3.out, if_pos hyf])
          clear HQ3 HH
          rw [hyf]
          clear hyf
          obtain ⟨A4, c5, rfl⟩ := HO4.out.form_n HAC4.out
          go_wp2_with fail
          go_ret
          rw [HE.out]
          exact ⟨_, rfl, HO4.out, HB4.out⟩
        · have HE : Hid (R = rfM hs ws first (n - (k + 1)) y (acc ++ [((tn : Nat) : Int)])) := Lib.hid (by rw [HQ3.out, if_neg hyf])
          clear HQ3 HH
          go_wp2_with fail
          go_roundw
          case rel => exact ⟨k + 1, y, acc ++ [((tn : Nat) : Int)], by omega, by go_num, rfl, HAC4, HO4, HB4, HE⟩
          case measure => simp [intOf]; omega
      · rw [if_neg hin] at HQ2
        have HE := Lib.hid HQ2
        clear HQ HQ2
        unfold Inr at hin
        have HMI : Hid (¬ (0 ≤ t ∧ t < (m : Int))) := Lib.hid (by rw [HM.out]; exact hin)
        clear hin
        by_cases h0 : t < 0
        · go_wp2_with fail
          go_ret
          rw [HE.out]
          exact ⟨rfl, HB.out⟩
        · have h1 : (m : Int) ≤ t := by have := HMI.out; omega
          go_wp2_with fail
          go_ret
          rw [HE.out]
          exact ⟨rfl, HB.out⟩
    · obtain rfl : k = n := by omega
      have HE : Hid (R = none) := Lib.hid (by rw [HQ.out, Nat.sub_self]; rfl)
      clear HQ
      go_wp2_with fail
      go_ret
      rw [HE.out]
      exact ⟨rfl, HB.out⟩

theorem ringFrom_ne {hs ws : List Int} {x : Int} {r : List Int} (h : ringFromM hs ws x = some r) : r ≠ [] := by
  obtain ⟨zs, rfl⟩ := (ringFrom_iff.1 h).ne
  simp
def RingQ (w : World) (hs ws : List Int) (e : Ending) (w' : World) : Prop := CopyN w (ringM hs ws) e w'
set_option maxRecDepth 100000 in
set_option maxHeartbeats 2000000 in
theorem ring_any {w : World} {base h g c : Nat} {hs ws : List Int} {v : Value} (X : LtAt w base h g c hs) (HV : LieN w v ws) (hl : ws.length ≤ 1000000) :
    Calls Try.prog 21 #[.pointer (some ⟨h, 0, none⟩), v] w (RingQ w hs ws) := by
  have HX := Lib.hid X
  have HVV := Lib.hid HV
  have HL := Lib.hid hl
  have HA := Lib.hid (all_any X)
  have h8 := X.good.len
  unfold RingQ ringM
  obtain ⟨n, hn⟩ : ∃ n, n = hs.length := ⟨_, rfl⟩
  rw [← hn] at h8
  have HN := Lib.hid hn
  obtain ⟨A, cv, rfl, hv1, hv2⟩ := HV.form
  obtain ⟨ss, hss⟩ : ∃ ss, ss = srt hs := ⟨_, rfl⟩
  have hss' := hss
  unfold srt at hss'
  rw [← hss']
  have HSN : Hid (ss.length = n) := Lib.hid (by rw [hss, hn]; exact sorted_perm hs)
  have HSS := Lib.hid hss
  obtain ⟨R, hR⟩ : ∃ R, R = ss.findSome? (ringFromM hs ws) := ⟨_, rfl⟩
  rw [← hR]
  have HR := Lib.hid hR
  obtain ⟨m, hm⟩ : ∃ m, m = ws.length := ⟨_, rfl⟩
  rw [← hm] at hv1 hl HVV ⊢
  clear X HV hn hss hss' hR hm
  go_enter Try.func21, Try.ntmps21
  go_wp2_with fail
  refine HA.out.mono ?_
  rintro e w1 ⟨va, rfl, ho, hb⟩
  obtain ⟨Aa, ca, rfl⟩ := ho.form_n HN.out.symm
  have HS := Lib.hid (sort_any ho (by have := HN.out; omega) hb.size)
  have HB1 := Lib.hid hb
  clear ho hb HA
  go_wp2_with fail
  refine HS.out.mono ?_
  rintro e w2 ⟨rfl, o2, c2⟩
  rw [← HSS.out] at o2
  have HO2 := Lib.hid o2
  have HB2 := Lib.hid (HB1.out.trans c2.bel)
  have hcc : n ≤ ca ∧ ca ≤ 9223372036854775807 := by
    rcases o2.2 with ⟨h1, h2⟩ | ⟨g', cap, cur, hv, -, -, h1, h2, -⟩
    · cases h1
      have := HSN.out
      omega
    · cases hv
      unfold maxLen at h2
      have := HSN.out
      omega
  clear o2 c2 HS HB1
  go_wp2_with fail
  go_loopw [15, 7, 8] (fun vi _ _ wr => ∃ k : Nat, k ≤ n ∧ vi = .int .i64 (k : Nat) ∧ Hid (Below w2.heap.size w2 wr) ∧ Hid (R = (ss.drop k).findSome? (ringFromM hs ws))) (fun vi _ _ _ => n - (intOf vi).toNat)
  case atStart => exact ⟨0, Nat.zero_le _, rfl, Lib.hid (Below.refl _ _), HR⟩
  case round =>
    obtain ⟨wo, rfl⟩ : ∃ wo : World, wo = wr := ⟨_, rfl⟩
    obtain ⟨k, hk, rfl, HB, HQ⟩ := hrel
    clear HR
    by_cases hlk : k < n
    · have hks : k < ss.length := by rw [HSN.out]; exact hlk
      have HBW : Hid (Below w.heap.size w wo) := Lib.hid (HB2.out.trans (HB.out.mono HB2.out.size))
      obtain ⟨ga, ca', hva, hga1, hga2⟩ := HO2.out.some_ (by intro e; rw [e] at hks; simp at hks)
      rw [HSN.out] at hva
      cases hva
      have hat := (HB.out.cell (p := ⟨ga, k, none⟩) hga2).trans (HO2.out.at hks)
      have HQ2 := HQ.out
      rw [List.drop_eq_getElem_cons hks, List.findSome?_cons] at HQ2
      obtain ⟨x, hx⟩ : ∃ x, x = ss[k] := ⟨_, rfl⟩
      rw [← hx] at hat HQ2
      have HF := ringFrom_any (HX.out.below HBW.out) (HVV.out.below HBW.out) x HL.out
      cases hr : ringFromM hs ws x with
      | none =>
        rw [hr] at HQ2 HF
        have HE : Hid (R = (ss.drop (k + 1)).findSome? (ringFromM hs ws)) := Lib.hid HQ2
        have HF := Lib.hid HF
        clear HQ2 HQ hx hr hks
        go_wp2_with fail
        refine HF.out.mono ?_
        rintro e w5 ⟨rfl, hb5⟩
        have HB5 : Hid (Below w2.heap.size w2 w5) := Lib.hid (HB.out.trans (hb5.mono HB.out.size))
        have hnn : ∀ w : World, (binOp .neq 23 (.slice none 0 0) (.slice none 0 0)).run Try.prog w = .ok (.bool false) w := fun _ => by kernel_rfl
        clear hb5 HF HB HBW
        go_wp2_with fail
        go_roundw
        case rel => exact ⟨k + 1, by omega, by go_num, HB5, HE⟩
        case measure => simp [intOf]; omega
      | some r =>
        rw [hr] at HQ2 HF
        have HE : Hid (R = some r) := Lib.hid HQ2
        have HF := Lib.hid HF
        have HNE := Lib.hid (ringFrom_ne hr)
        clear HQ2 HQ hx hr hks
        go_wp2_with fail
        refine HF.out.mono ?_
        rintro e w5 ⟨vr, rfl, o5, hb5⟩
        obtain ⟨gr, cr, rfl, -, -⟩ := o5.some_ HNE.out
        have HD : Hid (CopyN w (R.getD []) (.returned (.slice (some ⟨gr, 0, none⟩) r.length cr)) w5) := Lib.hid ⟨_, rfl, by rw [HE.out]; exact o5.mono HBW.out.size, HBW.out.trans (hb5.mono HBW.out.size)⟩
        obtain ⟨rl, hrl⟩ : ∃ rl, rl = r.length := ⟨_, rfl⟩
        rw [← hrl] at HD ⊢
        have hnn : ∀ w : World, (binOp .neq 23 (.slice (some ⟨gr, 0, none⟩) rl cr) (.slice none 0 0)).run Try.prog w = .ok (.bool true) w := fun _ => by kernel_rfl
        clear hb5 HF HB HBW o5 hrl HE
        go_wp2_with fail
        go_ret
        exact HD.out
    · obtain rfl : k = n := by omega
      have HE : Hid (R = none) := Lib.hid (by rw [HQ.out, List.drop_of_length_le (by rw [HSN.out]; exact Nat.le_refl _)]; rfl)
      have HD : Hid (CopyN w (R.getD []) (.returned (.slice none 0 0)) wo) := Lib.hid ⟨_, rfl, by rw [HE.out]; exact OwnN.nil _ _, HB2.out.trans (HB.out.mono HB2.out.size)⟩
      clear HQ HE HB
      go_wp2_with fail
      go_ret
      exact HD.out

end Go.Proofs.Ytpdihmlilbccjaa
