/- The walk of LexBehind where both texts have tokens; the whole. -/
import Derived.Test.YtofodbaiehifjaaSf
import Derived.Deep.RegionHeld
set_option linter.unusedVariables false
namespace Go.Proofs.Ytofodbaiehifjaa
open Go.RowKit

theorem Toks.at_ {w : World} {B : Nat} {A : Option Addr} {l : List Tok} (h : Toks w B A l) {k : Nat} (hk : k < l.length) {t : Tok} (ht : l[k] = t) : ∃ b, A = some ⟨b, 0, none⟩ ∧ b < B ∧ w.cell? ⟨b, k * 3, none⟩ = some (.int .i64 (t.kind : Nat)) ∧ w.cell? ⟨b, k * 3 + 1, none⟩ = some (.string (strOf t.text)) ∧ w.cell? ⟨b, k * 3 + 2, none⟩ = some (.int .i64 (t.pl : Nat)) := by
  subst ht
  exact h k hk
theorem alloc_cell {w : World} {p : Addr} {u : Value} (h : w.cell? p = some u) (o : Obj) : (w.alloc o).cell? p = some u := by
  rw [World.cell?_alloc_old w o p (World.new_ne w p h).symm]
  exact h

set_option maxHeartbeats 4000000 in
set_option maxRecDepth 100000 in
theorem behind_oo (w : World) (a b C : ByteArray) (hC : Hid (C = a ++ ⟨#[32]⟩ ++ b)) (ha : a.size ≤ 5000) (hb : b.size ≤ 5000) (hC2 : Hid (C.size ≤ 40000)) {x y : List Tok} (hA : toks a.data.toList = .ok x) (hB : toks b.data.toList = .ok y)
    (hCC : toks C.data.toList = .ok (x ++ y.map (Tok.on (a.size + 1)))) (hxy : x.length + y.length ≤ 4096) : Calls Try.prog 6 #[.string a, .string b] w (TruePost w) := by
  have hal := Lib.hid (alive_any w)
  have hCe := hC.out.symm
  obtain ⟨zs, hzs⟩ : ∃ zs, zs = x ++ y.map (Tok.on (a.size + 1)) := ⟨_, rfl⟩
  rw [← hzs] at hCC
  obtain ⟨nz, hnz⟩ : ∃ nz, nz = zs.length := ⟨_, rfl⟩
  have hnz1 : nz = x.length + y.length := by rw [hnz, hzs]; simp
  have c1 := Lib.hid (fun w1 => tok_ok (by omega) hA (w := w) w1)
  have c2 := Lib.hid (fun w1 => tok_ok (by omega) hB (w := w) w1)
  have c3 := Lib.hid (fun w1 => tok_ok hC2.out hCC (w := w) w1)
  have HBO := Lib.hid hB
  have hbl : b.data.toList.length ≤ 5000 := by rw [← size_len]; exact hb
  obtain ⟨nx, hnx⟩ : ∃ nx, nx = x.length := ⟨_, rfl⟩
  obtain ⟨ny, hny⟩ : ∃ ny, ny = y.length := ⟨_, rfl⟩
  rw [← hnx, ← hny] at hnz1 hxy
  have HNX := Lib.hid hnx
  have HNY := Lib.hid hny
  have HNZ := Lib.hid hnz
  have HNZ1 := Lib.hid hnz1
  have HZS := Lib.hid hzs
  have e0 : ((nz : Int) != (nx : Int) + (ny : Int)) = false := by rw [hnz1]; simp
  clear hA hB hCC hC hzs hnz hnz1 hnx hny
  go_enter Try.func6, Try.ntmps6
  go_wp2_with fail
  refine (hal.out w (Below.refl _ _)).mono ?_
  rintro e w1 ⟨rfl, hb1⟩
  go_wp2_with fail
  refine (c1.out _ hb1).mono ?_
  rintro e w2 ⟨A, c, rfl, hT1, hc1, hc2, hx4, hb12, hb2⟩
  rw [← HNX.out] at hc1 hx4 ⊢
  have HT1 := Lib.hid hT1
  clear hT1
  go_wp2_with fail
  refine (c2.out _ hb2).mono ?_
  rintro e w3 ⟨D, d, rfl, hT2, hd1, hd2, hy4, hb23, hb3⟩
  rw [← HNY.out] at hd1 hy4 ⊢
  have HT1' := Lib.hid ((HT1.out.below hb23).mono hb23.size)
  have HT2 := Lib.hid hT2
  clear hT2 HT1 hb23
  go_wp2_with fail
  refine (c3.out _ hb3).mono ?_
  rintro e w4 ⟨F, f, rfl, hT3, hf1, hf2, hz4, hb34, hb4⟩
  rw [← HNZ.out] at hf1 hz4 ⊢
  have HX := Lib.hid ((HT1'.out.below hb34).mono hb34.size)
  have HY := Lib.hid ((HT2.out.below hb34).mono hb34.size)
  have HZ := Lib.hid hT3
  have HB4 := Lib.hid hb4
  clear hT3 HT1' HT2 hb34 hb4
  go_wp2
  go_loopw [14] (fun i wr => ∃ k : Nat, k ≤ nz ∧ i = .int .i64 k ∧ Hid (Below w4.heap.size w4 wr)) (fun i _ => nz - (intOf i).toNat)
  case atStart => exact ⟨0, Nat.zero_le _, rfl, Lib.hid (Below.refl _ _)⟩
  case round =>
    obtain ⟨k, hk, rfl, HBL⟩ := hrel
    by_cases hlt : k < nz
    · have hkz : k < zs.length := by rw [← HNZ.out]; exact hlt
      by_cases hkx : k < nx
      · have hkx' : k < x.length := by rw [← HNX.out]; exact hkx
        have hzx : zs[k] = x[k] := by
          simp only [HZS.out]
          rw [List.getElem_append_left hkx']
        obtain ⟨b1, rfl, hbb1, p0, p1, p2⟩ := (HX.out.below HBL.out) k hkx'
        obtain ⟨b2, rfl, hbb2, q0, q1, q2⟩ := (HZ.out.below HBL.out).at_ hkz hzx
        obtain ⟨tk, htk⟩ : ∃ t : Int, t = (x[k].kind : Nat) := ⟨_, rfl⟩
        obtain ⟨tt, htt⟩ : ∃ t, t = strOf x[k].text := ⟨_, rfl⟩
        obtain ⟨tp, htp⟩ : ∃ t : Int, t = (x[k].pl : Nat) := ⟨_, rfl⟩
        rw [← htk] at p0 q0
        rw [← htt] at p1 q1
        rw [← htp] at p2 q2
        have ee : (tk == tk && tt.toList == tt.toList && tp == tp) = true := by simp
        have p0' := alloc_cell p0
        have p1' := alloc_cell p1
        have p2' := alloc_cell p2
        have q0' := alloc_cell q0
        have q1' := alloc_cell q1
        have q2' := alloc_cell q2
        clear htk htt htp hzx hkx' hkz
        go_wp2
        go_region
        all_goals
          go_wp2
          go_roundw
          case rel => exact ⟨k + 1, by omega, by go_num, Lib.hid ((HBL.out.alloc HBL.out.size _).drew)⟩
          case measure => simp [intOf]; omega
      · obtain ⟨j, hj⟩ : ∃ j, k = nx + j := ⟨k - nx, by omega⟩
        have hjy : j < y.length := by rw [← HNY.out]; have := HNZ1.out; omega
        have hpl := toks_at HBO.out (by omega) hjy
        have hzy : zs[k] = Tok.on (a.size + 1) y[j] := by
          simp only [HZS.out]
          rw [List.getElem_append_right (by rw [← HNX.out]; omega), List.getElem_map]
          congr 2
          rw [← HNX.out]; omega
        obtain ⟨b1, rfl, hbb1, p0, p1, p2⟩ := (HY.out.below HBL.out) j hjy
        obtain ⟨b2, rfl, hbb2, q0a, q1a, q2a⟩ := (HZ.out.below HBL.out).at_ hkz hzy
        obtain ⟨tk, htk⟩ : ∃ t : Int, t = (y[j].kind : Nat) := ⟨_, rfl⟩
        obtain ⟨tt, htt⟩ : ∃ t, t = strOf y[j].text := ⟨_, rfl⟩
        obtain ⟨tp, htp⟩ : ∃ t : Nat, t = y[j].pl := ⟨_, rfl⟩
        have q0 : wr.cell? ⟨b2, k * 3, none⟩ = some (.int .i64 tk) := by rw [q0a, htk]; rfl
        have q1 : wr.cell? ⟨b2, k * 3 + 1, none⟩ = some (.string tt) := by rw [q1a, htt]; rfl
        have q2 : wr.cell? ⟨b2, k * 3 + 2, none⟩ = some (.int .i64 ((tp : Int) + ((a.size : Int) + 1))) := by rw [q2a, htp]; rfl
        rw [← htk] at p0
        rw [← htt] at p1
        rw [← htp] at p2 hpl
        have htp5 : tp ≤ 5000 := by omega
        have ee : (tk == tk && tt.toList == tt.toList && (tp : Int) + ((a.size : Int) + 1) == (tp : Int) + ((a.size : Int) + 1)) = true := by simp
        have hsub : (k : Int) - (nx : Int) = (j : Int) := by omega
        have hjn : j < ny := by rw [HNY.out]; exact hjy
        have p0' := alloc_cell p0
        have p1' := alloc_cell p1
        have p2' := alloc_cell p2
        have q0' := alloc_cell q0
        have q1' := alloc_cell q1
        have q2' := alloc_cell q2
        clear q0a q1a q2a
        clear htk htt htp hzy hjy hkz hj hpl
        go_wp2
        go_region
        all_goals
          go_wp2
          go_roundw
          case rel => exact ⟨k + 1, by omega, by go_num, Lib.hid ((HBL.out.alloc HBL.out.size _).drew)⟩
          case measure => simp [intOf]; omega
    · go_wp2
      go_ret
      exact ⟨rfl, HB4.out.trans (HBL.out.mono HB4.out.size)⟩

theorem behind_walk (w : World) (a b : ByteArray) : Calls Try.prog 6 #[.string a, .string b] w (TruePost w) := by
  by_cases hsz : a.size ≤ 5000 ∧ b.size ≤ 5000
  · obtain ⟨ha, hb⟩ := hsz
    have HA := size_len a
    have HB := size_len b
    have hl : a.data.toList.length + b.data.toList.length ≤ 10000 := by omega
    obtain ⟨C, hC⟩ : ∃ C, C = a ++ ⟨#[32]⟩ ++ b := ⟨_, rfl⟩
    have hcd : C.data.toList = a.data.toList ++ 32 :: b.data.toList := by rw [hC, cat_data]
    have hcs : C.size ≤ 40000 := by rw [size_len, hcd, List.length_append, List.length_cons]; omega
    cases hTa : toks a.data.toList with
    | err p c =>
      have hc := behind_err hl hTa
      rw [← hcd] at hc
      cases hTb : toks b.data.toList with
      | ok y => exact behind_eo w a b C (Lib.hid hC) ha hb (Lib.hid hcs) hTa hTb hc
      | err m f => exact behind_ee w a b C (Lib.hid hC) ha hb (Lib.hid hcs) hTa hTb hc
    | ok x =>
      cases hTb : toks b.data.toList with
      | err m f =>
        have hm := toks_err_at hTb
        rcases behind_second hl hTa hTb with h | ⟨hx0, q, h⟩
        · rw [← hcd] at h
          exact behind_oe w a b C (Lib.hid hC) ha hb (Lib.hid hcs) hTa hTb (by omega) h (by omega)
        · rw [← hcd] at h
          exact behind_ol w a b C (Lib.hid hC) ha hb (Lib.hid hcs) hTa hTb (by omega) h hx0
      | ok y =>
        by_cases hxy : x.length + y.length ≤ 4096
        · have h := behind_both hl hTa hTb hxy
          rw [← hcd, ← HA] at h
          exact behind_oo w a b C (Lib.hid hC) ha hb (Lib.hid hcs) hTa hTb h hxy
        · have hx4 : x.length ≤ 4096 := toks_count hTa
          obtain ⟨q, h⟩ := behind_many hl hTa hTb hx4 hxy
          rw [← hcd] at h
          exact behind_om w a b C (Lib.hid hC) ha hb (Lib.hid hcs) hTa hTb h (by omega)
  · have hal := Lib.hid (alive_any w)
    by_cases ha : a.size ≤ 5000
    · have hb : ¬ b.size ≤ 5000 := fun h => hsz ⟨ha, h⟩
      clear hsz
      go_enter Try.func6, Try.ntmps6
      go_wp2_with fail
      refine (hal.out w (Below.refl _ _)).mono ?_
      rintro e w1 ⟨rfl, hb1⟩
      go_wp2
      go_ret
      exact ⟨rfl, hb1⟩
    · clear hsz
      go_enter Try.func6, Try.ntmps6
      go_wp2_with fail
      refine (hal.out w (Below.refl _ _)).mono ?_
      rintro e w1 ⟨rfl, hb1⟩
      go_wp2
      go_ret
      exact ⟨rfl, hb1⟩

end Go.Proofs.Ytofodbaiehifjaa
