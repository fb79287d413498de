/- The walk of the document's Height. -/
import Derived.Test.YtogmiofmhmbhbaaOa
namespace Go.Proofs.Ytogmiofmhmbhbaa
open Go.RowKit

theorem gd_take (rs : List Nat) {n k : Nat} (hk : k < n) : gd (rs.take n) k = gd rs k := by
  unfold gd; simp [hk]
/-- block g holds the first n of rs -/
def NatsT (w : World) (g n : Nat) (rs : List Nat) : Prop := Nats w g (rs.take n)
theorem NatsT.cell {w : World} {g n : Nat} {rs : List Nat} (h : NatsT w g n rs) (hl : rs.length = 8) (h8 : n ≤ 8) {k : Nat} (hk : k < n) : w.cell? ⟨g, k, none⟩ = some (.int .i64 (gd rs k : Nat)) := by
  have := Nats.cell h (k := k) (by rw [List.length_take]; omega)
  rw [gd_take rs hk] at this
  exact this
theorem NatsT.set_ {w : World} {g n : Nat} {rs : List Nat} (h : NatsT w g n rs) (k v : Nat) : NatsT (w.setCell ⟨g, k, none⟩ (.int .i64 v)) g n (rs.set k v) := by
  unfold NatsT; rw [List.take_set]; exact Nats.set_ h k v
theorem NatsT.frozen {w : World} {g n : Nat} {rs : List Nat} (h : NatsT w g n rs) (k : Nat) : w.frozen? ⟨g, k, none⟩ = false := Nats.frozen h k

set_option maxRecDepth 100000 in
set_option maxHeartbeats 2000000 in
theorem rheight_any (w : World) (n : Nat) (v : Value) (U D : List Nat) (f : Tab) (hM : MatAt w w.heap.size n v f) (l : Latt n U D) (s : Says n U f) (h1 : 1 ≤ n) (h8 : n ≤ 8) :
    Calls Try.prog 23 #[.agg #[v]] w (fun e w' => e = .returned (.int .i64 (rkTo U (chainL D) n).2) ∧ Below w.heap.size w w') := by
  have hM0 := hM
  obtain ⟨go, co, G, C, rfl, hgo, hM⟩ := hM
  have hmk := fun w => make_nats n h8 w
  obtain ⟨B, hB⟩ : ∃ B, B = w.heap.size := ⟨_, rfl⟩
  obtain ⟨g, hg⟩ : ∃ g, g = B + 1 := ⟨_, rfl⟩
  obtain ⟨w2, hw2⟩ : ∃ w2, w2 = (w.alloc (.cells #[.slice (some ⟨go, 0, none⟩) n co] 31)).alloc (.cells (natsA (List.replicate n 0)) 3) := ⟨_, rfl⟩
  have hs2 : w2.heap.size = B + 2 := by rw [hw2, hB]; simp
  have hb2 : Below B w w2 := by rw [hw2, hB]; exact ((Below.refl _ _).alloc (Nat.le_refl _) _).alloc (by simp) _
  have q0 : w2.cell? ⟨B, 0, none⟩ = some (.slice (some ⟨go, 0, none⟩) n co) := by
    rw [hw2, (((Below.refl (B + 1) _).alloc (by simp; omega) _).cell (p := ⟨B, 0, none⟩) (by simp)), hB, cell_of_row _ _ 0 _ _ (0, 0) (heap_alloc_new w _)]; rfl
  have hN2 : Nats w2 g (List.replicate n 0) := by
    have hh := heap_alloc_new (w.alloc (.cells #[.slice (some ⟨go, 0, none⟩) n co] 31)) (.cells (natsA (List.replicate n 0)) 3)
    rw [← hw2, show (w.alloc (.cells #[.slice (some ⟨go, 0, none⟩) n co] 31)).heap.size = B + 1 by simp [hB]] at hh
    rw [hg]; exact hh
  have hM2 : MatAt w2 w2.heap.size n (.slice (some ⟨go, 0, none⟩) n co) f := (hM0.below (by rw [← hB]; exact hb2)).more (by omega)
  have HCH := Lib.hid (rchain_any w2 n _ U D f hM2 l s h1 h8)
  have HC := Lib.hid (chain_ok l.pd l.ad h8)
  have HM : Hid (∀ i, i < n → G i < B ∧ w.cell? ⟨go, i, none⟩ = some (.slice (some ⟨G i, 0, none⟩) n (C i)) ∧ ∀ j, j < n → w.cell? ⟨G i, j, none⟩ = some (.bool (f i j))) := Lib.hid (fun i hi => by
    obtain ⟨m1, m2, m3⟩ := hM i hi
    exact ⟨by rw [hB]; exact m1, m2, m3⟩)
  rw [← hB] at hgo
  have HS := Lib.hid s
  have HB := Lib.hid hB
  have HG := Lib.hid hg
  have HW2 := Lib.hid hw2
  obtain ⟨ch, hch⟩ : ∃ ch, ch = chainL D := ⟨_, rfl⟩
  rw [← hch] at HC ⊢
  have HCD := Lib.hid hch
  clear hM hM0 hM2 hB hg hw2 s l hch
  go_enter Try.func23, Try.ntmps23
  go_wp2_with fail
  clear hmk
  rw [← HW2.out, ← HB.out, ← HG.out]
  refine HCH.out.mono ?_
  rintro e w5 ⟨gc, cc, rfl, hgc, hown, hb5⟩
  rw [← HCD.out] at hown
  rw [← HCD.out, HC.out.len]
  have hb05 : Below B w w5 := hb2.trans (hb5.mono (by omega))
  have q5 := (hb5.cell (p := ⟨B, 0, none⟩) (by simp; omega)).trans q0
  have hR0 : NatsT w5 g n (List.replicate 8 0) := by
    unfold NatsT
    rw [List.take_replicate, show min n 8 = n by omega]
    exact hN2.below hb5 (by have := HG.out; omega)
  have hgg : g < gc := by have := HG.out; omega
  have hI := hown.ints.2
  have HI : Hid (∀ q, q < n → w5.cell? ⟨gc, q, none⟩ = some (.int .i64 (gi ch q))) := Lib.hid (fun q hq => by
    obtain ⟨b, hb, hc⟩ := hI q (by rw [HC.out.len]; exact hq)
    obtain rfl : gc = b := by injection hb with hb; injection hb
    exact hc)
  clear hgc hown hI hN2 hb2 q0 hb5 hs2
  go_wp2
  go_loopw [6, 5] (fun i s5 wr => ∃ t top : Nat, t ≤ n ∧ i = .int .i64 t ∧ s5 = .int .i64 top ∧ Hid ((rkTo U ch t).2 = top) ∧ NatsT wr g n (rkTo U ch t).1 ∧ Below B w wr ∧ Hid (wr.cell? ⟨B, 0, none⟩ = some (.slice (some ⟨go, 0, none⟩) n co)) ∧
    Hid (∀ q, q < n → wr.cell? ⟨gc, q, none⟩ = some (.int .i64 (gi ch q)))) (fun i _ _ => n - (intOf i).toNat)
  case atStart => exact ⟨0, 0, Nat.zero_le _, rfl, rfl, rfl, hR0, hb05, q5, HI⟩
  case round =>
    obtain ⟨t, top, ht8, rfl, rfl, htop, hR, hbt, hqt, hcs⟩ := hrel
    by_cases hltt : t < n
    · have hzr := HC.out.range _ (gi_mem (show t < ch.length by rw [HC.out.len]; exact hltt))
      have hcx := hcs.out t hltt
      obtain ⟨x, hx⟩ := Int.eq_ofNat_of_zero_le hzr.1
      have hxk : x < n := by omega
      rw [hx] at hcx
      have hlen := rkTo_len U ch t
      have hbnd := rkTo_le U ch t (by omega)
      have HST : Hid (rkTo U ch (t + 1) = (rkIn U ch x t ((rkTo U ch t).1.set x 1), if top < gd (rkIn U ch x t ((rkTo U ch t).1.set x 1)) x then gd (rkIn U ch x t ((rkTo U ch t).1.set x 1)) x else top)) := Lib.hid (by
        show rkStep U ch (rkTo U ch t) t = _
        unfold rkStep; rw [hx, htop.out]; rfl)
      obtain ⟨rs, hrs⟩ : ∃ rs, rs = (rkTo U ch t).1 := ⟨_, rfl⟩
      rw [htop.out] at hbnd
      rw [← hrs] at hR hlen hbnd HST
      have hbnd1 : Le (t * 9 + 1) (rs.set x 1) := (hbnd.1.mono (by omega)).set _ (by omega)
      have hbtop := hbnd.2
      have hcr := hR.cell hlen h8 (k := x) (by omega)
      have hf := hR.frozen x
      have HX := Lib.hid hx
      have hq1 := hqt.out
      clear hzr hx hrs hbnd
      go_wp2
      clear hcr hf hq1
      go_loopw [7] (fun i wl => ∃ j : Nat, j ≤ t ∧ i = .int .i64 j ∧ NatsT wl g n (rkIn U ch x j (rs.set x 1)) ∧ Below B w wl ∧ Hid (wl.cell? ⟨B, 0, none⟩ = some (.slice (some ⟨go, 0, none⟩) n co)) ∧
        Hid (∀ q, q < n → wl.cell? ⟨gc, q, none⟩ = some (.int .i64 (gi ch q)))) (fun i _ => t - (intOf i).toNat)
      case atStart => exact ⟨0, Nat.zero_le _, rfl, hR.set_ x 1, hbt.setCell (by have := HG.out; simp; omega) _, Lib.hid ((World.cell?_setCell_other _ _ _ _ (fun e => by injection e; have := HG.out; omega)).trans hqt.out), Lib.hid (fun q hq => (World.cell?_setCell_other _ _ _ _ (fun e => by injection e; omega)).trans (hcs.out q hq))⟩
      case round =>
        obtain ⟨j, hj, rfl, hRj, hbj, hqj, hcsj⟩ := hrel
        by_cases hltj : j < t
        · have hzr := HC.out.range _ (gi_mem (show j < ch.length by rw [HC.out.len]; omega))
          have hcx := hcsj.out t hltt
          have hcy := hcsj.out j (by omega)
          obtain ⟨y, hy⟩ := Int.eq_ofNat_of_zero_le hzr.1
          have hyk : y < n := by omega
          rw [hy] at hcy
          rw [HX.out] at hcx
          have HSJ : Hid (rkIn U ch x (j + 1) (rs.set x 1) = rkS U x (rkIn U ch x j (rs.set x 1)) y) := Lib.hid (by
            show rkS U x (rkIn U ch x j (rs.set x 1)) (gi ch j).toNat = _
            rw [hy]; rfl)
          have hlen2 : (rkIn U ch x j (rs.set x 1)).length = 8 := by rw [rkIn_len]; simpa using hlen
          have hb2 := rkIn_le U ch x j hbnd1
          obtain ⟨rt, hrt⟩ : ∃ rt, rt = rkIn U ch x j (rs.set x 1) := ⟨_, rfl⟩
          rw [← hrt] at hRj HSJ hlen2 hb2
          have hrx := hRj.cell hlen2 h8 (k := x) (by omega)
          have hry := hRj.cell hlen2 h8 (k := y) (by omega)
          have hf := hRj.frozen x
          have hbx := hb2.gd x
          have hby := hb2.gd y
          have hq1 := hqj.out
          have q3 := (hbj.cell (p := ⟨go, y, none⟩) hgo).trans (HM.out y hyk).2.1
          have q4 := (hbj.cell (p := ⟨G y, x, none⟩) (HM.out y hyk).1).trans ((HM.out y hyk).2.2 x hxk)
          rw [HS.out y x hyk hxk] at q4
          obtain ⟨p, hp⟩ : ∃ p, p = (gd U y).testBit x := ⟨_, rfl⟩
          rw [← hp] at q4
          have HP := Lib.hid hp
          clear hp hzr hy hrt
          cases p
          · have HBB : Hid (rkIn U ch x (j + 1) (rs.set x 1) = rt) := Lib.hid (HSJ.out.trans (if_neg (fun e => by rw [← HP.out] at e; exact absurd e.1 (by simp))))
            go_wp2
            go_quiet (fail)
            go_wp2
            go_roundw
            case rel => exact ⟨j + 1, by omega, by go_num, by rw [HBB.out]; exact hRj, hbj.trans (Drawn.below ⟨_, rfl⟩), hqj, hcsj⟩
            case measure => simp [intOf]; omega
          · by_cases hle : gd rt x ≤ gd rt y
            · have HBB : Hid (rkIn U ch x (j + 1) (rs.set x 1) = rt.set x (gd rt y + 1)) := Lib.hid (HSJ.out.trans (if_pos ⟨HP.out.symm, hle⟩))
              have dl : decide (gd rt x ≤ gd rt y) = true := by simpa using hle
              go_wp2
              go_quiet (fail)
              generalize hwq : wr.drewN _ = wq
              have hd : Drawn wr wq := ⟨_, hwq.symm⟩
              have hRq : NatsT wq g n rt := by obtain ⟨nq, rfl⟩ := hd; exact hRj
              have hbq := hbj.trans (hd.below (B := B))
              have hqq : Hid (wq.cell? ⟨B, 0, none⟩ = some (.slice (some ⟨go, 0, none⟩) n co)) := Lib.hid ((hd.cell _).trans hqj.out)
              have hcq : Hid (∀ q, q < n → wq.cell? ⟨gc, q, none⟩ = some (.int .i64 (gi ch q))) := Lib.hid (fun q hq => (hd.cell _).trans (hcsj.out q hq))
              have hcxq := (hd.cell _).trans hcx
              have hcyq := (hd.cell _).trans hcy
              have hrxq := hRq.cell hlen2 h8 (k := x) (by omega)
              have hryq := hRq.cell hlen2 h8 (k := y) (by omega)
              have hfq := hRq.frozen x
              clear hwq hcx hcy hrx hry hf hd hRj hbj hcsj hqj hq1 q3 q4
              go_wp2
              go_region
              all_goals
                go_wp2
                go_roundw
                case rel => exact ⟨j + 1, by omega, by go_num, by rw [HBB.out]; exact hRq.set_ x (gd rt y + 1), (hbq.setCell (by have := HG.out; simp; omega) _).drew, Lib.hid ((World.cell?_setCell_other _ _ _ _ (fun e => by injection e; have := HG.out; omega)).trans hqq.out), Lib.hid (fun q hq => (World.cell?_setCell_other _ _ _ _ (fun e => by injection e; omega)).trans (hcq.out q hq))⟩
                case measure => simp [intOf]; omega
            · have HBB : Hid (rkIn U ch x (j + 1) (rs.set x 1) = rt) := Lib.hid (HSJ.out.trans (if_neg (fun e => hle e.2)))
              have dl : decide (gd rt x ≤ gd rt y) = false := by simpa using hle
              go_wp2
              go_quiet (fail)
              go_wp2
              go_roundw
              case rel => exact ⟨j + 1, by omega, by go_num, by rw [HBB.out]; exact hRj, hbj.trans (Drawn.below ⟨_, rfl⟩), hqj, hcsj⟩
              case measure => simp [intOf]; omega
        · obtain rfl : j = t := by omega
          have hlen2 : (rkIn U ch x j (rs.set x 1)).length = 8 := by rw [rkIn_len]; simpa using hlen
          have hcx := hcsj.out j hltt
          rw [HX.out] at hcx
          obtain ⟨rt, hrt⟩ : ∃ rt, rt = rkIn U ch x j (rs.set x 1) := ⟨_, rfl⟩
          rw [← hrt] at hRj HST hlen2
          have hrx := hRj.cell hlen2 h8 (k := x) (by omega)
          clear hrt
          by_cases hgt : top < gd rt x
          · have HF : Hid (rkTo U ch (j + 1) = (rt, gd rt x)) := Lib.hid (by rw [HST.out, if_pos hgt])
            have dg : decide (top < gd rt x) = true := by simpa using hgt
            go_wp2
            go_roundw
            case rel => exact ⟨j + 1, gd rt x, by omega, by go_num, rfl, Lib.hid (by rw [HF.out]), by rw [HF.out]; exact hRj, hbj, hqj, hcsj⟩
            case measure => simp [intOf]; omega
          · have HF : Hid (rkTo U ch (j + 1) = (rt, top)) := Lib.hid (by rw [HST.out, if_neg hgt])
            have dg : decide (top < gd rt x) = false := by simpa using hgt
            go_wp2
            go_roundw
            case rel => exact ⟨j + 1, top, by omega, by go_num, rfl, Lib.hid (by rw [HF.out]), by rw [HF.out]; exact hRj, hbj, hqj, hcsj⟩
            case measure => simp [intOf]; omega
    · obtain rfl : t = n := by omega
      go_wp2
      go_ret
      refine ⟨?_, by rw [← HB.out]; exact hbt⟩
      rw [htop.out]
      rfl

end Go.Proofs.Ytogmiofmhmbhbaa
