/- The walk of Height. -/
import Derived.Test.YtogmiofmhmbhbaaLg
namespace Go.Proofs.Ytogmiofmhmbhbaa
open Go.RowKit

/-- block g is the numbers hs -/
def natsA (hs : List Nat) : Array Value := (hs.map fun s : Nat => Value.int .i64 s).toArray
def Nats (w : World) (g : Nat) (hs : List Nat) : Prop := w.heap[g]? = some (.cells (natsA hs) 3 (0, 0))
theorem Nats.cell {w : World} {g : Nat} {xs : List Nat} (h : Nats w g xs) {k : Nat} (hk : k < xs.length) : w.cell? ⟨g, k, none⟩ = some (.int .i64 (gd xs k : Nat)) := by
  rw [cell_of_row w g k _ _ (0, 0) h, gd_lt hk]
  simp [natsA, hk]
theorem Nats.set_ {w : World} {g : Nat} {xs : List Nat} (h : Nats w g xs) (k v : Nat) : Nats (w.setCell ⟨g, k, none⟩ (.int .i64 v)) g (xs.set k v) := by
  unfold Nats at h ⊢
  simp [World.setCell, Array.getElem?_modify, h, natsA, List.map_set]
theorem Nats.frozen {w : World} {g : Nat} {xs : List Nat} (h : Nats w g xs) (k : Nat) : w.frozen? ⟨g, k, none⟩ = false := frozen_of_row w g k _ _ h
theorem Nats.lt {w : World} {g : Nat} {xs : List Nat} (h : Nats w g xs) : g < w.heap.size := by
  rcases Nat.lt_or_ge g w.heap.size with hlt | hge
  · exact hlt
  · unfold Nats at h; rw [Array.getElem?_eq_none hge] at h; cases h
theorem Nats.drew {w : World} {g : Nat} {xs : List Nat} (h : Nats w g xs) : Nats w.drew g xs := h
theorem Nats.below {w w' : World} {g B : Nat} {xs : List Nat} (h : Nats w g xs) (hb : Below B w w') (hg : g < B) : Nats w' g xs := (hb.block g hg).trans h
theorem make_nats (n : Nat) (hn : n ≤ 8) (w : World) : (Instr.makeSlice 38 (.int .i64 n) (.int .i64 n)).run Try.prog w =
    .ok (.slice (some ⟨w.heap.size, 0, none⟩) n n) (w.alloc (.cells (natsA (List.replicate n 0)) 3)) := by
  rw [make_ints n n (Nat.le_refl _) hn]
  simp [natsA, intsA, intsV]

set_option maxHeartbeats 1000000 in
theorem height_any (w : World) (h gu gv n : Nat) (up down : List Nat) (o : OrdAt w h gu gv n up down) :
    Calls Try.prog 22 #[.pointer (some ⟨h, 0, none⟩)] w fun e w' => e = .returned (.int .i64 (heightL up down)) ∧ Below w.heap.size w w' := by
  have h8 := o.n8
  have HL := Lib.hid o.lu
  have HD := Lib.hid o.ld
  have hmk := fun w => make_nats n h8 w
  have hol := o.lt
  go_enter Try.func22, Try.ntmps22
  go_wp2_with (go_at_call 21; refine (size_any _ h gu gv n up down (by first | exact o | exact o.alloc _)).mono ?_; rintro e w' ⟨rfl, rfl⟩)
  clear hmk
  obtain ⟨g, hg⟩ : ∃ g, g = w.heap.size := ⟨_, rfl⟩
  have HG := Lib.hid hg
  have hb0 : Below g w (w.alloc (.cells (natsA (List.replicate n 0)) 3)) := by rw [hg]; exact (Below.refl _ _).alloc (Nat.le_refl _) _
  have hN0 : Nats (w.alloc (.cells (natsA (List.replicate n 0)) 3)) g (List.replicate n 0) := by rw [hg]; exact heap_alloc_new w _
  rw [← hg]
  clear hg
  obtain ⟨w0, hw0⟩ : ∃ w0, w0 = w.alloc (.cells (natsA (List.replicate n 0)) 3) := ⟨_, rfl⟩
  rw [← hw0] at hb0 hN0 ⊢
  clear hw0
  have o0 := o.below hb0 (by rw [HG.out]; exact hol.1) (by rw [HG.out]; exact hol.2.1) (by rw [HG.out]; exact hol.2.2)
  refine (chain_any _ h gu gv n up down o0).mono ?_
  rintro e w1 ⟨gc, cc, rfl, hgc, hown, hb1⟩
  obtain ⟨m, hm⟩ : ∃ m, m = (chainL down).length := ⟨_, rfl⟩
  have hints := hown.ints
  have hI := hints.2
  rw [← hm] at hown hints ⊢
  have HM := Lib.hid hm
  have hm8 : m ≤ n := by have := chainL_len down; have := HD.out; omega
  have hN1 := hN0.below hb1 hN0.lt
  have hbw : Below g w w1 := hb0.trans (hb1.mono (by have := hN0.lt; omega))
  clear hm hints hown
  have hgg : g < gc := by have := hN0.lt; omega
  have HGG := Lib.hid hgg
  obtain ⟨zs, hzs⟩ : ∃ zs, zs = chainL down := ⟨_, rfl⟩
  have HZ := Lib.hid hzs
  rw [← hzs] at hI
  have HMZ : Hid (zs.length = m) := Lib.hid (by rw [hzs]; exact HM.out.symm)
  have HR : Hid (∀ z ∈ zs, 0 ≤ z ∧ z < n) := Lib.hid (by rw [hzs, ← HD.out]; exact chainL_range down)
  clear hzs
  go_wp2
  go_loopw [14, 4] (fun i s4 wr => ∃ t top : Nat, t ≤ m ∧ top ≤ t ∧ i = .int .i64 t ∧ s4 = .int .i64 top ∧ Hid (top = (hgTo up (zs.take t)).2) ∧ Nats wr g (hgTo up (zs.take t)).1 ∧ Below g w wr ∧
      Hid (∀ k, wr.cell? ⟨gc, k, none⟩ = w1.cell? ⟨gc, k, none⟩)) (fun i _ _ => m - (intOf i).toNat)
  case atStart => exact ⟨0, 0, Nat.zero_le _, Nat.zero_le _, rfl, rfl, rfl, by show Nats _ _ (List.replicate up.length 0); rw [HL.out]; exact hN1, hbw, fun _ => rfl⟩
  case round =>
    obtain ⟨t, top, ht, htop, rfl, rfl, htp, hN, hb, hsame⟩ := hrel
    have ot := o.below hb (by rw [HG.out]; exact hol.1) (by rw [HG.out]; exact hol.2.1) (by rw [HG.out]; exact hol.2.2)
    by_cases hlt : t < m
    · obtain ⟨bc, hbc, hcz⟩ := hI t (by rw [HMZ.out]; exact hlt)
      obtain rfl : gc = bc := by injection hbc with hbc; injection hbc
      have hzr := HR.out _ (gi_mem (zs := zs) (k := t) (by rw [HMZ.out]; exact hlt))
      obtain ⟨l, hl⟩ := Int.eq_ofNat_of_zero_le hzr.1
      have hln : l < n := by omega
      rw [hl] at hcz
      have hcz' := (hsame.out t).trans hcz
      have HST := Lib.hid (hgTo_succ up zs t (by rw [HMZ.out]; exact hlt))
      have HLZ := Lib.hid hl
      have hle := (hgTo_le up zs t (by rw [HMZ.out]; exact ht)).1
      have hlen0 : (hgTo up (zs.take t)).1.length = n := by rw [hgTo_len up zs t (by rw [HMZ.out]; exact ht)]; exact HL.out
      obtain ⟨H, hH⟩ : ∃ H, H = (hgTo up (zs.take t)).1 := ⟨_, rfl⟩
      rw [← hH] at hN hle hlen0
      have HH := Lib.hid hH
      have HLEN := Lib.hid hlen0
      clear hbc hcz hzr hl hH hlen0
      go_wp2
      clear hcz'
      go_loopw [20] (fun i wl => ∃ k : Nat, k ≤ n ∧ i = .int .i64 k ∧ Nats wl g (hgIn up l k H) ∧ Below g w wl ∧ Hid (∀ k, wl.cell? ⟨gc, k, none⟩ = w1.cell? ⟨gc, k, none⟩)) (fun i _ => n - (intOf i).toNat)
      case atStart => exact ⟨0, Nat.zero_le _, rfl, hN, hb, hsame⟩
      case round =>
        obtain ⟨k, hk, rfl, hN2, hb2, hsame2⟩ := hrel
        have o2 := o.below hb2 (by rw [HG.out]; exact hol.1) (by rw [HG.out]; exact hol.2.1) (by rw [HG.out]; exact hol.2.2)
        by_cases hltk : k < n
        · have HS : Hid (hgIn up l (k + 1) H = hgS up l (hgIn up l k H) k) := rfl
          have hlen : (hgIn up l k H).length = n := by rw [hgIn_len]; exact HLEN.out
          have hle2 := hgIn_le up l k hle
          obtain ⟨ys, hys⟩ : ∃ ys, ys = hgIn up l k H := ⟨_, rfl⟩
          rw [← hys] at hN2 HS hlen hle2
          have HY := Lib.hid hys
          have hcl := hN2.cell (k := l) (by rw [hlen]; exact hln)
          have hck := hN2.cell (k := k) (by rw [hlen]; exact hltk)
          have hf := hN2.frozen l
          have hgl := hle2.gd l
          have hgk := hle2.gd k
          clear hys hlen
          by_cases hbit : (gd up k).testBit l = true
          · have HB : Hid (hgIn up l (k + 1) H = ys.set l (max (gd ys l) (gd ys k))) := Lib.hid (HS.out.trans (if_pos hbit))
            by_cases hmx : gd ys l < gd ys k
            · have HX : Hid (max (gd ys l) (gd ys k) = gd ys k) := Lib.hid (by omega)
              go_wp2_with (go_at_call 15; refine (most_in _ h gu gv n up down o2 k l (by omega) (by omega)).mono ?_; rintro e w' ⟨rfl, rfl⟩)
              go_region
              all_goals
                go_wp2
                go_roundw
                case rel => exact ⟨k + 1, by omega, by go_num, by rw [HB.out, HX.out]; exact (hN2.set_ l _).drew, (hb2.setCell (Nat.le_refl _) _).drew, Lib.hid (fun j => (World.cell?_setCell_other _ _ _ _ (fun e => by injection e; have := HGG.out; omega)).trans (hsame2.out j))⟩
                case measure => simp [intOf]; omega
            · have HX : Hid (max (gd ys l) (gd ys k) = gd ys l) := Lib.hid (by omega)
              go_wp2_with (go_at_call 15; refine (most_in _ h gu gv n up down o2 k l (by omega) (by omega)).mono ?_; rintro e w' ⟨rfl, rfl⟩)
              go_region
              all_goals
                go_wp2
                go_roundw
                case rel => exact ⟨k + 1, by omega, by go_num, by rw [HB.out, HX.out]; exact (hN2.set_ l _).drew, (hb2.setCell (Nat.le_refl _) _).drew, Lib.hid (fun j => (World.cell?_setCell_other _ _ _ _ (fun e => by injection e; have := HGG.out; omega)).trans (hsame2.out j))⟩
                case measure => simp [intOf]; omega
          · have hbit' : (gd up k).testBit l = false := by simpa using hbit
            have HB : Hid (hgIn up l (k + 1) H = ys) := Lib.hid (HS.out.trans (if_neg hbit))
            clear hbit
            go_wp2_with (go_at_call 15; refine (most_in _ h gu gv n up down o2 k l (by omega) (by omega)).mono ?_; rintro e w' ⟨rfl, rfl⟩)
            go_roundw
            case rel => exact ⟨k + 1, by omega, by go_num, by rw [HB.out]; exact hN2, hb2, hsame2⟩
            case measure => simp [intOf]; omega
        · obtain rfl : k = n := by omega
          have hlen : (hgIn up l k H).length = k := by rw [hgIn_len]; exact HLEN.out
          have hle2 := hgIn_le up l k hle
          have HSS : Hid (hgTo up (zs.take (t + 1)) = ((hgIn up l k H).set l (gd (hgIn up l k H) l + 1), max top (gd (hgIn up l k H) l + 1))) := Lib.hid (by
            rw [HST.out, hgStep, HLZ.out, ← HH.out, HL.out, htp.out]; rfl)
          obtain ⟨ys, hys⟩ : ∃ ys, ys = hgIn up l k H := ⟨_, rfl⟩
          rw [← hys] at hN2 HSS hlen hle2
          have hcl := hN2.cell (k := l) (by rw [hlen]; exact hln)
          have hf := hN2.frozen l
          have hgl := hle2.gd l
          clear hys hlen
          by_cases hmx : top < gd ys l + 1
          · have HX : Hid (max top (gd ys l + 1) = gd ys l + 1) := Lib.hid (by omega)
            go_wp2
            go_roundw
            case rel => exact ⟨t + 1, gd ys l + 1, by omega, by omega, by go_num, by go_num, Lib.hid (by rw [HSS.out, HX.out]), by rw [HSS.out]; exact hN2.set_ l _, hb2.setCell (Nat.le_refl _) _, Lib.hid (fun j => (World.cell?_setCell_other _ _ _ _ (fun e => by injection e; have := HGG.out; omega)).trans (hsame2.out j))⟩
            case measure => simp [intOf]; omega
          · have HX : Hid (max top (gd ys l + 1) = top) := Lib.hid (by omega)
            go_wp2
            go_roundw
            case rel => exact ⟨t + 1, top, by omega, by omega, by go_num, by go_num, Lib.hid (by rw [HSS.out, HX.out]), by rw [HSS.out]; exact hN2.set_ l _, hb2.setCell (Nat.le_refl _) _, Lib.hid (fun j => (World.cell?_setCell_other _ _ _ _ (fun e => by injection e; have := HGG.out; omega)).trans (hsame2.out j))⟩
            case measure => simp [intOf]; omega
    · obtain rfl : t = m := by omega
      have HT : Hid (heightL up down = top) := Lib.hid (by unfold heightL; rw [← HZ.out, htp.out, List.take_of_length_le (by have := HMZ.out; omega)])
      go_wp2
      go_ret
      exact ⟨by rw [HT.out]; rfl, by rw [← HG.out]; exact hb⟩

end Go.Proofs.Ytogmiofmhmbhbaa
