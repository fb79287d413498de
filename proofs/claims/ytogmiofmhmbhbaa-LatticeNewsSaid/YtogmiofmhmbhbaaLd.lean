/- The walk of isLattice. -/
import Derived.Test.YtogmiofmhmbhbaaLb
import Derived.Test.YtogmiofmhmbhbaaLc
namespace Go.Proofs.Ytogmiofmhmbhbaa
open Go.RowKit

theorem Ints.two (w : World) (a b : Int) : Ints (w.alloc (.cells #[.int .i64 a, .int .i64 b] 3)) (some ⟨w.heap.size, 0, none⟩) [a, b] := by
  intro k hk
  have hr := heap_alloc_new w (.cells #[.int .i64 a, .int .i64 b] 3)
  refine ⟨_, rfl, ?_⟩
  rw [cell_of_row _ _ k _ _ (0, 0) hr]
  match k, hk with
  | 0, _ => rfl
  | 1, _ => rfl

theorem Ints.at2 (w : World) (a b : Int) (g : Nat) (hg : g = w.heap.size) : Ints (w.alloc (.cells #[.int .i64 a, .int .i64 b] 3)) (some ⟨g, 0, none⟩) [a, b] := by
  subst hg; exact Ints.two w a b

theorem OrdAt.alloc {w : World} {h gu gv n : Nat} {up down : List Nat} (o : OrdAt w h gu gv n up down) (x : Obj) : OrdAt (w.alloc x) h gu gv n up down :=
  o.below ((Below.refl w.heap.size w).alloc (Nat.le_refl _) x) o.lt.1 o.lt.2.1 o.lt.2.2

set_option maxHeartbeats 1000000 in
theorem isLattice_any (w : World) (h gu gv n : Nat) (up down : List Nat) (o : OrdAt w h gu gv n up down) :
    Calls Try.prog 34 #[.pointer (some ⟨h, 0, none⟩)] w fun e w' => e = .returned (.bool (latB up down)) ∧ Below w.heap.size w w' := by
  have hc0 := o.c0
  have h8 := o.n8
  have HL := Lib.hid o.lu
  go_enter Try.func34, Try.ntmps34
  go_wp2
  clear hc0
  go_loopw [14] (fun i wr => ∃ t : Nat, t ≤ n ∧ i = .int .i64 t ∧ Hid (latTo up down t 0) ∧ Below w.heap.size w wr) (fun i _ => n - (intOf i).toNat)
  case atStart => exact ⟨0, Nat.zero_le _, rfl, ⟨fun x hx => absurd hx (by omega), fun y hy => absurd hy (by omega)⟩, Below.refl _ _⟩
  case round =>
    obtain ⟨t, ht, rfl, hL, hb⟩ := hrel
    have ow := o.below hb o.lt.1 o.lt.2.1 o.lt.2.2
    by_cases hlt : t < n
    · have hc := ow.c0
      go_wp2
      clear hc
      go_loopw [22] (fun i wl => ∃ l : Nat, l ≤ n ∧ i = .int .i64 l ∧ Hid (latTo up down t l) ∧ Below w.heap.size w wl) (fun i _ => n - (intOf i).toNat)
      case atStart => exact ⟨0, Nat.zero_le _, rfl, hL, hb⟩
      case round =>
        obtain ⟨l, hl, rfl, hM, hbl⟩ := hrel
        have ol := o.below hbl o.lt.1 o.lt.2.1 o.lt.2.2
        by_cases hltl : l < n
        · have hc0 := ol.c0
          have hc1 := ol.c1
          have hs := ol.lt
          obtain ⟨ia, hia⟩ : ∃ ia, ia = idx up (common up [(t : Int), (l : Int)]) := ⟨_, rfl⟩
          obtain ⟨ib, hib⟩ : ∃ ib, ib = idx down (common down [(t : Int), (l : Int)]) := ⟨_, rfl⟩
          have HA := Lib.hid hia
          have HB := Lib.hid hib
          have HK0 : Hid (okAB up down t l = (decide (0 ≤ ia) && decide (0 ≤ ib) && !(decide (t ≠ l) && (gd up t).testBit l && (gd up l).testBit t))) := by rw [hia, hib]; exact rfl
          clear hia hib
          have hsz := hbl.size
          by_cases hj : 0 ≤ ia
          · by_cases hm : 0 ≤ ib
            · by_cases he : t = l
              · obtain rfl : t = l := he
                have HK : Hid (okAB up down t t = true) := Lib.hid (HK0.out.trans (by simp [hj, hm]))
                clear HK0
                go_wp2_with fail
                refine (shared_any up [(t : Int), (t : Int)] n n gu 2 2 _ _ (by exact (ol.alloc _).su) o.lu h8 o.bu (Ints.at2 _ _ _ _ (by simp)) rfl (by omega)).mono ?_
                rintro e w' ⟨rfl, rfl⟩
                rw [← HA.out]
                go_wp2_with fail
                refine (shared_any down [(t : Int), (t : Int)] n n gv 2 2 _ _ (by exact ((ol.alloc _).alloc _).sd) o.ld h8 o.bd (Ints.at2 _ _ _ _ (by simp)) rfl (by omega)).mono ?_
                rintro e w' ⟨rfl, rfl⟩
                rw [← HB.out]
                go_wp2
                go_roundw
                case rel => exact ⟨t + 1, by omega, by go_num, Lib.hid (latTo_step hM.out HK.out), (hbl.alloc (by omega) _).alloc (by simp; omega) _⟩
                case measure => simp [intOf]; omega
              · have hne : ((t : Int) != (l : Int)) = true := by simp; omega
                by_cases hx : (gd up t).testBit l = true
                · by_cases hy : (gd up l).testBit t = true
                  · have HE := Lib.hid he
                    clear he
                    have HK : Hid (okAB up down t l = false) := Lib.hid (HK0.out.trans (by simp [hj, hm, hx, hy, HE.out]))
                    clear HK0
                    go_wp2_with fail
                    refine (shared_any up [(t : Int), (l : Int)] n n gu 2 2 _ _ (by exact (ol.alloc _).su) o.lu h8 o.bu (Ints.at2 _ _ _ _ (by simp)) rfl (by omega)).mono ?_
                    rintro e w' ⟨rfl, rfl⟩
                    rw [← HA.out]
                    go_wp2_with fail
                    refine (shared_any down [(t : Int), (l : Int)] n n gv 2 2 _ _ (by exact ((ol.alloc _).alloc _).sd) o.ld h8 o.bd (Ints.at2 _ _ _ _ (by simp)) rfl (by omega)).mono ?_
                    rintro e w' ⟨rfl, rfl⟩
                    rw [← HB.out]
                    go_wp2_with fail
                    refine (most_in _ h gu gv n up down (by exact (ol.alloc _).alloc _) t l (by omega) (by omega)).mono ?_
                    rintro e w' ⟨rfl, rfl⟩
                    go_wp2_with fail
                    refine (most_in _ h gu gv n up down (by exact (ol.alloc _).alloc _) l t (by omega) (by omega)).mono ?_
                    rintro e w' ⟨rfl, rfl⟩
                    go_wp2
                    go_ret
                    exact ⟨ret_b (latB_no (a := t) (b := l) (by rw [HL.out]; exact hlt) (by rw [HL.out]; exact hltl) HK.out).symm, (hbl.alloc (by omega) _).alloc (by simp; omega) _⟩
                  · have HE := Lib.hid he
                    clear he
                    have hy' : (gd up l).testBit t = false := by simpa using hy
                    clear hy
                    have HK : Hid (okAB up down t l = true) := Lib.hid (HK0.out.trans (by simp [hj, hm, hx, hy', HE.out]))
                    clear HK0
                    go_wp2_with fail
                    refine (shared_any up [(t : Int), (l : Int)] n n gu 2 2 _ _ (by exact (ol.alloc _).su) o.lu h8 o.bu (Ints.at2 _ _ _ _ (by simp)) rfl (by omega)).mono ?_
                    rintro e w' ⟨rfl, rfl⟩
                    rw [← HA.out]
                    go_wp2_with fail
                    refine (shared_any down [(t : Int), (l : Int)] n n gv 2 2 _ _ (by exact ((ol.alloc _).alloc _).sd) o.ld h8 o.bd (Ints.at2 _ _ _ _ (by simp)) rfl (by omega)).mono ?_
                    rintro e w' ⟨rfl, rfl⟩
                    rw [← HB.out]
                    go_wp2_with fail
                    refine (most_in _ h gu gv n up down (by exact (ol.alloc _).alloc _) t l (by omega) (by omega)).mono ?_
                    rintro e w' ⟨rfl, rfl⟩
                    go_wp2_with fail
                    refine (most_in _ h gu gv n up down (by exact (ol.alloc _).alloc _) l t (by omega) (by omega)).mono ?_
                    rintro e w' ⟨rfl, rfl⟩
                    go_wp2
                    go_roundw
                    case rel => exact ⟨l + 1, by omega, by go_num, Lib.hid (latTo_step hM.out HK.out), (hbl.alloc (by omega) _).alloc (by simp; omega) _⟩
                    case measure => simp [intOf]; omega
                · have HE := Lib.hid he
                  clear he
                  have hx' : (gd up t).testBit l = false := by simpa using hx
                  clear hx
                  have HK : Hid (okAB up down t l = true) := Lib.hid (HK0.out.trans (by simp [hj, hm, hx', HE.out]))
                  clear HK0
                  go_wp2_with fail
                  refine (shared_any up [(t : Int), (l : Int)] n n gu 2 2 _ _ (by exact (ol.alloc _).su) o.lu h8 o.bu (Ints.at2 _ _ _ _ (by simp)) rfl (by omega)).mono ?_
                  rintro e w' ⟨rfl, rfl⟩
                  rw [← HA.out]
                  go_wp2_with fail
                  refine (shared_any down [(t : Int), (l : Int)] n n gv 2 2 _ _ (by exact ((ol.alloc _).alloc _).sd) o.ld h8 o.bd (Ints.at2 _ _ _ _ (by simp)) rfl (by omega)).mono ?_
                  rintro e w' ⟨rfl, rfl⟩
                  rw [← HB.out]
                  go_wp2_with fail
                  refine (most_in _ h gu gv n up down (by exact (ol.alloc _).alloc _) t l (by omega) (by omega)).mono ?_
                  rintro e w' ⟨rfl, rfl⟩
                  go_wp2
                  go_roundw
                  case rel => exact ⟨l + 1, by omega, by go_num, Lib.hid (latTo_step hM.out HK.out), (hbl.alloc (by omega) _).alloc (by simp; omega) _⟩
                  case measure => simp [intOf]; omega
            · have hj0 := hj
              have HK : Hid (okAB up down t l = false) := Lib.hid (HK0.out.trans (by simp [hj, hm]))
              clear HK0
              go_wp2_with fail
              refine (shared_any up [(t : Int), (l : Int)] n n gu 2 2 _ _ (by exact (ol.alloc _).su) o.lu h8 o.bu (Ints.at2 _ _ _ _ (by simp)) rfl (by omega)).mono ?_
              rintro e w' ⟨rfl, rfl⟩
              rw [← HA.out]
              go_wp2_with fail
              refine (shared_any down [(t : Int), (l : Int)] n n gv 2 2 _ _ (by exact ((ol.alloc _).alloc _).sd) o.ld h8 o.bd (Ints.at2 _ _ _ _ (by simp)) rfl (by omega)).mono ?_
              rintro e w' ⟨rfl, rfl⟩
              rw [← HB.out]
              go_wp2
              go_ret
              exact ⟨ret_b (latB_no (a := t) (b := l) (by rw [HL.out]; exact hlt) (by rw [HL.out]; exact hltl) HK.out).symm, (hbl.alloc (by omega) _).alloc (by simp; omega) _⟩
          · have hj0 := hj
            have HK : Hid (okAB up down t l = false) := Lib.hid (HK0.out.trans (by simp [hj]))
            clear HK0
            go_wp2_with fail
            refine (shared_any up [(t : Int), (l : Int)] n n gu 2 2 _ _ (by exact (ol.alloc _).su) o.lu h8 o.bu (Ints.at2 _ _ _ _ (by simp)) rfl (by omega)).mono ?_
            rintro e w' ⟨rfl, rfl⟩
            rw [← HA.out]
            go_wp2_with fail
            refine (shared_any down [(t : Int), (l : Int)] n n gv 2 2 _ _ (by exact ((ol.alloc _).alloc _).sd) o.ld h8 o.bd (Ints.at2 _ _ _ _ (by simp)) rfl (by omega)).mono ?_
            rintro e w' ⟨rfl, rfl⟩
            rw [← HB.out]
            go_wp2
            go_ret
            exact ⟨ret_b (latB_no (a := t) (b := l) (by rw [HL.out]; exact hlt) (by rw [HL.out]; exact hltl) HK.out).symm, (hbl.alloc (by omega) _).alloc (by simp; omega) _⟩
        · obtain rfl : l = n := by omega
          go_wp2
          go_roundw
          case rel => exact ⟨t + 1, by omega, by go_num, Lib.hid (latTo_next hM.out (by have := HL.out; omega)), hbl⟩
          case measure => simp [intOf]; omega
    · obtain rfl : t = n := by omega
      go_wp2
      go_ret
      exact ⟨ret_b (latTo_all hL.out (by have := HL.out; omega)).symm, hb⟩

end Go.Proofs.Ytogmiofmhmbhbaa
