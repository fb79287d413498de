/- The walk of the document's New. -/
import Derived.Test.YtogmiofmhmbhbaaNf
import Derived.Test.YtogmiofmhmbhbaaPl
namespace Go.Proofs.Ytogmiofmhmbhbaa
open Go.RowKit

theorem MatAt.set_far {w : World} {B n g : Nat} {v u : Value} {f : Tab} (h : MatAt w B n v f) (hg : w.cell? ⟨g, 0, none⟩ = some (.slice none 0 0)) (h1 : 1 ≤ n) : MatAt (w.setCell ⟨g, 0, none⟩ u) B n v f := by
  obtain ⟨go, co, G, C, hv, hgo, hM⟩ := h
  have e1 : go ≠ g := by
    rintro rfl
    have := (hM 0 (by omega)).2.1
    rw [hg] at this
    injection this with this
    injection this with this
    cases this
  refine ⟨go, co, G, C, hv, hgo, fun i hi => ?_⟩
  obtain ⟨x1, x2, x3⟩ := hM i hi
  have e2 : G i ≠ g := by
    intro e
    have := x3 0 (by omega)
    rw [e, hg] at this
    injection this with this
    cases this
  exact ⟨x1, (World.cell?_setCell_other _ _ _ _ (fun e => by injection e with e; exact e1 e.symm)).trans x2, fun j hj => (World.cell?_setCell_other _ _ _ _ (fun e => by injection e with e; exact e2 e.symm)).trans (x3 j hj)⟩

def RNewPost (w : World) (n : Int) (es : List (Int × Int)) (e : Ending) (w' : World) : Prop :=
  Below w.heap.size w w' ∧
  ((¬ (1 ≤ n ∧ n ≤ 8) ∧ e = .returned (.tuple #[.agg #[.slice none 0 0], .int .i64 22])) ∨
   (1 ≤ n ∧ n ≤ 8 ∧ badEs n es = true ∧ e = .returned (.tuple #[.agg #[.slice none 0 0], .int .i64 30])) ∨
   (1 ≤ n ∧ n ≤ 8 ∧ badEs n es = false ∧ latB (reachL n.toNat es) (turnedL (reachL n.toNat es)) = false ∧ e = .returned (.tuple #[.agg #[.slice none 0 0], .int .i64 31])) ∨
   (1 ≤ n ∧ n ≤ 8 ∧ badEs n es = false ∧ latB (reachL n.toNat es) (turnedL (reachL n.toNat es)) = true ∧
      ∃ v, MatAt w' w'.heap.size n.toNat v (fCl n.toNat es) ∧ e = .returned (.tuple #[.agg #[v], .int .i64 0])))

set_option maxHeartbeats 1000000 in
theorem rnew_many (w : World) (n : Int) (m c : Nat) (A : Option Addr) (es : List (Int × Int)) (hn : ¬ (1 ≤ n ∧ n ≤ 8)) :
    Calls Try.prog 13 #[.int .i64 n, .slice A m c] w (RNewPost w n es) := by
  have HN := Lib.hid hn
  have hb : Below w.heap.size w (w.alloc (.cells #[.slice none 0 0] 31)) := (Below.refl _ _).alloc (Nat.le_refl _) _
  by_cases h1 : n < 1
  all_goals by_cases h2 : 8 < n
  all_goals first | (exfalso; omega) | clear hn
  all_goals
    go_enter Try.func13, Try.ntmps13
    go_wp2
    exact bodyPost_ret (v := .tuple #[.agg #[.slice none 0 0], .int .i64 22]) (by simp [results, Try.results13, go_sem]) rfl ⟨hb, .inl ⟨HN.out, rfl⟩⟩

set_option maxRecDepth 100000 in
set_option maxHeartbeats 4000000 in
theorem rnew_in (w : World) (n m c off : Nat) (A : Option Addr) (es : List (Int × Int)) (hE : EdgesIn w w.heap.size A off es) (hm : es.length = m) (hm2 : m ≤ 4611686018427387904) (h1 : 1 ≤ n) (h8 : n ≤ 8) :
    Calls Try.prog 13 #[.int .i64 n, .slice A m c] w (RNewPost w n es) := by
  have HM := Lib.hid hm
  clear hm
  obtain ⟨g, hg⟩ : ∃ g, g = w.heap.size := ⟨_, rfl⟩
  obtain ⟨w0, hw0⟩ : ∃ w0, w0 = w.alloc (.cells #[.slice none 0 0] 31) := ⟨_, rfl⟩
  have hb0 : Below g w w0 := by rw [hw0, hg]; exact (Below.refl _ _).alloc (Nat.le_refl _) _
  have e0 : w0.heap[g]? = some (.cells #[.slice none 0 0] 31 (0, 0)) := by rw [hw0, hg]; exact heap_alloc_new w _
  have hs0 : g < w0.heap.size := by rw [hw0, hg]; simp
  have HG := Lib.hid hg
  have HW0 := Lib.hid hw0
  clear hg hw0
  go_enter Try.func13, Try.ntmps13
  go_wp2
  rw [← HW0.out, ← HG.out]
  go_loop [6] (fun i => ∃ k : Nat, k ≤ m ∧ i = .int .i64 k ∧ Hid (∀ j, j < k → wrongE n (ge es j) = false)) (fun i => m - (intOf i).toNat)
  case atStart => exact ⟨0, Nat.zero_le _, rfl, fun j hj => absurd hj (by omega)⟩
  case round =>
    obtain ⟨k, hk, rfl, hno⟩ := hrel
    by_cases hlt : k < m
    · obtain ⟨b, rfl, hbb, ha0, ha1⟩ := (hE.below (by rw [← HG.out]; exact hb0)) k (by rw [HM.out]; exact hlt)
      obtain ⟨x, hx⟩ : ∃ x, x = (ge es k).1 := ⟨_, rfl⟩
      obtain ⟨y, hy⟩ : ∃ y, y = (ge es k).2 := ⟨_, rfl⟩
      have HXY : Hid (wrongE n (ge es k) = (decide (x < 0) || decide (y < 0) || decide ((n : Int) ≤ x) || decide ((n : Int) ≤ y))) := Lib.hid (by rw [hx, hy]; rfl)
      rw [← hx] at ha0
      rw [← hy] at ha1
      have q1 := cell_of_row w0 g 0 _ _ (0, 0) e0
      have q2 := frozen_of_row w0 g 0 _ _ e0
      simp at q1
      clear hx hy
      have hbad : wrongE n (ge es k) = true → RNewPost w n es (.returned (.tuple #[.agg #[.slice none 0 0], .int .i64 30])) (w0.setCell ⟨g, 0, none⟩ (.slice none 0 0)) := fun e =>
        ⟨by rw [← HG.out]; exact hb0.setCell (Nat.le_refl _) _, .inr (.inl ⟨by omega, by omega, badEs_hit (k := k) (by rw [HM.out]; exact hlt) e, rfl⟩)⟩
      have HBAD := Lib.hid hbad
      clear hbad
      by_cases c1 : x < 0
      · go_wp2
        exact bodyPost_ret (v := .tuple #[.agg #[.slice none 0 0], .int .i64 30]) (by simp [results, Try.results13, go_sem, q1]) rfl (HBAD.out (by rw [HXY.out]; simp [c1]))
      by_cases c2 : (n : Int) ≤ x
      · go_wp2
        exact bodyPost_ret (v := .tuple #[.agg #[.slice none 0 0], .int .i64 30]) (by simp [results, Try.results13, go_sem, q1]) rfl (HBAD.out (by rw [HXY.out]; simp [c2]))
      by_cases c3 : y < 0
      · go_wp2
        exact bodyPost_ret (v := .tuple #[.agg #[.slice none 0 0], .int .i64 30]) (by simp [results, Try.results13, go_sem, q1]) rfl (HBAD.out (by rw [HXY.out]; simp [c3]))
      by_cases c4 : (n : Int) ≤ y
      · go_wp2
        exact bodyPost_ret (v := .tuple #[.agg #[.slice none 0 0], .int .i64 30]) (by simp [results, Try.results13, go_sem, q1]) rfl (HBAD.out (by rw [HXY.out]; simp [c4]))
      have HOK : Hid (wrongE n (ge es k) = false) := Lib.hid (by rw [HXY.out]; simp [c1, c2, c3, c4])
      go_wp2
      go_round
      case rel => exact ⟨k + 1, by omega, by go_num, Lib.hid (fun j hj => by
        by_cases e : j = k
        · subst e; exact HOK.out
        · exact hno.out j (by omega))⟩
      case measure => simp [intOf]; omega
    · obtain rfl : m = k := by omega
      have hbe : badEs n es = false := badEs_miss (k := m) (by rw [HM.out]; exact Nat.le_refl _) hno.out
      have HBE := Lib.hid hbe
      have HRE : Hid (RightEs n es) := Lib.hid (badEs_no hbe)
      clear hbe
      go_wp2_with fail
      refine (closed_any _ n m c off A es ((hE.below (by rw [← HG.out]; exact hb0)).more (by have := HG.out; omega)) HM.out hm2 h1 h8 HRE.out).mono ?_
      rintro e w1 ⟨v, rfl, hM1, hb1⟩
      obtain ⟨go, co, G, C, rfl, hgo, hMc⟩ := hM1
      have hM1 : MatAt w1 w1.heap.size n (.slice (some ⟨go, 0, none⟩) n co) (fCl n es) := ⟨go, co, G, C, rfl, hgo, hMc⟩
      have hbg1 : Below g w w1 := hb0.trans (hb1.mono (by omega))
      have eg1 := (hb1.block g hs0).trans e0
      have hs1 := hb1.size
      obtain ⟨g7, hg7⟩ : ∃ g7, g7 = w1.heap.size := ⟨_, rfl⟩
      obtain ⟨w2, hw2⟩ : ∃ w2, w2 = w1.alloc (.cells #[.slice (some ⟨go, 0, none⟩) n co] 31) := ⟨_, rfl⟩
      have hb12 : Below g7 w1 w2 := by rw [hw2, hg7]; exact (Below.refl _ _).alloc (Nat.le_refl _) _
      have e7 : w2.heap[g7]? = some (.cells #[.slice (some ⟨go, 0, none⟩) n co] 31 (0, 0)) := by rw [hw2, hg7]; exact heap_alloc_new w1 _
      have hs2 : w2.heap.size = g7 + 1 := by rw [hw2, hg7]; simp
      have hM2 : MatAt w2 w2.heap.size n (.slice (some ⟨go, 0, none⟩) n co) (fCl n es) := (hM1.below (by rw [← hg7]; exact hb12)).more (by omega)
      have HW2 := Lib.hid hw2
      have HG7 := Lib.hid hg7
      have HS2 := Lib.hid hs2
      have HM2 := Lib.hid hM2
      clear hw2 hg7 hs2 hM1 hM2 hMc hgo
      go_wp2_with fail
      rw [← HW2.out, ← HG7.out]
      refine (turnedR_any w2 n _ (fCl n es) HM2.out h1 h8).mono ?_
      rintro e w3 ⟨vt, rfl, hMt, hb23⟩
      obtain ⟨gt, ct, Gt, Ct, rfl, hgt, hMtc⟩ := hMt
      have hM3t : MatAt w3 w3.heap.size n (.slice (some ⟨gt, 0, none⟩) n ct) (fun a b => fCl n es b a) := ⟨gt, ct, Gt, Ct, rfl, hgt, hMtc⟩
      obtain ⟨g8, hg8⟩ : ∃ g8, g8 = w3.heap.size := ⟨_, rfl⟩
      obtain ⟨w4, hw4⟩ : ∃ w4, w4 = w3.alloc (.cells #[.slice (some ⟨gt, 0, none⟩) n ct] 31) := ⟨_, rfl⟩
      have hs3 := hb23.size
      have hb34 : Below g8 w3 w4 := by rw [hw4, hg8]; exact (Below.refl _ _).alloc (Nat.le_refl _) _
      have e8 : w4.heap[g8]? = some (.cells #[.slice (some ⟨gt, 0, none⟩) n ct] 31 (0, 0)) := by rw [hw4, hg8]; exact heap_alloc_new w3 _
      have hs4 : w4.heap.size = g8 + 1 := by rw [hw4, hg8]; simp
      have HW4 := Lib.hid hw4
      have HG8 := Lib.hid hg8
      have HS4 := Lib.hid hs4
      have hlt2 : g7 < w2.heap.size := by have := HS2.out; omega
      have e74 := (hb34.block g7 (by omega)).trans ((hb23.block g7 hlt2).trans e7)
      have eg2 : w2.heap[g]? = some (.cells #[.slice none 0 0] 31 (0, 0)) := (hb12.block g (by have := HG7.out; omega)).trans eg1
      have eg4 := (hb34.block g (by have := HG7.out; omega)).trans ((hb23.block g (by have := HG7.out; omega)).trans eg2)
      have hM4 : MatAt w4 w4.heap.size n (.slice (some ⟨go, 0, none⟩) n co) (fCl n es) := (((HM2.out.below hb23).more hs3).below (by rw [← hg8]; exact hb34)).more (by omega)
      have hM4t : MatAt w4 w4.heap.size n (.slice (some ⟨gt, 0, none⟩) n ct) (fun a b => fCl n es b a) := (hM3t.below (by rw [← hg8]; exact hb34)).more (by omega)
      have hbg4 : Below g w w4 := ((hbg1.trans (hb12.mono (by have := HG7.out; omega))).trans (hb23.mono (by have := HG7.out; omega))).trans (hb34.mono (by have := HG7.out; omega))
      have hsay := fCl_says n es HRE.out
      have hpre := reach_pre n es HRE.out
      obtain ⟨f, hf⟩ : ∃ f, f = fCl n es := ⟨_, rfl⟩
      rw [← hf] at hM4 hM4t hsay
      have HF := Lib.hid hf
      obtain ⟨U, hU⟩ : ∃ U, U = reachL n es := ⟨_, rfl⟩
      rw [← hU] at hsay hpre
      have HU := Lib.hid hU
      have HSAY := Lib.hid hsay
      have HPRE := Lib.hid hpre
      have HM4 := Lib.hid hM4
      have HM4T := Lib.hid hM4t
      clear hw4 hg8 hs4 hM3t hMtc hgt hf hU hsay hpre hM4 hM4t e7 e8 eg1 eg2 hb12 hb1 hb0 hbg1 hb23 hb34
      have e84 : w4.heap[g8]? = some (.cells #[.slice (some ⟨gt, 0, none⟩) n ct] 31 (0, 0)) := by rw [HW4.out, HG8.out]; exact heap_alloc_new w3 _
      have hl1 : g < w4.heap.size := by have := HS4.out; have := HG7.out; have := HG8.out; omega
      have hl2 : g7 < w4.heap.size := by have := HS4.out; have := HG8.out; omega
      have hl3 : g8 < w4.heap.size := by have := HS4.out; omega
      go_wp2
      rw [← HW4.out, ← HG8.out]
      go_loopw [9] (fun i wr => ∃ a : Nat, a ≤ n ∧ i = .int .i64 a ∧ Hid (latTo U (turnedL U) a 0) ∧ Below w4.heap.size w4 wr) (fun i _ => n - (intOf i).toNat)
      case atStart => exact ⟨0, Nat.zero_le _, rfl, ⟨fun x hx => absurd hx (by omega), fun y hy => absurd hy (by omega)⟩, Below.refl _ _⟩
      case round =>
        obtain ⟨a, ha, rfl, hL, hba⟩ := hrel
        by_cases hlta : a < n
        · go_wp2
          go_loopw [10] (fun i wr => ∃ b : Nat, b ≤ n ∧ i = .int .i64 b ∧ Hid (latTo U (turnedL U) a b) ∧ Below w4.heap.size w4 wr) (fun i _ => n - (intOf i).toNat)
          case atStart => exact ⟨0, Nat.zero_le _, rfl, hL, hba⟩
          case round =>
            obtain ⟨b, hb, rfl, hLb, hbb⟩ := hrel
            by_cases hltb : b < n
            · have hbk := okAB_ref HPRE.out HSAY.out hlta hltb
              obtain ⟨l1, hl1e⟩ : ∃ l1, l1 = leastF n f [(a : Int), (b : Int)] := ⟨_, rfl⟩
              obtain ⟨l2, hl2e⟩ : ∃ l2, l2 = leastF n (fun a b => f b a) [(a : Int), (b : Int)] := ⟨_, rfl⟩
              rw [← hl1e, ← hl2e] at hbk
              have HL1 := Lib.hid hl1e
              have HL2 := Lib.hid hl2e
              have HBK := Lib.hid hbk
              have qg := cell_of_row wr g 0 _ _ (0, 0) ((hbb.block g hl1).trans eg4)
              have qgf := frozen_of_row wr g 0 _ _ ((hbb.block g hl1).trans eg4)
              have q7 := cell_of_row wr g7 0 _ _ (0, 0) ((hbb.block g7 hl2).trans e74)
              have q8 := cell_of_row wr g8 0 _ _ (0, 0) ((hbb.block g8 hl3).trans e84)
              simp at qg q7 q8
              obtain ⟨go2, co2, G2, C2, hv2, hgo2, hMc2⟩ := HM4.out
              simp only [Value.slice.injEq, Option.some.injEq, Addr.mk.injEq, and_true, true_and] at hv2
              obtain ⟨rfl, rfl⟩ := hv2
              have k1 := (hbb.cell (p := ⟨go, a, none⟩) hgo2).trans (hMc2 a hlta).2.1
              have k2 := (hbb.cell (p := ⟨go, b, none⟩) hgo2).trans (hMc2 b hltb).2.1
              have k3 := (hbb.cell (p := ⟨G2 a, b, none⟩) (hMc2 a hlta).1).trans ((hMc2 a hlta).2.2 b hltb)
              have k4 := (hbb.cell (p := ⟨G2 b, a, none⟩) (hMc2 b hltb).1).trans ((hMc2 b hltb).2.2 a hlta)
              have hsb := hbb.size
              have hz : ∀ z ∈ [(a : Int), (b : Int)], 0 ≤ z ∧ z < n := by
                intro z hz
                simp at hz
                omega
              have HZ := Lib.hid hz
              have hbad : okAB U (turnedL U) a b = false → ∀ wz, Below g w wz → RNewPost w n es (.returned (.tuple #[.agg #[.slice none 0 0], .int .i64 31])) (wz.setCell ⟨g, 0, none⟩ (.slice none 0 0)) := fun e wz hwz =>
                ⟨by rw [← HG.out]; exact hwz.setCell (Nat.le_refl _) _, .inr (.inr (.inl ⟨by omega, by omega, HBE.out, by
                  rw [Int.toNat_natCast, ← HU.out]; exact latB_no (a := a) (b := b) (by rw [HPRE.out.len]; exact hlta) (by rw [HPRE.out.len]; exact hltb) e, rfl⟩))⟩
              have HBAD := Lib.hid hbad
              have HMR : Hid (MatAt wr wr.heap.size n (.slice (some ⟨go, 0, none⟩) n co) f) := Lib.hid ((HM4.out.below hbb).more hsb)
              have HMRT : Hid (MatAt wr wr.heap.size n (.slice (some ⟨gt, 0, none⟩) n ct) (fun a b => f b a)) := Lib.hid ((HM4T.out.below hbb).more hsb)
              have hbgr : Below g w wr := hbg4.trans (hbb.mono (by omega))
              have HEG : Hid (wr.heap[g]? = some (.cells #[.slice none 0 0] 31 (0, 0))) := Lib.hid ((hbb.block g hl1).trans eg4)
              have HE8 : Hid (wr.heap[g8]? = some (.cells #[.slice (some ⟨gt, 0, none⟩) n ct] 31 (0, 0))) := Lib.hid ((hbb.block g8 hl3).trans e84)
              clear hbk hl1e hl2e hMc2 hgo2 hz hbad
              have hdis : a = b ∨ (a ≠ b ∧ f a b = false) ∨ (a ≠ b ∧ f a b = true ∧ f b a = false) ∨ (a ≠ b ∧ f a b = true ∧ f b a = true) := by
                by_cases e : a = b
                · exact .inl e
                · cases f a b <;> cases f b a <;> simp [e]
              have fin : ∀ (nb : Bool), ((a : Int) != (b : Int)) = nb → decide (a ≠ b) = nb := by
                intro nb hnb
                rw [← hnb]
                by_cases e : a = b
                · subst e; simp
                · have : ¬ (a : Int) = b := by omega
                  simp [e, this]
              have HFIN := Lib.hid fin
              clear fin
              rcases hdis with he | ⟨he, hu⟩ | ⟨he, hu, hx⟩ | ⟨he, hu, hx⟩
              · have hne : ((a : Int) != (b : Int)) = false := by rw [he]; simp
                have HKT : Hid (okAB U (turnedL U) a b = (decide (0 ≤ l1) && decide (0 ≤ l2))) := Lib.hid (by rw [HBK.out, HFIN.out _ hne]; simp)
                clear he k1 k2 k3 k4
                go_wp2_with fail
                refine (least_any _ n 2 2 _ f _ [(a : Int), (b : Int)] (by exact (HMR.out.below ((Below.refl _ _).alloc (Nat.le_refl _) _)).more (by simp)) (Ints.at2 _ _ _ _ (by simp)) rfl (by omega) h8 HZ.out).mono ?_
                rintro e w5 ⟨rfl, hb5⟩
                rw [← HL1.out]
                have hbr5 : Below wr.heap.size wr w5 := ((Below.refl _ _).alloc (Nat.le_refl _) _).trans (hb5.mono (by simp))
                have hs5 := hbr5.size
                have eg5 := (hbr5.block g (by omega)).trans HEG.out
                have qg5 := cell_of_row w5 g 0 _ _ (0, 0) eg5
                have qf5 := frozen_of_row w5 g 0 _ _ eg5
                simp at qg5
                by_cases h1n : l1 < 0
                · have HKF : Hid (okAB U (turnedL U) a b = false) := Lib.hid (by rw [HKT.out]; simp; omega)
                  go_wp2
                  exact bodyPost_ret (v := .tuple #[.agg #[.slice none 0 0], .int .i64 31]) (by simp [results, Try.results13, go_sem, qg5]) rfl (HBAD.out HKF.out _ (hbgr.trans (hbr5.mono (by omega))))
                · have e85 := (hbr5.block g8 (by omega)).trans HE8.out
                  have q85 := cell_of_row w5 g8 0 _ _ (0, 0) e85
                  simp at q85
                  go_wp2_with fail
                  refine (least_any _ n 2 2 _ (fun a b => f b a) _ [(a : Int), (b : Int)] (by exact (((HMRT.out.below hbr5).more hs5).below ((Below.refl _ _).alloc (Nat.le_refl _) _)).more (by simp)) (Ints.at2 _ _ _ _ (by simp)) rfl (by omega) h8 HZ.out).mono ?_
                  rintro e w6 ⟨rfl, hb6⟩
                  rw [← HL2.out]
                  have hbr6 : Below wr.heap.size wr w6 := hbr5.trans (((Below.refl _ _).alloc hs5 _).trans (hb6.mono (by simp; omega)))
                  have eg6 := (hbr6.block g (by omega)).trans HEG.out
                  have qg6 := cell_of_row w6 g 0 _ _ (0, 0) eg6
                  have qf6 := frozen_of_row w6 g 0 _ _ eg6
                  simp at qg6
                  by_cases h2n : l2 < 0
                  · have HKF : Hid (okAB U (turnedL U) a b = false) := Lib.hid (by rw [HKT.out]; simp; omega)
                    go_wp2
                    exact bodyPost_ret (v := .tuple #[.agg #[.slice none 0 0], .int .i64 31]) (by simp [results, Try.results13, go_sem, qg6]) rfl (HBAD.out HKF.out _ (hbgr.trans (hbr6.mono (by omega))))
                  · have HKO : Hid (okAB U (turnedL U) a b = true) := Lib.hid (by rw [HKT.out]; simp; omega)
                    go_wp2
                    go_roundw
                    case rel => exact ⟨b + 1, by omega, by go_num, Lib.hid (latTo_step hLb.out HKO.out), hbb.trans (hbr6.mono hsb)⟩
                    case measure => simp [intOf]; omega
              · have hne : ((a : Int) != (b : Int)) = true := by rw [bne_iff_ne]; omega
                have HKT : Hid (okAB U (turnedL U) a b = (decide (0 ≤ l1) && decide (0 ≤ l2))) := Lib.hid (by rw [HBK.out, HFIN.out _ hne, hu]; simp)
                rw [hu] at k3
                clear he hu k4
                go_wp2_with fail
                refine (least_any _ n 2 2 _ f _ [(a : Int), (b : Int)] (by exact (HMR.out.below ((Below.refl _ _).alloc (Nat.le_refl _) _)).more (by simp)) (Ints.at2 _ _ _ _ (by simp)) rfl (by omega) h8 HZ.out).mono ?_
                rintro e w5 ⟨rfl, hb5⟩
                rw [← HL1.out]
                have hbr5 : Below wr.heap.size wr w5 := ((Below.refl _ _).alloc (Nat.le_refl _) _).trans (hb5.mono (by simp))
                have hs5 := hbr5.size
                have eg5 := (hbr5.block g (by omega)).trans HEG.out
                have qg5 := cell_of_row w5 g 0 _ _ (0, 0) eg5
                have qf5 := frozen_of_row w5 g 0 _ _ eg5
                simp at qg5
                by_cases h1n : l1 < 0
                · have HKF : Hid (okAB U (turnedL U) a b = false) := Lib.hid (by rw [HKT.out]; simp; omega)
                  go_wp2
                  exact bodyPost_ret (v := .tuple #[.agg #[.slice none 0 0], .int .i64 31]) (by simp [results, Try.results13, go_sem, qg5]) rfl (HBAD.out HKF.out _ (hbgr.trans (hbr5.mono (by omega))))
                · have e85 := (hbr5.block g8 (by omega)).trans HE8.out
                  have q85 := cell_of_row w5 g8 0 _ _ (0, 0) e85
                  simp at q85
                  go_wp2_with fail
                  refine (least_any _ n 2 2 _ (fun a b => f b a) _ [(a : Int), (b : Int)] (by exact (((HMRT.out.below hbr5).more hs5).below ((Below.refl _ _).alloc (Nat.le_refl _) _)).more (by simp)) (Ints.at2 _ _ _ _ (by simp)) rfl (by omega) h8 HZ.out).mono ?_
                  rintro e w6 ⟨rfl, hb6⟩
                  rw [← HL2.out]
                  have hbr6 : Below wr.heap.size wr w6 := hbr5.trans (((Below.refl _ _).alloc hs5 _).trans (hb6.mono (by simp; omega)))
                  have eg6 := (hbr6.block g (by omega)).trans HEG.out
                  have qg6 := cell_of_row w6 g 0 _ _ (0, 0) eg6
                  have qf6 := frozen_of_row w6 g 0 _ _ eg6
                  simp at qg6
                  by_cases h2n : l2 < 0
                  · have HKF : Hid (okAB U (turnedL U) a b = false) := Lib.hid (by rw [HKT.out]; simp; omega)
                    go_wp2
                    exact bodyPost_ret (v := .tuple #[.agg #[.slice none 0 0], .int .i64 31]) (by simp [results, Try.results13, go_sem, qg6]) rfl (HBAD.out HKF.out _ (hbgr.trans (hbr6.mono (by omega))))
                  · have HKO : Hid (okAB U (turnedL U) a b = true) := Lib.hid (by rw [HKT.out]; simp; omega)
                    go_wp2
                    go_roundw
                    case rel => exact ⟨b + 1, by omega, by go_num, Lib.hid (latTo_step hLb.out HKO.out), hbb.trans (hbr6.mono hsb)⟩
                    case measure => simp [intOf]; omega
              · have hne : ((a : Int) != (b : Int)) = true := by rw [bne_iff_ne]; omega
                have HKT : Hid (okAB U (turnedL U) a b = (decide (0 ≤ l1) && decide (0 ≤ l2))) := Lib.hid (by rw [HBK.out, HFIN.out _ hne, hu, hx]; simp)
                rw [hu] at k3
                rw [hx] at k4
                clear he hu hx
                go_wp2_with fail
                refine (least_any _ n 2 2 _ f _ [(a : Int), (b : Int)] (by exact (HMR.out.below ((Below.refl _ _).alloc (Nat.le_refl _) _)).more (by simp)) (Ints.at2 _ _ _ _ (by simp)) rfl (by omega) h8 HZ.out).mono ?_
                rintro e w5 ⟨rfl, hb5⟩
                rw [← HL1.out]
                have hbr5 : Below wr.heap.size wr w5 := ((Below.refl _ _).alloc (Nat.le_refl _) _).trans (hb5.mono (by simp))
                have hs5 := hbr5.size
                have eg5 := (hbr5.block g (by omega)).trans HEG.out
                have qg5 := cell_of_row w5 g 0 _ _ (0, 0) eg5
                have qf5 := frozen_of_row w5 g 0 _ _ eg5
                simp at qg5
                by_cases h1n : l1 < 0
                · have HKF : Hid (okAB U (turnedL U) a b = false) := Lib.hid (by rw [HKT.out]; simp; omega)
                  go_wp2
                  exact bodyPost_ret (v := .tuple #[.agg #[.slice none 0 0], .int .i64 31]) (by simp [results, Try.results13, go_sem, qg5]) rfl (HBAD.out HKF.out _ (hbgr.trans (hbr5.mono (by omega))))
                · have e85 := (hbr5.block g8 (by omega)).trans HE8.out
                  have q85 := cell_of_row w5 g8 0 _ _ (0, 0) e85
                  simp at q85
                  go_wp2_with fail
                  refine (least_any _ n 2 2 _ (fun a b => f b a) _ [(a : Int), (b : Int)] (by exact (((HMRT.out.below hbr5).more hs5).below ((Below.refl _ _).alloc (Nat.le_refl _) _)).more (by simp)) (Ints.at2 _ _ _ _ (by simp)) rfl (by omega) h8 HZ.out).mono ?_
                  rintro e w6 ⟨rfl, hb6⟩
                  rw [← HL2.out]
                  have hbr6 : Below wr.heap.size wr w6 := hbr5.trans (((Below.refl _ _).alloc hs5 _).trans (hb6.mono (by simp; omega)))
                  have eg6 := (hbr6.block g (by omega)).trans HEG.out
                  have qg6 := cell_of_row w6 g 0 _ _ (0, 0) eg6
                  have qf6 := frozen_of_row w6 g 0 _ _ eg6
                  simp at qg6
                  by_cases h2n : l2 < 0
                  · have HKF : Hid (okAB U (turnedL U) a b = false) := Lib.hid (by rw [HKT.out]; simp; omega)
                    go_wp2
                    exact bodyPost_ret (v := .tuple #[.agg #[.slice none 0 0], .int .i64 31]) (by simp [results, Try.results13, go_sem, qg6]) rfl (HBAD.out HKF.out _ (hbgr.trans (hbr6.mono (by omega))))
                  · have HKO : Hid (okAB U (turnedL U) a b = true) := Lib.hid (by rw [HKT.out]; simp; omega)
                    go_wp2
                    go_roundw
                    case rel => exact ⟨b + 1, by omega, by go_num, Lib.hid (latTo_step hLb.out HKO.out), hbb.trans (hbr6.mono hsb)⟩
                    case measure => simp [intOf]; omega
              · have hne : ((a : Int) != (b : Int)) = true := by rw [bne_iff_ne]; omega
                have HKF : Hid (okAB U (turnedL U) a b = false) := Lib.hid (by rw [HBK.out, HFIN.out _ hne, hu, hx]; simp)
                rw [hu] at k3
                rw [hx] at k4
                clear he hu hx
                go_wp2
                exact bodyPost_ret (v := .tuple #[.agg #[.slice none 0 0], .int .i64 31]) (by simp [results, Try.results13, go_sem, qg]) rfl (HBAD.out HKF.out _ hbgr)
            · obtain rfl : n = b := by omega
              go_wp2
              go_roundw
              case rel => exact ⟨a + 1, by omega, by go_num, Lib.hid (latTo_next hLb.out (by rw [HPRE.out.len]; exact Nat.le_refl _)), hbb⟩
              case measure => simp [intOf]; omega
        · obtain rfl : n = a := by omega
          have hlat := latTo_all hL.out (by rw [HPRE.out.len]; exact Nat.le_refl _)
          have qg := cell_of_row wr g 0 _ _ (0, 0) ((hba.block g hl1).trans eg4)
          have qgf := frozen_of_row wr g 0 _ _ ((hba.block g hl1).trans eg4)
          have q7 := cell_of_row wr g7 0 _ _ (0, 0) ((hba.block g7 hl2).trans e74)
          simp at qg q7
          have hend : RNewPost w n es (.returned (.tuple #[.agg #[.slice (some ⟨go, 0, none⟩) n co], .int .i64 0])) (wr.setCell ⟨g, 0, none⟩ (.slice (some ⟨go, 0, none⟩) n co)) :=
            ⟨by rw [← HG.out]; exact (hbg4.trans (hba.mono (by omega))).setCell (Nat.le_refl _) _, .inr (.inr (.inr ⟨by omega, by omega, HBE.out, by
              rw [Int.toNat_natCast, ← HU.out]; exact hlat, _, by
                rw [Int.toNat_natCast, ← HF.out]
                have := ((HM4.out.below hba).more hba.size).set_far (u := .slice (some ⟨go, 0, none⟩) n co) qg h1
                exact this.more (by simp), rfl⟩))⟩
          have HEND := Lib.hid hend
          clear hend hlat
          go_wp2
          exact bodyPost_ret (v := .tuple #[.agg #[.slice (some ⟨go, 0, none⟩) n co], .int .i64 0]) (by simp [results, Try.results13, go_sem, qg]) rfl HEND.out

theorem rnew_any (w : World) (n : Int) (m c off : Nat) (A : Option Addr) (es : List (Int × Int)) (hE : EdgesIn w w.heap.size A off es) (hm : es.length = m) (hm2 : m ≤ 4611686018427387904) :
    Calls Try.prog 13 #[.int .i64 n, .slice A m c] w (RNewPost w n es) := by
  by_cases hn : 1 ≤ n ∧ n ≤ 8
  · obtain ⟨k, rfl⟩ := Int.eq_ofNat_of_zero_le (show 0 ≤ n by omega)
    exact rnew_in w k m c off A es hE hm hm2 (by omega) (by omega)
  · exact rnew_many w n m c A es hn

end Go.Proofs.Ytogmiofmhmbhbaa
