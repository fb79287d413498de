/- Kme -/
import Derived.Test.YtodociiaobjfgaaGreatDoorVd5
import Derived.Test.YtodociiaobjfgaaGreatDoorVd6
import Derived.Test.YtodociiaobjfgaaGreatDoorVd7
import Derived.Test.YtodociiaobjfgaaGreatDoorVd8
import Derived.Test.YtodociiaobjfgaaGreatDoorVd9
set_option linter.unusedVariables false
set_option linter.unusedSimpArgs false
namespace Go.Proofs.YtodociiaobjfgaaGreatDoor
open Go.RowKit
theorem Xsv {w0 : World} {B : Nat} (s : Sm) {E b l : Value} (hE : ∃ A c, E = .slice A s.exprs.length c ∧ Xok w0 B s.exprs A) (hn : s.name.length ≤ 40000) (ht : s.type.length ≤ 40000)
  (hb : RefB w0 B s.body b) (hl : RefB w0 B s.els l) (hbs : ∃ A c, b = .slice A s.body.length c) (hls : ∃ A c, l = .slice A s.els.length c) : RefS w0 B s E b l := by
 obtain ⟨k, p, nm, ty, ex, bd, el⟩ := s
 intro depth left w hbw hB hd0 hd hl0 hl1
 obtain ⟨A, c, rfl, hA⟩ := hE
 obtain ⟨A2, m2, rfl⟩ := hbs
 obtain ⟨A3, m3, rfl⟩ := hls
 have hA : Xok w0 B ex A := hA
 have hn : nm.length ≤ 40000 := hn
 have ht : ty.length ≤ 40000 := ht
 have hb : RefB w0 B bd (.slice A2 bd.length m2) := hb
 have hl : RefB w0 B el (.slice A3 el.length m3) := hl
 show Calls Tryz.prog 49 #[.agg #[.int .i64 k, .int .i64 p, .string (Xaa nm), .string (Xaa ty), .slice A ex.length c, .slice A2 bd.length m2, .slice A3 el.length m3], .int .i64 depth, .int .i64 left] w
   fun e w' => e = .returned (.int .i64 (Xkh (.mk k p nm ty ex bd el) depth left)) ∧ Below w.heap.size w w'
 obtain ⟨R, hR⟩ : ∃ R, R = Xkh (.mk k p nm ty ex bd el) depth left := ⟨_, rfl⟩
 have hcases := fun h1 h2 => Xlh (k := k) h1 h2 nm ty ex bd.length el.length
 rw [← hR]
 rw [Xre] at hR
 have hL2 := fun l1 (h : 0 ≤ l1) => (Xks bd (depth + 1) l1).le h
 have hfk : ∀ (h : 0 < ex.length), ex[0].kind = fkOf ex := fun h => by cases ex with | nil => simp at h | cons e r => rfl
 obtain ⟨nx, hnx⟩ : ∃ n, n = ex.length := ⟨_, rfl⟩
 obtain ⟨nb, hnb⟩ : ∃ n, n = bd.length := ⟨_, rfl⟩
 obtain ⟨nl, hnl⟩ : ∃ n, n = el.length := ⟨_, rfl⟩
 obtain ⟨tn, htn⟩ : ∃ n, n = tyN ty := ⟨_, rfl⟩
 obtain ⟨bn, hbn⟩ : ∃ n, n = Xam nm := ⟨_, rfl⟩
 obtain ⟨bt, hbt⟩ : ∃ n, n = Xam ty := ⟨_, rfl⟩
 obtain ⟨bz, hbz⟩ : ∃ n, n = nm.isEmpty := ⟨_, rfl⟩
 obtain ⟨em, hem⟩ : ∃ n, n = ty.isEmpty := ⟨_, rfl⟩
 obtain ⟨SN, hSN⟩ : ∃ n, n = Xaa nm := ⟨_, rfl⟩
 obtain ⟨ST, hST⟩ : ∃ n, n = Xaa ty := ⟨_, rfl⟩
 obtain ⟨fk, hfk2⟩ : ∃ n, n = fkOf ex := ⟨_, rfl⟩
 obtain ⟨ow, how⟩ : ∃ o : Int, o = ((ownS k ty ex.length : Nat) : Int) := ⟨_, rfl⟩
 obtain ⟨st, hst⟩ : ∃ b, b = Xay k nm ty ex bd.length el.length := ⟨_, rfl⟩
 obtain ⟨L1, hL1⟩ : ∃ x, x = exsB ex (depth + 1) (left - ow) := ⟨_, rfl⟩
 have hL1le : L1 ≤ 100000 := by
  rw [hL1]
  have ho : 0 ≤ ow := by rw [how]; omega
  by_cases h0 : 0 ≤ left - ow
  · have := exsB_le ex (depth + 1) h0; omega
  · rw [Xgl _ _ (by omega)]; omega
 have hsn : SN.toList.isEmpty = bz := by rw [hSN, Xaf, hbz]
 have hse : ST.toList.isEmpty = em := by rw [hST, Xaf, hem]
 have ht3 : tn ≤ 3 := by rw [htn]; exact Xxh _
 rw [← hst, ← how, ← hL1] at hR
 rw [← hst, ← how, ← hbn, ← hbz, ← hem, ← hbt, ← htn, ← hnx, ← hnb, ← hnl, ← hfk2] at hcases
 have hfk : ∀ (h : 0 < ex.length), ex[0].kind = fk := fun h => by rw [hfk2]; exact hfk h
 obtain ⟨X, hX⟩ : ∃ X : World, X = w.alloc (.cells #[.int .i64 k, .int .i64 p, .string SN, .string ST, .slice A nx c, .slice A2 nb m2, .slice A3 nl m3] 38) := ⟨_, rfl⟩
 obtain ⟨g, hg⟩ : ∃ g, g = w.heap.size := ⟨_, rfl⟩
 have hbx : Below w.heap.size w X := by rw [hX]; exact (Below.refl _ _).alloc (Nat.le_refl _) _
 have hrow : Xbp X g k p SN ST (.slice A nx c) (.slice A2 nb m2) (.slice A3 nl m3) := by rw [hX, hg]; exact Xbp.new _ _ _ _ _ _ _ _
 have hcells : ∀ V : World, Below X.heap.size X V → V.cell? ⟨g, 0, none⟩ = some (.int .i64 k) ∧ V.cell? ⟨g, 2, none⟩ = some (.string SN) ∧ V.cell? ⟨g, 3, none⟩ = some (.string ST) ∧ V.cell? ⟨g, 4, none⟩ = some (.slice A nx c) ∧ V.cell? ⟨g, 5, none⟩ = some (.slice A2 nb m2) ∧ V.cell? ⟨g, 6, none⟩ = some (.slice A3 nl m3) := fun V hV => by
  have h := hrow.below hV (Xab hrow)
  exact ⟨h.c0, h.c2, h.c3, h.c4, h.c5, h.c6⟩
 have hB0 : ∀ V : World, Below X.heap.size X V → Below B w0 V ∧ B ≤ V.heap.size := fun V hV => ⟨hbw.trans ((hbx.trans (hV.mono hbx.size)).mono hB), Nat.le_trans hB (Nat.le_trans hbx.size hV.size)⟩
 have up : ∀ {V V' : World}, Below X.heap.size X V → Below V.heap.size V V' → Below X.heap.size X V' := fun h1 h2 => h1.trans (h2.mono h1.size)
 have HNM : Hid (∀ V, Below X.heap.size X V → Calls Tryz.prog 30 #[.string SN] V fun e w' => e = .returned (.bool bn) ∧ Below X.heap.size X w') := lh fun V hV => by
  rw [hSN, hbn]; exact (Xhn V nm hn).mono fun e w' h => ⟨h.1, up hV h.2⟩
 have HNT : Hid (∀ V, Below X.heap.size X V → Calls Tryz.prog 30 #[.string ST] V fun e w' => e = .returned (.bool bt) ∧ Below X.heap.size X w') := lh fun V hV => by
  rw [hST, hbt]; exact (Xhn V ty ht).mono fun e w' h => ⟨h.1, up hV h.2⟩
 have HTY : Hid (∀ V, Below X.heap.size X V → Calls Tryz.prog 31 #[.string ST] V fun e w' => ∃ A' c', e = .returned (.slice A' tn c') ∧ Below X.heap.size X w') := lh fun V hV => by
  rw [hST, htn]
  refine (Xkl V ty ht).mono fun e w' => ?_
  rintro ⟨A', c', h1, _, h2⟩
  exact ⟨A', c', h1, up hV h2⟩
 have HXP : Hid (1 ≤ k → k ≤ 11 → ∀ V, Below X.heap.size X V → Calls Tryz.prog 61 #[.int .i64 k] V fun e w' => e = .returned (.int .i64 (exN k)) ∧ Below X.heap.size X w') := lh fun h1 h2 V hV =>
  (Xnx h1 h2 V).mono fun e w' h => ⟨h.1, by rw [h.2]; exact hV⟩
 have HBD : Hid (∀ l1 V, Below X.heap.size X V → 0 ≤ l1 → l1 ≤ 100000 → Calls Tryz.prog 33 #[.slice A2 nb m2, .int .i64 (depth + 1), .int .i64 l1] V fun e w' => e = .returned (.int .i64 (Xbw bd (depth + 1) l1)) ∧ Below X.heap.size X w') := lh fun l1 V hV h1 h2 => by
  rw [hnb]; exact (hb (depth + 1) l1 V (hB0 V hV).1 (hB0 V hV).2 (by omega) (by omega) h1 h2).mono fun e w' h => ⟨h.1, up hV h.2⟩
 have HEL : Hid (∀ l1 V, Below X.heap.size X V → 0 ≤ l1 → l1 ≤ 100000 → Calls Tryz.prog 33 #[.slice A3 nl m3, .int .i64 (depth + 1), .int .i64 l1] V fun e w' => e = .returned (.int .i64 (Xbw el (depth + 1) l1)) ∧ Below X.heap.size X w') := lh fun l1 V hV h1 h2 => by
  rw [hnl]; exact (hl (depth + 1) l1 V (hB0 V hV).1 (hB0 V hV).2 (by omega) (by omega) h1 h2).mono fun e w' h => ⟨h.1, up hV h.2⟩
 have HEX : Hid (∀ (j : Nat) (hj : j < ex.length), ∃ b off yk yp yn ys yv, A = some ⟨b, off, none⟩ ∧ (∀ V, Below X.heap.size X V →
   V.cell? ⟨b, off + j * 5, none⟩ = some (.int .i64 yk) ∧ V.cell? ⟨b, off + j * 5 + 1, none⟩ = some (.int .i64 yp) ∧ V.cell? ⟨b, off + j * 5 + 2, none⟩ = some (.int .i64 yn) ∧ V.cell? ⟨b, off + j * 5 + 3, none⟩ = some (.string ys) ∧ V.cell? ⟨b, off + j * 5 + 4, none⟩ = some yv) ∧
   yk = ex[j].kind ∧ ∀ (l : Int) (V : World), Below X.heap.size X V → l ≤ 100000 →
   Calls Tryz.prog 62 #[.agg #[.int .i64 yk, .int .i64 yp, .int .i64 yn, .string ys, yv], .int .i64 (depth + 1), .int .i64 0, .int .i64 l] V fun e w' => e = .returned (.int .i64 (Xdb ex[j] (depth + 1) 0 l)) ∧ Below X.heap.size X w') := lh fun j hj => by
  obtain ⟨b, off, yk, yp, yn, ys, yv, h1, h2, h3, h4, h5, h6, h7, h8, h9⟩ := hA j hj
  refine ⟨b, off, yk, yp, yn, ys, yv, h1, fun V hV => ?_, h8, fun l V hV hl => ?_⟩
  · have e := (hB0 V hV).1
    exact ⟨(e.cell (p := ⟨b, _, none⟩) h2).trans h3, (e.cell (p := ⟨b, _, none⟩) h2).trans h4, (e.cell (p := ⟨b, _, none⟩) h2).trans h5, (e.cell (p := ⟨b, _, none⟩) h2).trans h6, (e.cell (p := ⟨b, _, none⟩) h2).trans h7⟩
  · exact (h9 (depth + 1) l V (hB0 V hV).1 (hB0 V hV).2 (by omega) (by omega) hl).mono fun e w' h => ⟨h.1, up hV h.2⟩
 obtain ⟨xk, hxk⟩ : ∃ x, x = exN k := ⟨_, rfl⟩
 rw [← hxk] at HXP
 have HKD : Hid (st = true → 1 ≤ k ∧ k ≤ 11) := lh (fun h => Xem (hst.symm.trans h))
 have HX := lh hX
 have HR := lh hR
 have HC := lh hcells
 have HEND : Hid (∀ V, Below X.heap.size X V → Below g w V) := lh (fun V hV => by rw [hg]; exact hbx.trans (hV.mono hbx.size))
 have HST : Hid (∀ x : Int, x = left - ow → exsB (ex.drop 0) (depth + 1) x = L1) := lh (fun x h => by rw [h, hL1]; rfl)
 have F : StF w X g k p SN ST A A2 A3 c m2 m3 nx nb nl tn bn bt bz em fk depth left ow L1 xk ex bd el := ⟨HX, lh hg, lh (Xab hrow), HC, HNM, HNT, HTY, HXP, HBD, HEL, HEX, HEND, HST, lh hnx, lh hnb, lh hnl, lh hL2, lh hfk, hsn, hse, ht3, hd0, hd, hl0, hl1, hL1le, hxk⟩
 rw [← hSN, ← hST, ← hnx, ← hnb, ← hnl, ← hg]
 have hno : (left < 1 ∨ st = false) → R = -1 := fun h => by rw [HR.out, if_pos h]
 have hyes : 1 ≤ left → st = true → R = Xfv el (depth + 1) (Xfa k bd (depth + 1) L1) := fun h1 h2 => by rw [HR.out, if_neg (by rw [h2]; simp; omega)]
 by_cases hl1' : left < 1
 · exact Xhv F (lh (hno (.inl hl1'))) (.inl hl1')
 by_cases hk1 : k < 1
 · exact Xhv F (lh (hno (.inr (by cases st with | false => rfl | true => have := (HKD.out rfl).1; omega)))) (.inr (.inl hk1))
 by_cases hk2 : 11 < k
 · exact Xhv F (lh (hno (.inr (by cases st with | false => rfl | true => have := (HKD.out rfl).2; omega)))) (.inr (.inr (.inl hk2)))
 rcases hcases (by omega) (by omega) with ⟨h1, hok⟩ | ⟨h1, hok⟩ | ⟨h1, hbad⟩
 · by_cases hk : k = 2
   · exact Xwe F (lh (hyes (by omega) h1)) (by omega) hk hok
   · have hk' : (k = 1 ∨ k = 5 ∨ k = 6 ∨ k = 11) ∨ (k = 7 ∨ k = 8 ∨ k = 9) ∨ k = 10 := by unfold okS at hok; omega
     rcases hk' with hk | hk | hk
     · exact Xwf F (lh (hyes (by omega) h1)) (by omega) hk hok
     · exact Xwg F (lh (hyes (by omega) h1)) (by omega) hk hok
     · exact Xwh F (lh (hyes (by omega) h1)) (by omega) hk hok
 · exact Xny F (lh (hyes (by omega) h1)) (by omega) hok
 · exact Xhv F (lh (hno (.inr h1))) (.inr (.inr (.inr ⟨by omega, by omega, by omega, hbad⟩)))
def StmtEls (w0 : World) (B : Nat) (ss : List Sm) (A : Option Addr) : Prop := ∀ (j : Nat) (hj : j < ss.length), ∃ b off v0 v1 v2 v3 v4 v5 v6, A = some ⟨b, off, none⟩ ∧ b < B ∧
  w0.cell? ⟨b, off + j * 7, none⟩ = some (.int .i64 v0) ∧ w0.cell? ⟨b, off + j * 7 + 1, none⟩ = some (.int .i64 v1) ∧ w0.cell? ⟨b, off + j * 7 + 2, none⟩ = some (.string v2) ∧ w0.cell? ⟨b, off + j * 7 + 3, none⟩ = some (.string v3) ∧
  w0.cell? ⟨b, off + j * 7 + 4, none⟩ = some v4 ∧ w0.cell? ⟨b, off + j * 7 + 5, none⟩ = some v5 ∧ w0.cell? ⟨b, off + j * 7 + 6, none⟩ = some v6 ∧
  ∀ (d l : Int) (w : World), Below B w0 w → B ≤ w.heap.size → 0 ≤ d → d ≤ 24 → 0 ≤ l → l ≤ 100000 →
   Calls Tryz.prog 49 #[.agg #[.int .i64 v0, .int .i64 v1, .string v2, .string v3, v4, v5, v6], .int .i64 d, .int .i64 l] w fun e w' => e = .returned (.int .i64 (Xkh ss[j] d l)) ∧ Below w.heap.size w w'
theorem Xtk (ss : List Sm) (d : Int) {l : Int} (h : l < 0) : Xdv ss d l = l := by
 cases ss with
 | nil => rw [Xdv]
 | cons s ss => rw [Xdv, if_pos h]
theorem Xxc {ss : List Sm} {j : Nat} (hj : j < ss.length) (d : Int) {l : Int} (h : 0 ≤ l) : Xdv (ss.drop j) d l = Xdv (ss.drop (j + 1)) d (Xkh ss[j] d l) := by
 rw [Xuj hj, Xdv, if_neg (by omega)]
set_option maxHeartbeats 2000000 in
set_option maxRecDepth 100000 in
theorem Xpp {w0 : World} {B : Nat} {ss : List Sm} {A : Option Addr} {c : Nat} (hc : ss.length ≤ c) (hM : c ≤ 9223372036854775807) (hA : StmtEls w0 B ss A) : RefB w0 B ss (.slice A ss.length c) := by
 intro depth left w hb hB hd0 hd hl0 hl
 obtain ⟨R, hR⟩ : ∃ R, R = Xbw ss depth left := ⟨_, rfl⟩
 obtain ⟨n, hn⟩ : ∃ n, n = ss.length := ⟨_, rfl⟩
 rw [← hn] at hc
 rw [← hR, ← hn]
 unfold Xbw at hR
 have HR := lh hR
 have HN := lh hn
 have HA := lh hA
 have HB := lh hb
 clear hR hn hA hb
 go_enter Tryz.func33, Tryz.ntmps33
 by_cases h24 : 24 < depth
 · have HRB : Hid (R = -1) := lh (by rw [HR.out, if_pos h24])
   go_wp2
   go_ret
   exact ⟨by rw [HRB.out]; rfl, Below.refl _ _⟩
 have HR1 : Hid (R = Xdv ss depth (left - 2)) := lh (by rw [HR.out, if_neg h24])
 clear HR
 go_wp2
 go_loopw [2, 7] (fun l i wr => ∃ (j : Nat) (ll : Int), j ≤ n ∧ i = .int .i64 j ∧ l = .int .i64 ll ∧ ll ≤ 100000 ∧ Hid (Xdv (ss.drop j) depth ll = R) ∧ Hid (Below w.heap.size w wr)) (fun _ i _ => n - (intOf i).toNat)
 case atStart => exact ⟨0, left - 2, Nat.zero_le _, rfl, rfl, by omega, lh HR1.out.symm, lh (Below.refl _ _)⟩
 case round =>
  obtain ⟨wo, rfl⟩ : ∃ wo : World, wo = wr := ⟨_, rfl⟩
  obtain ⟨j, ll, hj, rfl, rfl, hll, HQ, HBL⟩ := hrel
  by_cases hlt : j < n
  · by_cases hl0' : 0 ≤ ll
    · have hje : j < ss.length := by rw [← HN.out]; exact hlt
      obtain ⟨b, off, v0, v1, v2, v3, v4, v5, v6, rfl, hbB, p0, p1, p2, p3, p4, p5, p6, hcc⟩ := HA.out j hje
      have hbw : Below B w0 wo := HB.out.trans (HBL.out.mono hB)
      have q0 := (hbw.cell (p := ⟨b, _, none⟩) hbB).trans p0
      have q1 := (hbw.cell (p := ⟨b, _, none⟩) hbB).trans p1
      have q2 := (hbw.cell (p := ⟨b, _, none⟩) hbB).trans p2
      have q3 := (hbw.cell (p := ⟨b, _, none⟩) hbB).trans p3
      have q4 := (hbw.cell (p := ⟨b, _, none⟩) hbB).trans p4
      have q5 := (hbw.cell (p := ⟨b, _, none⟩) hbB).trans p5
      have q6 := (hbw.cell (p := ⟨b, _, none⟩) hbB).trans p6
      have hcc := hcc depth ll wo hbw (Nat.le_trans hB HBL.out.size) hd0 (by omega) hl0' hll
      have hgo := Xxc hje depth hl0'
      have hle := (Xki ss[j] depth ll).1.le hl0'
      obtain ⟨lv, hlv⟩ : ∃ x, x = Xkh ss[j] depth ll := ⟨_, rfl⟩
      rw [← hlv] at hcc hgo hle
      have HCC := lh hcc
      have HQ2 : Hid (Xdv (ss.drop (j + 1)) depth lv = R) := lh (by rw [← hgo]; exact HQ.out)
      have hlv2 : lv ≤ 100000 := by omega
      have hwj : IntKind.i64.wrap ((j : Int) + 1) = (j : Int) + 1 := IntWalk.i64_in _ ⟨by omega, by omega⟩
      clear hcc hgo hle hlv HQ p0 p1 p2 p3 p4 p5 p6 hbw HA
      go_wp2_with (first | ((with_reducible refine HCC.out.mono ?_); rintro e w2 ⟨rfl, hb2⟩; have HB2 := lh hb2; clear hb2))
      go_roundw
      case rel => exact ⟨j + 1, lv, by omega, by go_num, rfl, hlv2, HQ2, lh (HBL.out.trans (HB2.out.mono HBL.out.size))⟩
      case measure => simp [intOf]; omega
    · have HRE : Hid (R = ll) := lh (by rw [← HQ.out, Xtk _ _ (by omega)])
      clear HA
      go_wp2
      go_ret
      exact ⟨by rw [HRE.out]; rfl, HBL.out⟩
  · have HRE : Hid (R = ll) := lh (by rw [← HQ.out, List.drop_of_length_le (by have := HN.out; omega), Xdv])
    clear HA
    go_wp2
    go_ret
    exact ⟨by rw [HRE.out]; rfl, HBL.out⟩
theorem Xss {w0 : World} {B : Nat} {ss : List Sm} {v : Value} (h : Xcc w0 (· < B) ss v) : Xbz 40000 ss → RefB w0 B ss v := by
 induction h with
 | mk ss A c fe fb fl hc hM hA he hb hl ihb ihl =>
   intro hs
   refine Xpp hc hM fun j hj => ?_
   obtain ⟨b, off, h1, h2, h3, h4, c0, c1, c2, c3, c4, c5, c6⟩ := hA j hj
   obtain ⟨s1, s2, s3, s4, s5, s6, s7, s8⟩ := Xet (Xel hs j hj)
   refine ⟨b, off, _, _, _, _, _, _, _, h1, h2, c0, c1, c2, c3, c4, c5, c6, fun d l w a1 a2 a3 a4 a5 a6 => ?_⟩
   obtain ⟨A1, m1, e1, k1⟩ := Xou (he j hj) s4
   obtain ⟨A2, m2, e2, _⟩ := (hb j hj).slice
   obtain ⟨A3, m3, e3, _⟩ := (hl j hj).slice
   exact Xsv ss[j] ⟨A1, m1, e1, k1⟩ s1 s2 (ihb j hj s6) (ihl j hj s8) ⟨A2, m2, e2⟩ ⟨A3, m3, e3⟩ d l w a1 a2 a3 a4 a5 a6
end Go.Proofs.YtodociiaobjfgaaGreatDoor
