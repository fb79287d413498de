/- Kub Xk Xl Xm -/
import Derived.Test.YtodociiaobjfgaaGreatDoorVe2
import Derived.Test.YtodociiaobjfgaaGreatDoorVe5
set_option linter.unusedVariables false
set_option linter.unusedSimpArgs false
namespace Go.Proofs.YtodociiaobjfgaaGreatDoor
open Go.RowKit
theorem dcsB_neg (ds : List Dc) {l : Int} (h : l < 0) : dcsB ds l = l := by
 cases ds with
 | nil => rw [dcsB]
 | cons d ds => rw [dcsB, if_pos h]
theorem dcsB_go {ds : List Dc} {j : Nat} (hj : j < ds.length) {l : Int} (h : 0 ≤ l) : dcsB (ds.drop j) l = dcsB (ds.drop (j + 1)) (Xkp ds[j] l) := by
 rw [Xor hj, dcsB, if_neg (by omega)]
theorem Xwo (ds : List Dc) (hn : ds.length ≤ 64) : (dcsB ds 4096 < 0 ∧ fin (penP ds) = ([], 23)) ∨ (0 ≤ dcsB ds 4096 ∧ ∃ T, Xei ds = some T ∧ T.length ≤ 4096 ∧ penP ds = some T) := by
 have h := Xqh ds 4096
 have hp : penP ds = Xei ds := by unfold penP; rw [Xho hn]
 rw [hp]
 cases hT : Xei ds with
 | none =>
   rw [hT] at h
   exact .inl ⟨h, Xlr⟩
 | some T =>
   rw [hT] at h
   have h2 : if ((T.length : Nat) : Int) ≤ 4096 then dcsB ds 4096 = 4096 - (T.length : Nat) else dcsB ds 4096 < 0 := h
   by_cases hl : ((T.length : Nat) : Int) ≤ 4096
   · rw [if_pos hl] at h2
     exact .inr ⟨by omega, T, rfl, by omega, rfl⟩
   · rw [if_neg hl] at h2
     exact .inl ⟨h2, Xiw fun hf => hl (by have := hf.2; omega)⟩
set_option maxHeartbeats 8000000 in
set_option maxRecDepth 100000 in
theorem Xpq (w : World) {ds : List Dc} {v : Value} (hin : Xdl w (· < w.heap.size) ds v) (hsm : ∀ (k : Nat) (hk : k < ds.length), Xcy ds[k]) (hsz : ∀ (k : Nat) (hk : k < ds.length), ds[k].pairs.length ≤ 1000000) :
  Calls Tryz.prog 8 #[.agg #[v]] w fun r w' => r = .returned (.tuple #[.string (Xaa (fin (penP ds)).1), .int .i64 (fin (penP ds)).2]) ∧ Below w.heap.size w w' := by
 obtain ⟨A, c, fp, fb, rfl, hc, hM, hA, hps, hbd⟩ := hin
 obtain ⟨n, hn⟩ : ∃ n, n = ds.length := ⟨_, rfl⟩
 rw [← hn] at hc ⊢
 obtain ⟨X, hX⟩ : ∃ X : World, X = w.alloc (.cells #[.slice A n c] 24) := ⟨_, rfl⟩
 obtain ⟨g, hg⟩ : ∃ g, g = w.heap.size := ⟨_, rfl⟩
 have hbx : Below w.heap.size w X := by rw [hX]; exact (Below.refl _ _).alloc (Nat.le_refl _) _
 have hrow : Xbv X g (.slice A n c) := by rw [hX, hg]; exact Xbv.new _ _
 have hcells : ∀ V : World, Below X.heap.size X V → V.cell? ⟨g, 0, none⟩ = some (.slice A n c) := fun V hV => (hrow.below hV (Xab hrow)).c0
 have hB0 : ∀ V : World, Below X.heap.size X V → Below w.heap.size w V ∧ w.heap.size ≤ V.heap.size := fun V hV => ⟨hbx.trans (hV.mono hbx.size), Nat.le_trans hbx.size hV.size⟩
 have up : ∀ {V V' : World}, Below X.heap.size X V → Below V.heap.size V V' → Below X.heap.size X V' := fun h1 h2 => h1.trans (h2.mono h1.size)
 have hels : ∀ (j : Nat) (hj : j < ds.length), ∃ b off v0 v1 v2 v3 v4 v5 v6, A = some ⟨b, off, none⟩ ∧ (∀ V, Below X.heap.size X V →
   V.cell? ⟨b, off + j * 7, none⟩ = some (.int .i64 v0) ∧ V.cell? ⟨b, off + j * 7 + 1, none⟩ = some (.int .i64 v1) ∧ V.cell? ⟨b, off + j * 7 + 2, none⟩ = some (.int .i64 v2) ∧ V.cell? ⟨b, off + j * 7 + 3, none⟩ = some (.string v3) ∧ V.cell? ⟨b, off + j * 7 + 4, none⟩ = some (.string v4) ∧ V.cell? ⟨b, off + j * 7 + 5, none⟩ = some v5 ∧ V.cell? ⟨b, off + j * 7 + 6, none⟩ = some v6) ∧
   (∀ (l : Int) (V : World), Below X.heap.size X V → 0 ≤ l → l ≤ 100000 → Calls Tryz.prog 17 #[.agg #[.int .i64 v0, .int .i64 v1, .int .i64 v2, .string v3, .string v4, v5, v6], .int .i64 l] V fun e w' => e = .returned (.int .i64 (Xkp ds[j] l)) ∧ Below X.heap.size X w') ∧
   (∀ (T : List (List UInt8)) (V : World), penD ds[j] = some T → T.length ≤ 100000 → Below X.heap.size X V → Calls Tryz.prog 18 #[.agg #[.int .i64 v0, .int .i64 v1, .int .i64 v2, .string v3, .string v4, v5, v6]] V (Xch V T)) := fun j hj => by
  obtain ⟨b, off, h1, h2, h3, h4, p0, p1, p2, p3, p4, p5, p6⟩ := hA j hj
  refine ⟨b, off, ds[j].kind, ds[j].pl, ds[j].num, Xaa ds[j].name, Xaa ds[j].type, fp j, fb j, h1, fun V hV => ?_, fun l V hV l0 l1 => ?_, fun T V hT hTl hV => ?_⟩
  rotate_left 1
  · exact (Xvz ds[j] (hps j hj) (hbd j hj) (hsm j hj) (hsz j hj) l V (hB0 V hV).1 (hB0 V hV).2 l0 l1).mono fun e w' h => ⟨h.1, up hV h.2⟩
  · exact Xst ds[j] (hps j hj) (hbd j hj) (hsm j hj) hT hTl V (hB0 V hV).1 (hB0 V hV).2
  · have e := (hB0 V hV).1
    exact ⟨(e.cell (p := ⟨b, _, none⟩) h2).trans p0, (e.cell (p := ⟨b, _, none⟩) h2).trans p1, (e.cell (p := ⟨b, _, none⟩) h2).trans p2, (e.cell (p := ⟨b, _, none⟩) h2).trans p3, (e.cell (p := ⟨b, _, none⟩) h2).trans p4, (e.cell (p := ⟨b, _, none⟩) h2).trans p5, (e.cell (p := ⟨b, _, none⟩) h2).trans p6⟩
 have hleft := Xwo ds
 rw [← hn] at hleft
 obtain ⟨PE, hPE⟩ : ∃ P, P = penP ds := ⟨_, rfl⟩
 rw [← hPE] at hleft ⊢
 have hbig : 64 < n → fin PE = ([], 23) := fun h => by
  rw [hPE]; unfold penP; rw [Xdo (by rw [← hn]; omega)]; exact Xlr
 obtain ⟨R, hR⟩ : ∃ R, R = dcsB ds 4096 := ⟨_, rfl⟩
 rw [← hR] at hleft
 have HEND : Hid (∀ V, Below X.heap.size X V → Below g w V) := lh (fun V hV => by rw [hg]; exact hbx.trans (hV.mono hbx.size))
 have HX := lh hX
 have HG := lh hg
 have HGL : Hid (g < X.heap.size) := lh (Xab hrow)
 have HC := lh hcells
 have HELS := lh hels
 have HN := lh hn
 have HR := lh hR
 rw [← hg]
 clear hA hps hbd hX hg hbx hrow hcells hB0 up hels hn hPE hR hsm hsz
 go_enter Tryz.func8, Tryz.ntmps8
 go_upto_region 1 with fail
 rw [← HG.out, ← HX.out]
 have c0 := HC.out X (Below.refl _ _)
 by_cases h64 : 64 < n
 · have HF := lh (hbig h64)
   go_wp2
   go_ret2
   exact ⟨by rw [HF.out]; rfl, HEND.out _ (Below.refl _ _)⟩
 have hleft := hleft (by omega)
 clear hbig
 go_wp2
 go_loopw [4, 5] (fun l i wr => ∃ (j : Nat) (ll : Int), j ≤ n ∧ i = .int .i64 j ∧ l = .int .i64 ll ∧ ll ≤ 100000 ∧ Hid (dcsB (ds.drop j) ll = R) ∧ Hid (Below X.heap.size X wr)) (fun _ i _ => n - (intOf i).toNat)
 case atStart => exact ⟨0, 4096, Nat.zero_le _, rfl, rfl, by omega, lh HR.out.symm, lh (Below.refl _ _)⟩
 case round =>
  obtain ⟨wo, rfl⟩ : ∃ wo : World, wo = wr := ⟨_, rfl⟩
  obtain ⟨j, ll, hj, rfl, rfl, hll, HQ, HBL⟩ := hrel
  have c0 := HC.out wo HBL.out
  by_cases hgo : j < n ∧ 0 ≤ ll
  · obtain ⟨hlt, hl0⟩ := hgo
    have hje : j < ds.length := by rw [← HN.out]; exact hlt
    obtain ⟨b, off, v0, v1, v2, v3, v4, v5, v6, rfl, hcl, hcc, -⟩ := HELS.out j hje
    obtain ⟨q0, q1, q2, q3, q4, q5, q6⟩ := hcl wo HBL.out
    have hcc2 := hcc ll wo HBL.out hl0 hll
    have hgo := dcsB_go hje hl0
    have hle := (Xms ds[j] ll).le hl0
    obtain ⟨lv, hlv⟩ : ∃ x, x = Xkp ds[j] ll := ⟨_, rfl⟩
    rw [← hlv] at hcc2 hgo hle
    have HCC := lh hcc2
    have HQ2 : Hid (dcsB (ds.drop (j + 1)) lv = R) := lh (by rw [← hgo]; exact HQ.out)
    have hlv2 : lv ≤ 100000 := by omega
    have hwj : IntKind.i64.wrap ((j : Int) + 1) = (j : Int) + 1 := IntWalk.i64_in _ ⟨by omega, by omega⟩
    clear hcc hcl hcc2 hgo hle hlv HQ HELS hleft
    go_wp2_with (first | ((with_reducible refine HCC.out.mono ?_); rintro e w2 ⟨rfl, hb2⟩; have HB2 := lh hb2; clear hb2))
    go_roundw
    case rel => exact ⟨j + 1, lv, by omega, by go_num, rfl, hlv2, HQ2, HB2⟩
    case measure => simp [intOf]; omega
  · have hRe : ll = R := by
     rw [← HQ.out]
     by_cases hlt : j < n
     · exact (dcsB_neg _ (by omega)).symm
     · rw [List.drop_of_length_le (by have := HN.out; omega), dcsB]
    subst hRe
    have hcase : (j < n ∧ ¬ 0 ≤ ll) ∨ j = n := by omega
    rcases hleft with ⟨hneg, hfin⟩ | ⟨hpos, T, hT, hTl, rfl⟩
    · have HF := lh hfin
      clear hgo HELS hfin
      rcases hcase with ⟨h1, h2⟩ | h1
      all_goals
       go_wp2
       go_ret2
       exact ⟨by rw [HF.out]; rfl, HEND.out _ HBL.out⟩
    obtain rfl : j = n := by omega
    clear hgo hcase
    have hj1 : (Xbj T).length ≤ 90000 := by
     have := Xhe T (Xqr ds T hT)
     have h2 : (18 + 1) * T.length ≤ 19 * 4096 := Nat.mul_le_mul_left _ hTl
     omega
    have HTL : Hid (T.length ≤ 100000) := lh (by omega)
    have HFY : Hid ((Xbj T).length ≤ 16384 → fin (some T) = (Xbj T, 0)) := lh (fun h => Xql ⟨h, hTl⟩)
    have HFN : Hid (¬ (Xbj T).length ≤ 16384 → fin (some T) = ([], 23)) := lh (fun h => Xiw (fun hf => h hf.1))
    have hsz : (Xaa (Xbj T)).size = (Xbj T).length := by rw [Lib.size_eq, Xak]
    obtain ⟨JS, hJS⟩ : ∃ J, J = Xaa (Xbj T) := ⟨_, rfl⟩
    rw [← hJS] at hsz
    have HJS := lh hJS
    have HSZ := lh hsz
    have HTX : Hid (∀ wx tv, Xqb wx wx.heap.size tv T → Calls Tryz.prog 19 #[tv] wx fun r w' => r = .returned (.string JS) ∧ Below wx.heap.size wx w') := lh fun wx tv h => by
     rw [hJS]; exact Xjz wx T tv h hj1 (by omega)
    have HO := lh (Out.lit (V := wo) (w := wo) (base := wo.heap.size) #[] [] 0 rfl rfl (Nat.le_refl _) (by simp) (Below.refl _ _))
    have HT := lh hT
    have HUP : Hid (∀ W, Below wo.heap.size wo W → Below X.heap.size X W) := lh fun W hW => HBL.out.trans (hW.mono HBL.out.size)
    clear hj1 hJS hsz hT hTl
    go_wp2
    go_loopw [6, 7] (fun o i wr => ∃ (m gi Ni ci : Nat) (L Q : List (List UInt8)), m ≤ j ∧ i = .int .i64 m ∧ o = .slice (some ⟨gi, 0, none⟩) Ni ci ∧ Hid (Out wo wr wo.heap.size gi Ni ci L) ∧ Hid (Xei (ds.drop m) = some Q) ∧ Hid (L ++ (Q ++ []) = T)) (fun _ i _ => j - (intOf i).toNat)
    case atStart => exact ⟨0, _, _, _, _, T, Nat.zero_le _, rfl, rfl, HO, HT, lh (by simp)⟩
    case round =>
     obtain ⟨wq, rfl⟩ : ∃ wq : World, wq = wr := ⟨_, rfl⟩
     clear HO HT
     obtain ⟨m, gi, Ni, ci, L, Q, hm, rfl, rfl, HO, HQ2, HE⟩ := hrel
     have c0 := HC.out wq (HUP.out _ HO.out.bel)
     by_cases hlt : m < j
     · have hje : m < ds.length := by rw [← HN.out]; exact hlt
       obtain ⟨b, off, v0, v1, v2, v3, v4, v5, v6, rfl, hcl, -, hcc⟩ := HELS.out m hje
       obtain ⟨q0, q1, q2, q3, q4, q5, q6⟩ := hcl wq (HUP.out _ HO.out.bel)
       obtain ⟨Y, Q3, hY, hQ3, hQQ⟩ := Xvi hje HQ2.out
       have hYl : Y.length ≤ 100000 := by have h := HTL.out; rw [← HE.out, hQQ] at h; simp at h; omega
       have HCC := lh (hcc Y wq hY hYl (HUP.out _ HO.out.bel))
       have HQ3 := lh hQ3
       replace HE : Hid (L ++ (Y ++ (Q3 ++ [])) = T) := lh (by have h := HE.out; rw [hQQ] at h; simpa using h)
       have hwm : IntKind.i64.wrap ((m : Int) + 1) = (m : Int) + 1 := IntWalk.i64_in _ ⟨by omega, by omega⟩
       clear hcc hcl hY hYl hQ3 hQQ HQ2 HELS
       go_wp2_with (first
        | (at_builtin; refine Xbq rfl _ _ rfl HO.out HTL.out rfl HE.out HU.out HUN.out rfl ?_; intro g1 N1 c1 w1 L1 ho1 he1; replace HO := lh ho1; replace HE := lh he1; clear ho1 he1; clear HU HUN)
        | ((with_reducible refine (HCC.out).mono ?_); rintro e w1 ⟨gu, nu, cu, rfl, hu, hun⟩; have hb1 := hu.bel; replace HO := lh (HO.out.call hb1); have HU := lh hu; have HUN := lh hun; clear hu hun hb1))
       go_roundw
       case rel => exact ⟨m + 1, _, _, _, _, Q3, by omega, by go_num, rfl, HO, HQ3, HE⟩
       case measure => simp [intOf]; omega
     · have hQ0 : Q = [] := by
        have h := HQ2.out
        rw [List.drop_of_length_le (by have := HN.out; omega), Xei] at h
        cases h; rfl
       have hLT : L = T := by have h := HE.out; rw [hQ0] at h; simpa using h
       subst hLT
       have HTX2 := lh (HTX.out wq _ HO.out.own.ok)
       clear HE HQ2 HELS hQ0 HTX
       by_cases hfit : JS.size ≤ 16384
       · have HF : Hid (fin (some L) = (Xbj L, 0)) := lh (HFY.out (by rw [← HSZ.out]; exact hfit))
         have hd2 : decide (16384 < JS.size) = false := decide_eq_false (by omega)
         have hd3 : decide ((16384 : Int) < (JS.size : Int)) = false := decide_eq_false (by omega)
         go_wp2_with (first | ((with_reducible refine HTX2.out.mono ?_); rintro r w3 ⟨rfl, hb3⟩; have HB3 := lh (HO.out.call hb3); clear hb3))
         go_ret2
         exact ⟨by rw [HF.out]; show Ending.returned (.tuple #[.string JS, .int .i64 0]) = _; rw [HJS.out], HEND.out _ (HUP.out _ HB3.out.bel)⟩
       · have HF : Hid (fin (some L) = ([], 23)) := lh (HFN.out (by rw [← HSZ.out]; exact hfit))
         have hd2 : decide (16384 < JS.size) = true := decide_eq_true (by omega)
         have hd3 : decide ((16384 : Int) < (JS.size : Int)) = true := decide_eq_true (by omega)
         go_wp2_with (first | ((with_reducible refine HTX2.out.mono ?_); rintro r w3 ⟨rfl, hb3⟩; have HB3 := lh (HO.out.call hb3); clear hb3))
         go_ret2
         exact ⟨by rw [HF.out]; rfl, HEND.out _ (HUP.out _ HB3.out.bel)⟩
set_option maxRecDepth 100000 in
theorem Xpm {w : World} {g : Nat} (htab : TabW w) {ds : List Dc} {A : Option Addr} {n c : Nat} (hin : Xdl w (· < w.heap.size) ds (.slice A n c)) (hsm : ∀ (k : Nat) (hk : k < ds.length), Xcy ds[k]) (hg : w.heap[g]? = some (.cells #[.slice A n c] 24 (0, 0))) : Xqc 15 #[.pointer (some ⟨g, 0, none⟩)] w (penP ds) := by
 intro wx Bc Ba hb hB hp
 have hk := (hb.block g (Xab hg)).trans hg
 have c0 : wx.cell? ⟨g, 0, none⟩ = some (.slice A n c) := by rw [cell_of_row wx g 0 _ _ (0, 0) hk]; rfl
 have HT := lh (Xpn htab.tab hin hsm hb hB hp)
 clear hk hg hin hsm
 unfold penV at HT
 unfold penV
 clear hb hp
 go_enter Tryz.func15, Tryz.ntmps15
 go_wp2_with fail
 refine HT.out.mono ?_
 rintro e1 w1 hpost
 cases hR : adv [] (penP ds) with
 | none =>
   rw [hR] at hpost
   obtain ⟨rfl, hch⟩ := hpost
   have HCH := lh hch
   clear hR hch
   unfold boom
   go_wp2
   exact ⟨rfl, rfl, HCH.out⟩
 | some T1 =>
   rw [hR] at hpost
   obtain ⟨rfl, u1, hwent⟩ := hpost
   have HWE := lh hwent
   have HR := lh hR
   clear hR hwent
   go_wp2
   go_end0
   first
    | exact ⟨rfl, u1, HWE.out⟩
    | (rw [HR.out]; exact ⟨rfl, u1, HWE.out⟩)
set_option maxRecDepth 100000 in
theorem Xme (w : World) (htab : TabW w) {ds : List Dc} {v : Value} (hin : Xdl w (· < w.heap.size) ds v) (hsm : ∀ (k : Nat) (hk : k < ds.length), Xcy ds[k]) :
  Calls Tryz.prog 7 #[.agg #[v]] w fun r w' => r = .returned (.tuple #[.string (Xaa (fin (penP ds)).1), .int .i64 (fin (penP ds)).2]) ∧ Below w.heap.size w w' := by
 obtain ⟨A, c, _, _, rfl, _⟩ := id hin
 have hin2 : ∀ X, Below w.heap.size w X → Xdl X (· < X.heap.size) ds (.slice A ds.length c) := fun X hb => hin.keep (fun b hlt => hb.block b hlt) (fun b hlt => Nat.lt_of_lt_of_le hlt hb.size)
 obtain ⟨n, hn'⟩ : ∃ n, n = ds.length := ⟨_, rfl⟩
 rw [← hn'] at hin2 ⊢
 clear hin hn'
 have hmf : ∀ (fn : Fn) (first cap : Array Value) (w : World), (Instr.makeFunc fn first cap).run Tryz.prog w = .ok (.func fn first cap) w := fun _ _ _ _ => rfl
 obtain ⟨X, hX⟩ : ∃ X : World, X = w.alloc (.cells #[.slice A n c] 24) := ⟨_, rfl⟩
 have hg : X.heap[w.heap.size]? = some (.cells #[.slice A n c] 24 (0, 0)) := by rw [hX]; exact heap_alloc_new _ _
 have hbx : Below w.heap.size w X := by rw [hX]; exact (Below.refl _ _).alloc (Nat.le_refl _) _
 have hsx : w.heap.size ≤ X.heap.size := hbx.size
 have HWR := lh (Xhi 15 #[.pointer (some ⟨w.heap.size, 0, none⟩)] X (penP ds) (fun _ _ => rfl) (Xpm (htab.below hbx) (hin2 X hbx) hsm hg))
 have HX := lh hX
 have HBX := lh hbx
 clear hX hg hbx hsx
 go_enter Tryz.func7, Tryz.ntmps7
 go_wp2_with fail
 rw [← HX.out]
 refine HWR.out.mono ?_
 rintro e1 w1 ⟨rfl, hb1⟩
 have HB1 := lh (HBX.out.trans (hb1.mono HBX.out.size))
 clear hb1
 clear hin2
 go_wp2
 go_ret2
 exact ⟨rfl, HB1.out⟩
theorem Xka (w : World) (htab : TabW w) {ds : List Dc} {v : Value} (hin : Xdl w (· < w.heap.size) ds v) (hsm : ∀ (k : Nat) (hk : k < ds.length), Xcy ds[k]) :
  Calls Tryz.prog 9 #[.agg #[v]] w fun r w' => r = .returned (.bool (decide ((fin (penP ds)).2 = 0))) ∧ Below w.heap.size w w' := by
 obtain ⟨A, c, _, _, rfl, _⟩ := id hin
 obtain ⟨X, hX⟩ : ∃ X : World, X = w.alloc (.cells #[.slice A ds.length c] 24) := ⟨_, rfl⟩
 have hbx : Below w.heap.size w X := by rw [hX]; exact (Below.refl _ _).alloc (Nat.le_refl _) _
 have HS := lh (Xme X (htab.below hbx) (hin.keep (fun b hlt => hbx.block b hlt) (fun b hlt => Nat.lt_of_lt_of_le hlt hbx.size)) hsm)
 have HX := lh hX
 have HBX := lh hbx
 clear hin hsm hX hbx
 go_enter Tryz.func9, Tryz.ntmps9
 go_wp2_with fail
 rw [← HX.out]
 refine HS.out.mono ?_
 rintro e1 w1 ⟨rfl, hb1⟩
 have HB1 := lh (HBX.out.trans (hb1.mono HBX.out.size))
 clear hb1
 go_wp2
 go_ret
 refine ⟨?_, HB1.out⟩
 by_cases h : (fin (penP ds)).2 = 0 <;> simp [h]
def aE : Ex := .mk 10 0 0 [43] [.mk 4 0 0 [97] [], .mk 1 0 1 [] []]
def aS : Sm := .mk 9 0 [115] [] [aE] [] []
def aD : Dc := ⟨8, 0, 0, [116], [], [], [aS]⟩
def zD : Dc := ⟨0, 0, 0, [], [], [], []⟩
theorem fin_a : fin (penP [aD]) = ([116, 104, 114, 101, 97, 100, 32, 116, 32, 123, 32, 111, 117, 116, 32, 115, 32, 40, 32, 97, 32, 43, 32, 49, 32, 41, 32, 59, 32, 125], 0) := by decide +kernel
theorem fin_z : fin (penP [zD]) = ([], 23) := by decide +kernel
theorem fin_i : fin (tyT [91, 93, 105, 110, 116]) = ([91, 32, 93, 32, 105, 110, 116], 0) := by decide +kernel
theorem fin_x : fin (tyT [120]) = ([], 23) := by decide +kernel
theorem Xwq : ∀ (k : Nat) (hk : k < [aD].length), Xcy [aD][k] := by
 intro k hk
 obtain rfl : k = 0 := by simp at hk; omega
 show Xcy aD
 unfold Xcy
 simp [aD, aS, aE, Xbz, Xke, Xbu, Xkd]
theorem small_z : ∀ (k : Nat) (hk : k < [zD].length), Xcy [zD][k] := by
 intro k hk
 obtain rfl : k = 0 := by simp at hk; omega
 show Xcy zD
 unfold Xcy
 simp [zD, Xbz]
theorem Xus (w : World) (S : Nat → Prop) : Xbm w S [] (.slice none 0 0) :=
 .mk [] none 0 (fun _ => .bool false) (by simp) (by simp) (fun k hk => absurd hk (by simp)) (fun k hk => absurd hk (by simp))
theorem Xpu (w : World) (S : Nat → Prop) : Xcc w S [] (.slice none 0 0) :=
 .mk [] none 0 (fun _ => .bool false) (fun _ => .bool false) (fun _ => .bool false) (by simp) (by simp) (fun k hk => absurd hk (by simp)) (fun k hk => absurd hk (by simp)) (fun k hk => absurd hk (by simp)) (fun k hk => absurd hk (by simp))
theorem Xvy (w : World) (S : Nat → Prop) : Xcl w S [] (.slice none 0 0) := ⟨none, 0, rfl, by simp, by simp, fun k hk => absurd hk (by simp)⟩
theorem exs_one {w : World} {S : Nat → Prop} {b : Nat} {e : Ex} {v : Value} (hS : S b) (hl : e.name.length ≤ 140737488355328)
  (h : w.heap[b]? = some (.cells #[.int .i64 e.kind, .int .i64 e.pl, .int .i64 e.num, .string (Xaa e.name), v] 35 (0, 0))) (hv : Xbm w S e.args v) : Xbm w S [e] (.slice (some ⟨b, 0, none⟩) 1 1) := by
 refine .mk [e] (some ⟨b, 0, none⟩) 1 (fun _ => v) (by simp) (by simp) (fun k hk => ?_) (fun k hk => ?_)
 · obtain rfl : k = 0 := by simp at hk; omega
   refine ⟨b, 0, rfl, hS, hl, ?_, ?_, ?_, ?_, ?_⟩
   · rw [cell_of_row w b _ _ _ (0, 0) h]; rfl
   · rw [cell_of_row w b _ _ _ (0, 0) h]; rfl
   · rw [cell_of_row w b _ _ _ (0, 0) h]; rfl
   · rw [cell_of_row w b _ _ _ (0, 0) h]; rfl
   · rw [cell_of_row w b _ _ _ (0, 0) h]; rfl
 · obtain rfl : k = 0 := by simp at hk; omega
   exact hv
theorem exs_two {w : World} {S : Nat → Prop} {b : Nat} {k1 p1 n1 k2 p2 n2 : Int} {s1 s2 : List UInt8} (hS : S b) (hl1 : s1.length ≤ 140737488355328) (hl2 : s2.length ≤ 140737488355328)
  (h : w.heap[b]? = some (.cells #[.int .i64 k1, .int .i64 p1, .int .i64 n1, .string (Xaa s1), .slice none 0 0, .int .i64 k2, .int .i64 p2, .int .i64 n2, .string (Xaa s2), .slice none 0 0] 35 (0, 0))) :
  Xbm w S [.mk k1 p1 n1 s1 [], .mk k2 p2 n2 s2 []] (.slice (some ⟨b, 0, none⟩) 2 2) := by
 refine .mk [.mk k1 p1 n1 s1 [], .mk k2 p2 n2 s2 []] (some ⟨b, 0, none⟩) 2 (fun _ => .slice none 0 0) (by simp) (by simp) (fun k hk => ?_) (fun k hk => ?_)
 · obtain rfl | rfl : k = 0 ∨ k = 1 := by simp at hk; omega
   · refine ⟨b, 0, rfl, hS, hl1, ?_, ?_, ?_, ?_, ?_⟩
     all_goals rw [cell_of_row w b _ _ _ (0, 0) h]; rfl
   · refine ⟨b, 0, rfl, hS, hl2, ?_, ?_, ?_, ?_, ?_⟩
     all_goals rw [cell_of_row w b _ _ _ (0, 0) h]; rfl
 · obtain rfl | rfl : k = 0 ∨ k = 1 := by simp at hk; omega
   · exact Xus _ _
   · exact Xus _ _
theorem sms_one {w : World} {S : Nat → Prop} {b : Nat} {e : Sm} {v1 v2 v3 : Value} (hS : S b) (hl : e.name.length ≤ 140737488355328) (ht : e.type.length ≤ 140737488355328)
  (h : w.heap[b]? = some (.cells #[.int .i64 e.kind, .int .i64 e.pl, .string (Xaa e.name), .string (Xaa e.type), v1, v2, v3] 38 (0, 0))) (h1 : Xbm w S e.exprs v1) (h2 : Xcc w S e.body v2) (h3 : Xcc w S e.els v3) : Xcc w S [e] (.slice (some ⟨b, 0, none⟩) 1 1) := by
 refine .mk [e] (some ⟨b, 0, none⟩) 1 (fun _ => v1) (fun _ => v2) (fun _ => v3) (by simp) (by simp) (fun k hk => ?_) (fun k hk => ?_) (fun k hk => ?_) (fun k hk => ?_)
 · obtain rfl : k = 0 := by simp at hk; omega
   refine ⟨b, 0, rfl, hS, hl, ht, ?_, ?_, ?_, ?_, ?_, ?_, ?_⟩
   all_goals rw [cell_of_row w b _ _ _ (0, 0) h]; rfl
 · obtain rfl : k = 0 := by simp at hk; omega
   exact h1
 · obtain rfl : k = 0 := by simp at hk; omega
   exact h2
 · obtain rfl : k = 0 := by simp at hk; omega
   exact h3
theorem Xuf {w : World} {S : Nat → Prop} {b : Nat} {e : Dc} {v1 v2 : Value} (hS : S b) (hl : e.name.length ≤ 140737488355328) (ht : e.type.length ≤ 140737488355328)
  (h : w.heap[b]? = some (.cells #[.int .i64 e.kind, .int .i64 e.pl, .int .i64 e.num, .string (Xaa e.name), .string (Xaa e.type), v1, v2] 41 (0, 0))) (h1 : Xcl w S e.pairs v1) (h2 : Xcc w S e.body v2) : Xdl w S [e] (.slice (some ⟨b, 0, none⟩) 1 1) := by
 refine ⟨some ⟨b, 0, none⟩, 1, fun _ => v1, fun _ => v2, rfl, by simp, by simp, fun k hk => ?_, fun k hk => ?_, fun k hk => ?_⟩
 · obtain rfl : k = 0 := by simp at hk; omega
   refine ⟨b, 0, rfl, hS, hl, ht, ?_, ?_, ?_, ?_, ?_, ?_, ?_⟩
   all_goals rw [cell_of_row w b _ _ _ (0, 0) h]; rfl
 · obtain rfl : k = 0 := by simp at hk; omega
   exact h1
 · obtain rfl : k = 0 := by simp at hk; omega
   exact h2
theorem Xlv (w : World) (o : Obj) {k : Nat} (h : k = w.heap.size) : (w.alloc o).heap[k]? = some o := by subst h; exact heap_alloc_new _ _
theorem tree_a (w : World) (X : World) (hX : X = ((((w.alloc (.cells #[.int .i64 4, .int .i64 0, .int .i64 0, .string ⟨#[97]⟩, .slice none 0 0, .int .i64 1, .int .i64 0, .int .i64 1, .string ⟨#[]⟩, .slice none 0 0] 35)).alloc
  (.cells #[.int .i64 10, .int .i64 0, .int .i64 0, .string ⟨#[43]⟩, .slice (some ⟨w.heap.size, 0, none⟩) 2 2] 35)).alloc
  (.cells #[.int .i64 9, .int .i64 0, .string ⟨#[115]⟩, .string ⟨#[]⟩, .slice (some ⟨w.heap.size + 1, 0, none⟩) 1 1, .slice none 0 0, .slice none 0 0] 38)).alloc
  (.cells #[.int .i64 8, .int .i64 0, .int .i64 0, .string ⟨#[116]⟩, .string ⟨#[]⟩, .slice none 0 0, .slice (some ⟨w.heap.size + 1 + 1, 0, none⟩) 1 1] 41)).alloc
  (.cells #[.slice (some ⟨w.heap.size + 1 + 1 + 1, 0, none⟩) 1 1] 24)) :
  Below w.heap.size w X ∧ X.heap.size = w.heap.size + 5 ∧ Xdl X (· < X.heap.size) [aD] (.slice (some ⟨w.heap.size + 1 + 1 + 1, 0, none⟩) 1 1) ∧ X.heap[w.heap.size + 1 + 1 + 1 + 1]? = some (.cells #[.slice (some ⟨w.heap.size + 1 + 1 + 1, 0, none⟩) 1 1] 24 (0, 0)) := by
 have hsz : X.heap.size = w.heap.size + 5 := by rw [hX]; simp
 have h0 : X.heap[w.heap.size]? = some (.cells #[.int .i64 4, .int .i64 0, .int .i64 0, .string ⟨#[97]⟩, .slice none 0 0, .int .i64 1, .int .i64 0, .int .i64 1, .string ⟨#[]⟩, .slice none 0 0] 35 (0, 0)) := by
  rw [hX, Below.heap_alloc _ _ _ (by simp <;> omega), Below.heap_alloc _ _ _ (by simp <;> omega), Below.heap_alloc _ _ _ (by simp <;> omega), Below.heap_alloc _ _ _ (by simp)]
  exact heap_alloc_new _ _
 have h1 : X.heap[w.heap.size + 1]? = some (.cells #[.int .i64 10, .int .i64 0, .int .i64 0, .string ⟨#[43]⟩, .slice (some ⟨w.heap.size, 0, none⟩) 2 2] 35 (0, 0)) := by
  rw [hX, Below.heap_alloc _ _ _ (by simp <;> omega), Below.heap_alloc _ _ _ (by simp <;> omega), Below.heap_alloc _ _ _ (by simp)]
  exact Xlv _ _ (by simp)
 have h2 : X.heap[w.heap.size + 1 + 1]? = some (.cells #[.int .i64 9, .int .i64 0, .string ⟨#[115]⟩, .string ⟨#[]⟩, .slice (some ⟨w.heap.size + 1, 0, none⟩) 1 1, .slice none 0 0, .slice none 0 0] 38 (0, 0)) := by
  rw [hX, Below.heap_alloc _ _ _ (by simp <;> omega), Below.heap_alloc _ _ _ (by simp)]
  exact Xlv _ _ (by simp)
 have h3 : X.heap[w.heap.size + 1 + 1 + 1]? = some (.cells #[.int .i64 8, .int .i64 0, .int .i64 0, .string ⟨#[116]⟩, .string ⟨#[]⟩, .slice none 0 0, .slice (some ⟨w.heap.size + 1 + 1, 0, none⟩) 1 1] 41 (0, 0)) := by
  rw [hX, Below.heap_alloc _ _ _ (by simp)]
  exact Xlv _ _ (by simp)
 have h4 : X.heap[w.heap.size + 1 + 1 + 1 + 1]? = some (.cells #[.slice (some ⟨w.heap.size + 1 + 1 + 1, 0, none⟩) 1 1] 24 (0, 0)) := by
  rw [hX]
  exact Xlv _ _ (by simp)
 refine ⟨?_, hsz, ?_, h4⟩
 · rw [hX]
   exact ((((((Below.refl _ _).alloc (Nat.le_refl _) _).alloc (by simp) _).alloc (by simp <;> omega) _).alloc (by simp <;> omega) _).alloc (by simp <;> omega) _)
 · refine Xuf (e := aD) (by omega) (by decide +kernel) (by decide +kernel) h3 (Xvy _ _) ?_
   refine sms_one (e := aS) (by omega) (by decide +kernel) (by decide +kernel) h2 ?_ (Xpu _ _) (Xpu _ _)
   refine exs_one (e := aE) (by omega) (by decide +kernel) h1 ?_
   exact exs_two (by omega) (by simp) (by simp) h0
set_option maxRecDepth 100000 in
theorem Xtv (w : World) (htab : TabW w) :
  Calls Tryz.prog 4 #[] w fun r w' => r = .returned (.bool true) ∧ Below w.heap.size w w' := by
 obtain ⟨X, hX⟩ : ∃ X : World, X = ((((w.alloc (.cells #[.int .i64 4, .int .i64 0, .int .i64 0, .string ⟨#[97]⟩, .slice none 0 0, .int .i64 1, .int .i64 0, .int .i64 1, .string ⟨#[]⟩, .slice none 0 0] 35)).alloc
  (.cells #[.int .i64 10, .int .i64 0, .int .i64 0, .string ⟨#[43]⟩, .slice (some ⟨w.heap.size, 0, none⟩) 2 2] 35)).alloc
  (.cells #[.int .i64 9, .int .i64 0, .string ⟨#[115]⟩, .string ⟨#[]⟩, .slice (some ⟨w.heap.size + 1, 0, none⟩) 1 1, .slice none 0 0, .slice none 0 0] 38)).alloc
  (.cells #[.int .i64 8, .int .i64 0, .int .i64 0, .string ⟨#[116]⟩, .string ⟨#[]⟩, .slice none 0 0, .slice (some ⟨w.heap.size + 1 + 1, 0, none⟩) 1 1] 41)).alloc
  (.cells #[.slice (some ⟨w.heap.size + 1 + 1 + 1, 0, none⟩) 1 1] 24) := ⟨_, rfl⟩
 have hmk : ∀ w : World, (Instr.makeSlice 22 (.int .i64 1) (.int .i64 1)).run Tryz.prog w = .ok (.slice (some ⟨w.heap.size, 0, none⟩) 1 1) (w.alloc (.cells #[.int .i64 0, .int .i64 0, .int .i64 0, .string ⟨#[]⟩, .string ⟨#[]⟩, .slice none 0 0, .slice none 0 0] 41)) := fun _ => by kernel_rfl
 obtain ⟨hbx, hsx, hin, h4⟩ := tree_a w X hX
 have HX := lh hX
 have HBX := lh hbx
 have HIN := lh hin
 have H4 := lh h4
 have HS := lh (Xme X (htab.below hbx) hin Xwq)
 have HT := lh htab
 clear hX hbx hsx hin h4 htab
 go_enter Tryz.func4, Tryz.ntmps4
 go_wp2_with fail
 rw [← HX.out]
 rw [fin_a] at HS
 obtain ⟨S, hS⟩ : ∃ S, S = Xaa [116, 104, 114, 101, 97, 100, 32, 116, 32, 123, 32, 111, 117, 116, 32, 115, 32, 40, 32, 97, 32, 43, 32, 49, 32, 41, 32, 59, 32, 125] := ⟨_, rfl⟩
 have HS : Hid (Calls Tryz.prog 7 #[.agg #[.slice (some ⟨w.heap.size + 1 + 1 + 1, 0, none⟩) 1 1]] X fun r w' => r = .returned (.tuple #[.string S, .int .i64 0]) ∧ Below X.heap.size X w') := by rw [hS]; exact HS
 have hl : S.toList = [116, 104, 114, 101, 97, 100, 32, 116, 32, 123, 32, 111, 117, 116, 32, 115, 32, 40, 32, 97, 32, 43, 32, 49, 32, 41, 32, 59, 32, 125] := by rw [hS, Xaf]
 clear hS
 refine HS.out.mono ?_
 rintro e1 w1 ⟨rfl, hb1⟩
 have c4 : w1.cell? ⟨w.heap.size + 1 + 1 + 1 + 1, 0, none⟩ = some (.slice (some ⟨w.heap.size + 1 + 1 + 1, 0, none⟩) 1 1) := by
  rw [cell_of_row w1 _ 0 _ _ (0, 0) ((hb1.block _ (Xab H4.out)).trans H4.out)]; rfl
 have htab1 : TabW w1 := HT.out.below (HBX.out.trans (hb1.mono HBX.out.size))
 have HR := lh (Xka w1 htab1 (HIN.out.keep (fun b hlt => hb1.block b hlt) (fun b hlt => Nat.lt_of_lt_of_le hlt hb1.size)) Xwq)
 rw [fin_a] at HR
 have HB1 := lh hb1
 clear hb1 htab1
 go_wp2_with fail
 refine HR.out.mono ?_
 rintro e2 w2 ⟨rfl, hb2⟩
 have HB2 := lh (HBX.out.trans ((HB1.out.trans (hb2.mono HB1.out.size)).mono HBX.out.size))
 clear hb2
 obtain ⟨Y, hY⟩ : ∃ Y : World, Y = w2.alloc (.cells #[.int .i64 0, .int .i64 0, .int .i64 0, .string ⟨#[]⟩, .string ⟨#[]⟩, .slice none 0 0, .slice none 0 0] 41) := ⟨_, rfl⟩
 have hby : Below w.heap.size w Y := by rw [hY]; exact HB2.out.alloc HB2.out.size _
 have hrow : Y.heap[w2.heap.size]? = some (.cells #[.int .i64 0, .int .i64 0, .int .i64 0, .string ⟨#[]⟩, .string ⟨#[]⟩, .slice none 0 0, .slice none 0 0] 41 (0, 0)) := by rw [hY]; exact heap_alloc_new _ _
 have hinz : Xdl Y (· < Y.heap.size) [zD] (.slice (some ⟨w2.heap.size, 0, none⟩) 1 1) := Xuf (e := zD) (Xab hrow) (by decide +kernel) (by decide +kernel) hrow (Xvy _ _) (Xpu _ _)
 have HR2 := lh (Xka Y (HT.out.below hby) hinz small_z)
 rw [fin_z] at HR2
 have HY := lh hY
 have HBY := lh hby
 clear hY hby hrow hinz
 go_wp2_with fail
 rw [← HY.out]
 refine HR2.out.mono ?_
 rintro e3 w3 ⟨rfl, hb3⟩
 have HB3 := lh (HBY.out.trans (hb3.mono HBY.out.size))
 clear hb3
 have HT1 := lh (Xis w3 [91, 93, 105, 110, 116] (by simp))
 rw [fin_i] at HT1
 obtain ⟨S1, hS1⟩ : ∃ S1, S1 = Xaa [91, 32, 93, 32, 105, 110, 116] := ⟨_, rfl⟩
 have HT1 : Hid (Calls Tryz.prog 11 #[.string ⟨#[91, 93, 105, 110, 116]⟩] w3 fun r w' => r = .returned (.string S1) ∧ Below w3.heap.size w3 w') := by rw [hS1]; exact HT1
 have hl1 : S1.toList = [91, 32, 93, 32, 105, 110, 116] := by rw [hS1, Xaf]
 clear hS1
 go_wp2_with fail
 refine HT1.out.mono ?_
 rintro e4 w4 ⟨rfl, hb4⟩
 have HB4 := lh (HB3.out.trans (hb4.mono HB3.out.size))
 clear hb4
 have HT2 := lh (Xis w4 [120] (by simp))
 rw [fin_x] at HT2
 obtain ⟨S2, hS2⟩ : ∃ S2, S2 = Xaa [] := ⟨_, rfl⟩
 have HT2 : Hid (Calls Tryz.prog 11 #[.string ⟨#[120]⟩] w4 fun r w' => r = .returned (.string S2) ∧ Below w4.heap.size w4 w') := by rw [hS2]; exact HT2
 have hl2 : S2.toList = [] := by rw [hS2, Xaf]
 clear hS2
 go_wp2_with fail
 refine HT2.out.mono ?_
 rintro e5 w5 ⟨rfl, hb5⟩
 have HB5 := lh (HB4.out.trans (hb5.mono HB4.out.size))
 clear hb5
 go_wp2
 go_ret
 exact ⟨rfl, HB5.out⟩
end Go.Proofs.YtodociiaobjfgaaGreatDoor
