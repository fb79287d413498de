/- Ks Kt Kta -/
import Derived.Test.YtodociiaobjfgaaGreatDoorVe0
import Derived.RegionTactic
set_option linter.unusedVariables false
set_option linter.unusedSimpArgs false
namespace Go.Proofs.YtodociiaobjfgaaGreatDoor
open Go.RowKit
def StTokEls (w0 : World) (B : Nat) (ss : List Sm) (A : Option Addr) : Prop := ∀ (j : Nat) (hj : j < ss.length), ∃ b off v0 v1 v2 v3 v4 v5 v6, A = some ⟨b, off, none⟩ ∧ b < B ∧
  w0.cell? ⟨b, off + j * 7, none⟩ = some (.int .i64 v0) ∧ w0.cell? ⟨b, off + j * 7 + 1, none⟩ = some (.int .i64 v1) ∧ w0.cell? ⟨b, off + j * 7 + 2, none⟩ = some (.string v2) ∧ w0.cell? ⟨b, off + j * 7 + 3, none⟩ = some (.string v3) ∧
  w0.cell? ⟨b, off + j * 7 + 4, none⟩ = some v4 ∧ w0.cell? ⟨b, off + j * 7 + 5, none⟩ = some v5 ∧ w0.cell? ⟨b, off + j * 7 + 6, none⟩ = some v6 ∧
  ∀ (d : Int) (T : List (List UInt8)) (w : World), penS ss[j] d = some T → T.length ≤ 100000 → Below B w0 w → B ≤ w.heap.size →
   Calls Tryz.prog 50 #[.agg #[.int .i64 v0, .int .i64 v1, .string v2, .string v3, v4, v5, v6]] w (Xch w T)
theorem Xvw {ss : List Sm} {j : Nat} (h : j < ss.length) {d : Int} {R : List (List UInt8)} (hR : Xdd (ss.drop j) d = some R) : ∃ X R2, penS ss[j] d = some X ∧ Xdd (ss.drop (j + 1)) d = some R2 ∧ R = X ++ R2 := by
 rw [List.drop_eq_getElem_cons h, Xdd] at hR
 exact Xbi hR
set_option maxHeartbeats 2000000 in
set_option maxRecDepth 100000 in
theorem Xnv {w0 : World} {B : Nat} {ss : List Sm} {A : Option Addr} {c : Nat} (hc : ss.length ≤ c) (hM : c ≤ 9223372036854775807) (hA : StTokEls w0 B ss A) : Xri w0 B ss (.slice A ss.length c) := by
 intro d T w hT hTl hb hB
 obtain ⟨hd, C, hC, hTT⟩ := Xjq hT
 obtain ⟨n, hn⟩ : ∃ n, n = ss.length := ⟨_, rfl⟩
 rw [← hn] at hc ⊢
 have HE := lh hTT.symm
 have HTL := lh hTl
 have HT0 : Hid (T ≠ []) := lh (by rw [hTT]; simp)
 have HN := lh hn
 have HA := lh hA
 have HB := lh hb
 have HC0 := lh hC
 have HO := lh (Out.lit (V := w) (w := w) (base := w.heap.size) #[.string ⟨#[123]⟩] [[123]] 1 rfl rfl (Nat.le_refl _) (by simp) (Below.refl _ _))
 clear hT hTl hTT hn hA hb hC
 go_enter Tryz.func35, Tryz.ntmps35
 go_wp2
 go_loopw [3, 4] (fun o i wr => ∃ (j gi Ni ci : Nat) (L R : List (List UInt8)), j ≤ n ∧ i = .int .i64 j ∧ o = .slice (some ⟨gi, 0, none⟩) Ni ci ∧ Hid (Out w wr w.heap.size gi Ni ci L) ∧ Hid (Xdd (ss.drop j) d = some R) ∧ Hid (L ++ (R ++ ([[125]] ++ [])) = T)) (fun _ i _ => n - (intOf i).toNat)
 case atStart => exact ⟨0, _, _, _, _, C, Nat.zero_le _, rfl, rfl, HO, HC0, HE⟩
 case round =>
  obtain ⟨wo, rfl⟩ : ∃ wo : World, wo = wr := ⟨_, rfl⟩
  clear HO HE HC0
  obtain ⟨j, gi, Ni, ci, L, R, hj, rfl, rfl, HO, HR, HE⟩ := hrel
  by_cases hlt : j < n
  · have hje : j < ss.length := by rw [← HN.out]; exact hlt
    obtain ⟨b, off, v0, v1, v2, v3, v4, v5, v6, rfl, hbB, p0, p1, p2, p3, p4, p5, p6, hcc⟩ := HA.out j hje
    have hbw : Below B w0 wo := HB.out.trans (HO.out.bel.mono hB)
    have q0 := (hbw.cell (p := ⟨b, _, none⟩) hbB).trans p0
    have q1 := (hbw.cell (p := ⟨b, _, none⟩) hbB).trans p1
    have q2 := (hbw.cell (p := ⟨b, _, none⟩) hbB).trans p2
    have q3 := (hbw.cell (p := ⟨b, _, none⟩) hbB).trans p3
    have q4 := (hbw.cell (p := ⟨b, _, none⟩) hbB).trans p4
    have q5 := (hbw.cell (p := ⟨b, _, none⟩) hbB).trans p5
    have q6 := (hbw.cell (p := ⟨b, _, none⟩) hbB).trans p6
    obtain ⟨X, R2, hX, hR2, hRR⟩ := Xvw hje HR.out
    have hXl : X.length ≤ 100000 := by have h := HTL.out; rw [← HE.out, hRR] at h; simp at h; omega
    have HCC := lh (hcc d X wo hX hXl hbw (Nat.le_trans hB HO.out.size))
    have HR2 := lh hR2
    replace HE : Hid (L ++ (X ++ (R2 ++ ([[125]] ++ []))) = T) := lh (by have h := HE.out; rw [hRR] at h; simpa using h)
    have hwj : IntKind.i64.wrap ((j : Int) + 1) = (j : Int) + 1 := IntWalk.i64_in _ ⟨by omega, by omega⟩
    clear hcc hX hXl hR2 hRR HR p0 p1 p2 p3 p4 p5 p6 hbw HA hje
    go_wp2_with (first
     | (at_builtin; refine Xbq rfl _ _ rfl HO.out HTL.out rfl HE.out HU.out HUN.out rfl ?_; intro g1 N1 c1 w1 L1 ho1 he1; replace HO := lh ho1; replace HE := lh he1; clear ho1 he1; clear HU HUN)
     | ((with_reducible refine (HCC.out).mono ?_); rintro e w1 ⟨gu, nu, cu, rfl, hu, hun⟩; have hb1 := hu.bel; replace HO := lh (HO.out.call hb1); have HU := lh hu; have HUN := lh hun; clear hu hun hb1))
    go_roundw
    case rel => exact ⟨j + 1, _, _, _, _, R2, by omega, by go_num, rfl, HO, HR2, HE⟩
    case measure => simp [intOf]; omega
  · have hR0 : R = [] := by
     have h := HR.out
     rw [List.drop_of_length_le (by have := HN.out; omega), Xdd] at h
     cases h; rfl
    replace HE : Hid (L ++ ([[125]] ++ []) = T) := lh (by have h := HE.out; rw [hR0] at h; simpa using h)
    clear HA HR hR0
    go_wp2_with (first | (at_builtin; refine Xax rfl _ _ rfl HO.out HTL.out rfl HE.out (by rfl) (by rfl) (by decide) (by simp) rfl ?_; intro g1 N1 c1 w1 L1 ho1 he1; replace HO := lh ho1; replace HE := lh he1; clear ho1 he1))
    go_ret
    exact ⟨_, _, _, rfl, HO.out.done HE.out (Below.refl _ _) (Nat.le_refl _), HT0.out⟩
theorem Xpo {w0 : World} {B : Nat} {ss : List Sm} {v : Value} (h : Xcc w0 (· < B) ss v) : Xbz 40000 ss → Xri w0 B ss v := by
 induction h with
 | mk ss A c fe fb fl hc hM hA he hb hl ihb ihl =>
   intro hs
   refine Xnv hc hM fun j hj => ?_
   obtain ⟨b, off, h1, h2, h3, h4, c0, c1, c2, c3, c4, c5, c6⟩ := hA j hj
   obtain ⟨s1, s2, s3, s4, s5, s6, s7, s8⟩ := Xet (Xel hs j hj)
   refine ⟨b, off, _, _, _, _, _, _, _, h1, h2, c0, c1, c2, c3, c4, c5, c6, fun d T w a1 a2 a3 a4 => ?_⟩
   obtain ⟨A1, m1, e1, k1⟩ := Xtm (he j hj)
   obtain ⟨A2, m2, e2, _⟩ := (hb j hj).slice
   obtain ⟨A3, m3, e3, _⟩ := (hl j hj).slice
   exact Xwi ss[j] ⟨A1, m1, e1, k1⟩ s1 s2 (ihb j hj s6) (ihl j hj s8) ⟨A2, m2, e2⟩ ⟨A3, m3, e3⟩ d T w a1 a2 a3 a4
theorem Xxj (w : World) : Calls Tryz.prog 31 #[.string (Xaa [])] w fun e w' => e = .returned (.slice none 0 0) ∧ w' = w := by
 obtain ⟨S, hS⟩ : ∃ S, S = Xaa [] := ⟨_, rfl⟩
 have h1 : S.toList = [] := by rw [hS, Xaf]
 have h2 : S.size = 0 := by rw [hS, Lib.size_eq, Xak]; rfl
 rw [← hS]
 clear hS
 go_enter Tryz.func31, Tryz.ntmps31
 go_wp2
 go_ret
 exact ⟨rfl, rfl⟩
structure DkF (w X : World) (g : Nat) (k p num : Int) (SN ST : ByteArray) (A5 A6 : Option Addr) (m5 m6 np nb : Nat) (nm ty : List UInt8) (prs : List Pr) (B1 TY T : List (List UInt8)) : Prop where
 HX : Hid (X = w.alloc (.cells #[.int .i64 k, .int .i64 p, .int .i64 num, .string SN, .string ST, .slice A5 np m5, .slice A6 nb m6] 41))
 HG : Hid (g = w.heap.size)
 HGL : Hid (g < X.heap.size)
 HC : Hid (∀ V : World, Below X.heap.size X V → V.cell? ⟨g, 0, none⟩ = some (.int .i64 k) ∧ V.cell? ⟨g, 2, none⟩ = some (.int .i64 num) ∧ V.cell? ⟨g, 3, none⟩ = some (.string SN) ∧ V.cell? ⟨g, 4, none⟩ = some (.string ST) ∧ V.cell? ⟨g, 5, none⟩ = some (.slice A5 np m5) ∧ V.cell? ⟨g, 6, none⟩ = some (.slice A6 nb m6))
 HPR : Hid (∀ (j : Nat) (hj : j < prs.length), ∃ b off, A5 = some ⟨b, off, none⟩ ∧ prs[j].type.length ≤ 40000 ∧ ∀ W, Below X.heap.size X W → W.cell? ⟨b, off + j * 2, none⟩ = some (.string (Xaa prs[j].name)) ∧ W.cell? ⟨b, off + j * 2 + 1, none⟩ = some (.string (Xaa prs[j].type)))
 HTY : Hid (TY ≠ [] → ∀ W, Calls Tryz.prog 31 #[.string ST] W (Xch W TY))
 HTN : Hid (ty = [] → ∀ W, Calls Tryz.prog 31 #[.string ST] W fun e w' => e = .returned (.slice none 0 0) ∧ w' = W)
 HB1 : Hid (B1 ≠ [] → ∀ W, Below X.heap.size X W → Calls Tryz.prog 35 #[.slice A6 nb m6] W (Xch W B1))
 HEND : Hid (∀ W, Below X.heap.size X W → Below g w W)
 HSN : Hid (SN = Xaa nm)
 HNP : Hid (np = prs.length)
 HTL : Hid (T.length ≤ 100000)
 HT0 : Hid (T ≠ [])
theorem Out.drew {V w : World} {base g N c : Nat} {L : List (List UInt8)} (h : Out V w base g N c L) : Out V w.drew base g N c L :=
 ⟨h.len, h.own.keep fun _ _ => rfl, ⟨h.bel.os, h.bel.tape, h.bel.output, h.bel.size, h.bel.block⟩, h.size⟩
set_option maxHeartbeats 40000000 in
set_option maxRecDepth 100000 in
theorem dk_1 {w X : World} {g : Nat} {p num : Int} {SN ST : ByteArray} {A5 A6 : Option Addr} {m5 m6 np nb : Nat} {nm ty : List UInt8} {prs : List Pr} {B1 TY T : List (List UInt8)} (F : DkF w X g 1 p num SN ST A5 A6 m5 m6 np nb nm ty prs B1 TY T) (hT : [[108, 111, 99, 107], nm] ++ ([[59]] ++ []) = T) :
  Calls Tryz.prog 18 #[.agg #[.int .i64 1, .int .i64 p, .int .i64 num, .string SN, .string ST, .slice A5 np m5, .slice A6 nb m6]] w fun e w' => ∃ g' N c, e = .returned (.slice (some ⟨g', 0, none⟩) N c) ∧ Out w w' g g' N c T ∧ T ≠ [] := by
 obtain ⟨HX, HG, HGL, HC, HPR, HTY, HTN, HB1, HEND, HSN, HNP, HTL, HT0⟩ := F
 have HE := lh hT
 clear hT
 go_enter Tryz.func18, Tryz.ntmps18
 go_upto_region 1 with fail
 rw [← HG.out, ← HX.out]
 obtain ⟨c0, c2, c3, c4, c5, c6⟩ := HC.out X (Below.refl _ _)
 have hgl := HGL.out
 go_upto_region 2 with fail
 go_region
 obtain ⟨V, hV⟩ : ∃ V : World, V = X.alloc (.cells #[.string ⟨#[]⟩, .string ⟨#[108, 111, 99, 107]⟩, .string ⟨#[99, 104, 97, 110]⟩, .string ⟨#[115, 116, 114, 117, 99, 116]⟩, .string ⟨#[118, 97, 114]⟩, .string ⟨#[105, 110, 112, 117, 116]⟩, .string ⟨#[115, 105, 110, 107]⟩, .string ⟨#[102, 117, 110, 99]⟩, .string ⟨#[116, 104, 114, 101, 97, 100]⟩] 69) := ⟨_, rfl⟩
 have hsz : V.heap.size = X.heap.size + 1 := by rw [hV]; simp
 rw [← hV, ← hsz]
 have hbV : Below X.heap.size X V := by rw [hV]; exact (Below.refl _ _).alloc (Nat.le_refl _) _
 have HBV := lh hbV
 have ho := (Out.lit (V := V) (w := V) (base := V.heap.size) #[.string ⟨#[108, 111, 99, 107]⟩, .string SN] [[108, 111, 99, 107], nm] 2 rfl (by rw [HSN.out]; rfl) (Nat.le_refl _) (by simp) (Below.refl _ _)).drew
 obtain ⟨W0, hW0⟩ : ∃ W0 : World, W0 = (V.alloc (.cells #[.string ⟨#[108, 111, 99, 107]⟩, .string SN] 9)).drew := ⟨_, rfl⟩
 rw [← hW0] at ho ⊢
 have HO := lh ho
 clear hV hbV hgl hsz hW0 ho c0 c2 c3 c4 c5 c6
 have HUP : Hid (∀ W, Below V.heap.size V W → Below X.heap.size X W) := lh fun W hW => HBV.out.trans (hW.mono HBV.out.size)
 have HC2 : Hid (∀ W : World, Below V.heap.size V W → W.cell? ⟨g, 0, none⟩ = some (.int .i64 1) ∧ W.cell? ⟨g, 2, none⟩ = some (.int .i64 num) ∧ W.cell? ⟨g, 3, none⟩ = some (.string SN) ∧ W.cell? ⟨g, 4, none⟩ = some (.string ST) ∧ W.cell? ⟨g, 5, none⟩ = some (.slice A5 np m5) ∧ W.cell? ⟨g, 6, none⟩ = some (.slice A6 nb m6)) := lh fun W hW => HC.out W (HUP.out W hW)
 obtain ⟨c0, c2, c3, c4, c5, c6⟩ := HC2.out _ HO.out.bel
 clear HPR HTY HTN HB1
 go_wp2_with (first
  | (at_builtin; refine Xax rfl _ _ rfl HO.out HTL.out rfl HE.out (by first | rfl | (rw [HSI.out]; rfl)) (by rfl) (by decide) (by simp) rfl ?_; intro g1 N1 c1 w1 L1 ho1 he1; replace HO := lh ho1; replace HE := lh he1; clear ho1 he1; obtain ⟨c0, c2, c3, c4, c5, c6⟩ := HC2.out w1 HO.out.bel))
 go_ret
 exact ⟨_, _, _, rfl, HO.out.done HE.out (HEND.out _ HBV.out) (by have := HGL.out; have := HBV.out.size; omega), HT0.out⟩
set_option maxHeartbeats 40000000 in
set_option maxRecDepth 100000 in
theorem dk_5 {w X : World} {g : Nat} {p num : Int} {SN ST : ByteArray} {A5 A6 : Option Addr} {m5 m6 np nb : Nat} {nm ty : List UInt8} {prs : List Pr} {B1 TY T : List (List UInt8)} (F : DkF w X g 5 p num SN ST A5 A6 m5 m6 np nb nm ty prs B1 TY T) (hT : [[105, 110, 112, 117, 116], nm] ++ ([[59]] ++ []) = T) :
  Calls Tryz.prog 18 #[.agg #[.int .i64 5, .int .i64 p, .int .i64 num, .string SN, .string ST, .slice A5 np m5, .slice A6 nb m6]] w fun e w' => ∃ g' N c, e = .returned (.slice (some ⟨g', 0, none⟩) N c) ∧ Out w w' g g' N c T ∧ T ≠ [] := by
 obtain ⟨HX, HG, HGL, HC, HPR, HTY, HTN, HB1, HEND, HSN, HNP, HTL, HT0⟩ := F
 have HE := lh hT
 clear hT
 go_enter Tryz.func18, Tryz.ntmps18
 go_upto_region 1 with fail
 rw [← HG.out, ← HX.out]
 obtain ⟨c0, c2, c3, c4, c5, c6⟩ := HC.out X (Below.refl _ _)
 have hgl := HGL.out
 go_upto_region 2 with fail
 go_region
 obtain ⟨V, hV⟩ : ∃ V : World, V = X.alloc (.cells #[.string ⟨#[]⟩, .string ⟨#[108, 111, 99, 107]⟩, .string ⟨#[99, 104, 97, 110]⟩, .string ⟨#[115, 116, 114, 117, 99, 116]⟩, .string ⟨#[118, 97, 114]⟩, .string ⟨#[105, 110, 112, 117, 116]⟩, .string ⟨#[115, 105, 110, 107]⟩, .string ⟨#[102, 117, 110, 99]⟩, .string ⟨#[116, 104, 114, 101, 97, 100]⟩] 69) := ⟨_, rfl⟩
 have hsz : V.heap.size = X.heap.size + 1 := by rw [hV]; simp
 rw [← hV, ← hsz]
 have hbV : Below X.heap.size X V := by rw [hV]; exact (Below.refl _ _).alloc (Nat.le_refl _) _
 have HBV := lh hbV
 have ho := (Out.lit (V := V) (w := V) (base := V.heap.size) #[.string ⟨#[105, 110, 112, 117, 116]⟩, .string SN] [[105, 110, 112, 117, 116], nm] 2 rfl (by rw [HSN.out]; rfl) (Nat.le_refl _) (by simp) (Below.refl _ _)).drew
 obtain ⟨W0, hW0⟩ : ∃ W0 : World, W0 = (V.alloc (.cells #[.string ⟨#[105, 110, 112, 117, 116]⟩, .string SN] 9)).drew := ⟨_, rfl⟩
 rw [← hW0] at ho ⊢
 have HO := lh ho
 clear hV hbV hgl hsz hW0 ho c0 c2 c3 c4 c5 c6
 have HUP : Hid (∀ W, Below V.heap.size V W → Below X.heap.size X W) := lh fun W hW => HBV.out.trans (hW.mono HBV.out.size)
 have HC2 : Hid (∀ W : World, Below V.heap.size V W → W.cell? ⟨g, 0, none⟩ = some (.int .i64 5) ∧ W.cell? ⟨g, 2, none⟩ = some (.int .i64 num) ∧ W.cell? ⟨g, 3, none⟩ = some (.string SN) ∧ W.cell? ⟨g, 4, none⟩ = some (.string ST) ∧ W.cell? ⟨g, 5, none⟩ = some (.slice A5 np m5) ∧ W.cell? ⟨g, 6, none⟩ = some (.slice A6 nb m6)) := lh fun W hW => HC.out W (HUP.out W hW)
 obtain ⟨c0, c2, c3, c4, c5, c6⟩ := HC2.out _ HO.out.bel
 clear HPR HTY HTN HB1
 go_wp2_with (first
  | (at_builtin; refine Xax rfl _ _ rfl HO.out HTL.out rfl HE.out (by first | rfl | (rw [HSI.out]; rfl)) (by rfl) (by decide) (by simp) rfl ?_; intro g1 N1 c1 w1 L1 ho1 he1; replace HO := lh ho1; replace HE := lh he1; clear ho1 he1; obtain ⟨c0, c2, c3, c4, c5, c6⟩ := HC2.out w1 HO.out.bel))
 go_ret
 exact ⟨_, _, _, rfl, HO.out.done HE.out (HEND.out _ HBV.out) (by have := HGL.out; have := HBV.out.size; omega), HT0.out⟩
set_option maxHeartbeats 40000000 in
set_option maxRecDepth 100000 in
theorem dk_6 {w X : World} {g : Nat} {p num : Int} {SN ST : ByteArray} {A5 A6 : Option Addr} {m5 m6 np nb : Nat} {nm ty : List UInt8} {prs : List Pr} {B1 TY T : List (List UInt8)} (F : DkF w X g 6 p num SN ST A5 A6 m5 m6 np nb nm ty prs B1 TY T) (hT : [[115, 105, 110, 107], nm] ++ ([[59]] ++ []) = T) :
  Calls Tryz.prog 18 #[.agg #[.int .i64 6, .int .i64 p, .int .i64 num, .string SN, .string ST, .slice A5 np m5, .slice A6 nb m6]] w fun e w' => ∃ g' N c, e = .returned (.slice (some ⟨g', 0, none⟩) N c) ∧ Out w w' g g' N c T ∧ T ≠ [] := by
 obtain ⟨HX, HG, HGL, HC, HPR, HTY, HTN, HB1, HEND, HSN, HNP, HTL, HT0⟩ := F
 have HE := lh hT
 clear hT
 go_enter Tryz.func18, Tryz.ntmps18
 go_upto_region 1 with fail
 rw [← HG.out, ← HX.out]
 obtain ⟨c0, c2, c3, c4, c5, c6⟩ := HC.out X (Below.refl _ _)
 have hgl := HGL.out
 go_upto_region 2 with fail
 go_region
 obtain ⟨V, hV⟩ : ∃ V : World, V = X.alloc (.cells #[.string ⟨#[]⟩, .string ⟨#[108, 111, 99, 107]⟩, .string ⟨#[99, 104, 97, 110]⟩, .string ⟨#[115, 116, 114, 117, 99, 116]⟩, .string ⟨#[118, 97, 114]⟩, .string ⟨#[105, 110, 112, 117, 116]⟩, .string ⟨#[115, 105, 110, 107]⟩, .string ⟨#[102, 117, 110, 99]⟩, .string ⟨#[116, 104, 114, 101, 97, 100]⟩] 69) := ⟨_, rfl⟩
 have hsz : V.heap.size = X.heap.size + 1 := by rw [hV]; simp
 rw [← hV, ← hsz]
 have hbV : Below X.heap.size X V := by rw [hV]; exact (Below.refl _ _).alloc (Nat.le_refl _) _
 have HBV := lh hbV
 have ho := (Out.lit (V := V) (w := V) (base := V.heap.size) #[.string ⟨#[115, 105, 110, 107]⟩, .string SN] [[115, 105, 110, 107], nm] 2 rfl (by rw [HSN.out]; rfl) (Nat.le_refl _) (by simp) (Below.refl _ _)).drew
 obtain ⟨W0, hW0⟩ : ∃ W0 : World, W0 = (V.alloc (.cells #[.string ⟨#[115, 105, 110, 107]⟩, .string SN] 9)).drew := ⟨_, rfl⟩
 rw [← hW0] at ho ⊢
 have HO := lh ho
 clear hV hbV hgl hsz hW0 ho c0 c2 c3 c4 c5 c6
 have HUP : Hid (∀ W, Below V.heap.size V W → Below X.heap.size X W) := lh fun W hW => HBV.out.trans (hW.mono HBV.out.size)
 have HC2 : Hid (∀ W : World, Below V.heap.size V W → W.cell? ⟨g, 0, none⟩ = some (.int .i64 6) ∧ W.cell? ⟨g, 2, none⟩ = some (.int .i64 num) ∧ W.cell? ⟨g, 3, none⟩ = some (.string SN) ∧ W.cell? ⟨g, 4, none⟩ = some (.string ST) ∧ W.cell? ⟨g, 5, none⟩ = some (.slice A5 np m5) ∧ W.cell? ⟨g, 6, none⟩ = some (.slice A6 nb m6)) := lh fun W hW => HC.out W (HUP.out W hW)
 obtain ⟨c0, c2, c3, c4, c5, c6⟩ := HC2.out _ HO.out.bel
 clear HPR HTY HTN HB1
 go_wp2_with (first
  | (at_builtin; refine Xax rfl _ _ rfl HO.out HTL.out rfl HE.out (by first | rfl | (rw [HSI.out]; rfl)) (by rfl) (by decide) (by simp) rfl ?_; intro g1 N1 c1 w1 L1 ho1 he1; replace HO := lh ho1; replace HE := lh he1; clear ho1 he1; obtain ⟨c0, c2, c3, c4, c5, c6⟩ := HC2.out w1 HO.out.bel))
 go_ret
 exact ⟨_, _, _, rfl, HO.out.done HE.out (HEND.out _ HBV.out) (by have := HGL.out; have := HBV.out.size; omega), HT0.out⟩
set_option maxHeartbeats 40000000 in
set_option maxRecDepth 100000 in
theorem dk_2 {w X : World} {g : Nat} {p num : Int} {SN ST : ByteArray} {A5 A6 : Option Addr} {m5 m6 np nb : Nat} {nm ty : List UInt8} {prs : List Pr} {B1 TY T : List (List UInt8)} (F : DkF w X g 2 p num SN ST A5 A6 m5 m6 np nb nm ty prs B1 TY T) (hnum : 1 ≤ num ∧ num ≤ 4) (hT : [[99, 104, 97, 110], nm] ++ ([Lib.itoa num] ++ ([[59]] ++ [])) = T) :
  Calls Tryz.prog 18 #[.agg #[.int .i64 2, .int .i64 p, .int .i64 num, .string SN, .string ST, .slice A5 np m5, .slice A6 nb m6]] w fun e w' => ∃ g' N c, e = .returned (.slice (some ⟨g', 0, none⟩) N c) ∧ Out w w' g g' N c T ∧ T ≠ [] := by
 obtain ⟨HX, HG, HGL, HC, HPR, HTY, HTN, HB1, HEND, HSN, HNP, HTL, HT0⟩ := F
 have HE := lh hT
 clear hT
 go_enter Tryz.func18, Tryz.ntmps18
 go_upto_region 1 with fail
 rw [← HG.out, ← HX.out]
 obtain ⟨c0, c2, c3, c4, c5, c6⟩ := HC.out X (Below.refl _ _)
 have hgl := HGL.out
 go_upto_region 2 with fail
 go_region
 obtain ⟨V, hV⟩ : ∃ V : World, V = X.alloc (.cells #[.string ⟨#[]⟩, .string ⟨#[108, 111, 99, 107]⟩, .string ⟨#[99, 104, 97, 110]⟩, .string ⟨#[115, 116, 114, 117, 99, 116]⟩, .string ⟨#[118, 97, 114]⟩, .string ⟨#[105, 110, 112, 117, 116]⟩, .string ⟨#[115, 105, 110, 107]⟩, .string ⟨#[102, 117, 110, 99]⟩, .string ⟨#[116, 104, 114, 101, 97, 100]⟩] 69) := ⟨_, rfl⟩
 have hsz : V.heap.size = X.heap.size + 1 := by rw [hV]; simp
 rw [← hV, ← hsz]
 have hbV : Below X.heap.size X V := by rw [hV]; exact (Below.refl _ _).alloc (Nat.le_refl _) _
 have HBV := lh hbV
 have ho := (Out.lit (V := V) (w := V) (base := V.heap.size) #[.string ⟨#[99, 104, 97, 110]⟩, .string SN] [[99, 104, 97, 110], nm] 2 rfl (by rw [HSN.out]; rfl) (Nat.le_refl _) (by simp) (Below.refl _ _)).drew
 obtain ⟨W0, hW0⟩ : ∃ W0 : World, W0 = (V.alloc (.cells #[.string ⟨#[99, 104, 97, 110]⟩, .string SN] 9)).drew := ⟨_, rfl⟩
 rw [← hW0] at ho ⊢
 have HO := lh ho
 clear hV hbV hgl hsz hW0 ho c0 c2 c3 c4 c5 c6
 have HUP : Hid (∀ W, Below V.heap.size V W → Below X.heap.size X W) := lh fun W hW => HBV.out.trans (hW.mono HBV.out.size)
 have HC2 : Hid (∀ W : World, Below V.heap.size V W → W.cell? ⟨g, 0, none⟩ = some (.int .i64 2) ∧ W.cell? ⟨g, 2, none⟩ = some (.int .i64 num) ∧ W.cell? ⟨g, 3, none⟩ = some (.string SN) ∧ W.cell? ⟨g, 4, none⟩ = some (.string ST) ∧ W.cell? ⟨g, 5, none⟩ = some (.slice A5 np m5) ∧ W.cell? ⟨g, 6, none⟩ = some (.slice A6 nb m6)) := lh fun W hW => HC.out W (HUP.out W hW)
 obtain ⟨c0, c2, c3, c4, c5, c6⟩ := HC2.out _ HO.out.bel
 obtain ⟨SI, hSI⟩ : ∃ x, x = Xaa (Lib.itoa num) := ⟨_, rfl⟩
 have HSI := lh hSI
 obtain ⟨u, hu, hu2⟩ : ∃ u : Nat, (u : Int) = num ∧ u < 1000000000000000000 := ⟨num.toNat, by omega, by omega⟩
 have HSH : Hid (∀ W, Calls Tryz.prog 34 #[.int .i64 num] W fun e w' => e = .returned (.string SI) ∧ Below W.heap.size W w') := lh fun W => by rw [hSI, ← hu]; exact Xoa u hu2 W
 clear hSI hu hu2 hnum
 clear HPR HTY HTN HB1
 go_wp2_with (first
  | (at_builtin; refine Xax rfl _ _ rfl HO.out HTL.out rfl HE.out (by first | rfl | (rw [HSI.out]; rfl)) (by rfl) (by decide) (by simp) rfl ?_; intro g1 N1 c1 w1 L1 ho1 he1; replace HO := lh ho1; replace HE := lh he1; clear ho1 he1; obtain ⟨c0, c2, c3, c4, c5, c6⟩ := HC2.out w1 HO.out.bel)
  | ((with_reducible refine (HSH.out _).mono ?_); rintro e w1 ⟨rfl, hb1⟩; replace HO := lh (HO.out.call hb1); clear hb1; obtain ⟨c0, c2, c3, c4, c5, c6⟩ := HC2.out w1 HO.out.bel))
 go_ret
 exact ⟨_, _, _, rfl, HO.out.done HE.out (HEND.out _ HBV.out) (by have := HGL.out; have := HBV.out.size; omega), HT0.out⟩
set_option maxHeartbeats 40000000 in
set_option maxRecDepth 100000 in
theorem dk_4 {w X : World} {g : Nat} {p num : Int} {SN ST : ByteArray} {A5 A6 : Option Addr} {m5 m6 np nb : Nat} {nm ty : List UInt8} {prs : List Pr} {B1 TY T : List (List UInt8)} (F : DkF w X g 4 p num SN ST A5 A6 m5 m6 np nb nm ty prs B1 TY T) (hTY : TY ≠ []) (hT : [[118, 97, 114], nm] ++ (TY ++ ([[59]] ++ [])) = T) :
  Calls Tryz.prog 18 #[.agg #[.int .i64 4, .int .i64 p, .int .i64 num, .string SN, .string ST, .slice A5 np m5, .slice A6 nb m6]] w fun e w' => ∃ g' N c, e = .returned (.slice (some ⟨g', 0, none⟩) N c) ∧ Out w w' g g' N c T ∧ T ≠ [] := by
 obtain ⟨HX, HG, HGL, HC, HPR, HTY, HTN, HB1, HEND, HSN, HNP, HTL, HT0⟩ := F
 have HE := lh hT
 clear hT
 go_enter Tryz.func18, Tryz.ntmps18
 go_upto_region 1 with fail
 rw [← HG.out, ← HX.out]
 obtain ⟨c0, c2, c3, c4, c5, c6⟩ := HC.out X (Below.refl _ _)
 have hgl := HGL.out
 go_upto_region 2 with fail
 go_region
 obtain ⟨V, hV⟩ : ∃ V : World, V = X.alloc (.cells #[.string ⟨#[]⟩, .string ⟨#[108, 111, 99, 107]⟩, .string ⟨#[99, 104, 97, 110]⟩, .string ⟨#[115, 116, 114, 117, 99, 116]⟩, .string ⟨#[118, 97, 114]⟩, .string ⟨#[105, 110, 112, 117, 116]⟩, .string ⟨#[115, 105, 110, 107]⟩, .string ⟨#[102, 117, 110, 99]⟩, .string ⟨#[116, 104, 114, 101, 97, 100]⟩] 69) := ⟨_, rfl⟩
 have hsz : V.heap.size = X.heap.size + 1 := by rw [hV]; simp
 rw [← hV, ← hsz]
 have hbV : Below X.heap.size X V := by rw [hV]; exact (Below.refl _ _).alloc (Nat.le_refl _) _
 have HBV := lh hbV
 have ho := (Out.lit (V := V) (w := V) (base := V.heap.size) #[.string ⟨#[118, 97, 114]⟩, .string SN] [[118, 97, 114], nm] 2 rfl (by rw [HSN.out]; rfl) (Nat.le_refl _) (by simp) (Below.refl _ _)).drew
 obtain ⟨W0, hW0⟩ : ∃ W0 : World, W0 = (V.alloc (.cells #[.string ⟨#[118, 97, 114]⟩, .string SN] 9)).drew := ⟨_, rfl⟩
 rw [← hW0] at ho ⊢
 have HO := lh ho
 clear hV hbV hgl hsz hW0 ho c0 c2 c3 c4 c5 c6
 have HUP : Hid (∀ W, Below V.heap.size V W → Below X.heap.size X W) := lh fun W hW => HBV.out.trans (hW.mono HBV.out.size)
 have HC2 : Hid (∀ W : World, Below V.heap.size V W → W.cell? ⟨g, 0, none⟩ = some (.int .i64 4) ∧ W.cell? ⟨g, 2, none⟩ = some (.int .i64 num) ∧ W.cell? ⟨g, 3, none⟩ = some (.string SN) ∧ W.cell? ⟨g, 4, none⟩ = some (.string ST) ∧ W.cell? ⟨g, 5, none⟩ = some (.slice A5 np m5) ∧ W.cell? ⟨g, 6, none⟩ = some (.slice A6 nb m6)) := lh fun W hW => HC.out W (HUP.out W hW)
 obtain ⟨c0, c2, c3, c4, c5, c6⟩ := HC2.out _ HO.out.bel
 have HTY2 := lh (HTY.out hTY)
 clear HPR HTY HTN HB1
 go_wp2_with (first
  | (at_builtin; refine Xax rfl _ _ rfl HO.out HTL.out rfl HE.out (by first | rfl | (rw [HSI.out]; rfl)) (by rfl) (by decide) (by simp) rfl ?_; intro g1 N1 c1 w1 L1 ho1 he1; replace HO := lh ho1; replace HE := lh he1; clear ho1 he1; obtain ⟨c0, c2, c3, c4, c5, c6⟩ := HC2.out w1 HO.out.bel)
  | (at_builtin; refine Xbq rfl _ _ rfl HO.out HTL.out rfl HE.out HU.out HUN.out rfl ?_; intro g1 N1 c1 w1 L1 ho1 he1; replace HO := lh ho1; replace HE := lh he1; clear ho1 he1; obtain ⟨c0, c2, c3, c4, c5, c6⟩ := HC2.out w1 HO.out.bel; clear HU HUN)
  | ((with_reducible refine (HTY2.out _).mono ?_); rintro e w1 ⟨gu, nu, cu, rfl, hu, hun⟩; have hb1 := hu.bel; replace HO := lh (HO.out.call hb1); have HU := lh hu; have HUN := lh hun; clear hu hun hb1; obtain ⟨c0, c2, c3, c4, c5, c6⟩ := HC2.out w1 HO.out.bel))
 go_ret
 exact ⟨_, _, _, rfl, HO.out.done HE.out (HEND.out _ HBV.out) (by have := HGL.out; have := HBV.out.size; omega), HT0.out⟩
set_option maxHeartbeats 40000000 in
set_option maxRecDepth 100000 in
theorem dk_8 {w X : World} {g : Nat} {p num : Int} {SN ST : ByteArray} {A5 A6 : Option Addr} {m5 m6 np nb : Nat} {nm ty : List UInt8} {prs : List Pr} {B1 TY T : List (List UInt8)} (F : DkF w X g 8 p num SN ST A5 A6 m5 m6 np nb nm ty prs B1 TY T) (hB1 : B1 ≠ []) (hT : [[116, 104, 114, 101, 97, 100], nm] ++ (B1 ++ []) = T) :
  Calls Tryz.prog 18 #[.agg #[.int .i64 8, .int .i64 p, .int .i64 num, .string SN, .string ST, .slice A5 np m5, .slice A6 nb m6]] w fun e w' => ∃ g' N c, e = .returned (.slice (some ⟨g', 0, none⟩) N c) ∧ Out w w' g g' N c T ∧ T ≠ [] := by
 obtain ⟨HX, HG, HGL, HC, HPR, HTY, HTN, HB1, HEND, HSN, HNP, HTL, HT0⟩ := F
 have HE := lh hT
 clear hT
 go_enter Tryz.func18, Tryz.ntmps18
 go_upto_region 1 with fail
 rw [← HG.out, ← HX.out]
 obtain ⟨c0, c2, c3, c4, c5, c6⟩ := HC.out X (Below.refl _ _)
 have hgl := HGL.out
 go_upto_region 2 with fail
 go_region
 obtain ⟨V, hV⟩ : ∃ V : World, V = X.alloc (.cells #[.string ⟨#[]⟩, .string ⟨#[108, 111, 99, 107]⟩, .string ⟨#[99, 104, 97, 110]⟩, .string ⟨#[115, 116, 114, 117, 99, 116]⟩, .string ⟨#[118, 97, 114]⟩, .string ⟨#[105, 110, 112, 117, 116]⟩, .string ⟨#[115, 105, 110, 107]⟩, .string ⟨#[102, 117, 110, 99]⟩, .string ⟨#[116, 104, 114, 101, 97, 100]⟩] 69) := ⟨_, rfl⟩
 have hsz : V.heap.size = X.heap.size + 1 := by rw [hV]; simp
 rw [← hV, ← hsz]
 have hbV : Below X.heap.size X V := by rw [hV]; exact (Below.refl _ _).alloc (Nat.le_refl _) _
 have HBV := lh hbV
 have ho := (Out.lit (V := V) (w := V) (base := V.heap.size) #[.string ⟨#[116, 104, 114, 101, 97, 100]⟩, .string SN] [[116, 104, 114, 101, 97, 100], nm] 2 rfl (by rw [HSN.out]; rfl) (Nat.le_refl _) (by simp) (Below.refl _ _)).drew
 obtain ⟨W0, hW0⟩ : ∃ W0 : World, W0 = (V.alloc (.cells #[.string ⟨#[116, 104, 114, 101, 97, 100]⟩, .string SN] 9)).drew := ⟨_, rfl⟩
 rw [← hW0] at ho ⊢
 have HO := lh ho
 clear hV hbV hgl hsz hW0 ho c0 c2 c3 c4 c5 c6
 have HUP : Hid (∀ W, Below V.heap.size V W → Below X.heap.size X W) := lh fun W hW => HBV.out.trans (hW.mono HBV.out.size)
 have HC2 : Hid (∀ W : World, Below V.heap.size V W → W.cell? ⟨g, 0, none⟩ = some (.int .i64 8) ∧ W.cell? ⟨g, 2, none⟩ = some (.int .i64 num) ∧ W.cell? ⟨g, 3, none⟩ = some (.string SN) ∧ W.cell? ⟨g, 4, none⟩ = some (.string ST) ∧ W.cell? ⟨g, 5, none⟩ = some (.slice A5 np m5) ∧ W.cell? ⟨g, 6, none⟩ = some (.slice A6 nb m6)) := lh fun W hW => HC.out W (HUP.out W hW)
 obtain ⟨c0, c2, c3, c4, c5, c6⟩ := HC2.out _ HO.out.bel
 have HB12 := lh (HB1.out hB1)
 clear HPR HTY HTN HB1
 go_wp2_with (first
  | (at_builtin; refine Xax rfl _ _ rfl HO.out HTL.out rfl HE.out (by first | rfl | (rw [HSI.out]; rfl)) (by rfl) (by decide) (by simp) rfl ?_; intro g1 N1 c1 w1 L1 ho1 he1; replace HO := lh ho1; replace HE := lh he1; clear ho1 he1; obtain ⟨c0, c2, c3, c4, c5, c6⟩ := HC2.out w1 HO.out.bel)
  | (at_builtin; refine Xbq rfl _ _ rfl HO.out HTL.out rfl HE.out HU.out HUN.out rfl ?_; intro g1 N1 c1 w1 L1 ho1 he1; replace HO := lh ho1; replace HE := lh he1; clear ho1 he1; obtain ⟨c0, c2, c3, c4, c5, c6⟩ := HC2.out w1 HO.out.bel; clear HU HUN)
  | ((with_reducible refine (HB12.out _ (HUP.out _ HO.out.bel)).mono ?_); rintro e w1 ⟨gu, nu, cu, rfl, hu, hun⟩; have hb1 := hu.bel; replace HO := lh (HO.out.call hb1); have HU := lh hu; have HUN := lh hun; clear hu hun hb1; obtain ⟨c0, c2, c3, c4, c5, c6⟩ := HC2.out w1 HO.out.bel))
 go_ret
 exact ⟨_, _, _, rfl, HO.out.done HE.out (HEND.out _ HBV.out) (by have := HGL.out; have := HBV.out.size; omega), HT0.out⟩
end Go.Proofs.YtodociiaobjfgaaGreatDoor
