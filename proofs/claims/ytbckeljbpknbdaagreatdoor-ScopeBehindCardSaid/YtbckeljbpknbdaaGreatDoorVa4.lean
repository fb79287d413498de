/- Aq -/
import Derived.Test.YtbckeljbpknbdaaGreatDoorVa6
set_option linter.unusedVariables false
set_option linter.unusedSimpArgs false
namespace Go.Proofs.YtbckeljbpknbdaaGreatDoor
open Go.RowKit
set_option maxRecDepth 100000 in
set_option maxHeartbeats 2000000 in
theorem Yab {w : World} {B R L n : Nat} {t : Tok} {r : List Tok} (h : RdAt w B R L (t :: r)) (hB : B ≤ w.heap.size) {base : Nat} (hbase : B ≤ base) (hbw : base ≤ w.heap.size) {Q : Nat → Prop} (HQ : Hid ((∀ b, Q b → B ≤ b) ∧ ∀ b, base ≤ b → Q b)) (o : Ex) (A : Option Addr) (z c : Nat) (hio : Xbb w (fun b => Q b ∧ b < w.heap.size) o.args (.slice A z c)) (hon : o.name.length ≤ 16384)
  (T : ByteArray) (hT : T.toList = [91]) (hT2 : T = Xab t.text) (D : Int) (hD0 : 0 ≤ D) (hD1 : D ≤ 24)
  (hE : ∀ (w : World) (us : List Tok), RdAt w B R L us → B ≤ w.heap.size → Calls Tryz.prog 110 #[.pointer (some ⟨R, 0, none⟩), .int .i64 (D + 1)] w (Xaj (ExB w.heap.size) w B R L (Xah L n us)))
  {a b : Ex} {r2 r6 r5 : List Tok} {t5 : Tok} (hx : Xah L n r = .ok a r2) (hnc : tx r2 = [58]) (hx2 : Xah L n r2.tail = .ok b r6) (htx : Xal L [[93]] r6 = .ok t5 r5) (hM : Xdh L (Xah L n) o (t :: r) = .ok (.mk 7 t.pl 0 [] [o, a, b]) r5) :
  Calls Tryz.prog 126 #[.pointer (some ⟨R, 0, none⟩), .agg #[.int .i64 o.kind, .int .i64 o.pl, .int .i64 o.num, .string (Xab o.name), .slice A z c], .int .i64 D] w (Xaj (ExQ Q) w B R L (Xdh L (Xah L n) o (t :: r))) := by
 have HXE := lh hx
 have HNC := lh hnc
 have HX2 := lh hx2
 have HTX := lh htx
 have HM := lh hM
 clear hx hnc hx2 htx hM
 obtain ⟨k, hk⟩ : ∃ x, x = o.kind := ⟨_, rfl⟩
 obtain ⟨p, hp⟩ : ∃ x, x = o.pl := ⟨_, rfl⟩
 obtain ⟨m, hm⟩ : ∃ x, x = o.num := ⟨_, rfl⟩
 obtain ⟨s, hs⟩ : ∃ x, x = Xab o.name := ⟨_, rfl⟩
 rw [← hk, ← hp, ← hm, ← hs]
 obtain ⟨X, hX⟩ : ∃ X : World, X = (w.alloc (.cells #[.int .i64 k, .int .i64 p, .int .i64 m, .string s, .slice A z c] 152)).alloc (.cells #[.int .i64 0, .int .i64 0, .int .i64 0, .string ⟨#[]⟩, .slice none 0 0] 152) := ⟨_, rfl⟩
 have hbx : Below w.heap.size w X := by rw [hX]; exact (Xae _ _).alloc (by simp) _
 have hx0 : X.heap[w.heap.size]? = some (.cells #[.int .i64 k, .int .i64 p, .int .i64 m, .string s, .slice A z c] 152 (0, 0)) := by
  rw [hX, Below.heap_alloc _ _ _ (by simp)]; exact heap_alloc_new _ _
 have hx1 : X.heap[w.heap.size + 1]? = some (.cells #[.int .i64 0, .int .i64 0, .int .i64 0, .string ⟨#[]⟩, .slice none 0 0] 152 (0, 0)) := by
  rw [hX]
  have := heap_alloc_new (w.alloc (.cells #[.int .i64 k, .int .i64 p, .int .i64 m, .string s, .slice A z c] 152)) (.cells #[.int .i64 0, .int .i64 0, .int .i64 0, .string ⟨#[]⟩, .slice none 0 0] 152)
  simpa using this
 have hxs : X.heap.size = w.heap.size + 2 := by rw [hX]; simp
 have hRw : R < w.heap.size := by have := h.lt; omega
 have HR0 := lh (h.below' hB hbx)
 have HS0 := lh (Nat.le_trans hB hbx.size)
 have HRW := lh hRw
 have HX := lh hX
 have H0 := lh hx0
 have H1 := lh hx1
 have HXS := lh hxs
 have HBX := lh hbx
 have HIO := lh hio
 have HON := lh hon
 have HOC : Hid (∀ u, Xbd o u = [.int .i64 k, .int .i64 p, .int .i64 m, .string s, u]) := lh fun u => by rw [hk, hp, hm, hs]; rfl
 have HOK : Hid (k = o.kind ∧ p = o.pl ∧ m = o.num ∧ s = Xab o.name) := lh ⟨hk, hp, hm, hs⟩
 have HBS := lh hbase
 have HBW := lh hbw
 have hf1 := Xdn
 have hf2 := Xrq
 have HE := lh hE
 obtain ⟨K, hK⟩ : ∃ K : Int, K = (t.kind : Nat) := ⟨_, rfl⟩
 obtain ⟨U, hU⟩ : ∃ U : Int, U = (t.pl : Nat) := ⟨_, rfl⟩
 have HUP := lh hU
 have HP := lh (Xbn HR0.out HS0.out)
 rw [← hK, ← hU, ← hT2] at HP
 clear hX hx0 hx1 hbx h hB hK hU hT2 hxs hRw hio hon hk hp hm hs hbase hbw hE
 go_enter Tryz.func126, Tryz.ntmps126
 go_wp2_with fail
 rw [← HX.out]
 refine HP.out.mono ?_
 rintro e w1 ⟨rfl, hr, hc⟩
 obtain ⟨a0, a1, a2, a3, a4, -⟩ := row5 (hc.row H0.out (by have := HRW.out; omega))
 have u0 := Xaa a0
 have u1 := Xaa a1
 have u2 := Xaa a2
 have u3 := Xaa a3
 have u4 := Xaa a4
 have HR1 := lh hr
 have HC1 := lh hc
 clear hr hc a0 a1 a2 a3 a4
 go_wp2_with fail
 obtain ⟨Y, hY⟩ : ∃ Y : World, Y = ((w1.alloc (.cells #[.int .i64 K, .string T, .int .i64 U] 76)).alloc (.cells #[.int .i64 k, .int .i64 p, .int .i64 m, .string s, .slice A z c] 152)).alloc (.cells #[.int .i64 6, .int .i64 U, .int .i64 0, .string ⟨#[]⟩, .slice (some ⟨w1.heap.size + 1, 0, none⟩) 1 1] 152) := ⟨_, rfl⟩
 rw [← hY]
 have hby : Below w1.heap.size w1 Y := by rw [hY]; exact ((Xae _ _).alloc (by simp) _).alloc (by simp; omega) _
 have hye : Y.heap[w1.heap.size + 1 + 1]? = some (.cells #[.int .i64 6, .int .i64 U, .int .i64 0, .string ⟨#[]⟩, .slice (some ⟨w1.heap.size + 1, 0, none⟩) 1 1] 152 (0, 0)) := by
  rw [hY]
  have := heap_alloc_new ((w1.alloc (.cells #[.int .i64 K, .string T, .int .i64 U] 76)).alloc (.cells #[.int .i64 k, .int .i64 p, .int .i64 m, .string s, .slice A z c] 152)) (.cells #[.int .i64 6, .int .i64 U, .int .i64 0, .string ⟨#[]⟩, .slice (some ⟨w1.heap.size + 1, 0, none⟩) 1 1] 152)
  simpa using this
 have hyo : Y.heap[w1.heap.size + 1]? = some (.cells #[.int .i64 k, .int .i64 p, .int .i64 m, .string s, .slice A z c] 152 (0, 0)) := by
  rw [hY, Below.heap_alloc _ _ _ (by simp)]
  have := heap_alloc_new (w1.alloc (.cells #[.int .i64 K, .string T, .int .i64 U] 76)) (.cells #[.int .i64 k, .int .i64 p, .int .i64 m, .string s, .slice A z c] 152)
  simpa using this
 have hys : Y.heap.size = w1.heap.size + 3 := by rw [hY]; simp
 have HYB := lh hby
 have HYE := lh hye
 have HYO := lh hyo
 have HYS := lh hys
 have hyw : B ≤ Y.heap.size := by have := HC1.out.size; have := HS0.out; have := hby.size; omega
 have hRd : RdAt Y B R L r := HR1.out.below' (by have := HC1.out.size; have := HS0.out; omega) hby
 have HCY : Hid (Chg (fun b => b = R) w Y) := lh (Xbf HBX.out (HC1.out.up (Chg.of_below hby)))
 have HRD := lh hRd
 have HYW := lh hyw
 have q4 : Y.cell? ⟨w1.heap.size + 1 + 1, 4, none⟩ = some (.slice (some ⟨w1.heap.size + 1, 0, none⟩) 1 1) := by rw [cell_of_row Y _ 4 _ _ (0, 0) hye]; rfl
 have HNR : Hid (w1.heap.size + 1 + 1 ≠ R ∧ w.heap.size + 1 ≠ R ∧ w.heap.size + 2 ≤ w1.heap.size) := lh (by have := HRW.out; have := HC1.out.size; have := HXS.out; omega)
 have HOW : Hid (Xaf Y (fun b => Q b ∧ (b < w.heap.size ∨ w1.heap.size + 1 + 1 < b)) base (.slice (some ⟨w1.heap.size + 1, 0, none⟩) 1 1) [o]) := lh (Xgo (by have := HNR.out; have := HBW.out; omega) (by rw [← HOK.out.1, ← HOK.out.2.1, ← HOK.out.2.2.1, ← HOK.out.2.2.2]; exact hyo) (by have := HON.out; omega)
  ((HIO.out.keep (fun b hb => (hby.block b (by have := HNR.out; omega)).trans ((HC1.out.block b (by have := HXS.out; omega) (by have := HQ.out.1 b hb.1; have h9 := hRd.lt; omega)).trans (HBX.out.block b hb.2))) fun b hb => ⟨⟨hb.1, by have := HNR.out; omega⟩, by have := HNR.out; have := hby.size; omega, by have := HNR.out; omega⟩)))
 have HWR : Hid (IntKind.i64.wrap (D + 1) = D + 1) := lh (IntWalk.i64_in _ ⟨by omega, by omega⟩)
 have HRES : Hid (Y.heap[w.heap.size + 1]? = some (.cells #[.int .i64 0, .int .i64 0, .int .i64 0, .string ⟨#[]⟩, .slice none 0 0] 152 (0, 0))) := lh ((hby.block _ (by have := HNR.out; omega)).trans (HC1.out.row H1.out (by have := HNR.out; omega)))
 obtain ⟨ak, hak⟩ : ∃ x, x = a.kind := ⟨_, rfl⟩
 obtain ⟨ap, hap⟩ : ∃ x, x = a.pl := ⟨_, rfl⟩
 obtain ⟨am, ham⟩ : ∃ x, x = a.num := ⟨_, rfl⟩
 obtain ⟨sa, has⟩ : ∃ x, x = Xab a.name := ⟨_, rfl⟩
 have HAK : Hid (∀ u, Xbd a u = [.int .i64 ak, .int .i64 ap, .int .i64 am, .string sa, u]) := lh fun u => by rw [hak, hap, ham, has]; rfl
 have HC : Hid (Calls Tryz.prog 110 #[.pointer (some ⟨R, 0, none⟩), .int .i64 (D + 1)] Y.drew fun e w2 => ∃ u2, e = .returned (.agg #[.int .i64 ak, .int .i64 ap, .int .i64 am, .string sa, u2]) ∧ a.name.length ≤ 16384 ∧ Xbb w2 (fun b => Y.heap.size ≤ b ∧ b < w2.heap.size) a.args u2 ∧ RdAt w2 B R L r2 ∧ Chg (fun b => b = R) Y w2) := lh (by
  have h1 := HE.out Y.drew r HRD.out.drew HYW.out
  rw [HXE.out] at h1
  refine h1.mono fun e w2 => ?_
  rintro ⟨⟨v, rfl, u2, rfl, hn2, hi2⟩, hr2, hc2⟩
  exact ⟨u2, by rw [hak, hap, ham, has], hn2, hi2, hr2, ⟨hc2.os, hc2.tape, hc2.output, hc2.size, hc2.block⟩⟩)
 clear hak hap ham has
 clear hY hby hye hyo hys hyw hRd u0 u1 u2 u3 u4
 have q5 : Y.drew.cell? ⟨w1.heap.size + 1 + 1, 4, none⟩ = some (.slice (some ⟨w1.heap.size + 1, 0, none⟩) 1 1) := q4
 go_region_law (first
  | (go_simp
     go_at_call 110
     rw [HWR.out]
     refine HC.out.mono ?_
     rintro e w2 ⟨u2, rfl, hn2, hi2, hr2, hc2⟩
     have p4 : w2.cell? ⟨w1.heap.size + 1 + 1, 4, none⟩ = some (.slice (some ⟨w1.heap.size + 1, 0, none⟩) 1 1) := hc2.cell q4 HNR.out.1
     have p5 := Xaa p4
     obtain ⟨HO2, HN2, HU2, HE2, HL2, HZ2⟩ := Xhe HQ HOW HAK HYE HNR HYS HBW HBS hn2 hi2 hr2 hc2
     have HR2 := lh hr2
     have HC2 := lh hc2
     clear hn2 hi2 hr2 hc2)
  | (refine Xbh rfl _ _ (by rfl) base (.slice (some ⟨w1.heap.size + 1, 0, none⟩) 1 1) [o] (by rfl) HO2.out ⟨w2.heap.size, 0, none⟩ 1 a u2 (by rfl) HN2.out HU2.out HL2.out (by simp) HZ2.out ?_
     intro g3 c3 w3 hown3 hgr hat
     obtain ⟨-, -, -, -, q6, -, -, -, -, z6⟩ := row5 ((hgr.block _ (Xac HE2.out) (by simp [Value.ownBlock])).trans HE2.out)
     have HZ3 := Xgd HE2 HR2 HC2 HCY HNR HRES HBW HBS HYW hown3 hgr hat
     have HGN : Hid ((Value.slice (some ⟨g3, 0, none⟩) 2 c3).ownBlock ≠ some (w.heap.size + 1)) := lh (Xlk hat (by have := HNR.out; omega) (by have := HNR.out; have := HC2.out.size; have := HYS.out; simp; omega))
     have HGW : Hid (∀ k, (Value.slice (some ⟨g3, 0, none⟩) 2 c3).ownBlock = some k → w.heap.size ≤ k) := lh (Xob hat (by have := HNR.out; omega) (by have := HNR.out; have := HC2.out.size; have := HYS.out; simp; omega))
     clear hown3 hgr hat))
 all_goals clear q4 q5 q6 z6 p4 p5 HO2 HN2 HU2 HE2 HL2 HZ2
 all_goals
  obtain ⟨Z, hZ⟩ : ∃ Z : World, Z = w3.setCell ⟨w1.heap.size + 1 + 1, 4, none⟩ (.slice (some ⟨g3, 0, none⟩) 2 c3) := ⟨_, rfl⟩
  rw [← hZ] at HZ3 ⊢
  clear hZ
  have HGG : Hid ((Value.slice (some ⟨g3, 0, none⟩) 2 c3).ownBlock ≠ some (w.heap.size + 1)) := HGN
  have HBZ : Hid (B ≤ Z.heap.size) := lh (by have := HZ3.out.chg.size; have := HBS.out; have := HBW.out; omega)
  have HSK : Hid (Calls Tryz.prog 111 #[.pointer (some ⟨R, 0, none⟩), .string ⟨#[58]⟩] Z fun e w' => e = .returned (.bool true) ∧ RdAt w' B R L r2.tail ∧ Chg (fun b => b = R) Z w') := lh (by
   have h1 := Xfw HZ3.out.rd HBZ.out [58] (by simp)
   rw [decide_eq_true HNC.out, if_pos HNC.out] at h1
   exact h1)
  have HGE : Hid (w.heap.size + 1 < w1.heap.size + 1 + 1) := lh (by have := HNR.out; omega)
  have HGN2 : Hid (∀ k, (Value.slice (some ⟨g3, 0, none⟩) 2 c3).ownBlock = some k → w.heap.size ≤ k) := HGW
  go_wp2_with fail
  refine HSK.out.mono ?_
  rintro e w4 ⟨rfl, hr4, hc4⟩
  have HZ4 := lh (HZ3.out.step HQ HBS.out HBW.out (by have := HNR.out; omega) hr4 hc4)
  clear hr4 hc4
  obtain ⟨e0, z0, -, -⟩ := HZ4.out.four
  go_wp2_with fail
  obtain ⟨Y2, hY2⟩ : ∃ Y2 : World, Y2 = w4.setCell ⟨w1.heap.size + 1 + 1, 0, none⟩ (.int .i64 7) := ⟨_, rfl⟩
  rw [← hY2]
  have HZ5 : Hid (Xcq Q w Y2 B R L base (w1.heap.size + 1 + 1) 7 U (.slice (some ⟨g3, 0, none⟩) 2 c3) [o, a] r2.tail) := lh (by rw [hY2]; exact HZ4.out.kind HBS.out HBW.out HGE.out 7)
  have HBY : Hid (B ≤ Y2.heap.size) := lh (by have := HZ5.out.chg.size; have := HBS.out; have := HBW.out; omega)
  clear hY2 e0 z0
  obtain ⟨-, -, q8, -⟩ := HZ5.out.four
  have q9 : Y2.drew.cell? ⟨w1.heap.size + 1 + 1, 4, none⟩ = some (.slice (some ⟨g3, 0, none⟩) 2 c3) := q8
  obtain ⟨bk, hbk⟩ : ∃ x, x = b.kind := ⟨_, rfl⟩
  obtain ⟨bp, hbp⟩ : ∃ x, x = b.pl := ⟨_, rfl⟩
  obtain ⟨bm, hbm⟩ : ∃ x, x = b.num := ⟨_, rfl⟩
  obtain ⟨sb, hsb⟩ : ∃ x, x = Xab b.name := ⟨_, rfl⟩
  have HBK : Hid (∀ u, Xbd b u = [.int .i64 bk, .int .i64 bp, .int .i64 bm, .string sb, u]) := lh fun u => by rw [hbk, hbp, hbm, hsb]; rfl
  have HD : Hid (Calls Tryz.prog 110 #[.pointer (some ⟨R, 0, none⟩), .int .i64 (D + 1)] Y2.drew fun e w6 => ∃ u6, e = .returned (.agg #[.int .i64 bk, .int .i64 bp, .int .i64 bm, .string sb, u6]) ∧ b.name.length ≤ 16384 ∧ Xbb w6 (fun b => Y2.heap.size ≤ b ∧ b < w6.heap.size) b.args u6 ∧ RdAt w6 B R L r6 ∧ Chg (fun b => b = R) Y2 w6) := lh (by
   have h1 := HE.out Y2.drew r2.tail HZ5.out.rd.drew HBY.out
   rw [HX2.out] at h1
   refine h1.mono fun e w2 => ?_
   rintro ⟨⟨v, rfl, u2, rfl, hn2, hi2⟩, hr2, hc2⟩
   exact ⟨u2, by rw [hbk, hbp, hbm, hsb], hn2, hi2, hr2, ⟨hc2.os, hc2.tape, hc2.output, hc2.size, hc2.block⟩⟩)
  clear hbk hbp hbm hsb
  go_region_law (first
   | (go_simp
      go_at_call 110
      rw [HWR.out]
      refine HD.out.mono ?_
      rintro e w6 ⟨u6, rfl, hn6, hi6, hr6, hc6⟩
      have p4 : w6.cell? ⟨w1.heap.size + 1 + 1, 4, none⟩ = some (.slice (some ⟨g3, 0, none⟩) 2 c3) := hc6.cell q8 HNR.out.1
      have p5 := Xaa p4
      have HE6 : Hid (w1.heap.size + 1 + 1 < w6.heap.size) := lh (Nat.lt_of_lt_of_le (Xac HZ5.out.row) hc6.size)
      obtain ⟨HO2, HN2, HU2, HL6, HL2, HZ2⟩ := HZ5.out.after HQ HBS.out HBW.out HGE.out HBK hn6 hi6 hr6 hc6
      clear hn6 hi6 hr6 hc6)
   | (refine Xbh rfl _ _ (by rfl) base (.slice (some ⟨g3, 0, none⟩) 2 c3) [o, a] (by rfl) HO2.out ⟨w6.heap.size, 0, none⟩ 1 b u6 (by rfl) HN2.out HU2.out HL2.out (by simp) HZ2.out ?_
      intro g7 c7 w7 hown7 hgr hat
      obtain ⟨-, -, -, -, q6, -, -, -, -, z6⟩ := row5 ((hgr.block _ (Xac HL6.out.row) (fun e => HL6.out.nown e.symm)).trans HL6.out.row)
      have HZ3 := HL6.out.stored HBS.out HBW.out HGE.out HE6.out HGG.out HGN2.out hown7 hgr hat
      have HGN : Hid ((Value.slice (some ⟨g7, 0, none⟩) 3 c7).ownBlock ≠ some (w.heap.size + 1)) := lh (Xxz hat HGG.out (by have := HL6.out.chg.size; have := HE6.out; have := HGE.out; simp; omega))
      clear hown7 hgr hat))
  all_goals clear q6 z6 p4 p5 HO2 HN2 HU2 HL2 HZ2 HL6 HZ4 HZ5 HD q8 q9
  all_goals
   obtain ⟨Z2, hZ2⟩ : ∃ Z2 : World, Z2 = w7.setCell ⟨w1.heap.size + 1 + 1, 4, none⟩ (.slice (some ⟨g7, 0, none⟩) 3 c7) := ⟨_, rfl⟩
   have HZ4 : Hid (Xcq Q w Z2 B R L base (w1.heap.size + 1 + 1) 7 U (.slice (some ⟨g7, 0, none⟩) 3 c7) [o, a, b] r6) := by rw [hZ2]; exact HZ3
   rw [← hZ2]
   clear hZ2
   have HTK := lh (Xan HZ4.out.rd (by have := HZ4.out.chg.size; have := HBS.out; have := HBW.out; omega) [[93]] (by simp) (by decide))
   go_wp2_with fail
   refine HTK.out.mono ?_
   rintro e w5 hp
   rw [HTX.out] at hp
   obtain ⟨⟨v5, rfl, hv5⟩, hr5, hc5⟩ := hp
   have HZ5 := lh (HZ4.out.step HQ HBS.out HBW.out (by have := HNR.out; omega) hr5 hc5)
   clear hv5 hr5 hc5
   obtain ⟨a0, a1, a2, a3, a4, b0, b1, b2, b3, b4, f0, f1, f2, f3, f4⟩ := HZ5.out.rows
   go_wp2
   refine bodyPost_ret (v := .agg #[.int .i64 7, .int .i64 U, .int .i64 0, .string ⟨#[]⟩, (.slice (some ⟨g7, 0, none⟩) 3 c7)]) ?_ rfl ?_
   · clear HZ3 HZ4 HZ5 HM HUP HRES HOW HWR HC HAK HRD HYW HCY HNR
     simp [results, Tryz.results126, go_sem, b0, b1, b2, b3, b4]
   · rw [HM.out]
     exact HZ5.out.done HQ HBS.out HBW.out (by have := HNR.out; omega) HGN.out HUP.out
end Go.Proofs.YtbckeljbpknbdaaGreatDoor
