/- Iw -/
import Derived.Test.YtbckeljbpknbdaaGreatDoorVe5
set_option linter.unusedVariables false
set_option linter.unusedSimpArgs false
namespace Go.Proofs.YtbckeljbpknbdaaGreatDoor
open Go.RowKit
def Xma (w : World) (base : Nat) (v : Value) (l : List Dg) : Prop := ∃ A c, v = .slice A l.length c ∧ l.length ≤ c ∧ c ≤ 9223372036854775807 ∧
 ∀ (k : Nat) (hk : k < l.length), ∃ g off, A = some ⟨g, off, none⟩ ∧ base ≤ g ∧ g < w.heap.size ∧ w.cell? ⟨g, off + k * 3, none⟩ = some (.int .i64 l[k].pl) ∧ w.cell? ⟨g, off + k * 3 + 1, none⟩ = some (.int .i64 l[k].code) ∧ w.cell? ⟨g, off + k * 3 + 2, none⟩ = some (.string (Xab l[k].name))
def Orders : Prop := ∀ (w : World) (base : Nat) (v : Value) (l : List Dg), Xhw w base v l → l.length ≤ 1000000 →
 Calls Tryz.prog 24 #[v] w fun e w' => ∃ v', e = .returned v' ∧ Xma w' base v' (ordD l) ∧ Chg (fun k => v.ownBlock = some k) w w'
def Ybb (w : World) (ds : List Dc) (e : Ending) (w' : World) : Prop := ∃ x dv base, e = .returned (.tuple #[.agg #[x.t1, x.t2, x.t3, x.t4, x.t5, x.t6, x.t7, x.t8, x.lv], dv]) ∧ w.heap.size ≤ base ∧ TbAt w' base x ⟨fun k => Xbg k ds 0, locD ds⟩ ∧ Xma w' base dv (ordD (rawD ds)) ∧ Below w.heap.size w w'
theorem Xxe (a b : List Dc) : dcWs (a ++ b) = dcWs a + dcWs b := by unfold dcWs; rw [List.map_append, List.sum_append]
theorem Xnf {ds : List Dc} {j : Nat} (hj : j < ds.length) : dcWs (ds.take (j + 1)) = dcWs (ds.take j) + dcW ds[j] := by
 have e : dcWs [ds[j]] = dcW ds[j] := by simp [dcWs]
 rw [List.take_succ_eq_append_getElem hj, Xxe, e]
theorem Xlr (ds : List Dc) (j : Nat) : dcWs (ds.take j) ≤ dcWs ds := by
 have := Xxe (ds.take j) (ds.drop j)
 rw [List.take_append_drop] at this
 omega
theorem Xxf (ds : List Dc) : ds.length ≤ dcWs ds := by
 induction ds with
 | nil => exact Nat.zero_le _
 | cons d ds ih =>
   have e : dcWs (d :: ds) = dcW d + dcWs ds := by simp [dcWs]
   rw [e, List.length_cons]
   unfold dcW
   omega
theorem dcD_len (ds pre : List Dc) (d : Dc) : (dcD ds pre d).1.length ≤ 3 * dcW d + 3 ∧ (dcD ds pre d).2.length ≤ 1 := by
 have h1 := Xfq ds d.pl d.type
 have h2 := Xmq ds d.pl (decide (d.kind = 7)) [] d.pairs
 have h3 := Xhp ds (Xdt d.pairs) d.body
 have h4 := Xhh d.pairs
 have h5 : dcW d = 1 + d.name.length + d.type.length + prWs d.pairs + smWs d.body := rfl
 unfold dcD
 constructor
 · simp only [List.length_append]
   have g1 : (if Xai ds d.name = some pre.length then ([] : List Dg) else [⟨d.pl, 40, d.name⟩]).length ≤ 1 := by split <;> simp
   have g2 : (if mostK d.kind ≤ (pre.filter fun x => decide (x.kind = d.kind)).length then [(⟨d.pl, 22, d.name⟩ : Dg)] else []).length ≤ 1 := by split <;> simp
   have g3 : (if Xgb d.kind = true then (smDs ds (Xdt d.pairs) d.body).1 else []).length ≤ 3 * smWs d.body := by split; exact h3.1; simp
   omega
 · by_cases h : Xgb d.kind = true
   · show (if Xgb d.kind = true then [(smDs ds (Xdt d.pairs) d.body).2] else []).length ≤ 1
     rw [if_pos h]; simp
   · show (if Xgb d.kind = true then [(smDs ds (Xdt d.pairs) d.body).2] else []).length ≤ 1
     rw [if_neg h]; simp
theorem Xsj {ds : List Dc} {j : Nat} (hj : j < ds.length) : dcDs ds [] (ds.take (j + 1)) = ((dcDs ds [] (ds.take j)).1 ++ (dcD ds (ds.take j) ds[j]).1, (dcDs ds [] (ds.take j)).2 ++ (dcD ds (ds.take j) ds[j]).2) := by
 rw [List.take_succ_eq_append_getElem hj, Xne, List.nil_append]
theorem Xqv (ds : List Dc) : ∀ j, j ≤ ds.length → (dcDs ds [] (ds.take j)).1.length ≤ 3 * dcWs (ds.take j) + 3 * j ∧ (dcDs ds [] (ds.take j)).2.length ≤ j
 | 0, _ => by rw [List.take_zero, dcDs]; simp
 | j + 1, h => by
   have hj : j < ds.length := h
   have ih := Xqv ds j (by omega)
   have h1 := dcD_len ds (ds.take j) ds[j]
   rw [Xsj hj, Xnf hj]
   simp only [List.length_append]
   omega
theorem Yac (k : Int) {ds : List Dc} {j : Nat} (hj : j < ds.length) : Xbg k (ds.take (j + 1)) 0 = Xbg k (ds.take j) 0 ++ (if ds[j].kind = k then [j] else []) := by
 rw [List.take_succ_eq_append_getElem hj, Xiw]
 have e : (ds.take j).length = j := by rw [List.length_take]; omega
 rw [e, Nat.zero_add]
theorem Env.mk' {w : World} {base : Nat} {x : Nm} {ds : List Dc} {w0 : World} {v : Value} (hin : Xfs w0 (· < base) ds v) (hx : x.dec = v) (hb : Below base w0 w) {M : Nat} (hm : x.mp = .map (some M)) (hM : M < base) (hF : Xgw w M ds) : Env w base x ds := by
 obtain ⟨A, c, fp, fb, rfl, hc, hM2, hA, hp, hbd⟩ := hin
 refine ⟨⟨A, c, hx, fun i hi => ?_⟩, M, hm, hM, hF⟩
 obtain ⟨b, off, h1, h2, h3, h4, c0, -⟩ := hA i hi
 exact ⟨b, off, h1, h2, (hb.cell (p := ⟨b, off + i * 7, none⟩) h2).trans c0⟩
theorem Xgw.of_block {w w' : World} {M : Nat} {ds : List Dc} (h : Xgw w M ds) (hs : w.heap.size ≤ w'.heap.size) (hb : w'.heap[M]? = w.heap[M]?) : Xgw w' M ds := ⟨Nat.lt_of_lt_of_le h.1 hs, fun V hV s hl => h.2 V (hV.trans hb) s hl⟩
def x0C (v : Value) (M : Nat) : Nm := ⟨v, .map (some M), .slice none 0 0, .slice none 0 0, .slice none 0 0, .slice none 0 0, .slice none 0 0, .slice none 0 0, .slice none 0 0, .slice none 0 0, .slice none 0 0⟩
theorem x0_tOf (v : Value) (M : Nat) (k : Int) : tOf (x0C v M) k = .slice none 0 0 := by unfold tOf x0C; repeat' (first | rfl | split)
theorem x0_tb (w : World) (g : Nat) (v : Value) (M : Nat) : TbAt w g (x0C v M) ⟨fun k => Xbg k [] 0, []⟩ := by
 refine ⟨fun k _ _ => ?_, ⟨[], ⟨rfl, ⟨rfl, .inl ⟨rfl, rfl⟩⟩, fun k hk => absurd hk (by simp)⟩⟩, fun j k _ _ _ _ _ q hq => ?_⟩
 · rw [x0_tOf]; exact ⟨rfl, .inl ⟨rfl, rfl⟩⟩
 · rw [x0_tOf] at hq; cases hq
def set9 (w : World) (r : Nat) (v0 v1 v2 v3 v4 v5 v6 v7 v8 : Value) : World := ((((((((w.setCell ⟨r, 0, none⟩ v0).setCell ⟨r, 1, none⟩ v1).setCell ⟨r, 2, none⟩ v2).setCell ⟨r, 3, none⟩ v3).setCell ⟨r, 4, none⟩ v4).setCell ⟨r, 5, none⟩ v5).setCell ⟨r, 6, none⟩ v6).setCell ⟨r, 7, none⟩ v7).setCell ⟨r, 8, none⟩ v8
theorem set9_row {w : World} {r ty : Nat} {z0 z1 z2 z3 z4 z5 z6 z7 z8 v0 v1 v2 v3 v4 v5 v6 v7 v8 : Value} (h : w.heap[r]? = some (.cells #[z0, z1, z2, z3, z4, z5, z6, z7, z8] ty (0, 0))) : (set9 w r v0 v1 v2 v3 v4 v5 v6 v7 v8).heap[r]? = some (.cells #[v0, v1, v2, v3, v4, v5, v6, v7, v8] ty (0, 0)) := by
 unfold set9
 have h0 := heap_setCell_same w r 0 _ _ v0 h
 simp only [List.setIfInBounds_toArray, List.set_cons_zero, List.set_cons_succ] at h0
 have h1 := heap_setCell_same _ r 1 _ _ v1 h0
 simp only [List.setIfInBounds_toArray, List.set_cons_zero, List.set_cons_succ] at h1
 have h2 := heap_setCell_same _ r 2 _ _ v2 h1
 simp only [List.setIfInBounds_toArray, List.set_cons_zero, List.set_cons_succ] at h2
 have h3 := heap_setCell_same _ r 3 _ _ v3 h2
 simp only [List.setIfInBounds_toArray, List.set_cons_zero, List.set_cons_succ] at h3
 have h4 := heap_setCell_same _ r 4 _ _ v4 h3
 simp only [List.setIfInBounds_toArray, List.set_cons_zero, List.set_cons_succ] at h4
 have h5 := heap_setCell_same _ r 5 _ _ v5 h4
 simp only [List.setIfInBounds_toArray, List.set_cons_zero, List.set_cons_succ] at h5
 have h6 := heap_setCell_same _ r 6 _ _ v6 h5
 simp only [List.setIfInBounds_toArray, List.set_cons_zero, List.set_cons_succ] at h6
 have h7 := heap_setCell_same _ r 7 _ _ v7 h6
 simp only [List.setIfInBounds_toArray, List.set_cons_zero, List.set_cons_succ] at h7
 have h8 := heap_setCell_same _ r 8 _ _ v8 h7
 simp only [List.setIfInBounds_toArray, List.set_cons_zero, List.set_cons_succ] at h8
 exact h8
theorem Yaq {w : World} {r : Nat} {v0 v1 v2 v3 v4 v5 v6 v7 v8 : Value} {k : Nat} (hk : k ≠ r) : (set9 w r v0 v1 v2 v3 v4 v5 v6 v7 v8).heap[k]? = w.heap[k]? := by
 have s : ∀ (W : World) (o : Nat) (v : Value), (W.setCell ⟨r, o, none⟩ v).heap[k]? = W.heap[k]? := fun W o v => Below.heap_setCell _ _ _ _ hk
 unfold set9
 rw [s, s, s, s, s, s, s, s, s]
theorem Yfh {w : World} {r : Nat} {v0 v1 v2 v3 v4 v5 v6 v7 v8 : Value} : (set9 w r v0 v1 v2 v3 v4 v5 v6 v7 v8).heap.size = w.heap.size := by simp [set9, World.setCell]
theorem Yap {w0 w : World} {B r : Nat} {v0 v1 v2 v3 v4 v5 v6 v7 v8 : Value} (h : Below B w0 w) (hr : B ≤ r) : Below B w0 (set9 w r v0 v1 v2 v3 v4 v5 v6 v7 v8) := by
 have s : ∀ (W : World) (o : Nat) (v : Value), Below B w0 W → Below B w0 (W.setCell ⟨r, o, none⟩ v) := fun W o v hW => hW.setCell (p := ⟨r, o, none⟩) hr v
 exact s _ _ _ (s _ _ _ (s _ _ _ (s _ _ _ (s _ _ _ (s _ _ _ (s _ _ _ (s _ _ _ (s _ _ _ (h)))))))))
theorem Xma.keep {w w' : World} {base : Nat} {v : Value} {l : List Dg} (h : Xma w base v l) (hb : ∀ k, base ≤ k → w'.heap[k]? = w.heap[k]?) (hs : w.heap.size ≤ w'.heap.size) : Xma w' base v l := by
 obtain ⟨A, c, h1, h2, h3, h4⟩ := h
 refine ⟨A, c, h1, h2, h3, fun k hk => ?_⟩
 obtain ⟨g, off, k1, k2, k3, k4, k5, k6⟩ := h4 k hk
 have hc : ∀ i, w'.cell? ⟨g, i, none⟩ = w.cell? ⟨g, i, none⟩ := fun i => World.cell?_of_block (hb g k2)
 exact ⟨g, off, k1, k2, by omega, by rw [hc]; exact k4, by rw [hc]; exact k5, by rw [hc]; exact k6⟩
def NmInv (W2 wr : World) (g : Nat) (ds : List Dc) (v : Value) (M j : Nat) : Prop := ∃ x dv left, NmAt wr g g x (dcDs ds [] (ds.take j)).1 left dv ∧ TbAt wr g x ⟨fun k => Xbg k (ds.take j) 0, (dcDs ds [] (ds.take j)).2⟩ ∧ x.dec = v ∧ x.mp = .map (some M) ∧ Below g W2 wr ∧ 20480 - (dcWs (ds.take j) : Int) ≤ left ∧ left ≤ 20480
set_option maxHeartbeats 8000000 in
set_option maxRecDepth 100000 in
theorem Yds (HO : Orders) (w : World) {ds : List Dc} {v : Value} (hin : Xfs w (· < w.heap.size) ds v) (hkd : ∀ d ∈ ds, 1 ≤ d.kind ∧ d.kind ≤ 8) (hW : dcWs ds ≤ 20480) :
  Calls Tryz.prog 12 #[.agg #[v]] w (Ybb w ds) := by
 obtain ⟨A, c, fp, fb, hv, hc, hM, hA, hp, hb⟩ := id hin
 obtain ⟨n, hn⟩ : ∃ n, n = ds.length := ⟨_, rfl⟩
 rw [← hn] at hc hv
 subst hv
 have hdl := Xxf ds
 have hnl : n ≤ 20480 := by omega
 -- the program's own block, the answer's, the map's
 obtain ⟨W1, hW1⟩ : ∃ W1 : World, W1 = (w.alloc (.cells #[.slice A n c] 25)).alloc (.cells #[.slice none 0 0, .slice none 0 0, .slice none 0 0, .slice none 0 0, .slice none 0 0, .slice none 0 0, .slice none 0 0, .slice none 0 0, .slice none 0 0] 34) := ⟨_, rfl⟩
 have hb1 : Below w.heap.size w W1 := by rw [hW1]; exact ((Below.refl _ _).alloc (Nat.le_refl _) _).alloc (by simp) _
 have hs1 : W1.heap.size = w.heap.size + 2 := by rw [hW1]; simp
 have hnm : ∀ d ∈ ds, d.name.length ≤ 40000 := fun d hd => by
  obtain ⟨j, hj, rfl⟩ := List.getElem_of_mem hd
  have h1 := Xnf hj
  have h2 := Xlr ds (j + 1)
  have h3 : dcW ds[j] = 1 + ds[j].name.length + ds[j].type.length + prWs ds[j].pairs + smWs ds[j].body := rfl
  omega
 have HFI : Hid (∀ V : World, Below w.heap.size w V → w.heap.size ≤ V.heap.size → Calls Tryz.prog 21 #[.slice A n c] V fun e w' => e = .returned (.map (some V.heap.size)) ∧ Xgw w' V.heap.size ds ∧ Below V.heap.size V w') := lh fun V hV hs => by
  refine Xzs V ?_ hnm (by omega)
  exact hin.keep (fun b hb => hV.block b hb) (fun b hb => Nat.lt_of_lt_of_le hb hs)
 have hp0 : W1.cell? ⟨w.heap.size, 0, none⟩ = some (.slice A n c) := by
  rw [hW1, World.cell?_of_block (w := w.alloc (.cells #[.slice A n c] 25)) (((Below.refl (w.heap.size + 1) _).alloc (by simp) _).block w.heap.size (by omega)), cell_of_row _ _ 0 _ _ (0, 0) (heap_alloc_new _ _)]
  rfl
 have hr0 : W1.heap[w.heap.size + 1]? = some (.cells #[.slice none 0 0, .slice none 0 0, .slice none 0 0, .slice none 0 0, .slice none 0 0, .slice none 0 0, .slice none 0 0, .slice none 0 0, .slice none 0 0] 34 (0, 0)) := by
  have e : (w.alloc (.cells #[.slice A n c] 25)).heap.size = w.heap.size + 1 := by simp
  rw [hW1, ← e]; exact heap_alloc_new _ _
 have HR0 := lh hr0
 have HIN := lh hin
 have HN := lh hn
 have HKD := lh hkd
 have HW := lh hW
 have HA := lh hA
 have HP := lh hp
 have HB := lh hb
 have HW1 := lh hW1
 have HB1 := lh hb1
 have HS1 := lh hs1
 have HOO := lh HO
 clear hin hn hkd hW hA hp hb hW1 hb1 hs1 hdl hnm HO hr0
 go_enter Tryz.func12, Tryz.ntmps12
 go_upto_region 1 with fail
 rw [← HW1.out]
 go_cut [4] from 7 (fun s4 wx => ∃ g, s4 = .pointer (some ⟨g, 0, none⟩) ∧ W1.heap.size < g ∧ NmAt wx g g (x0C (.slice A n c) W1.heap.size) [] 20480 (.slice none 0 0) ∧ Xgw wx W1.heap.size ds ∧ Below W1.heap.size W1 wx)
 case first =>
  have hp1 : W1.drew.cell? ⟨w.heap.size, 0, none⟩ = some (.slice A n c) := hp0
  have HF1 : Hid (Calls Tryz.prog 21 #[.slice A n c] W1.drew fun e w' => e = .returned (.map (some W1.heap.size)) ∧ Xgw w' W1.heap.size ds ∧ Below W1.heap.size W1.drew w') := HFI.out W1.drew |> fun h => lh (h HB1.out.drew (by have := HS1.out; show w.heap.size ≤ W1.heap.size; omega))
  go_region_held3 (fun w' => w'.cell? ⟨w.heap.size, 0, none⟩ = some (.slice A n c)) (first | exact hp1 | with_reducible exact hp2 | go_keep)
   (first
     | (go_at_call 21; refine HF1.out.mono ?_; rintro e w2 ⟨rfl, hf2, hb2⟩; have HF2 := lh hf2; have HB2 := lh hb2; have hp2 : w2.cell? ⟨w.heap.size, 0, none⟩ = some (.slice A n c) := (HB2.out.cell (p := ⟨w.heap.size, 0, none⟩) (by have := HS1.out; show w.heap.size < W1.heap.size; omega)).trans hp1; clear hf2 hb2))
  all_goals
   go_wp2
   go_meet
   case rel => exact ⟨w2.heap.size, rfl, HF2.out.1, ⟨heap_alloc_new _ _, Xhw.nil _ _, Nat.le_refl _⟩, HF2.out.of_block (by simp) (Below.heap_alloc _ _ _ HF2.out.1), (HB2.out.alloc (by have := HB2.out.size; exact this) _ |> fun h => (⟨h.os, h.tape, h.output, h.size, h.block⟩ : Below W1.heap.size W1 _))⟩
 case rest =>
  obtain ⟨g, rfl, hg, hnm0, hfa, hbl⟩ := hcut
  have hP0 : wc.cell? ⟨w.heap.size, 0, none⟩ = some (.slice A n c) := (hbl.cell (p := ⟨w.heap.size, 0, none⟩) (by have := HS1.out; show w.heap.size < W1.heap.size; omega)).trans hp0
  have hbw : Below w.heap.size w wc := HB1.out.trans (hbl.mono (by have := HS1.out; omega))
  have hge : wc.heap.size > g := hnm0.lt
  obtain ⟨M, hMd⟩ : ∃ M, M = W1.heap.size := ⟨_, rfl⟩
  rw [← hMd] at hg hnm0 hfa
  have hMw : M = w.heap.size + 2 := by rw [hMd]; exact HS1.out
  have HEV : Hid (∀ (V : World) (x : Nm), Below g wc V → x.dec = .slice A n c → x.mp = .map (some M) → Env V g x ds) := lh fun V x hV h1 h2 => by
   refine (Env.mk' (w0 := wc) (w := wc) (v := .slice A n c) ?_ h1 (Below.refl _ _) h2 hg hfa).keep hV
   exact HIN.out.keep (fun b hb => hbw.block b hb) (fun b hb => by have hb' : b < w.heap.size := hb; show b < g; omega)
  have HG := lh hg
  have HMW := lh hMw
  have HBW := lh hbw
  have HGE : Hid (g < wc.heap.size) := lh hge
  have HI0 : Hid (NmInv wc wc g ds (.slice A n c) M 0) := lh ⟨_, _, _, by rw [List.take_zero, dcDs]; exact hnm0, by rw [List.take_zero, dcDs]; exact x0_tb _ _ _ _, rfl, rfl, Below.refl _ _, by simp [dcWs], Int.le_refl _⟩
  have HRC : Hid (wc.heap[w.heap.size + 1]? = some (.cells #[.slice none 0 0, .slice none 0 0, .slice none 0 0, .slice none 0 0, .slice none 0 0, .slice none 0 0, .slice none 0 0, .slice none 0 0, .slice none 0 0] 34 (0, 0))) := lh ((hbl.block _ (by have := HS1.out; omega)).trans HR0.out)
  clear hg hnm0 hfa hbl hbw hge hMd hMw hp0
  go_wp2
  go_loopw [17] (fun i wr => ∃ (j : Nat), j ≤ n ∧ i = .int .i64 j ∧ Hid (NmInv wc wr g ds (.slice A n c) M j)) (fun i _ => n - (intOf i).toNat)
  case atStart => exact ⟨0, Nat.zero_le _, rfl, HI0⟩
  case round =>
   obtain ⟨wo, rfl⟩ : ∃ wo : World, wo = wr := ⟨_, rfl⟩
   obtain ⟨j, hj, rfl, HI⟩ := hrel
   by_cases hlt : j < n
   · have hje : j < ds.length := by rw [← HN.out]; exact hlt
     obtain ⟨x, dv, left, hNM, hTB, hdec, hmp, hbe, hlo, hhi⟩ := HI.out
     obtain ⟨pb, off, rfl, hpb, hnl0, htl, p0, p1, p2, p3, p4, p5, p6⟩ := HA.out j hje
     have hpb' : pb < w.heap.size := hpb
     have hgg := HGE.out
     have hgm := HG.out
     have hmw := HMW.out
     have hbw2 : Below w.heap.size w wo := HBW.out.trans (hbe.mono (by omega))
     have hpc : ∀ i, wo.cell? ⟨pb, i, none⟩ = w.cell? ⟨pb, i, none⟩ := fun i => World.cell?_of_block (hbw2.block pb hpb')
     have r0 := (hpc _).trans p0
     have r1 := (hpc _).trans p1
     have r2 := (hpc _).trans p2
     have r3 := (hpc _).trans p3
     have r4 := (hpc _).trans p4
     have r5 := (hpc _).trans p5
     have r6 := (hpc _).trans p6
     have hpp := HP.out j hje
     have hbb := HB.out j hje
     obtain ⟨QA, qc, hqv⟩ := hpp.sl
     obtain ⟨BA, bc, hbd, -, -⟩ := hbb.slice
     rw [hqv] at r5 hpp
     rw [hbd] at r6 hbb
     have hkd := HKD.out ds[j] (List.getElem_mem hje)
     have hwt := Xnf hje
     have hwl := Xlr ds (j + 1)
     have hdt := Xsj hje
     have hdl := Xqv ds j (by omega)
     have hww := HW.out
     have hlk : ∀ q, Xbg q (ds.take (j + 1)) 0 = Xbg q (ds.take j) 0 ++ (if ds[j].kind = q then [j] else []) := fun q => Yac q hje
     have hlen2 : (ds.take j).length = j := by rw [List.length_take]; omega
     have hsplit : ds = ds.take j ++ ds[j] :: ds.drop (j + 1) := by rw [← List.drop_eq_getElem_cons hje, List.take_append_drop]
     obtain ⟨z, hz⟩ : ∃ z, z = ds[j] := ⟨_, rfl⟩
     rw [← hz] at r0 r1 r2 r3 r4 r5 r6 hpp hbb hkd hwt hdt hsplit
     simp only [← hz] at hlk
     obtain ⟨k, p, m, nm, ty, qs, bd⟩ := z
     dsimp only at r0 r1 r2 r3 r4 r5 r6 hpp hbb hkd hlk
     have hzw : dcW ⟨k, p, m, nm, ty, qs, bd⟩ = 1 + nm.length + ty.length + prWs qs + smWs bd := rfl
     rw [hzw] at hwt
     obtain ⟨qn, hqn⟩ : ∃ q, q = qs.length := ⟨_, rfl⟩
     obtain ⟨bn, hbn⟩ : ∃ q, q = bd.length := ⟨_, rfl⟩
     rw [← hqn] at r5 hpp
     rw [← hbn] at r6 hbb
     obtain ⟨S, hS⟩ : ∃ q, q = Xab nm := ⟨_, rfl⟩
     obtain ⟨T, hT⟩ : ∃ q, q = Xab ty := ⟨_, rfl⟩
     rw [← hS] at r3
     rw [← hT] at r4
     obtain ⟨L0, hL0⟩ : ∃ q, q = (dcDs ds [] (ds.take j)).1 := ⟨_, rfl⟩
     obtain ⟨V0, hV0⟩ : ∃ q, q = (dcDs ds [] (ds.take j)).2 := ⟨_, rfl⟩
     rw [← hL0] at hNM hdt hdl
     rw [← hV0] at hTB hdt hdl
     obtain ⟨X, hX⟩ : ∃ X : World, X = wo.alloc (.cells #[.int .i64 k, .int .i64 p, .int .i64 m, .string S, .string T, .slice QA qn qc, .slice BA bn bc] 46) := ⟨_, rfl⟩
     have hbx : Below wo.heap.size wo X := by rw [hX]; exact (Below.refl _ _).alloc (Nat.le_refl _) _
     have hrow : X.heap[wo.heap.size]? = some (.cells #[.int .i64 k, .int .i64 p, .int .i64 m, .string S, .string T, .slice QA qn qc, .slice BA bn bc] 46 (0, 0)) := by rw [hX]; exact heap_alloc_new _ _
     have hgw : g ≤ wo.heap.size := by have := hNM.lt; omega
     have hNX := hNM.below hbx
     have hTX := hTB.below hbx
     have hbe2 : Below g wc X := hbe.trans (hbx.mono hgw)
     have HCE : Hid (∀ V : World, Chg (Xga g dv) X V → V.cell? ⟨wo.heap.size, 0, none⟩ = some (.int .i64 k) ∧ V.cell? ⟨wo.heap.size, 1, none⟩ = some (.int .i64 p) ∧ V.cell? ⟨wo.heap.size, 2, none⟩ = some (.int .i64 m) ∧ V.cell? ⟨wo.heap.size, 3, none⟩ = some (.string S) ∧ V.cell? ⟨wo.heap.size, 4, none⟩ = some (.string T) ∧ V.cell? ⟨wo.heap.size, 5, none⟩ = some (.slice QA qn qc) ∧ V.cell? ⟨wo.heap.size, 6, none⟩ = some (.slice BA bn bc)) := lh fun V hV => by
      have hn : ¬ Xga g dv wo.heap.size := fun hm => by have := (hNM.mine hm).2; omega
      have hk2 := (hV.block _ (Xac hrow) hn).trans hrow
      refine ⟨?_, ?_, ?_, ?_, ?_, ?_, ?_⟩
      · rw [cell_of_row V _ 0 _ _ (0, 0) hk2]; rfl
      · rw [cell_of_row V _ 1 _ _ (0, 0) hk2]; rfl
      · rw [cell_of_row V _ 2 _ _ (0, 0) hk2]; rfl
      · rw [cell_of_row V _ 3 _ _ (0, 0) hk2]; rfl
      · rw [cell_of_row V _ 4 _ _ (0, 0) hk2]; rfl
      · rw [cell_of_row V _ 5 _ _ (0, 0) hk2]; rfl
      · rw [cell_of_row V _ 6 _ _ (0, 0) hk2]; rfl
     have HMO : Hid (Calls Tryz.prog 22 #[.pointer (some ⟨g, 0, none⟩), .string S, .string T] X fun e w' => e = .returned (.bool true) ∧ Xbj X g g x dv w' dv L0 (left - (1 + nm.length + ty.length : Nat))) := lh (by
      have h1 := Xmn hNX nm ty (by omega) (by omega) (by omega) (by omega)
      rw [decide_eq_true (by omega), ← hS, ← hT] at h1
      exact h1)
     have HDE : Hid (∀ V : World, Xbj X g g x dv V dv L0 (left - (1 + nm.length + ty.length : Nat)) → Calls Tryz.prog 23 #[.pointer (some ⟨g, 0, none⟩), .int .i64 (j : Nat), .agg #[.int .i64 k, .int .i64 p, .int .i64 m, .string S, .string T, .slice QA qn qc, .slice BA bn bc]] V
       fun e w' => e = .returned (.tuple #[]) ∧ NmInv wc w' g ds (.slice (some ⟨pb, off, none⟩) n c) M (j + 1)) := lh fun V hV => by
      have hbv := Xbj.below_base hNX hV
      have h1 := decl_any (left := left - (1 + nm.length + ty.length : Nat)) (l := L0) (pre := ds.take j) (r := ds.drop (j + 1)) (k := k) (p := p) (u := m) (nm := nm) (ty := ty) (ds := ds) hpp hbb hV.1 (hTX.went hNX hV.2.2) (HEV.out V x (hbe2.trans hbv) hdec hmp) hsplit (B := w.heap.size) (w0 := w) (by omega) (hbw2.trans ((hbx.mono (by omega)).trans (hbv.mono (by omega)))) (fun q _ _ => rfl) hkd.1 hkd.2 (by omega) (by omega) (by omega) (by rw [hlen2]; omega) (show V0.length ≤ 100000 by omega) (by omega) (by omega)
      rw [hlen2, ← hS, ← hT] at h1
      refine h1.mono fun e w' ⟨e1, x', dv', left', a1, a2, a3, a4, a5, a6, a7⟩ => ⟨e1, x', dv', left', ?_, ?_, a3.trans hdec, a4.trans hmp, hbe2.trans (hbv.trans a5), by omega, by omega⟩
      · rw [hdt]; exact a1
      · rw [hdt]
        have e : (fun q => Xbg q (ds.take (j + 1)) 0) = (Tb.add ⟨fun q => Xbg q (ds.take j) 0, V0⟩ k j).k := by
         funext q
         rw [hlk q]
         unfold Tb.add
         by_cases hq : q = k
         · subst hq; simp
         · rw [if_neg (fun h => hq h.symm)]; simp [hq]
        rw [e]
        exact a2
     have HX := lh hX
     clear hje hpb' hgg hgm hmw hbw2 hpc p0 p1 p2 p3 p4 p5 p6 hpp hbb hqv hbd hkd hwt hwl hdt hdl hww hlk hlen2 hsplit hz hzw hqn hbn hS hT hL0 hV0 hX hbx hrow hgw hNX hTX hbe2 hNM hTB hdec hmp hbe hlo hhi hnl0 htl hpb
     go_upto_region 5 with fail
     rw [← HX.out]
     obtain ⟨d0, d1, d2, d3, d4, d5, d6⟩ := HCE.out X (Chg.refl _ _)
     go_wp2_with (first
      | ((with_reducible refine HMO.out.mono ?_); rintro e w1 ⟨rfl, hw1⟩; have HD1 := lh (HDE.out w1 hw1); obtain ⟨e0, e1, e2, e3, e4, e5, e6⟩ := HCE.out w1 hw1.2.2; clear hw1)
      | ((with_reducible refine HD1.out.mono ?_); rintro e w2 ⟨rfl, hi2⟩; have HI2 := lh hi2; clear hi2))
     go_roundw
     case rel => exact ⟨j + 1, by omega, by go_num, HI2⟩
     case measure => first | (simp [intOf]; done) | (simp [intOf]; omega)
   · have hT : ds.take j = ds := List.take_of_length_le (by rw [← HN.out]; omega)
     have hi := HI.out
     unfold NmInv at hi
     rw [hT] at hi
     obtain ⟨x, dv, left, hNM, hTB, hdec, hmp, hbe, hlo, hhi⟩ := hi
     have hW := HW.out
     have hleft : 0 ≤ left := by omega
     have c12 := hNM.c12
     obtain ⟨A1, c1, e1⟩ := Xde (hTB.ix 1 (by decide) (by decide))
     have e1 : x.t1 = .slice A1 (Xbg 1 ds 0).length c1 := e1
     obtain ⟨n1, hn1⟩ : ∃ q, q = (Xbg 1 ds 0).length := ⟨_, rfl⟩
     rw [← hn1] at e1
     obtain ⟨A2, c2, e2⟩ := Xde (hTB.ix 2 (by decide) (by decide))
     have e2 : x.t2 = .slice A2 (Xbg 2 ds 0).length c2 := e2
     obtain ⟨n2, hn2⟩ : ∃ q, q = (Xbg 2 ds 0).length := ⟨_, rfl⟩
     rw [← hn2] at e2
     obtain ⟨A3, c3, e3⟩ := Xde (hTB.ix 3 (by decide) (by decide))
     have e3 : x.t3 = .slice A3 (Xbg 3 ds 0).length c3 := e3
     obtain ⟨n3, hn3⟩ : ∃ q, q = (Xbg 3 ds 0).length := ⟨_, rfl⟩
     rw [← hn3] at e3
     obtain ⟨A4, c4, e4⟩ := Xde (hTB.ix 4 (by decide) (by decide))
     have e4 : x.t4 = .slice A4 (Xbg 4 ds 0).length c4 := e4
     obtain ⟨n4, hn4⟩ : ∃ q, q = (Xbg 4 ds 0).length := ⟨_, rfl⟩
     rw [← hn4] at e4
     obtain ⟨A5, c5, e5⟩ := Xde (hTB.ix 5 (by decide) (by decide))
     have e5 : x.t5 = .slice A5 (Xbg 5 ds 0).length c5 := e5
     obtain ⟨n5, hn5⟩ : ∃ q, q = (Xbg 5 ds 0).length := ⟨_, rfl⟩
     rw [← hn5] at e5
     obtain ⟨A6, c6, e6⟩ := Xde (hTB.ix 6 (by decide) (by decide))
     have e6 : x.t6 = .slice A6 (Xbg 6 ds 0).length c6 := e6
     obtain ⟨n6, hn6⟩ : ∃ q, q = (Xbg 6 ds 0).length := ⟨_, rfl⟩
     rw [← hn6] at e6
     obtain ⟨A7, c7, e7⟩ := Xde (hTB.ix 7 (by decide) (by decide))
     have e7 : x.t7 = .slice A7 (Xbg 7 ds 0).length c7 := e7
     obtain ⟨n7, hn7⟩ : ∃ q, q = (Xbg 7 ds 0).length := ⟨_, rfl⟩
     rw [← hn7] at e7
     obtain ⟨A8, c8, e8⟩ := Xde (hTB.ix 8 (by decide) (by decide))
     have e8 : x.t8 = .slice A8 (Xbg 8 ds 0).length c8 := e8
     obtain ⟨n8, hn8⟩ : ∃ q, q = (Xbg 8 ds 0).length := ⟨_, rfl⟩
     rw [← hn8] at e8
     obtain ⟨vs, hvs⟩ := hTB.lv
     obtain ⟨A9, c9, e9⟩ := Xde hvs.own
     obtain ⟨n9, hn9⟩ : ∃ q, q = vs.length := ⟨_, rfl⟩
     rw [← hn9] at e9
     obtain ⟨A0, c0, e0⟩ := Xde hNM.own
     obtain ⟨n0, hn0⟩ : ∃ q, q = (dcDs ds [] ds).1.length := ⟨_, rfl⟩
     rw [← hn0] at e0
     have hdl := (Xqv ds ds.length (Nat.le_refl _)).1
     rw [List.take_length] at hdl
     have hlen := Xxf ds
     have hrw : wo.heap[w.heap.size + 1]? = some (.cells #[.slice none 0 0, .slice none 0 0, .slice none 0 0, .slice none 0 0, .slice none 0 0, .slice none 0 0, .slice none 0 0, .slice none 0 0, .slice none 0 0] 34 (0, 0)) := (hbe.block _ (by have := HG.out; have := HMW.out; omega)).trans HRC.out
     have hce : ∀ V : World, V.heap[g]? = wo.heap[g]? → V.cell? ⟨g, 2, none⟩ = some (.slice A1 n1 c1) ∧ V.cell? ⟨g, 3, none⟩ = some (.slice A2 n2 c2) ∧ V.cell? ⟨g, 4, none⟩ = some (.slice A3 n3 c3) ∧ V.cell? ⟨g, 5, none⟩ = some (.slice A4 n4 c4) ∧ V.cell? ⟨g, 6, none⟩ = some (.slice A5 n5 c5) ∧ V.cell? ⟨g, 7, none⟩ = some (.slice A6 n6 c6) ∧ V.cell? ⟨g, 8, none⟩ = some (.slice A7 n7 c7) ∧ V.cell? ⟨g, 9, none⟩ = some (.slice A8 n8 c8) ∧ V.cell? ⟨g, 10, none⟩ = some (.slice A9 n9 c9) ∧ V.cell? ⟨g, 11, none⟩ = some (.slice A0 n0 c0) := fun V hV => by
      have hr := hV.trans hNM.row
      refine ⟨?_, ?_, ?_, ?_, ?_, ?_, ?_, ?_, ?_, ?_⟩
      · rw [cell_of_row V g 2 _ _ (0, 0) hr, ← e1]; rfl
      · rw [cell_of_row V g 3 _ _ (0, 0) hr, ← e2]; rfl
      · rw [cell_of_row V g 4 _ _ (0, 0) hr, ← e3]; rfl
      · rw [cell_of_row V g 5 _ _ (0, 0) hr, ← e4]; rfl
      · rw [cell_of_row V g 6 _ _ (0, 0) hr, ← e5]; rfl
      · rw [cell_of_row V g 7 _ _ (0, 0) hr, ← e6]; rfl
      · rw [cell_of_row V g 8 _ _ (0, 0) hr, ← e7]; rfl
      · rw [cell_of_row V g 9 _ _ (0, 0) hr, ← e8]; rfl
      · rw [cell_of_row V g 10 _ _ (0, 0) hr, ← e9]; rfl
      · rw [cell_of_row V g 11 _ _ (0, 0) hr, ← e0]; rfl
     have hrr : ∀ V : World, V.heap[w.heap.size + 1]? = wo.heap[w.heap.size + 1]? → V.cell? ⟨w.heap.size + 1, 0, none⟩ = some (.slice none 0 0) ∧ V.frozen? ⟨w.heap.size + 1, 0, none⟩ = false ∧ V.cell? ⟨w.heap.size + 1, 1, none⟩ = some (.slice none 0 0) ∧ V.frozen? ⟨w.heap.size + 1, 1, none⟩ = false ∧ V.cell? ⟨w.heap.size + 1, 2, none⟩ = some (.slice none 0 0) ∧ V.frozen? ⟨w.heap.size + 1, 2, none⟩ = false ∧ V.cell? ⟨w.heap.size + 1, 3, none⟩ = some (.slice none 0 0) ∧ V.frozen? ⟨w.heap.size + 1, 3, none⟩ = false ∧ V.cell? ⟨w.heap.size + 1, 4, none⟩ = some (.slice none 0 0) ∧ V.frozen? ⟨w.heap.size + 1, 4, none⟩ = false ∧ V.cell? ⟨w.heap.size + 1, 5, none⟩ = some (.slice none 0 0) ∧ V.frozen? ⟨w.heap.size + 1, 5, none⟩ = false ∧ V.cell? ⟨w.heap.size + 1, 6, none⟩ = some (.slice none 0 0) ∧ V.frozen? ⟨w.heap.size + 1, 6, none⟩ = false ∧ V.cell? ⟨w.heap.size + 1, 7, none⟩ = some (.slice none 0 0) ∧ V.frozen? ⟨w.heap.size + 1, 7, none⟩ = false ∧ V.cell? ⟨w.heap.size + 1, 8, none⟩ = some (.slice none 0 0) ∧ V.frozen? ⟨w.heap.size + 1, 8, none⟩ = false := fun V hV => by
      have hr := hV.trans hrw
      exact ⟨by rw [cell_of_row V _ 0 _ _ (0, 0) hr]; rfl, frozen_of_row V _ 0 _ _ hr, by rw [cell_of_row V _ 1 _ _ (0, 0) hr]; rfl, frozen_of_row V _ 1 _ _ hr, by rw [cell_of_row V _ 2 _ _ (0, 0) hr]; rfl, frozen_of_row V _ 2 _ _ hr, by rw [cell_of_row V _ 3 _ _ (0, 0) hr]; rfl, frozen_of_row V _ 3 _ _ hr, by rw [cell_of_row V _ 4 _ _ (0, 0) hr]; rfl, frozen_of_row V _ 4 _ _ hr, by rw [cell_of_row V _ 5 _ _ (0, 0) hr]; rfl, frozen_of_row V _ 5 _ _ hr, by rw [cell_of_row V _ 6 _ _ (0, 0) hr]; rfl, frozen_of_row V _ 6 _ _ hr, by rw [cell_of_row V _ 7 _ _ (0, 0) hr]; rfl, frozen_of_row V _ 7 _ _ hr, by rw [cell_of_row V _ 8 _ _ (0, 0) hr]; rfl, frozen_of_row V _ 8 _ _ hr⟩
     have hor : Calls Tryz.prog 24 #[.slice A0 n0 c0] wo.drew fun e w' => ∃ v', e = .returned v' ∧ Xma w' g v' (ordD (rawD ds)) ∧ Chg (fun k => dv.ownBlock = some k) wo.drew w' := by
      rw [← e0]; exact HOO.out wo.drew g dv _ hNM.own (show (rawD ds).length ≤ 1000000 by unfold rawD; omega)
     have hne : dv.ownBlock ≠ some g := hNM.ne
     have hgsz := hNM.lt
     have HOR := lh hor
     have HCE := lh hce
     have HRR := lh hrr
     have HNE := lh hne
     have HRW := lh hrw
     have HNM := lh hNM
     have HTB := lh hTB
     have HBE := lh hbe
     have HEE := lh (And.intro e1 (And.intro e2 (And.intro e3 (And.intro e4 (And.intro e5 (And.intro e6 (And.intro e7 (And.intro e8 e9))))))))
     clear hT HI hNM hTB hdec hmp hbe hlo hhi hW hn1 hn2 hn3 hn4 hn5 hn6 hn7 hn8 hn9 hn0 e0 e1 e2 e3 e4 e5 e6 e7 e8 e9 hvs hdl hlen hrw hce hrr hor hne hgsz
     go_upto_region 10 with fail
     obtain ⟨f1, f2, f3, f4, f5, f6, f7, f8, f9, f0⟩ := HCE.out wo.drew rfl
     obtain ⟨p0, q0, p1, q1, p2, q2, p3, q3, p4, q4, p5, q5, p6, q6, p7, q7, p8, q8⟩ := HRR.out wo.drew rfl
     go_region_law (first
      | (go_simp
         go_at_call 24
         refine HOR.out.mono ?_
         rintro e w2 ⟨v2, rfl, hd2, hch2⟩
         have hg2 := hch2.block g HNM.out.lt HNE.out
         obtain ⟨g1, g2, g3, g4, g5, g6, g7, g8, g9, g0⟩ := HCE.out w2 hg2
         have hr2 := hch2.block (w.heap.size + 1) (by have := HG.out; have := HMW.out; have := HNM.out.lt; show _ < wo.heap.size; omega) (fun h => by have := (HNM.out.own.blk h).1; have := HG.out; have := HMW.out; omega)
         obtain ⟨s0, u0, s1, u1, s2, u2, s3, u3, s4, u4, s5, u5, s6, u6, s7, u7, s8, u8⟩ := HRR.out w2 hr2
         have HR2 := lh hr2
         have HD2 := lh hd2
         have HC2 := lh hch2
         clear hd2 hch2 hg2 hr2))
     all_goals
      go_wp2
      obtain ⟨Z, hZ⟩ : ∃ Z : World, Z = set9 w2 (w.heap.size + 1) (.slice A1 n1 c1) (.slice A2 n2 c2) (.slice A3 n3 c3) (.slice A4 n4 c4) (.slice A5 n5 c5) (.slice A6 n6 c6) (.slice A7 n7 c7) (.slice A8 n8 c8) (.slice A9 n9 c9) := ⟨_, rfl⟩
      have hZ2 := hZ
      unfold set9 at hZ2
      rw [← hZ2]
      have hrz : Z.heap[w.heap.size + 1]? = some (.cells #[.slice A1 n1 c1, .slice A2 n2 c2, .slice A3 n3 c3, .slice A4 n4 c4, .slice A5 n5 c5, .slice A6 n6 c6, .slice A7 n7 c7, .slice A8 n8 c8, .slice A9 n9 c9] 34 (0, 0)) := by rw [hZ]; exact set9_row (HR2.out.trans HRW.out)
      have b0 : Z.cell? ⟨w.heap.size + 1, 0, none⟩ = some (.slice A1 n1 c1) := by rw [cell_of_row Z _ 0 _ _ (0, 0) hrz]; rfl
      have b1 : Z.cell? ⟨w.heap.size + 1, 1, none⟩ = some (.slice A2 n2 c2) := by rw [cell_of_row Z _ 1 _ _ (0, 0) hrz]; rfl
      have b2 : Z.cell? ⟨w.heap.size + 1, 2, none⟩ = some (.slice A3 n3 c3) := by rw [cell_of_row Z _ 2 _ _ (0, 0) hrz]; rfl
      have b3 : Z.cell? ⟨w.heap.size + 1, 3, none⟩ = some (.slice A4 n4 c4) := by rw [cell_of_row Z _ 3 _ _ (0, 0) hrz]; rfl
      have b4 : Z.cell? ⟨w.heap.size + 1, 4, none⟩ = some (.slice A5 n5 c5) := by rw [cell_of_row Z _ 4 _ _ (0, 0) hrz]; rfl
      have b5 : Z.cell? ⟨w.heap.size + 1, 5, none⟩ = some (.slice A6 n6 c6) := by rw [cell_of_row Z _ 5 _ _ (0, 0) hrz]; rfl
      have b6 : Z.cell? ⟨w.heap.size + 1, 6, none⟩ = some (.slice A7 n7 c7) := by rw [cell_of_row Z _ 6 _ _ (0, 0) hrz]; rfl
      have b7 : Z.cell? ⟨w.heap.size + 1, 7, none⟩ = some (.slice A8 n8 c8) := by rw [cell_of_row Z _ 7 _ _ (0, 0) hrz]; rfl
      have b8 : Z.cell? ⟨w.heap.size + 1, 8, none⟩ = some (.slice A9 n9 c9) := by rw [cell_of_row Z _ 8 _ _ (0, 0) hrz]; rfl
      have HZ := lh hZ
      clear hZ hZ2 hrz f1 f2 f3 f4 f5 f6 f7 f8 f9 f0 g1 g2 g3 g4 g5 g6 g7 g8 g9 g0 p0 q0 p1 q1 p2 q2 p3 q3 p4 q4 p5 q5 p6 q6 p7 q7 p8 q8 s0 u0 s1 u1 s2 u2 s3 u3 s4 u4 s5 u5 s6 u6 s7 u7 s8 u8
      refine bodyPost_ret (v := .tuple #[.agg #[.slice A1 n1 c1, .slice A2 n2 c2, .slice A3 n3 c3, .slice A4 n4 c4, .slice A5 n5 c5, .slice A6 n6 c6, .slice A7 n7 c7, .slice A8 n8 c8, .slice A9 n9 c9], v2]) ?_ rfl ?_
      · simp [results, Tryz.results12, go_sem, b0, b1, b2, b3, b4, b5, b6, b7, b8]
      · obtain ⟨e1, e2, e3, e4, e5, e6, e7, e8, e9⟩ := HEE.out
        have hg := HG.out
        have hm := HMW.out
        have hzo : ∀ k, g ≤ k → Z.heap[k]? = w2.heap[k]? := fun k hk => by rw [HZ.out]; exact Yaq (by omega)
        have hzs : Z.heap.size = w2.heap.size := by rw [HZ.out]; exact Yfh
        have hbo : Below w.heap.size w wo := HBW.out.trans (HBE.out.mono (by omega))
        have hb2 : Below w.heap.size wo w2 := by
         have h1 : Below w.heap.size wo.drew w2 := HC2.out.below (by have := HNM.out.lt; show _ ≤ wo.heap.size; omega) fun y hy => by have := (HNM.out.own.blk hy).1; omega
         exact ⟨h1.os, h1.tape, h1.output, h1.size, h1.block⟩
        refine ⟨x, v2, g, by rw [e1, e2, e3, e4, e5, e6, e7, e8, e9], by omega, ?_, HD2.out.keep hzo (by omega), by rw [HZ.out]; exact Yap (hbo.trans hb2) (by omega)⟩
        have htb := HTB.out
        refine htb.keep fun q cur ty hq hqr hty => (hzo q hq).trans (HC2.out.block q (Xac hqr) fun hmn => ?_)
        obtain ⟨_, _, cur2, hc2⟩ := HNM.out.own.blk hmn
        rw [hqr] at hc2
        simp at hc2
        rcases hty with h | h | h <;> (rw [h] at hc2; exact absurd hc2.2 (by decide))
end Go.Proofs.YtbckeljbpknbdaaGreatDoor
