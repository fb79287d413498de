/- What is proved: for every program and every number the law TreePlaces returns true and leaves its arguments as they were, in every world in which the tables that the row lists stand as the program lays them; no other condition. -/
import Derived.Test.YtjpphbjnakalhaaDoorZf0
import Derived.Test.YtjpphbjnakalhaaDoorZf1
import Derived.Shelf.Small.Strs
import Derived.Shelf.LaysM
import Derived.Shelf.Strconv.Clone
import Derived.Shelf.Strings.Search1
import Derived.Shelf.Strings.Prefix
import Derived.Test.YtjpphbjnakalhaaDoorRows
import Derived.WalkKit
import Derived.WalkSpells
import Derived.WalkLawsBesides
import Derived.Lib.Hide
import Derived.Lib.IndexAny
import Derived.OwnWalk
import Derived.Deep.AppendLies
import Derived.Laws.AppendOwnNone
import Derived.Deep.QuietTactic
import Derived.BigQuiet
import Derived.Recover
import Derived.StillTailTactics
import Derived.IntWalk
import Derived.Lib.ItoaNum
import Derived.Lib.AppendStr
import Derived.Lib.BufferRead
import Derived.Shelf.Small.Wraps
import Derived.Shelf.Strconv.Itoa0
import Derived.Shelf.Strconv.Itoa1
import Derived.Shelf.Strconv.Itoa2
import Derived.Shelf.Strconv.Itoa3
import Derived.Shelf.Slices.Turned
import Derived.Lib.AppendIntMem
import Derived.Deep.RegionHeld3
import Derived.Lib.ItoaLen
import Derived.Maps.AppendAt
import Derived.ChangeArms
import Derived.SizedLaws
import Derived.ProofKit
import Derived.Deep.Slices
import Derived.OpenShut
import Derived.ChangeMaps5
import Derived.WideShapes
import Derived.Handed
import Derived.Test.YtjpphbjnakalhaaDoorTie
import Derived.Test.YtjpphbjnakalhaaDoorCards
import Derived.LaidMore
import Derived.LaidOnce
import Derived.Stop.LaidErr
import Derived.Lib.LaidTab
import Derived.SevenTiedAt
import Derived.JoinedOf
set_option linter.unusedVariables false
set_option linter.unusedSimpArgs false
namespace Go.Proofs.YtjpphbjnakalhaaDoor
open Go.RowKit

def bareS (s : Sm) : Sm := setS s 0
def bareD (d : Dc) : Dc := ⟨d.kind, 0, d.num, d.name, d.type, d.pairs, d.body.map bareS⟩
theorem map_set_same {α β : Type} {f : α → β} : ∀ (l : List α) (k : Nat) (h : k < l.length) (y : α), f y = f l[k] → (l.set k y).map f = l.map f
  | a :: l, 0, h, y, e => by
    show f y :: l.map f = f a :: l.map f
    rw [show f y = f a from e]
  | a :: l, k + 1, h, y, e => by
    show f a :: (l.set k y).map f = f a :: l.map f
    rw [map_set_same l k (by simpa using h) y e]
  | [], k, h, y, e => absurd h (by simp)
theorem bareS_setS (s : Sm) (p : Int) : bareS (setS s p) = bareS s := by cases s; rfl
theorem bare_setDB (d : Dc) (k : Nat) (p : Int) : bareD (setDB d k p) = bareD d := by
  unfold bareD setDB
  by_cases h : k < d.body.length
  · simp only [h, dif_pos]
    rw [map_set_same d.body k h _ (bareS_setS _ _)]
  · simp only [h, dif_neg, not_false_eq_true]
theorem penS_bare (s : Sm) (deep : Int) : penS (bareS s) deep = penS s deep := by
  cases s with
  | mk k p n t ex bd el =>
    show penS (.mk k 0 n t ex bd el) deep = penS (.mk k p n t ex bd el) deep
    rw [penS, penS]
theorem penSs_bare (deep : Int) : ∀ ss : List Sm, penSs (ss.map bareS) deep = penSs ss deep
  | [] => rfl
  | s :: ss => by rw [List.map_cons, penSs, penSs, penS_bare, penSs_bare deep ss]
theorem penD_two {k p p' u : Int} {s t : List UInt8} {ps : List Pr} {b b' : List Sm} (h1 : b.length = b'.length) (h2 : penB b 1 = penB b' 1) : penD ⟨k, p, u, s, t, ps, b⟩ = penD ⟨k, p', u, s, t, ps, b'⟩ := by
  unfold penD
  dsimp only
  rw [h2, h1]
theorem penD_bare (d : Dc) : penD (bareD d) = penD d := by
  cases d with
  | mk k p u s t ps b => exact penD_two (by simp) (by unfold penB; rw [penSs_bare])
theorem penDs_bare : ∀ ds : List Dc, penDs (ds.map bareD) = penDs ds
  | [] => rfl
  | d :: ds => by rw [List.map_cons, penDs, penDs, penD_bare, penDs_bare ds]
theorem pen_like {ds ss : List Dc} (h : ss.map bareD = ds.map bareD) : penP ss = penP ds := by
  have hl : ss.length = ds.length := by simpa using congrArg List.length h
  unfold penP
  rw [← penDs_bare ss, h, penDs_bare, hl]
theorem smallS_bare (N : Nat) (s : Sm) : smallS N (bareS s) ↔ smallS N s := by
  cases s with
  | mk k p n t ex bd el =>
    show smallS N (.mk k 0 n t ex bd el) ↔ smallS N (.mk k p n t ex bd el)
    rw [smallS, smallS]
theorem smallSs_bare (N : Nat) : ∀ ss : List Sm, smallSs N (ss.map bareS) ↔ smallSs N ss
  | [] => Iff.rfl
  | s :: ss => by rw [List.map_cons, smallSs, smallSs, smallS_bare, smallSs_bare N ss]
theorem smallDN_bare (d : Dc) : smallDN (bareD d) ↔ smallDN d := by
  unfold smallDN
  simp only [bareD, smallSs_bare]
theorem like_get {ds ss : List Dc} (h : ss.map bareD = ds.map bareD) (k : Nat) (h1 : k < ss.length) (h2 : k < ds.length) : bareD ss[k] = bareD ds[k] := by
  have e := congrArg (fun l => l[k]?) h
  simpa [h1, h2] using e
theorem small_like {ds ss : List Dc} (h : ss.map bareD = ds.map bareD) (hs : ∀ (k : Nat) (hk : k < ds.length), smallDN ds[k]) (k : Nat) (hk : k < ss.length) : smallDN ss[k] := by
  have hl : ss.length = ds.length := by simpa using congrArg List.length h
  rw [← smallDN_bare, like_get h k hk (by omega), smallDN_bare]
  exact hs k _
theorem body_like {ds ss : List Dc} (h : ss.map bareD = ds.map bareD) (k : Nat) (h1 : k < ss.length) (h2 : k < ds.length) : ss[k].body.length = ds[k].body.length := by
  simpa [bareD] using congrArg (fun d => d.body.length) (like_get h k h1 h2)
theorem copyA_light {w : World} {ds : List Dc} {v : Value} (h : DcsIn w (· < w.heap.size) ds v) (hl : Light ds) (w1 : World) (hb : Below w.heap.size w w1) (hs : w.heap.size ≤ w1.heap.size) :
    Calls Tryd.prog 6 #[.agg #[v], .int .i64 300] w1 (DcsPostA w1 ds) := by
  have hc := copypA_any h hl.sm (by have := hl.ln; omega) 300 w1 hb hs (by omega) (by omega)
  rw [hl.cp] at hc
  exact hc

/-- while the copy's places are set -/
def Lp (w wr : World) (B T gq n c c' : Nat) (A A' : Option Addr) (ds ss : List Dc) : Prop :=
  ss.map bareD = ds.map bareD ∧ Apart wr B T (.slice A' n c') ss ∧ Below w.heap.size w wr ∧ wr.heap[gq]? = some (.cells #[.slice A' n c'] 24 (0, 0)) ∧ wr.heap[w.heap.size]? = some (.cells #[.slice A n c] 24 (0, 0))
section
variable {w wr : World} {B T gq n c c' : Nat} {A A' : Option Addr} {ds ss : List Dc}
theorem Lp.len (h : Lp w wr B T gq n c c' A A' ds ss) (hn : n = ds.length) : ss.length = n := by
  rw [hn]; simpa using congrArg List.length h.1
theorem Lp.row (h : Lp w wr B T gq n c c' A A' ds ss) (hn : n = ds.length) {j : Nat} (hj : j < n) : ∃ D, A' = some ⟨D, 0, none⟩ ∧ wr.frozen? ⟨D, j * 7 + 1, none⟩ = false ∧ (∃ u, wr.cell? ⟨D, j * 7 + 1, none⟩ = some u) ∧ n ≤ c' := by
  have hl := h.len hn
  obtain ⟨A2, c2, e, hlc, hD⟩ := h.2.1.form
  cases e
  obtain ⟨D, h1, -, -, h2, h3, -⟩ := hD j (by omega)
  exact ⟨D, h1, h2, h3, by omega⟩
theorem Lp.setD {D : Nat} (h : Lp w wr B T gq n c c' A (some ⟨D, 0, none⟩) ds ss) (hn : n = ds.length) (hT : T ≤ gq) (hB : w.heap.size < B) {j : Nat} (hj : j < n) (x : Int) : ∃ ss', Lp w (wr.setCell ⟨D, j * 7 + 1, none⟩ (.int .i64 x)) B T gq n c c' A (some ⟨D, 0, none⟩) ds ss' := by
  have hl := h.len hn
  obtain ⟨h1, h2, h3, h4, h5⟩ := h
  have hD := h2.lt (b := D) rfl
  subst hl
  have h6 := h2.setDc (i := j) (by omega) x
  exact ⟨_, by rw [map_set_same ss j (by omega) (setD ss[j] x) rfl]; exact h1, h6, h3.setCell (show w.heap.size ≤ D by omega) _, (Below.heap_setCell _ _ _ gq (show gq ≠ D by omega)).trans h4, (Below.heap_setCell _ _ _ w.heap.size (show w.heap.size ≠ D by omega)).trans h5⟩
theorem Lp.body {D : Nat} (h : Lp w wr B T gq n c c' A (some ⟨D, 0, none⟩) ds ss) (hn : n = ds.length) (hT : T ≤ gq) (hB : w.heap.size < B) {j : Nat} (hj : j < ds.length) : ∃ Bb m, wr.cell? ⟨D, j * 7 + 6, none⟩ = some (.slice Bb ds[j].body.length m) ∧ ∀ k, k < ds[j].body.length → ∃ b, Bb = some ⟨b, 0, none⟩ ∧ wr.frozen? ⟨b, k * 7 + 1, none⟩ = false ∧ (∃ u, wr.cell? ⟨b, k * 7 + 1, none⟩ = some u) ∧ ds[j].body.length ≤ m ∧ ∀ x : Int, ∃ ss', Lp w (wr.setCell ⟨b, k * 7 + 1, none⟩ (.int .i64 x)) B T gq n c c' A (some ⟨D, 0, none⟩) ds ss' := by
  have hl := h.len hn
  obtain ⟨h1, h2, h3, h4, h5⟩ := h
  have hbl := body_like h1 j (by omega) hj
  obtain ⟨A2, c2, e, hlc, hD⟩ := h2.form
  cases e
  obtain ⟨D2, e, g1, g2, -, -, Bb, m, g3, g4⟩ := hD j (by omega)
  cases e
  rw [hbl] at g3
  refine ⟨Bb, m, g3, fun k hk => ?_⟩
  obtain ⟨b, rfl, q1, q2, q3, q4, q5, q6⟩ := g4 k (by omega)
  refine ⟨b, rfl, q4, q5, by omega, fun x => ?_⟩
  have h6 := h2.setSm (A := none) (i := j) (k := k) (by omega) g3 (by omega) x
  exact ⟨_, by rw [map_set_same ss j (by omega) (setDB ss[j] k x) (bare_setDB _ _ _)]; exact h1, h6, h3.setCell (show w.heap.size ≤ b by omega) _, (Below.heap_setCell _ _ _ gq (show gq ≠ b by omega)).trans h4, (Below.heap_setCell _ _ _ w.heap.size (show w.heap.size ≠ b by omega)).trans h5⟩
end

set_option maxRecDepth 100000 in
set_option maxHeartbeats 4000000 in
theorem treePlaces_heavy (w : World) (htab : TabW w) {ds : List Dc} {v : Value} (h : DcsIn w (· < w.heap.size) ds v) (x : Int) (hw : 40000 < goDs ds 0 40000 60) :
    Calls Tryd.prog 3 #[.agg #[v], .int .i64 x] w fun r w' => r = .returned (.bool true) ∧ Below w.heap.size w w' := by
  obtain ⟨A, c, _, _, rfl, _⟩ := id h
  obtain ⟨X, hX⟩ : ∃ X : World, X = w.alloc (.cells #[.slice A ds.length c] 24) := ⟨_, rfl⟩
  have hbx : Below w.heap.size w X := by rw [hX]; exact (Below.refl _ _).alloc (Nat.le_refl _) _
  have hrow : X.heap[w.heap.size]? = some (.cells #[.slice A ds.length c] 24 (0, 0)) := by rw [hX]; exact heap_alloc_new _ _
  have hgx : w.heap.size < X.heap.size := lt_of_heap hrow
  have HAL := Lib.hid (alive_any X (htab.below hbx))
  have HX := Lib.hid hX
  have HBX := Lib.hid hbx
  have HIN := Lib.hid h
  have HROW := Lib.hid hrow
  have HT := Lib.hid htab
  have HGX := Lib.hid hgx
  clear hX hbx htab h hrow hgx
  go_enter Tryd.func3, Tryd.ntmps3
  go_wp2_with fail
  rw [← HX.out]
  refine HAL.out.mono ?_
  rintro e1 w1 ⟨rfl, hb1⟩
  have hq1 : w1.heap[w.heap.size]? = some (.cells #[.slice A ds.length c] 24 (0, 0)) := (hb1.block _ HGX.out).trans HROW.out
  have q1 : w1.cell? ⟨w.heap.size, 0, none⟩ = some (.slice A ds.length c) := by rw [cell_of_row w1 _ 0 _ _ (0, 0) hq1]; rfl
  have hbw : Below w.heap.size w w1 := HBX.out.trans (hb1.mono HBX.out.size)
  have HWG := Lib.hid (weighp_any HIN.out 40000 60 w1 hbw hbw.size (by omega) (by omega) (by omega) (by omega))
  have HB1 := Lib.hid hbw
  have HQ1 := Lib.hid hq1
  clear hb1 hq1 hbw
  go_wp2_with fail
  refine HWG.out.mono ?_
  rintro e2 w2 ⟨rfl, hb2⟩
  have HB2 := Lib.hid (HB1.out.trans (hb2.mono HB1.out.size))
  clear hb2 q1
  obtain ⟨G, hG⟩ : ∃ G, G = goDs ds 0 40000 60 := ⟨_, rfl⟩
  rw [← hG] at hw ⊢
  clear hG
  go_wp2
  go_ret
  exact ⟨rfl, HB2.out⟩

set_option maxRecDepth 100000 in
set_option maxHeartbeats 4000000 in
theorem treePlaces_light (w : World) (htab : TabW w) {ds : List Dc} {v : Value} (h : DcsIn w (· < w.heap.size) ds v) (x : Int) (hw : ¬ 40000 < goDs ds 0 40000 60) :
    Calls Tryd.prog 3 #[.agg #[v], .int .i64 x] w fun r w' => r = .returned (.bool true) ∧ Below w.heap.size w w' := by
  obtain ⟨A, c, _, _, rfl, _⟩ := id h
  obtain ⟨X, hX⟩ : ∃ X : World, X = w.alloc (.cells #[.slice A ds.length c] 24) := ⟨_, rfl⟩
  have hbx : Below w.heap.size w X := by rw [hX]; exact (Below.refl _ _).alloc (Nat.le_refl _) _
  have hrow : X.heap[w.heap.size]? = some (.cells #[.slice A ds.length c] 24 (0, 0)) := by rw [hX]; exact heap_alloc_new _ _
  have hgx : w.heap.size < X.heap.size := lt_of_heap hrow
  have HAL := Lib.hid (alive_any X (htab.below hbx))
  have HX := Lib.hid hX
  have HBX := Lib.hid hbx
  have HIN := Lib.hid h
  have HROW := Lib.hid hrow
  have HT := Lib.hid htab
  have HGX := Lib.hid hgx
  clear hX hbx htab h hrow hgx
  go_enter Tryd.func3, Tryd.ntmps3
  go_wp2_with fail
  rw [← HX.out]
  refine HAL.out.mono ?_
  rintro e1 w1 ⟨rfl, hb1⟩
  have hq1 : w1.heap[w.heap.size]? = some (.cells #[.slice A ds.length c] 24 (0, 0)) := (hb1.block _ HGX.out).trans HROW.out
  have q1 : w1.cell? ⟨w.heap.size, 0, none⟩ = some (.slice A ds.length c) := by rw [cell_of_row w1 _ 0 _ _ (0, 0) hq1]; rfl
  have hbw : Below w.heap.size w w1 := HBX.out.trans (hb1.mono HBX.out.size)
  have HWG := Lib.hid (weighp_any HIN.out 40000 60 w1 hbw hbw.size (by omega) (by omega) (by omega) (by omega))
  have HB1 := Lib.hid hbw
  have HQ1 := Lib.hid hq1
  clear hb1 hq1 hbw
  go_wp2_with fail
  refine HWG.out.mono ?_
  rintro e2 w2 ⟨rfl, hb2⟩
  have hq2 : w2.heap[w.heap.size]? = some (.cells #[.slice A ds.length c] 24 (0, 0)) := (hb2.block _ (lt_of_heap HQ1.out)).trans HQ1.out
  have q2 : w2.cell? ⟨w.heap.size, 0, none⟩ = some (.slice A ds.length c) := by rw [cell_of_row w2 _ 0 _ _ (0, 0) hq2]; rfl
  have HQ2 := Lib.hid hq2
  have HB2 := Lib.hid (HB1.out.trans (hb2.mono HB1.out.size))
  clear hb2 q1 hq2
  obtain ⟨G, hG⟩ : ∃ G, G = goDs ds 0 40000 60 := ⟨_, rfl⟩
  rw [← hG] at hw ⊢
  have hl := light_of (ds := ds) (by omega)
  have HCP := Lib.hid (copyA_light HIN.out hl w2 HB2.out HB2.out.size)
  have HL := Lib.hid hl
  clear hG hl
  go_wp2_with fail
  refine HCP.out.mono ?_
  rintro e3 w3 ⟨v', rfl, hap, hb3⟩
  obtain ⟨A', c', rfl, hlc, -⟩ := hap.form
  have HB3 := Lib.hid (HB2.out.trans (hb3.mono HB2.out.size))
  have HAP := Lib.hid hap
  have hq3 := (hb3.block _ (lt_of_heap HQ2.out)).trans HQ2.out
  have HQ3 := Lib.hid hq3
  have HS2 := Lib.hid hb3.size
  have HSW := Lib.hid HB2.out.size
  obtain ⟨n, hn⟩ : ∃ n, n = ds.length := ⟨_, rfl⟩
  rw [← hn] at hlc
  obtain ⟨X3, hX3⟩ : ∃ X : World, X = w3.alloc (.cells #[.slice A' n c'] 24) := ⟨_, rfl⟩
  obtain ⟨gq, hgq⟩ : ∃ g, g = w3.heap.size := ⟨_, rfl⟩
  have hbX3 : Below w3.heap.size w3 X3 := by rw [hX3]; exact (Below.refl _ _).alloc (Nat.le_refl _) _
  have hs23 := hb3.size
  have hsw := HB2.out.size
  have hlp : Lp w X3 (w2.heap.size + 3) gq gq n c c' A A' ds ds := by
    rw [← hn] at hap hq3
    refine ⟨rfl, ?_, HB3.out.trans (hbX3.mono HB3.out.size), by rw [hX3, hgq]; exact heap_alloc_new _ _, (hbX3.block _ (lt_of_heap hq3)).trans hq3⟩
    rw [hgq]
    exact hap.keep (Nat.le_refl _) (fun b _ hb => hbX3.block b hb)
  have HLP := Lib.hid hlp
  have HN := Lib.hid hn
  have HBW := Lib.hid (show w.heap.size < w2.heap.size + 3 by omega)
  obtain ⟨B, hB⟩ : ∃ B, B = w2.heap.size + 3 := ⟨_, rfl⟩
  rw [← hB] at HLP HBW
  have HX3 := Lib.hid hX3
  have HGQ := Lib.hid hgq
  rw [← hn]
  clear hb3 hap hq3 q2 hX3 hgq hbX3 hs23 hsw hlp hn hB HAP HQ3
  go_wp2
  rw [← HX3.out, ← HGQ.out]
  have hn4 : n ≤ 40000 := by rw [HN.out]; exact HL.out.ln
  have HIN : Hid (DcsIn w (· < w.heap.size) ds (.slice A n c)) := Lib.hid (by rw [HN.out]; exact HIN.out)
  go_loopw [6] (fun i wr => ∃ (j : Nat) (ss : List Dc), j ≤ n ∧ i = .int .i64 j ∧ Hid (Lp w wr B gq gq n c c' A A' ds ss)) (fun i _ => n - (intOf i).toNat)
  case atStart => exact ⟨0, ds, Nat.zero_le _, rfl, HLP⟩
  case round =>
    obtain ⟨wo, rfl⟩ : ∃ wo : World, wo = wr := ⟨_, rfl⟩
    obtain ⟨j, ss, hj, rfl, HO⟩ := hrel
    have qr := cell_of_row wo gq 0 _ _ (0, 0) HO.out.2.2.2.1
    simp at qr
    by_cases hlt : j < n
    · have hje : j < ds.length := by rw [← HN.out]; exact hlt
      obtain ⟨D, rfl, f1, ⟨u1, d1⟩, hnc⟩ := HO.out.row HN.out hlt
      obtain ⟨ss1, h1⟩ := HO.out.setD HN.out (Nat.le_refl _) HBW.out hlt x
      have H1 := Lib.hid h1
      obtain ⟨L, hL⟩ : ∃ L, L = ds[j].body.length := ⟨_, rfl⟩
      have hL6 : L ≤ 1000000 := by rw [hL]; exact (HL.out.sm j hje).2.1
      have HLL := Lib.hid hL
      clear h1 hL
      go_wp2
      go_loopw [7] (fun k wl => ∃ (m : Nat) (ts : List Dc), m ≤ L ∧ k = .int .i64 m ∧ Hid (Lp w wl B gq gq n c c' A (some ⟨D, 0, none⟩) ds ts)) (fun k _ => L - (intOf k).toNat)
      case atStart => exact ⟨0, ss1, Nat.zero_le _, rfl, H1⟩
      case round =>
        obtain ⟨wi, rfl⟩ : ∃ wi : World, wi = wr := ⟨_, rfl⟩
        obtain ⟨m, ts, hm, rfl, HI⟩ := hrel
        clear qr f1 d1
        have qi := cell_of_row wi gq 0 _ _ (0, 0) HI.out.2.2.2.1
        simp at qi
        obtain ⟨Bb, cm, e1, hbb⟩ := HI.out.body HN.out (Nat.le_refl _) HBW.out hje
        rw [← HLL.out] at e1 hbb
        by_cases hlm : m < L
        · obtain ⟨b, rfl, f2, ⟨u2, d2⟩, hLm, hset⟩ := hbb m hlm
          obtain ⟨ts1, h2⟩ := hset x
          have H2 := Lib.hid h2
          clear hbb hset h2
          go_wp2
          go_roundw
          case rel => exact ⟨m + 1, ts1, by omega, by go_num, H2⟩
          case measure => simp [intOf]; omega
        · clear hbb
          go_wp2
          go_roundw
          case rel => exact ⟨j + 1, ts, by omega, by go_num, HI⟩
          case measure => simp [intOf]; omega
    · have qp := cell_of_row wo w.heap.size 0 _ _ (0, 0) HO.out.2.2.2.2
      simp at qp
      have hbo := HO.out.2.2.1
      have HCP2 := Lib.hid (copy_light HIN.out HL.out wo hbo hbo.size)
      go_wp2_with fail
      refine HCP2.out.mono ?_
      rintro e5 w5 ⟨v5, rfl, hin5, hb5⟩
      have hb50 := hbo.trans (hb5.mono hbo.size)
      have HSH := Lib.hid (show_any w5 (HT.out.below hb50) (hin5.keep (fun _ _ => rfl) (fun b hlt => hlt.2)) HL.out.nm)
      obtain ⟨S, hS⟩ : ∃ S, S = strOf (fin (penP ds)).1 := ⟨_, rfl⟩
      obtain ⟨E, hE⟩ : ∃ E, E = (fin (penP ds)).2 := ⟨_, rfl⟩
      rw [← hS, ← hE] at HSH
      have HB5 := Lib.hid hb5
      have HB50 := Lib.hid hb50
      have HS := Lib.hid hS
      have HE := Lib.hid hE
      have hss : (S.toList == S.toList) = true := beq_self_eq_true _
      have hee : (E == E) = true := beq_self_eq_true _
      clear hS hE hb5 hb50 hin5 qp qr hbo
      go_wp2_with fail
      refine HSH.out.mono ?_
      rintro e6 w6 ⟨rfl, hb6⟩
      have hg0 := lt_of_heap HO.out.2.2.2.1
      have hs5 := HB5.out.size
      have hq6 := (hb6.block gq (by omega)).trans ((HB5.out.block gq hg0).trans HO.out.2.2.2.1)
      have q6 := cell_of_row w6 gq 0 _ _ (0, 0) hq6
      simp at q6
      have hb60 := HB50.out.trans (hb6.mono HB50.out.size)
      have hs6 := hb6.size
      have hd6 : DcsIn w6 (· < w6.heap.size) ss (.slice A' n c') := (HO.out.2.1.dcs).keep (fun b hb => (hb6.block b (by omega)).trans (HB5.out.block b (by omega))) (fun b hb => by show b < _; omega)
      have HSH2 := Lib.hid (show_any w6 (HT.out.below hb60) hd6 (small_like HO.out.1 HL.out.nm))
      rw [pen_like HO.out.1, ← HS.out, ← HE.out] at HSH2
      have HB60 := Lib.hid hb60
      clear hq6 hd6 hb6 hb60 hs6 hs5 hg0
      go_wp2_with fail
      refine HSH2.out.mono ?_
      rintro e7 w7 ⟨rfl, hb7⟩
      have HB70 := Lib.hid (HB60.out.trans (hb7.mono HB60.out.size))
      clear hb7 q6
      go_wp2
      go_ret
      exact ⟨rfl, HB70.out⟩

theorem treePlaces_walk (w : World) (htab : TabW w) {ds : List Dc} {v : Value} (h : DcsIn w (· < w.heap.size) ds v) (x : Int) :
    Calls Tryd.prog 3 #[.agg #[v], .int .i64 x] w fun r w' => r = .returned (.bool true) ∧ Below w.heap.size w w' := by
  by_cases hw : 40000 < goDs ds 0 40000 60
  · exact treePlaces_heavy w htab h x hw
  · exact treePlaces_light w htab h x hw

section
open Go Go.ChangeShapes Go.WideShapes Go.ChangeAt Go.ChangeMaps Go.RowKit

set_option maxRecDepth 100000 in
theorem treePlaces_lifted (os : Os) (started : os.Started) (H : Type) (enc : TypeId × Value → H) :
    ReturnsInHanded {} Tryd.checked os 3 .any (fun w args => (Rows.treePlacesSpec.pre enc Tryd.prog Tryd.f3 Rows.treePlacesRow.domain false w args ∧ laidMetH Tryd.prog laidL w) ∧ sizedMet enc Tryd.prog Tryd.f3 (OpenSpec.ofChange Rows.treePlacesSpec) false w args)
      (Rows.treePlacesSpec.post enc Tryd.prog Tryd.f3 false true false false) := by
  refine returnsInHanded_of_change_and (C := Tryd.checked) (X := fun w _ => laidMetH Tryd.prog laidL w) (fun _ _ _ hh h => h.of_heap hh) ownKnob_none started (by kernel_rfl) Tryd.func3
    (ChangeSpec.witness_shaped (enc := enc) (C := Tryd.checked) (os := os) (X := fun w _ => laidMetH Tryd.prog laidL w) false (World.doorLaid Tryd.prog 200 os) #[.agg #[.slice none 0 0], .int .i64 0] 8 rfl (World.shaped_of_RefB (by kernel_rfl) (by kernel_rfl)) (by kernel_rfl) (by kernel_rfl) (by kernel_rfl) (door_met os _)) ?_
  intro W base args ds gs before hval0 hW _ hwt hL _
  have hval : ∀ (j : Nat) t v, Tryd.f3.params[j]? = some t → args[j]? = some v → Value.okWide Tryd.prog W .any base t v := hval0
  have hW' := hW
  obtain ⟨p, q, hA0, hV, rfl, _, _⟩ := hW
  have hA : DataW.TrodAll enc Tryd.prog W 0 (fun _ => true) true Tryd.f3.params.toList args.toList ds p := hA0
  rw [Tryd.params3] at hA hval
  obtain ⟨v0, vs0, d0, ds0, p0, q0, hargs, rfl, rfl, h0, r0⟩ := trodAll_cons hA
  obtain ⟨v1, vs1, d1, ds1, p1, q1, rfl, rfl, rfl, h1, r1⟩ := trodAll_cons r0
  obtain ⟨rfl, rfl, rfl⟩ := trodAll_nil r1
  obtain rfl : args = #[v0, v1] := by cases args; simp_all
  obtain ⟨rfl, rfl⟩ := trodVars_none hV
  have htab := tabW_of_laid hL
  have k0 := h0
  have hw0 : ∀ y ∈ DataW.weights Tryd.prog 24 d0, y ≤ 140737488355328 := fun y hy => weight_le (of_decide_eq_true (List.all_eq_true.1 hwt y (weights_two (by rw [Tryd.params3]; rfl) rfl hy)))
  obtain ⟨es0, u0, rfl, in0⟩ := opens_prog h0 (prog_agg (hval 0 24 v0 rfl rfl)) hw0
  obtain ⟨x1, rfl, rfl, rfl, w1⟩ := open_int Tryd.underlying3 (hval 1 3 v1 rfl rfl) h1
  clear hA0 hval0
  simp only [List.append_nil] at hW'
  have hlt := fun x hx => hW'.lt x hx
  refine (treePlaces_walk W htab in0 x1).mono fun e W' ⟨he, hb⟩ => ?_
  subst he
  exact ⟨_, rfl, _, _, _, [], _, [], hW', trodAll_mk1 (shut_true _), (trodAll_cons_mk (Below.trod Tryd.laidOut (by kernel_rfl) (of_decide_eq_true (by kernel_rfl)) k0 hb (fun x hx => hlt x (by simp [hx]))) (trodAll_cons_mk (shut_int Tryd.underlying3 w1) trodAll_mk0)), rfl, hb.frame _, fun h => by cases h⟩

theorem treePlaces_holds : Rows.TreePlacesSaid :=
  OpenClaim.holds_of_wide 3 Tryd.f3 rfl rfl rfl rfl rfl rfl rfl ⟨rfl, rfl, rfl, rfl, rfl⟩ rfl rfl rfl rfl rfl (by kernel_rfl) Tryd.func3 (by kernel_rfl)
    (of_decide_eq_true (by kernel_rfl)) (by unfold Func.isWrapper; first | (rw [if_pos (by decide +kernel)]; kernel_rfl) | (rw [if_neg (by decide +kernel)]; exact ⟨rfl, rfl⟩))
    (fun os started H enc _ => treePlaces_lifted os started H enc)

theorem treePlaces_card_holds : Rows.TreePlacesCardSaid :=
  Claim7.holds_tied_plain_at .later [] [.data, .data, .data] true (true, "ff4bcf1cb08a6bd68e16b9903cfe604083a6beb7de5b0760cdbebda65f87fb85") true
    treePlaces_holds (fun _ h => by cases h) (by kernel_rfl) (fun _ h => by cases h) treePlaces_row_tie rfl ⟨rfl, rfl⟩ (by kernel_rfl) rfl
    (fun f fn hf hfn => by
      obtain rfl : f = 3 := Option.some.inj ((show Tryd.prog.funcNamed "portcullis/portcullislaw03.TreePlaces" = some 3 by kernel_rfl).symm.trans hf) |>.symm
      obtain rfl : fn = Tryd.f3 := (Option.some.inj (Tryd.func3.symm.trans hfn)).symm
      exact ⟨by kernel_rfl, fun j t ht => by
        rw [Tryd.params3] at ht
        have hm : t ∈ [24, 3] := by simpa using Array.mem_of_getElem? ht
        have hall : ([24, 3].all fun u => !Tryd.prog.wantsStandIn u) = true := by kernel_rfl
        exact (show Tryd.prog.wantsStandIn t = false by simpa using List.all_eq_true.1 hall t hm)⟩)
    (by kernel_rfl)
end

end Go.Proofs.YtjpphbjnakalhaaDoor
