/- Kv -/
import Derived.Test.YtodociiaobjfgaaGreatDoorVe8
import Derived.Test.YtodociiaobjfgaaGreatDoorVe9
set_option linter.unusedVariables false
set_option linter.unusedSimpArgs false
namespace Go.Proofs.YtodociiaobjfgaaGreatDoor
open Go.RowKit
set_option maxHeartbeats 8000000 in
set_option maxRecDepth 100000 in
theorem Xkr (w : World) (htab : TabW w) {ds : List Dc} {v : Value} (h : Xdl w (· < w.heap.size) ds v) :
  Calls Tryz.prog 3 #[.agg #[v]] w fun r w' => r = .returned (.bool true) ∧ Below w.heap.size w w' := by
 obtain ⟨A, c, _, _, rfl, -⟩ := id h
 obtain ⟨n, hn⟩ : ∃ n, n = ds.length := ⟨_, rfl⟩
 rw [← hn] at h ⊢
 obtain ⟨X, hX⟩ : ∃ X : World, X = w.alloc (.cells #[.slice A n c] 24) := ⟨_, rfl⟩
 obtain ⟨g, hg⟩ : ∃ g, g = w.heap.size := ⟨_, rfl⟩
 have hbx : Below w.heap.size w X := by rw [hX]; exact (Below.refl _ _).alloc (Nat.le_refl _) _
 have hrow : Xbv X g (.slice A n c) := by rw [hX, hg]; exact Xbv.new _ _
 have HCL : Hid (∀ V : World, Below X.heap.size X V → V.cell? ⟨g, 0, none⟩ = some (.slice A n c)) := lh fun V hV => (hrow.below hV (Xab hrow)).c0
 have HGL : Hid (g < X.heap.size) := lh (Xab hrow)
 have up : ∀ {V V' : World}, Below X.heap.size X V → Below V.heap.size V V' → Below X.heap.size X V' := fun h1 h2 => h1.trans (h2.mono h1.size)
 have hB0 : ∀ V : World, Below X.heap.size X V → Below w.heap.size w V := fun V hV => hbx.trans (hV.mono hbx.size)
 have HAL : Hid (Calls Tryz.prog 4 #[] X fun e w' => e = .returned (.bool true) ∧ Below X.heap.size X w') := lh (Xtv X (htab.below hbx))
 obtain ⟨G, hG⟩ : ∃ G, G = goDs ds 0 40000 60 := ⟨_, rfl⟩
 have HWE : Hid (∀ V, Below X.heap.size X V → Calls Tryz.prog 5 #[.agg #[.slice A n c], .int .i64 40000, .int .i64 60] V fun e w' => e = .returned (.int .i64 G) ∧ Below X.heap.size X w') := lh fun V hV => by
  refine (Xtp h 40000 60 V (hB0 V hV) (hB0 V hV).size (by omega) (by omega) (by omega) (by omega)).mono fun e w' h => ?_
  rw [hG]
  exact ⟨h.1, up hV h.2⟩
 have HEND : Hid (∀ V, Below X.heap.size X V → Below g w V) := lh (fun V hV => hg ▸ hB0 V hV)
 have HX := lh hX
 have HG := lh hg
 have c0 := HCL.out X (Below.refl _ _)
 rw [← hg]
 by_cases hw : 40000 < G
 · have hd : decide (40000 < G) = true := decide_eq_true hw
   clear hX hg hbx hrow up hB0 hG htab h hn
   go_enter Tryz.func3, Tryz.ntmps3
   go_upto_region 1 with fail
   rw [← HG.out, ← HX.out]
   go_wp2_with (first
    | ((with_reducible refine HAL.out.mono ?_); rintro e w1 ⟨rfl, hb1⟩; have HB1 := lh hb1; have c0 := HCL.out w1 hb1; clear hb1)
    | ((with_reducible refine (HWE.out _ HB1.out).mono ?_); rintro e w2 ⟨rfl, hb2⟩; have HB2 := lh hb2; clear hb2))
   go_ret
   exact ⟨rfl, HEND.out _ HB2.out⟩
 have hd : decide (40000 < G) = false := decide_eq_false hw
 have hl := light_of (ds := ds) (by rw [← hG]; omega)
 have HCP : Hid (∀ V, Below X.heap.size X V → Calls Tryz.prog 6 #[.agg #[.slice A n c], .int .i64 300] V fun e w' => ∃ A' c', e = .returned (.agg #[.slice A' n c']) ∧ Xdl w' (· < w'.heap.size) ds (.slice A' n c') ∧ Below X.heap.size X w') := lh fun V hV => by
  refine (Xro h hl V (hB0 V hV) (hB0 V hV).size).mono fun e w' => ?_
  rintro ⟨v', rfl, hi, hb⟩
  obtain ⟨A', c', _, _, rfl, _⟩ := id hi
  rw [← hn] at hi ⊢
  exact ⟨A', c', rfl, hi.keep (fun _ _ => rfl) (fun b hb => hb.2), up hV hb⟩
 obtain ⟨S1, hS1⟩ : ∃ x, x = Xaa (fin (penP ds)).1 := ⟨_, rfl⟩
 obtain ⟨E1, hE1⟩ : ∃ x, x = (fin (penP ds)).2 := ⟨_, rfl⟩
 have hE : E1 = 23 ∨ E1 = 0 := by
  rw [hE1]
  rcases Xut (penP ds) with hf | ⟨T, _, _, hf⟩
  · left; rw [hf]
  · right; rw [hf]
 -- what the copy at W knows
 have HOW : Hid (∀ (W : World) A' c', Below X.heap.size X W → Xdl W (· < W.heap.size) ds (.slice A' n c') → ∀ V, Below W.heap.size W V →
   Calls Tryz.prog 7 #[.agg #[.slice A' n c']] V (fun r w' => r = .returned (.tuple #[.string S1, .int .i64 E1]) ∧ Below W.heap.size W w') ∧
   Calls Tryz.prog 8 #[.agg #[.slice A n c]] V (fun r w' => r = .returned (.tuple #[.string S1, .int .i64 E1]) ∧ Below W.heap.size W w') ∧
   Calls Tryz.prog 9 #[.agg #[.slice A' n c']] V (fun r w' => r = .returned (.bool (decide (E1 = 0))) ∧ Below W.heap.size W w') ∧
   Calls Tryz.prog 10 #[.agg #[.slice A' n c'], .agg #[.slice A n c], .bool true, .int .i64 300] V (fun r w' => r = .returned (.bool true) ∧ Below W.heap.size W w')) := lh fun W A' c' hW hi V hV => by
  have hbV : Below w.heap.size w V := hB0 V (up hW hV)
  have htV := htab.below hbV
  have hiV : Xdl V (· < V.heap.size) ds (.slice A' n c') := hi.keep (fun b hlt => hV.block b hlt) (fun b hlt => Nat.lt_of_lt_of_le hlt hV.size)
  have hoV : Xdl V (· < V.heap.size) ds (.slice A n c) := h.keep (fun b hlt => hbV.block b hlt) (fun b hlt => Nat.lt_of_lt_of_le hlt hbV.size)
  have dn : ∀ {w' : World}, Below V.heap.size V w' → Below W.heap.size W w' := fun h => hV.trans (h.mono hV.size)
  rw [hS1, hE1]
  refine ⟨(Xme V htV hiV hl.nm).mono fun r w' h => ⟨h.1, dn h.2⟩, (Xpq V hoV hl.nm fun k hk => (hl.sm k hk).1).mono fun r w' h => ⟨h.1, dn h.2⟩, (Xka V htV hiV hl.nm).mono fun r w' h => ⟨h.1, dn h.2⟩, ?_⟩
  exact (Xsx hiV hoV true (Xph true ds) 300 V (Below.refl _ _) (Nat.le_refl _) (by omega) (by omega)).mono fun r w' h => ⟨h.1, dn h.2⟩
 clear hX hg hbx hrow up hB0 hG htab h hS1 hE1 hl hn
 go_enter Tryz.func3, Tryz.ntmps3
 go_upto_region 1 with fail
 rw [← HG.out, ← HX.out]
 go_upto_region 6 with (first
  | ((with_reducible refine HAL.out.mono ?_); rintro e w1 ⟨rfl, hb1⟩; have HB1 := lh hb1; have c0 := HCL.out w1 hb1; clear hb1)
  | ((with_reducible refine (HWE.out _ HB1.out).mono ?_); rintro e w2 ⟨rfl, hb2⟩; have HB2 := lh hb2; have c0 := HCL.out w2 hb2; clear hb2)
  | ((with_reducible refine (HCP.out _ HB2.out).mono ?_); rintro e w3 ⟨A', c', rfl, hi, hb3⟩; have HB3 := lh hb3; have HI := lh hi; clear hi hb3))
 obtain ⟨W, hW⟩ : ∃ W : World, W = w3.alloc (.cells #[.slice A' n c'] 24) := ⟨_, rfl⟩
 obtain ⟨o, ho⟩ : ∃ o, o = w3.heap.size := ⟨_, rfl⟩
 rw [← hW, ← ho]
 have hb3 := HB3.out
 have hbW : Below X.heap.size X W := by rw [hW]; exact hb3.alloc hb3.size _
 have hrw : Xbv W o (.slice A' n c') := by rw [hW, ho]; exact Xbv.new _ _
 have hiW : Xdl W (· < W.heap.size) ds (.slice A' n c') := by
  have hk : Below w3.heap.size w3 W := by rw [hW]; exact (Below.refl _ _).alloc (Nat.le_refl _) _
  exact HI.out.keep (fun b hlt => hk.block b hlt) (fun b hlt => Nat.lt_of_lt_of_le hlt hk.size)
 have HF := lh (HOW.out W A' c' hbW hiW)
 have HBW := lh hbW
 have HC2 : Hid (∀ V : World, Below W.heap.size W V → V.cell? ⟨g, 0, none⟩ = some (.slice A n c) ∧ V.cell? ⟨o, 0, none⟩ = some (.slice A' n c')) := lh fun V hV =>
  ⟨HCL.out V (hbW.trans (hV.mono hbW.size)), (hrw.below hV (Xab hrw)).c0⟩
 obtain ⟨d0, d1⟩ := HC2.out W (Below.refl _ _)
 have HV := lh (Below.refl W.heap.size W)
 clear hW ho hb3 hbW hrw hiW HOW HI HCP HWE HAL
 have HS1 : Hid (∀ V, Below W.heap.size W V → Calls Tryz.prog 7 #[.agg #[.slice A' n c']] V (fun r w' => r = .returned (.tuple #[.string S1, .int .i64 E1]) ∧ Below W.heap.size W w')) := lh fun V hV => (HF.out V hV).1
 have HS2 : Hid (∀ V, Below W.heap.size W V → Calls Tryz.prog 8 #[.agg #[.slice A n c]] V (fun r w' => r = .returned (.tuple #[.string S1, .int .i64 E1]) ∧ Below W.heap.size W w')) := lh fun V hV => (HF.out V hV).2.1
 have HS3 : Hid (∀ V, Below W.heap.size W V → Calls Tryz.prog 9 #[.agg #[.slice A' n c']] V (fun r w' => r = .returned (.bool (decide (E1 = 0))) ∧ Below W.heap.size W w')) := lh fun V hV => (HF.out V hV).2.2.1
 have HS4 : Hid (∀ V, Below W.heap.size W V → Calls Tryz.prog 10 #[.agg #[.slice A' n c'], .agg #[.slice A n c], .bool true, .int .i64 300] V (fun r w' => r = .returned (.bool true) ∧ Below W.heap.size W w')) := lh fun V hV => (HF.out V hV).2.2.2
 clear HF
 rcases hE with rfl | rfl
 all_goals
  simp only [Int.reduceEq, decide_false, decide_true] at HS3
  go_wp2_with (first
   | ((with_reducible refine (HS1.out _ HV.out).mono ?_); rintro e w4 ⟨rfl, hb⟩; replace HV := lh hb; obtain ⟨d0, d1⟩ := HC2.out w4 hb; clear hb)
   | ((with_reducible refine (HS2.out _ HV.out).mono ?_); rintro e w4 ⟨rfl, hb⟩; replace HV := lh hb; obtain ⟨d0, d1⟩ := HC2.out w4 hb; clear hb)
   | ((with_reducible refine (HS3.out _ HV.out).mono ?_); rintro e w4 ⟨rfl, hb⟩; replace HV := lh hb; obtain ⟨d0, d1⟩ := HC2.out w4 hb; clear hb)
   | ((with_reducible refine (HS4.out _ HV.out).mono ?_); rintro e w4 ⟨rfl, hb⟩; replace HV := lh hb; obtain ⟨d0, d1⟩ := HC2.out w4 hb; clear hb))
  go_ret
  exact ⟨rfl, HEND.out _ (HBW.out.trans (HV.out.mono HBW.out.size))⟩
end Go.Proofs.YtodociiaobjfgaaGreatDoor
