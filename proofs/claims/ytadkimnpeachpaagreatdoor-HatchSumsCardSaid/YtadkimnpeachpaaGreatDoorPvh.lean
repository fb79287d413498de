/- Layer 8: what an expression gives, whatever it is; hatch.Value. -/
import Derived.Test.YtadkimnpeachpaaGreatDoorPvg1
import Derived.Test.YtadkimnpeachpaaGreatDoorPvg2
import Derived.Test.YtadkimnpeachpaaGreatDoorPvg3
import Derived.Test.YtadkimnpeachpaaGreatDoorPvg4
set_option linter.unusedVariables false
set_option linter.unusedSimpArgs false
namespace Go.Proofs.YtadkimnpeachpaaGreatDoor
open Go.RowKit

theorem len_one {α : Type} {l : List α} (h : l.length = 1) : ∃ a, l = [a] := by
  match l, h with
  | [a], _ => exact ⟨a, rfl⟩
theorem len_two {α : Type} {l : List α} (h : l.length = 2) : ∃ a b, l = [a, b] := by
  match l, h with
  | [a, b], _ => exact ⟨a, b, rfl⟩
theorem mayB_ways {k : Int} {s : List UInt8} (h : mayB k s = true) : k = 1 ∨ k = 4 ∨ k = 9 ∨ k = 10 := by
  unfold mayB at h
  simp only [Bool.or_eq_true, Bool.and_eq_true, beq_iff_eq] at h
  rcases h with ((h | h) | h) | h
  · exact .inl h
  · exact .inr (.inl h)
  · exact .inr (.inr (.inl h.1))
  · exact .inr (.inr (.inr h.1))

theorem expr_any {w0 : World} {B : Nat} {nms : List (List UInt8)} {xs : List Int} {nv iv : Value} (hn : Lies KT w0 (· < B) nms nv) (hi : Lies KI w0 (· < B) xs iv) {es : List Ex} {v : Value} (h : IsExs w0 (· < B) es v) : ValP w0 B nms xs nv iv es v := by
  induction h with
  | mk es A c f hc hM hA hr ih =>
    intro k p n deep left s g w hb hg hv hs hp hl hd hdd
    obtain ⟨V1, V2, V3, V4⟩ := hv.dec (B := B) hg #[.int .i64 k, .int .i64 p, .int .i64 n, .string (strOf s), .slice A es.length c] 24 (left - 1)
    obtain ⟨W, hW⟩ : ∃ W, W = (w.setCell ⟨g, 2, none⟩ (.int .i64 (left - 1))).alloc (.cells #[.int .i64 k, .int .i64 p, .int .i64 n, .string (strOf s), .slice A es.length c] 24) := ⟨_, rfl⟩
    rw [← hW] at V1 V2 V3 V4
    have X : VF w0 B nms xs nv iv es A c k p n deep (left - 1) s g w.heap.size W :=
      { may := fun wx => mayHave_any k p n s A es.length c wx hs
        box := V3
        v := V1
        gG := hv.lt
        Bg := hg
        GW := by rw [V4]; exact Nat.lt_succ_self _
        bel := hb.trans V2.bel
        hn := hn
        hi := hi
        L0 := by omega
        L1 := by omega
        d0 := hd
        d1 := hdd
        kid := fun j hj => by
          obtain ⟨b, off, h1, h2, h3, h4, h5, h6, h7, h8⟩ := hA j hj
          refine ⟨b, off, f j, h1, h2, h4, h5, h6, h7, h8, fun l wx hbx hvx hl1 hl2 => ?_⟩
          have hdl := deepL_at es j hj
          have he : es[j] = .mk es[j].kind es[j].pl es[j].num es[j].name es[j].args := (Ex.eta _).symm
          have hpe : parts es[j] = 1 + partsL es[j].args := by conv => lhs; rw [he, parts]
          have hde : deepE es[j] = 1 + deepL es[j].args := by conv => lhs; rw [he, deepE]
          have := ih j hj es[j].kind es[j].pl es[j].num (deep + 1) l es[j].name g wx hbx hg hvx h3 (by omega) hl2 (by omega) (by omega)
          rw [Ex.eta] at this
          exact this.mono fun e w' ⟨e1, l', e2, e3, e4, e5⟩ => ⟨e1, l', by omega, e3, e4, e5⟩ }
    obtain ⟨-, -, c2⟩ := hv.cells
    have f2 := hv.fr
    have hwl : IntKind.i64.wrap (left - 1) = left - 1 := IntWalk.i64_in _ ⟨by omega, by omega⟩
    rw [valE_mk]
    have fin : ∀ {r : Int} {post : Int}, r = kV nms xs k n s (es.map (valE nms xs)) →
        Calls Tryz.prog 20 #[.pointer (some ⟨g, 0, none⟩), .agg #[.int .i64 k, .int .i64 p, .int .i64 n, .string (strOf s), .slice A es.length c], .int .i64 deep] w (fun e w' => e = .returned (.int .i64 r) ∧ ∃ l', left - 1 - (partsL es : Int) ≤ l' ∧ l' ≤ left - 1 ∧ VBox w' g nv iv l' ∧ But g B W w') →
        Calls Tryz.prog 20 #[.pointer (some ⟨g, 0, none⟩), .agg #[.int .i64 k, .int .i64 p, .int .i64 n, .string (strOf s), .slice A es.length c], .int .i64 deep] w (fun e w' => e = .returned (.int .i64 (kV nms xs k n s (es.map (valE nms xs)))) ∧ ∃ l', left - 1 - (partsL es : Int) ≤ l' ∧ l' < left ∧ VBox w' g nv iv l' ∧ But g B w w') := by
      intro r post hr hcl
      rw [← hr]
      exact hcl.mono fun e w' ⟨e1, l', e2, e3, e4, e5⟩ => ⟨e1, l', e2, by omega, e4, V2.trans e5⟩
    cases hmay : mayB k s with
    | false => exact fin (post := 0) (kV_no hmay).symm (expr_no X rfl hW c2 f2 hwl hmay)
    | true =>
      rcases mayB_ways hmay with rfl | rfl | rfl | rfl
      · exact fin (post := 0) (by simp [kV]) (expr_1 X rfl hW c2 f2 hwl hmay)
      · exact fin (post := 0) (by simp [kV]) (expr_4 X rfl hW c2 f2 hwl hmay)
      · by_cases h1 : es.length = 1
        · obtain ⟨e0, rfl⟩ := len_one h1
          have hs9 := mayB_nine hmay
          exact fin (post := 0) (by simp [kV, hs9]) (expr_9 X rfl hW c2 f2 hwl hmay)
        · exact fin (post := 0) (by simp [kV, h1]) (expr_9n X rfl hW c2 f2 hwl hmay h1)
      · by_cases h1 : es.length = 2
        · obtain ⟨e0, e1, rfl⟩ := len_two h1
          exact fin (post := 0) (by simp [kV]) (expr_10 X rfl hW c2 f2 hwl hmay (mayB_tenS hmay))
        · exact fin (post := 0) (by simp [kV, h1]) (expr_10n X rfl hW c2 f2 hwl hmay h1)

set_option maxHeartbeats 1000000 in
/-- what a hatch gives -/
theorem hvalue_any {w0 : World} {nms : List (List UInt8)} {xs : List Int} {nv iv : Value} (hn : Lies KT w0 (· < w0.heap.size) nms nv) (hi : Lies KI w0 (· < w0.heap.size) xs iv) {x : Ex} {v : Value} (h : IsExs w0 (· < w0.heap.size) x.args v)
    (hnm : x.name.length ≤ 140737488355328) (hp : parts x ≤ 100000) (hd : deepE x ≤ 1000) (w : World) (hb : Below w0.heap.size w0 w) :
    Calls Tryz.prog 10 #[.agg #[.int .i64 x.kind, .int .i64 x.pl, .int .i64 x.num, .string (strOf x.name), v], nv, iv] w fun e w' => e = .returned (.int .i64 (valE nms xs x)) ∧ Below w.heap.size w w' := by
  obtain ⟨A, m, c, rfl⟩ : ∃ A m c, v = .slice A m c := by cases h with | mk es A c f => exact ⟨A, _, c, rfl⟩
  obtain ⟨An, cn, hnv, -⟩ := hn.form
  obtain ⟨Ai, ci, hiv, -⟩ := hi.form
  obtain ⟨X, hX⟩ : ∃ X, X = (w.alloc (.cells #[.int .i64 x.kind, .int .i64 x.pl, .int .i64 x.num, .string (strOf x.name), .slice A m c] 24)).alloc (.cells #[nv, iv, .int .i64 2147483647] 63) := ⟨_, rfl⟩
  have e1 : (w.alloc (.cells #[.int .i64 x.kind, .int .i64 x.pl, .int .i64 x.num, .string (strOf x.name), .slice A m c] 24)).heap.size = w.heap.size + 1 := by simp
  have hbx : Below w.heap.size w X := by rw [hX]; exact ((Below.refl _ _).alloc (Nat.le_refl _) _).alloc (by simp) _
  have hv : VBox X (w.heap.size + 1) nv iv 2147483647 := by
    unfold VBox
    rw [hX, ← e1]
    exact heap_alloc_new _ _
  have hr : X.heap[w.heap.size]? = some (.cells #[.int .i64 x.kind, .int .i64 x.pl, .int .i64 x.num, .string (strOf x.name), .slice A m c] 24 (0, 0)) := by
    rw [hX, Below.heap_alloc _ _ _ (by simp)]
    exact heap_alloc_new _ _
  have hsz := hb.size
  have hpx : parts x = 1 + partsL x.args := by conv => lhs; rw [← Ex.eta x, parts]
  have hdx : deepE x = 1 + deepL x.args := by conv => lhs; rw [← Ex.eta x, deepE]
  have hcl := expr_any hn hi h x.kind x.pl x.num 1 2147483647 x.name (w.heap.size + 1) X (hb.trans (hbx.mono hsz)) (by omega) hv hnm (by omega) (by omega) (by omega) (by omega)
  rw [Ex.eta] at hcl
  obtain ⟨r, hrr⟩ : ∃ r, r = valE nms xs x := ⟨_, rfl⟩
  rw [← hrr] at hcl ⊢
  have z0 : X.cell? ⟨w.heap.size, 0, none⟩ = some (.int .i64 x.kind) := by rw [cell_of_row X _ _ _ _ (0, 0) hr]; rfl
  have z1 : X.cell? ⟨w.heap.size, 1, none⟩ = some (.int .i64 x.pl) := by rw [cell_of_row X _ _ _ _ (0, 0) hr]; rfl
  have z2 : X.cell? ⟨w.heap.size, 2, none⟩ = some (.int .i64 x.num) := by rw [cell_of_row X _ _ _ _ (0, 0) hr]; rfl
  have z3 : X.cell? ⟨w.heap.size, 3, none⟩ = some (.string (strOf x.name)) := by rw [cell_of_row X _ _ _ _ (0, 0) hr]; rfl
  have z4 : X.cell? ⟨w.heap.size, 4, none⟩ = some (.slice A m c) := by rw [cell_of_row X _ _ _ _ (0, 0) hr]; rfl
  have HC : Hid (Calls Tryz.prog 20 #[.pointer (some ⟨w.heap.size + 1, 0, none⟩), .agg #[.int .i64 x.kind, .int .i64 x.pl, .int .i64 x.num, .string (strOf x.name), .slice A m c], .int .i64 1] X fun e w' => e = .returned (.int .i64 r) ∧ ∃ l', 0 ≤ l' ∧ VBox w' (w.heap.size + 1) nv iv l' ∧ Below w.heap.size w w') := Lib.hid (hcl.mono fun e w' ⟨a1, l', a2, a3, a4, a5⟩ => ⟨a1, l', by omega, a4, hbx.trans ⟨a5.bel.os, a5.bel.tape, a5.bel.output, a5.size, fun b hb => a5.blk b (Nat.lt_of_lt_of_le hb hbx.size) (by omega)⟩⟩)
  have HX := Lib.hid hX
  clear hcl hX hbx hv hr hpx hdx hrr h hn hi hp hd hsz hb hnm e1
  subst hnv
  subst hiv
  generalize x.kind = x0 at z0 HC HX ⊢
  generalize x.pl = x1 at z1 HC HX ⊢
  generalize x.num = x2 at z2 HC HX ⊢
  generalize strOf x.name = x3 at z3 HC HX ⊢
  go_enter Tryz.func10, Tryz.ntmps10
  go_upto_region 2 with fail
  rw [← HX.out]
  go_wp2_with (first
    | ((with_reducible refine HC.out.mono ?_); rintro e w1 ⟨rfl, l1, hl1, hv1, hb1⟩; have HB1 := Lib.hid hb1; obtain ⟨-, -, y2⟩ := hv1.cells; have hl2 : ¬ l1 < 0 := by omega))
  go_ret
  exact ⟨rfl, HB1.out⟩

end Go.Proofs.YtadkimnpeachpaaGreatDoor
