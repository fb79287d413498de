/- Ub; Uc; Ue; Uf; Ug; Uh; Ui -/
import Derived.Test.YtmbkjabjcphkbaaDoorZa0
import Derived.Deep.AppendLies
import Derived.StillTailTactics
import Derived.IntWalk
section
/- The walk of Weigh. -/
set_option linter.unusedVariables false
namespace Go.Proofs.YtmbkjabjcphkbaaDoor
open Go.RowKit

theorem weighs_go {e : Ex} {es : List Ex} {n most deep : Int} (h : n ≤ most) : weighs (e :: es) n most deep = weighs es (n + weigh e (most - n) (deep - 1)) most deep := by
  rw [weighs, if_pos h]
theorem weigh_mk (k p num most deep : Int) (name : List UInt8) (es : List Ex) : weigh (.mk k p num name es) most deep = if deep = 0 ∧ 0 < es.length then most + 1 else weighs es (1 + (name.length : Int)) most deep := by
  rw [weigh]
def WeighPost (w : World) (r : Int) (e : Ending) (w' : World) : Prop := e = .returned (.int .i64 r) ∧ Below w.heap.size w w'
/-- what an expression with such arguments weighs -/
def Weighs (w0 : World) (B : Nat) (es : List Ex) (v : Value) : Prop :=
  ∀ (k p num most deep : Int) (name : List UInt8) (w : World), Below B w0 w → B ≤ w.heap.size → name.length ≤ 140737488355328 → 0 ≤ most → most ≤ 100000 → 0 ≤ deep → deep ≤ 100000 →
    Calls Tryd.prog 11 #[.agg #[.int .i64 k, .int .i64 p, .int .i64 num, .string (strOf name), v], .int .i64 most, .int .i64 deep] w
      (WeighPost w (weigh (.mk k p num name es) most deep)) ∧ 0 ≤ weigh (.mk k p num name es) most deep ∧ weigh (.mk k p num name es) most deep ≤ most + 140737488355330
theorem drop_ex {es : List Ex} {j : Nat} (h : j < es.length) : es.drop j = es[j] :: es.drop (j + 1) := List.drop_eq_getElem_cons h
theorem weighs_bound {most deep K : Int} (hK : 140737488355330 ≤ K) : ∀ (es : List Ex) (n : Int), (∀ (j : Nat) (hj : j < es.length) (m : Int), 0 ≤ m → m ≤ most → 0 ≤ weigh es[j] m (deep - 1) ∧ weigh es[j] m (deep - 1) ≤ m + 140737488355330) → 0 ≤ n → n ≤ most + K →
    0 ≤ weighs es n most deep ∧ weighs es n most deep ≤ most + K
  | [], n, _, h0, h1 => by rw [weighs]; exact ⟨h0, h1⟩
  | e :: es, n, h, h0, h1 => by
    rw [weighs]
    split
    · rename_i hn
      obtain ⟨a, b⟩ := h 0 (by simp) (most - n) (by omega) (by omega)
      have a' : 0 ≤ weigh e (most - n) (deep - 1) := a
      have b' : weigh e (most - n) (deep - 1) ≤ most - n + 140737488355330 := b
      exact weighs_bound hK es _ (fun j hj m h2 h3 => h (j + 1) (by simpa using hj) m h2 h3) (by omega) (by omega)
    · exact ⟨h0, h1⟩

set_option maxHeartbeats 1000000 in
theorem weigh_any {w0 : World} {B : Nat} {es : List Ex} {v : Value} (h : IsExs w0 (· < B) es v) : Weighs w0 B es v := by
  induction h with
  | mk es A c f hc hM hA hr ih =>
    intro k p num most deep name w hb hB hname hm0 hm hd0 hd
    have hcall : ∀ (j : Nat) (hj : j < es.length), ∃ b off, A = some ⟨b, off, none⟩ ∧ b < B ∧
        w0.cell? ⟨b, off + j * 5, none⟩ = some (.int .i64 es[j].kind) ∧ w0.cell? ⟨b, off + j * 5 + 1, none⟩ = some (.int .i64 es[j].pl) ∧ w0.cell? ⟨b, off + j * 5 + 2, none⟩ = some (.int .i64 es[j].num) ∧
        w0.cell? ⟨b, off + j * 5 + 3, none⟩ = some (.string (strOf es[j].name)) ∧ w0.cell? ⟨b, off + j * 5 + 4, none⟩ = some (f j) ∧
        ∀ (m d : Int) (w : World), Below B w0 w → B ≤ w.heap.size → 0 ≤ m → m ≤ 100000 → 0 ≤ d → d ≤ 100000 →
          Calls Tryd.prog 11 #[.agg #[.int .i64 es[j].kind, .int .i64 es[j].pl, .int .i64 es[j].num, .string (strOf es[j].name), f j], .int .i64 m, .int .i64 d] w
            (WeighPost w (weigh es[j] m d)) ∧ 0 ≤ weigh es[j] m d ∧ weigh es[j] m d ≤ m + 140737488355330 := fun j hj => by
      obtain ⟨b, off, h1, h2, h3, h4, h5, h6, h7, h8⟩ := hA j hj
      refine ⟨b, off, h1, h2, h4, h5, h6, h7, h8, fun m d w a1 a2 a3 a4 a5 a6 => ?_⟩
      have := ih j hj es[j].kind es[j].pl es[j].num m d es[j].name w a1 a2 h3 a3 a4 a5 a6
      rw [Ex.eta] at this
      exact this
    have HH := Lib.hid hcall
    clear hA ih hr hcall
    have hwm := weigh_mk k p num most deep name es
    refine ⟨?_, ?_⟩
    · obtain ⟨ne, hne⟩ : ∃ ne, ne = es.length := ⟨_, rfl⟩
      obtain ⟨nl, hnl⟩ : ∃ nl : Nat, nl = name.length := ⟨_, rfl⟩
      have hsz : (strOf name).size = nl := by rw [Lib.size_eq, strOf_data, hnl]
      rw [← hnl] at hwm hname
      rw [← hne] at hc hwm ⊢
      have HNE := Lib.hid hne
      have HNL := Lib.hid hnl
      have HWM := Lib.hid hwm
      have HB0 := Lib.hid hb
      clear hne hnl hwm hb
      by_cases h00 : deep = 0 ∧ 0 < ne
      · obtain ⟨rfl, hpos⟩ := h00
        have hp1 : decide (0 < ne) = true := by simpa using hpos
        have HW1 : Hid (weigh (.mk k p num name es) most 0 = most + 1) := Lib.hid (by rw [HWM.out, if_pos ⟨rfl, hpos⟩])
        clear HWM
        go_enter Tryd.func11, Tryd.ntmps11
        go_wp2
        go_ret
        exact ⟨ret_int HW1.out.symm, (Below.refl _ _).alloc (Nat.le_refl _) _⟩
      · have HW2 : Hid (weigh (.mk k p num name es) most deep = weighs es (1 + (nl : Int)) most deep) := Lib.hid (by rw [HWM.out, if_neg h00])
        clear HWM
        have hdn : 0 < ne → 0 < deep := fun h => by
          rcases Int.lt_or_le 0 deep with h1 | h1
          · exact h1
          · exact absurd ⟨by omega, h⟩ h00
        have hdl : (ne : Int) ≤ 9223372036854775807 * deep := by
          rcases Nat.eq_zero_or_pos ne with h | h
          · omega
          · have := hdn h; omega
        clear h00 hdn
        by_cases hdz : deep = 0
        · subst hdz
          obtain rfl : ne = 0 := by omega
          obtain rfl : es = [] := List.eq_nil_of_length_eq_zero HNE.out.symm
          have HWS : Hid (weighs [] (1 + (nl : Int)) most 0 = 1 + (nl : Int)) := Lib.hid (by rw [weighs])
          clear HH HNE
          go_enter Tryd.func11, Tryd.ntmps11
          go_wp2
          obtain ⟨X, hX⟩ : ∃ X : World, X = w.alloc (.cells #[.int .i64 k, .int .i64 p, .int .i64 num, .string (strOf name), .slice A 0 c] 24) := ⟨_, rfl⟩
          go_loop [7, 8] (fun n i => i = .int .i64 0 ∧ n = .int .i64 (1 + (nl : Int))) (fun _ _ => 0)
          case atStart => exact ⟨rfl, rfl⟩
          case round =>
            obtain ⟨rfl, rfl⟩ := hrel
            clear hX
            go_wp2
            go_ret
            exact ⟨ret_int (by rw [HW2.out, HWS.out]), (Below.refl _ _).alloc (Nat.le_refl _) _⟩
        go_enter Tryd.func11, Tryd.ntmps11
        go_wp2
        obtain ⟨X, hX⟩ : ∃ X : World, X = w.alloc (.cells #[.int .i64 k, .int .i64 p, .int .i64 num, .string (strOf name), .slice A ne c] 24) := ⟨_, rfl⟩
        have hbox : X.heap[w.heap.size]? = some (.cells #[.int .i64 k, .int .i64 p, .int .i64 num, .string (strOf name), .slice A ne c] 24 (0, 0)) := by rw [hX]; exact heap_alloc_new w _
        have hXs : X.heap.size = w.heap.size + 1 := by rw [hX]; simp
        have hXb : Below w.heap.size w X := by rw [hX]; exact (Below.refl _ _).alloc (Nat.le_refl _) _
        rw [← hX]
        have HBOX := Lib.hid hbox
        have HXS := Lib.hid hXs
        have HXB := Lib.hid hXb
        clear hX hbox hXs hXb
        go_loopw [7, 8] (fun n i wr => ∃ (j : Nat) (nn : Int), j ≤ ne ∧ i = .int .i64 j ∧ n = .int .i64 nn ∧ 0 ≤ nn ∧ nn ≤ 140737488455331 ∧ Hid (weighs (es.drop j) nn most deep = weighs es (1 + (nl : Int)) most deep) ∧ Hid (Below (w.heap.size + 1) X wr)) (fun _ i _ => ne - (intOf i).toNat)
        case atStart => exact ⟨0, _, Nat.zero_le _, rfl, rfl, by omega, by omega, Lib.hid rfl, Lib.hid (Below.refl _ _)⟩
        case round =>
          obtain ⟨wo, rfl⟩ : ∃ wo : World, wo = wr := ⟨_, rfl⟩
          obtain ⟨j, nn, hj, rfl, rfl, hn0, hn1, HS, HBL⟩ := hrel
          have hbx : wo.cell? ⟨w.heap.size, 4, none⟩ = some (.slice A ne c) := by
            rw [cell_of_row wo w.heap.size 4 _ _ (0, 0) ((HBL.out.block w.heap.size (by omega)).trans HBOX.out)]; rfl
          have hbx0 : wo.cell? ⟨w.heap.size, 0, none⟩ = some (.int .i64 k) := by
            rw [cell_of_row wo w.heap.size 0 _ _ (0, 0) ((HBL.out.block w.heap.size (by omega)).trans HBOX.out)]; rfl
          by_cases hlt : j < ne
          · have hdp : 0 < deep := by omega
            by_cases hle : nn ≤ most
            · have hje : j < es.length := by rw [← HNE.out]; exact hlt
              obtain ⟨b, off, rfl, hbB, p0, p1, p2, p3, p4, hc⟩ := HH.out j hje
              have hdr := drop_ex hje
              have q0 := (HB0.out.cell (p := ⟨b, off + j * 5, none⟩) hbB)
              obtain ⟨Y, hY⟩ : ∃ Y, Y = es[j] := ⟨_, rfl⟩
              rw [← hY] at p0 p1 p2 p3 hc hdr
              have hbw : Below B w0 wo := HB0.out.trans ((HXB.out.trans (HBL.out.mono (by omega))).mono hB)
              have HWS : Hid (weighs (es.drop (j + 1)) (nn + weigh Y (most - nn) (deep - 1)) most deep = weighs es (1 + (nl : Int)) most deep) := Lib.hid (by
                have := HS.out
                rw [hdr, weighs_go hle] at this
                exact this)
              have hsx : B ≤ wo.heap.size := by
                have h1 := HBL.out.size
                have h2 := HXS.out
                omega
              obtain ⟨hcc, hc0, hc1⟩ := hc (most - nn) (deep - 1) wo hbw hsx (by omega) (by omega) (by omega) (by omega)
              have r0 := (hbw.cell (p := ⟨b, off + j * 5, none⟩) hbB).trans p0
              have r1 := (hbw.cell (p := ⟨b, off + j * 5 + 1, none⟩) hbB).trans p1
              have r2 := (hbw.cell (p := ⟨b, off + j * 5 + 2, none⟩) hbB).trans p2
              have r3 := (hbw.cell (p := ⟨b, off + j * 5 + 3, none⟩) hbB).trans p3
              have r4 := (hbw.cell (p := ⟨b, off + j * 5 + 4, none⟩) hbB).trans p4
              obtain ⟨yk, hyk⟩ : ∃ x, x = Y.kind := ⟨_, rfl⟩
              obtain ⟨yp, hyp⟩ : ∃ x, x = Y.pl := ⟨_, rfl⟩
              obtain ⟨yn, hyn⟩ : ∃ x, x = Y.num := ⟨_, rfl⟩
              obtain ⟨ys, hys⟩ : ∃ x, x = strOf Y.name := ⟨_, rfl⟩
              obtain ⟨yv, hyv⟩ : ∃ x, x = f j := ⟨_, rfl⟩
              obtain ⟨yw, hyw⟩ : ∃ x, x = weigh Y (most - nn) (deep - 1) := ⟨_, rfl⟩
              rw [← hyk, ← hyp, ← hyn, ← hys, ← hyv, ← hyw] at hcc
              rw [← hyw] at hc0 hc1 HWS
              rw [← hyk] at r0
              rw [← hyp] at r1
              rw [← hyn] at r2
              rw [← hys] at r3
              rw [← hyv] at r4
              have HCC := Lib.hid hcc
              clear hc hcc hdr q0 hY p0 p1 p2 p3 p4 hyk hyp hyn hys hyv hyw hbw HH
              go_wp2_with (first
                | ((with_reducible refine HCC.out.mono ?_); rintro e w1 ⟨rfl, hb1⟩))
              have hw1 := hb1.size
              go_roundw
              case rel => exact ⟨j + 1, nn + yw, by omega, by go_num, rfl, by omega, by omega, HWS, Lib.hid (HBL.out.trans (hb1.mono (by have h1 := HBL.out.size; have h2 := HXS.out; omega)))⟩
              case measure => simp [intOf]; omega
            · have HWS : Hid (nn = weighs es (1 + (nl : Int)) most deep) := Lib.hid (by have := HS.out; rw [weighs_stop _ _ _ _ hle] at this; exact this)
              clear HH
              go_wp2
              go_ret
              exact ⟨ret_int (by rw [HW2.out]; exact HWS.out), HXB.out.trans (HBL.out.mono (by omega))⟩
          · have hje : j = ne := by omega
            have HWS : Hid (nn = weighs es (1 + (nl : Int)) most deep) := Lib.hid (by
              have := HS.out
              rw [List.drop_of_length_le (by rw [hje, HNE.out]; exact Nat.le_refl _), weighs] at this
              exact this)
            clear HH hje
            go_wp2
            go_ret
            exact ⟨ret_int (by rw [HW2.out]; exact HWS.out), HXB.out.trans (HBL.out.mono (by omega))⟩
    · rw [hwm]
      split
      · omega
      · rename_i hne
        exact weighs_bound (Int.le_refl _) es _ (fun j hj m h2 h3 => by
          obtain ⟨_, _, _, _, _, _, _, _, _, hc⟩ := HH.out j hj
          by_cases hdp : deep = 0
          · exact absurd ⟨hdp, by omega⟩ hne
          · exact (hc m (deep - 1) w hb hB h2 (by omega) (by omega) (by omega)).2) (by omega) (by omega)

end Go.Proofs.YtmbkjabjcphkbaaDoor
end
section
/- Expressions in the call's own memory; append of one. -/
set_option linter.unusedVariables false
namespace Go.Proofs.YtmbkjabjcphkbaaDoor
open Go.RowKit

def exsV : List Ex → List Value → List Value
  | e :: es, f :: fs => exCells e f ++ exsV es fs
  | _, _ => []
theorem exsV_len : ∀ {es : List Ex} {fs : List Value}, es.length = fs.length → (exsV es fs).length = es.length * 5
  | [], [], _ => rfl
  | e :: es, f :: fs, h => by
    show (exCells e f ++ exsV es fs).length = _
    rw [List.length_append, exsV_len (by simpa using h)]
    simp [exCells]; omega
theorem exsV_app : ∀ {es : List Ex} {fs : List Value} (e : Ex) (u : Value), es.length = fs.length → exsV (es ++ [e]) (fs ++ [u]) = exsV es fs ++ exCells e u
  | [], [], e, u, _ => by simp [exsV]
  | d :: es, f :: fs, e, u, h => by
    show exCells d f ++ exsV (es ++ [e]) (fs ++ [u]) = _
    rw [exsV_app e u (by simpa using h)]
    simp [exsV]
theorem exsV_get : ∀ {es : List Ex} {fs : List Value} (h : es.length = fs.length) (k : Nat) (hk : k < es.length) (i : Nat) (hi : i < 5), (exsV es fs)[k * 5 + i]? = (exCells es[k] (fs[k]'(by omega)))[i]?
  | e :: es, f :: fs, h, 0, hk, i, hi => by
    show (exCells e f ++ exsV es fs)[0 * 5 + i]? = _
    rw [Nat.zero_mul, Nat.zero_add, List.getElem?_append_left (by simpa [exCells] using hi)]
    rfl
  | e :: es, f :: fs, h, k + 1, hk, i, hi => by
    show (exCells e f ++ exsV es fs)[(k + 1) * 5 + i]? = _
    rw [show (k + 1) * 5 + i = 5 + (k * 5 + i) from by omega, List.getElem?_append_right (by simp [exCells])]
    rw [show 5 + (k * 5 + i) - (exCells e f).length = k * 5 + i from by simp [exCells]]
    exact exsV_get (by simpa using h) k (by simpa using hk) i hi
theorem exCells_one (e : Ex) (u : Value) (hu : u.oneCell' = true) : ∀ x ∈ exCells e u, x.oneCell' = true := by
  intro x hx
  simp [exCells] at hx
  rcases hx with rfl | rfl | rfl | rfl | rfl
  · rfl
  · rfl
  · rfl
  · rfl
  · exact hu
theorem IsExs.one {w : World} {S : Nat → Prop} {es : List Ex} {v : Value} (h : IsExs w S es v) : v.oneCell' = true := by
  cases h; rfl

/-- the slice v of the expressions es lies in the call's own memory from base on -/
def OwnEx (w : World) (base : Nat) (v : Value) (es : List Ex) : Prop :=
  ∃ fs : List Value, es.length = fs.length ∧ w.ownsRow base 24 5 v es.length (exsV es fs) ∧
    ∀ (k : Nat) (hk : k < es.length) (hk' : k < fs.length), es[k].name.length ≤ 140737488355328 ∧ IsExs w (fun b => base ≤ b ∧ b < w.heap.size ∧ v.ownBlock ≠ some b) es[k].args fs[k]
theorem OwnEx.exs {w : World} {base : Nat} {v : Value} {es : List Ex} (h : OwnEx w base v es) : IsExs w (fun b => base ≤ b ∧ b < w.heap.size) es v := by
  obtain ⟨fs, hl, hown, hin⟩ := h
  have hlt := hown.lt
  have hcell : ∀ (g : Nat), v.ownBlock = some g → ∀ (j : Nat) (u : Value), (exsV es fs)[j]? = some u → w.cell? ⟨g, 0 + j, none⟩ = some u := fun g hg j u hu => by
    have := hown.cells hg j u hu
    rw [add_pl] at this
    exact this
  rcases hown.2 with ⟨rfl, h2⟩ | ⟨g, cap, cur, rfl, hbg, hg, hc1, hc2, _⟩
  · have he : es = [] := List.eq_nil_of_length_eq_zero h2
    subst he
    exact .mk [] none 0 (fun _ => undef) (Nat.le_refl _) (by omega) (fun k hk => absurd hk (by simp)) (fun k hk => absurd hk (by simp))
  · refine .mk es _ cap (fun k => fs.getD k undef) hc1 (by unfold maxLen at hc2; omega) (fun k hk => ?_) (fun k hk => ?_)
    · have hk' : k < fs.length := by omega
      have hgd : fs.getD k undef = fs[k] := by rw [List.getD_eq_getElem?_getD, List.getElem?_eq_getElem hk']; rfl
      refine ⟨g, 0, rfl, ⟨hbg, (hlt g rfl).2⟩, (hin k hk hk').1, ?_, ?_, ?_, ?_, ?_⟩
      · exact hcell g rfl (k * 5) _ (by have := exsV_get hl k hk 0 (by omega); rw [Nat.add_zero] at this; rw [this]; rfl)
      · exact hcell g rfl (k * 5 + 1) _ (by rw [exsV_get hl k hk 1 (by omega)]; rfl)
      · exact hcell g rfl (k * 5 + 2) _ (by rw [exsV_get hl k hk 2 (by omega)]; rfl)
      · exact hcell g rfl (k * 5 + 3) _ (by rw [exsV_get hl k hk 3 (by omega)]; rfl)
      · rw [hgd]
        exact hcell g rfl (k * 5 + 4) _ (by rw [exsV_get hl k hk 4 (by omega)]; rfl)
    · have hk' : k < fs.length := by omega
      have hgd : fs.getD k undef = fs[k] := by rw [List.getD_eq_getElem?_getD, List.getElem?_eq_getElem hk']; rfl
      show IsExs w _ es[k].args (fs.getD k undef)
      rw [hgd]
      exact (hin k hk hk').2.keep (fun _ _ => rfl) (fun b hb => ⟨hb.1, hb.2.1⟩)
theorem OwnEx.below {w w' : World} {base : Nat} {v : Value} {es : List Ex} (h : OwnEx w base v es) (hb : Below w.heap.size w w') : OwnEx w' base v es := by
  obtain ⟨fs, hl, hown, hin⟩ := h
  refine ⟨fs, hl, ?_, fun k hk hk' => ⟨(hin k hk hk').1, (hin k hk hk').2.keep (fun b hb2 => hb.block b hb2.2.1) (fun b hb2 => ⟨hb2.1, Nat.lt_of_lt_of_le hb2.2.1 hb.size, hb2.2.2⟩)⟩⟩
  rcases hown with ⟨h1, h2 | ⟨g, cap, cur, hv, hbg, hg, h3⟩⟩
  · exact ⟨h1, .inl h2⟩
  · refine ⟨h1, .inr ⟨g, cap, cur, hv, hbg, ?_, h3⟩⟩
    have hlt : g < w.heap.size := by
      rcases Nat.lt_or_ge g w.heap.size with hlt | hge
      · exact hlt
      · rw [Array.getElem?_eq_none hge] at hg; cases hg
    exact (hb.block g hlt).trans hg
theorem OwnEx.nil (w : World) : OwnEx (w.alloc (.cells #[] 24)) w.heap.size (.slice (some ⟨w.heap.size, 0, none⟩) 0 0) [] :=
  ⟨[], rfl, World.ownsRow_lit (e := 24) (size := 5) w #[] 0 (Nat.le_refl _) (by unfold maxLen; omega) rfl, fun k hk => absurd hk (by simp)⟩

theorem info_ex : (Tryd.prog.info? 24).map (fun i => (i.zero, i.size, i.bytes)) = some (some (.agg #[.int .i64 0, .int .i64 0, .int .i64 0, .string ⟨#[]⟩, .slice none 0 0]), 5, 64) := by kernel_rfl

/-- append of one expression whose arguments lie apart -/
theorem wpList_append_ex {ops : Array Oper} {rest : List Oper} {o : Oper} {a : Act} {w : World} {Q : Exit → Act → World → Prop} (hgd : o.guard = none) (s x : Operand)
    (ho : o.op = .call { callee := .builtin .append, args := #[s, x], argTypes := #[22, 22] })
    (base : Nat) (v : Value) (es : List Ex) (hs : a.eval s = v) (hown : OwnEx w base v es) (ad : Addr) (c : Nat) (e : Ex) (u : Value) (hx : a.eval x = .slice (some ad) 1 c)
    (hnews : ∀ j y, (exCells e u)[j]? = some y → w.cell? (ad.add j) = some y) (hu : IsExs w (fun b => base ≤ b ∧ b < w.heap.size ∧ v.ownBlock ≠ some b) e.args u) (hen : e.name.length ≤ 140737488355328) (hb : es.length ≤ 1000000) (hbase : base ≤ w.heap.size)
    (h : ∀ v' w', OwnEx w' base v' (es ++ [e]) → w.grownBy w' v.ownBlock → wpList Tryd.prog ops Q rest (a.put o.dst v') w') : wpList Tryd.prog ops Q (o :: rest) a w := by
  obtain ⟨i0, hi, hz0, hz1, hz2⟩ := info_parts info_ex
  obtain ⟨fs, hl, hrow, hin⟩ := hown
  refine wpList_append_lies _ hgd s x 22 ho base 24 i0 _ 5 64 Tryd.underlying22 hi hz0 hz1 hz2 rfl (by decide) v es.length (exsV es fs) hs hrow ad 1 c (exCells e u) hx rfl hnews (exCells_one e u hu.one)
    (by omega) (by unfold maxLen; omega) (by omega) hbase w.heap.size rfl fun g cap w' hown' hgr hat hlt => h _ w' ?_ hgr
  have hkeep : ∀ b, (base ≤ b ∧ b < w.heap.size ∧ v.ownBlock ≠ some b) → w'.heap[b]? = w.heap[b]? := fun b hb => hgr.block b hb.2.1 (fun e => hb.2.2 e.symm)
  have hS : ∀ b, (base ≤ b ∧ b < w.heap.size ∧ v.ownBlock ≠ some b) → (base ≤ b ∧ b < w'.heap.size ∧ (Value.slice (some ⟨g, 0, none⟩) (es.length + 1) cap).ownBlock ≠ some b) := fun b hb => by
    have hsz := hgr.size
    refine ⟨hb.1, by omega, fun e => ?_⟩
    have e' : g = b := by simpa [Value.ownBlock] using e
    rcases hat with hat | hat
    · exact hb.2.2 (by rw [hat, e'])
    · omega
  refine ⟨fs ++ [u], by simp [hl], ?_, fun k hk hk' => ?_⟩
  · rw [List.length_append, exsV_app e u hl]
    exact hown'
  · by_cases hke : k < es.length
    · have hkf : k < fs.length := by omega
      rw [List.getElem_append_left hke, List.getElem_append_left hkf]
      exact ⟨(hin k hke hkf).1, (hin k hke hkf).2.keep hkeep hS⟩
    · have hk0 : k = es.length := by simp at hk; omega
      subst hk0
      have e1 : (es ++ [e])[es.length] = e := by simp
      have e2 : (fs ++ [u])[es.length]'hk' = u := by
        rw [List.getElem_append_right (by omega)]
        simp [hl]
      rw [e1, e2]
      exact ⟨hen, hu.keep hkeep hS⟩

end Go.Proofs.YtmbkjabjcphkbaaDoor
end
section
/- The walk of CopyExpr. -/
set_option linter.unusedVariables false
namespace Go.Proofs.YtmbkjabjcphkbaaDoor
open Go.RowKit

mutual
/-- no name and no list within is longer than N -/
def smallE (N : Nat) : Ex → Prop
  | .mk _ _ _ s args => s.length ≤ N ∧ args.length ≤ N ∧ smallEs N args
def smallEs (N : Nat) : List Ex → Prop
  | [] => True
  | e :: es => smallE N e ∧ smallEs N es
end
theorem smallEs_get {N : Nat} : ∀ {es : List Ex}, smallEs N es → ∀ (k : Nat) (hk : k < es.length), smallE N es[k]
  | [], _, k, hk => absurd hk (by simp)
  | e :: es, h, 0, _ => by rw [smallEs] at h; exact h.1
  | e :: es, h, k + 1, hk => by rw [smallEs] at h; exact smallEs_get h.2 k (by simpa using hk)
theorem smallE_args {N : Nat} {e : Ex} (h : smallE N e) : e.name.length ≤ N ∧ e.args.length ≤ N ∧ smallEs N e.args := by
  cases e with
  | mk k p n s a => rw [smallE] at h; exact h
mutual
/-- an expression down to so many levels -/
def copyE : Ex → Int → Ex
  | .mk k p n s args, deep => .mk k p n s (copyEs args deep)
def copyEs : List Ex → Int → List Ex
  | [], _ => []
  | e :: es, deep => if 0 < deep then copyE e (deep - 1) :: copyEs es deep else []
end
theorem copyEs_take (es : List Ex) (deep : Int) (h : 0 < deep) : ∀ (j : Nat) (hj : j < es.length), copyEs (es.take (j + 1)) deep = copyEs (es.take j) deep ++ [copyE es[j] (deep - 1)] := by
  induction es with
  | nil => intro j hj; exact absurd hj (by simp)
  | cons e es ih =>
    intro j hj
    cases j with
    | zero => simp [copyEs, h]
    | succ j =>
      have := ih j (by simpa using hj)
      rw [List.take_succ_cons, List.take_succ_cons, copyEs, copyEs, if_pos h, if_pos h, this]
      rfl
theorem copyEs_none (es : List Ex) (deep : Int) (h : ¬ 0 < deep) : copyEs es deep = [] := by
  cases es with
  | nil => rw [copyEs]
  | cons e es => rw [copyEs, if_neg h]
theorem copyE_args (e : Ex) (deep : Int) : (copyE e deep).kind = e.kind ∧ (copyE e deep).pl = e.pl ∧ (copyE e deep).num = e.num ∧ (copyE e deep).name = e.name ∧ (copyE e deep).args = copyEs e.args deep := by
  cases e with
  | mk k p n s a => rw [copyE]; exact ⟨rfl, rfl, rfl, rfl, rfl⟩
theorem copyEs_len (es : List Ex) (deep : Int) : (copyEs es deep).length ≤ es.length := by
  induction es with
  | nil => rw [copyEs]; exact Nat.le_refl _
  | cons e es ih =>
    rw [copyEs]
    split
    · simp; omega
    · simp

/-- block g is an expression -/
def ExBlk (w : World) (g : Nat) (k p n : Int) (s : ByteArray) (v : Value) : Prop := w.heap[g]? = some (.cells #[.int .i64 k, .int .i64 p, .int .i64 n, .string s, v] 24 (0, 0))
section
variable {w w' : World} {g B : Nat} {k p n : Int} {s : ByteArray} {v : Value}
theorem ExBlk.new (w : World) (k p n : Int) (s : ByteArray) (v : Value) : ExBlk (w.alloc (.cells #[.int .i64 k, .int .i64 p, .int .i64 n, .string s, v] 24)) w.heap.size k p n s v := heap_alloc_new w _
theorem ExBlk.below (h : ExBlk w g k p n s v) (hb : Below B w w') (hg : g < B) : ExBlk w' g k p n s v := (hb.block g hg).trans h
theorem ExBlk.alloc (h : ExBlk w g k p n s v) (hg : g < w.heap.size) (o : Obj) : ExBlk (w.alloc o) g k p n s v := ((Below.refl _ w).alloc (Nat.le_refl _) o |>.block g hg).trans h
theorem ExBlk.c0 (h : ExBlk w g k p n s v) : w.cell? ⟨g, 0, none⟩ = some (.int .i64 k) := by rw [cell_of_row w g 0 _ _ (0, 0) h]; rfl
theorem ExBlk.c1 (h : ExBlk w g k p n s v) : w.cell? ⟨g, 1, none⟩ = some (.int .i64 p) := by rw [cell_of_row w g 1 _ _ (0, 0) h]; rfl
theorem ExBlk.c2 (h : ExBlk w g k p n s v) : w.cell? ⟨g, 2, none⟩ = some (.int .i64 n) := by rw [cell_of_row w g 2 _ _ (0, 0) h]; rfl
theorem ExBlk.c3 (h : ExBlk w g k p n s v) : w.cell? ⟨g, 3, none⟩ = some (.string s) := by rw [cell_of_row w g 3 _ _ (0, 0) h]; rfl
theorem ExBlk.c4 (h : ExBlk w g k p n s v) : w.cell? ⟨g, 4, none⟩ = some v := by rw [cell_of_row w g 4 _ _ (0, 0) h]; rfl
theorem ExBlk.fr (h : ExBlk w g k p n s v) (j : Nat) : w.frozen? ⟨g, j, none⟩ = false := frozen_of_row w g j _ _ h
end
def CopyPost (w : World) (k p num : Int) (name : ByteArray) (es : List Ex) (e : Ending) (w' : World) : Prop :=
  ∃ v, e = .returned (.agg #[.int .i64 k, .int .i64 p, .int .i64 num, .string name, v]) ∧ IsExs w' (fun b => w.heap.size ≤ b ∧ b < w'.heap.size) es v ∧ Below w.heap.size w w'
def Copies (w0 : World) (B : Nat) (es : List Ex) (v : Value) : Prop :=
  smallEs 1000000 es → es.length ≤ 1000000 → ∀ (k p num deep : Int) (name : ByteArray) (w : World), Below B w0 w → B ≤ w.heap.size → -100000 ≤ deep → deep ≤ 100000 →
    Calls Tryd.prog 12 #[.agg #[.int .i64 k, .int .i64 p, .int .i64 num, .string name, v], .int .i64 deep] w (CopyPost w k p num name (copyEs es deep))

set_option maxHeartbeats 1000000 in
theorem copy_any {w0 : World} {B : Nat} {es : List Ex} {v : Value} (h : IsExs w0 (· < B) es v) : Copies w0 B es v := by
  induction h with
  | mk es A c f hc hM hA hr ih =>
    intro hsm hne6 k p num deep name w hb hB hd0 hd
    obtain ⟨ne, hne⟩ : ∃ ne, ne = es.length := ⟨_, rfl⟩
    rw [← hne] at hc hne6 ⊢
    have HNE := Lib.hid hne
    have HB0 := Lib.hid hb
    have HIH := Lib.hid ih
    have HHA := Lib.hid hA
    have HSM := Lib.hid hsm
    clear hne hb ih hA hr hsm
    go_enter Tryd.func12, Tryd.ntmps12
    go_wp2
    obtain ⟨X, hX⟩ : ∃ X : World, X = ((w.alloc (.cells #[.int .i64 k, .int .i64 p, .int .i64 num, .string name, .slice A ne c] 24)).alloc (.cells #[.int .i64 0, .int .i64 0, .int .i64 0, .string ⟨#[]⟩, .slice none 0 0] 24)).alloc (.cells #[] 24) := ⟨_, rfl⟩
    obtain ⟨g, hg⟩ : ∃ g, g = w.heap.size := ⟨_, rfl⟩
    have hx1 : ExBlk X g k p num name (.slice A ne c) := by
      rw [hX, hg]; exact ((ExBlk.new w _ _ _ _ _).alloc (by simp) _).alloc (by simp; omega) _
    have hx2 : ExBlk X (g + 1) 0 0 0 ⟨#[]⟩ (.slice none 0 0) := by
      rw [hX, hg]
      have h := ExBlk.new (w.alloc (.cells #[.int .i64 k, .int .i64 p, .int .i64 num, .string name, .slice A ne c] 24)) 0 0 0 ⟨#[]⟩ (.slice none 0 0)
      rw [show (w.alloc (.cells #[.int .i64 k, .int .i64 p, .int .i64 num, .string name, .slice A ne c] 24)).heap.size = w.heap.size + 1 from by simp] at h
      exact h.alloc (by simp) _
    have hxo : OwnEx X (g + 2) (.slice (some ⟨g + 2, 0, none⟩) 0 0) (copyEs (es.take 0) deep) := by
      rw [hX, hg]
      have h := OwnEx.nil ((w.alloc (.cells #[.int .i64 k, .int .i64 p, .int .i64 num, .string name, .slice A ne c] 24)).alloc (.cells #[.int .i64 0, .int .i64 0, .int .i64 0, .string ⟨#[]⟩, .slice none 0 0] 24))
      rw [show ((w.alloc (.cells #[.int .i64 k, .int .i64 p, .int .i64 num, .string name, .slice A ne c] 24)).alloc (.cells #[.int .i64 0, .int .i64 0, .int .i64 0, .string ⟨#[]⟩, .slice none 0 0] 24)).heap.size = w.heap.size + 2 from by simp] at h
      rw [List.take_zero, copyEs]
      exact h
    have hxs : X.heap.size = g + 3 := by rw [hX, hg]; simp
    have hxb : Below g w X := by rw [hX, hg]; exact (((Below.refl _ w).alloc (Nat.le_refl _) _).alloc (by simp) _).alloc (by simp; omega) _
    rw [← hX, ← hg]
    have HX1 := Lib.hid hx1
    have HX2 := Lib.hid hx2
    have HXO := Lib.hid hxo
    have HXS := Lib.hid hxs
    have HXB := Lib.hid hxb
    have HG := Lib.hid hg
    clear hX hx1 hx2 hxo hxs hxb hg
    go_loopw [5, 6] (fun v i wr => ∃ j : Nat, j ≤ ne ∧ i = .int .i64 j ∧ Hid (OwnEx wr (g + 2) v (copyEs (es.take j) deep)) ∧ Hid (Below (g + 2) X wr) ∧ g + 2 < wr.heap.size) (fun _ i _ => ne - (intOf i).toNat)
    case atStart => exact ⟨0, Nat.zero_le _, rfl, HXO, Lib.hid (Below.refl _ _), by have := HXS.out; omega⟩
    case round =>
      obtain ⟨wo, rfl⟩ : ∃ wo : World, wo = wr := ⟨_, rfl⟩
      obtain ⟨j, hj, rfl, HO, HBL, hws⟩ := hrel
      have hb1 := HX1.out.below HBL.out (by omega)
      have k0 := hb1.c0
      have k1 := hb1.c1
      have k2 := hb1.c2
      have k3 := hb1.c3
      have k4 := hb1.c4
      by_cases hgo : j < ne ∧ 0 < deep
      · obtain ⟨hlt, hdp⟩ := hgo
        have hje : j < es.length := by rw [← HNE.out]; exact hlt
        obtain ⟨b, off, rfl, hbB, hnm, p0, p1, p2, p3, p4⟩ := HHA.out j hje
        have hbw : Below B w0 wo := HB0.out.trans ((HXB.out.trans (HBL.out.mono (by omega))).mono (by rw [HG.out]; exact hB))
        have hsx : B ≤ wo.heap.size := by have := HG.out; omega
        have hsmj := smallE_args (smallEs_get HSM.out j hje)
        have hcc := HIH.out j hje hsmj.2.2 hsmj.2.1 es[j].kind es[j].pl es[j].num (deep - 1) (strOf es[j].name) wo hbw hsx (by omega) (by omega)
        have r0 := (hbw.cell (p := ⟨b, off + j * 5, none⟩) hbB).trans p0
        have r1 := (hbw.cell (p := ⟨b, off + j * 5 + 1, none⟩) hbB).trans p1
        have r2 := (hbw.cell (p := ⟨b, off + j * 5 + 2, none⟩) hbB).trans p2
        have r3 := (hbw.cell (p := ⟨b, off + j * 5 + 3, none⟩) hbB).trans p3
        have r4 := (hbw.cell (p := ⟨b, off + j * 5 + 4, none⟩) hbB).trans p4
        have hct := copyEs_take es deep hdp j hje
        obtain ⟨e1, e2, e3, e4, e5⟩ := copyE_args es[j] (deep - 1)
        obtain ⟨Y, hY⟩ : ∃ Y, Y = copyE es[j] (deep - 1) := ⟨_, rfl⟩
        rw [← hY] at e1 e2 e3 e4 e5 hct
        rw [← e5] at hcc
        rw [← e4] at r3 hcc hnm
        rw [← e3] at r2 hcc
        rw [← e2] at r1 hcc
        rw [← e1] at r0 hcc
        obtain ⟨yk, hyk⟩ : ∃ x, x = Y.kind := ⟨_, rfl⟩
        obtain ⟨yp, hyp⟩ : ∃ x, x = Y.pl := ⟨_, rfl⟩
        obtain ⟨yn, hyn⟩ : ∃ x, x = Y.num := ⟨_, rfl⟩
        obtain ⟨ys, hys⟩ : ∃ x, x = strOf Y.name := ⟨_, rfl⟩
        obtain ⟨yv, hyv⟩ : ∃ x, x = f j := ⟨_, rfl⟩
        rw [← hyk, ← hyp, ← hyn, ← hys, ← hyv] at hcc
        rw [← hyk] at r0
        rw [← hyp] at r1
        rw [← hyn] at r2
        rw [← hys] at r3
        rw [← hyv] at r4
        have HCC := Lib.hid hcc
        have HCT := Lib.hid hct
        have hcells : ∀ u, exCells Y u = [.int .i64 yk, .int .i64 yp, .int .i64 yn, .string ys, u] := fun u => by rw [hyk, hyp, hyn, hys]; rfl
        have HCL := Lib.hid hcells
        have hlen : (copyEs (es.take j) deep).length ≤ 1000000 := by
          have h1 := copyEs_len (es.take j) deep
          rw [List.length_take] at h1
          omega
        have HLEN := Lib.hid hlen
        have HNM := Lib.hid hnm
        clear hcc hct hcells hlen hnm hsmj e1 e2 e3 e4 e5 hY hyk hyp hyn hys hyv hbw p0 p1 p2 p3 p4 k0 k1 k2 k3 HIH
        go_wp2_with fail
        refine HCC.out.mono ?_
        rintro e w1 ⟨v1, rfl, hi1, hb1'⟩
        have hs1 := hb1'.size
        have ho1 : OwnEx (w1.alloc (.cells #[.int .i64 yk, .int .i64 yp, .int .i64 yn, .string ys, v1] 24)) (g + 2) u5 (copyEs (es.take j) deep) := (HO.out.below hb1').below ((Below.refl _ _).alloc (Nat.le_refl _) _)
        have hnew : ∀ q y, (exCells Y v1)[q]? = some y → (w1.alloc (.cells #[.int .i64 yk, .int .i64 yp, .int .i64 yn, .string ys, v1] 24)).cell? ((⟨w1.heap.size, 0, none⟩ : Addr).add q) = some y := fun q y hq => by
          rw [HCL.out] at hq
          rw [add_pl, Nat.zero_add, cell_of_row _ _ q _ _ (0, 0) (heap_alloc_new w1 _)]
          simpa using hq
        have hun : IsExs (w1.alloc (.cells #[.int .i64 yk, .int .i64 yp, .int .i64 yn, .string ys, v1] 24)) (fun b => g + 2 ≤ b ∧ b < (w1.alloc (.cells #[.int .i64 yk, .int .i64 yp, .int .i64 yn, .string ys, v1] 24)).heap.size ∧ u5.ownBlock ≠ some b) Y.args v1 := by
          obtain ⟨fs, _, hrow, _⟩ := HO.out
          refine hi1.keep (fun b hb2 => ((Below.refl _ w1).alloc (Nat.le_refl _) _).block b hb2.2) (fun b hb2 => ⟨by omega, by simp; omega, fun e => ?_⟩)
          have := (hrow.lt b e).2
          omega
        have HO1 := Lib.hid ho1
        have HNEW := Lib.hid hnew
        have HUN := Lib.hid hun
        have HB1 := Lib.hid hb1'
        have hcell := hi1.one
        clear ho1 hnew hun hi1 hb1'
        go_wp2_with (first
          | (at_builtin; refine wpList_append_ex rfl _ _ rfl (g + 2) u5 (copyEs (es.take j) deep) rfl HO1.out ⟨w1.heap.size, 0, none⟩ 1 Y v1 rfl HNEW.out HUN.out HNM.out HLEN.out (by simp; omega) ?_; intro v' w3 hown3 hgr))
        go_roundw
        case rel =>
          have hb3 := (((HBL.out.trans (HB1.out.mono (by omega))).alloc (B := g + 2) (by omega) (.cells #[.int .i64 yk, .int .i64 yp, .int .i64 yn, .string ys, v1] 24))).grown hgr (by simp; omega) (fun q hq => by
            obtain ⟨fs, _, hrow, _⟩ := HO.out
            exact (hrow.lt q hq).1)
          exact ⟨j + 1, by omega, by go_num, Lib.hid (by rw [HCT.out]; exact hown3), Lib.hid hb3, by have h1 := hb3.size; have h2 := HXS.out; omega⟩
        case measure => simp [intOf]; omega
      · have hall : copyEs (es.take j) deep = copyEs es deep := by
          by_cases h0 : 0 < deep
          · have hje : ¬ j < ne := fun h => hgo ⟨h, h0⟩
            rw [List.take_of_length_le (by rw [← HNE.out]; omega)]
          · rw [copyEs_none _ _ h0, copyEs_none _ _ h0]
        rw [hall] at HO
        obtain ⟨A5, n5, c5, rfl⟩ : ∃ A n c, u5 = .slice A n c := by
          have h := HO.out.exs
          cases h
          exact ⟨_, _, _, rfl⟩
        have f4 := hb1.fr 4
        have hb2 := HX2.out.below HBL.out (by omega)
        have m0 := hb2.c0
        have m1 := hb2.c1
        have m2 := hb2.c2
        have m3 := hb2.c3
        have m4 := hb2.c4
        have n0 := hb2.fr 0
        have n1 := hb2.fr 1
        have n2 := hb2.fr 2
        have n3 := hb2.fr 3
        have n4 := hb2.fr 4
        clear hall HIH HHA
        have hcase : j = ne ∨ (j < ne ∧ deep ≤ 0) := by
          rcases Nat.lt_or_ge j ne with h | h
          · exact .inr ⟨h, by
              rcases Int.lt_or_le 0 deep with h2 | h2
              · exact absurd ⟨h, h2⟩ hgo
              · exact h2⟩
          · exact .inl (by omega)
        clear hgo
        rcases hcase with h | ⟨h, h'⟩
        all_goals
          go_wp2
          have hfin : IsExs ((((((wo.setCell ⟨g, 4, none⟩ (.slice A5 n5 c5)).setCell ⟨g + 1, 0, none⟩ (.int .i64 k)).setCell ⟨g + 1, 1, none⟩ (.int .i64 p)).setCell ⟨g + 1, 2, none⟩ (.int .i64 num)).setCell ⟨g + 1, 3, none⟩ (.string name)).setCell ⟨g + 1, 4, none⟩ (.slice A5 n5 c5))
              (fun b => w.heap.size ≤ b ∧ b < ((((((wo.setCell ⟨g, 4, none⟩ (.slice A5 n5 c5)).setCell ⟨g + 1, 0, none⟩ (.int .i64 k)).setCell ⟨g + 1, 1, none⟩ (.int .i64 p)).setCell ⟨g + 1, 2, none⟩ (.int .i64 num)).setCell ⟨g + 1, 3, none⟩ (.string name)).setCell ⟨g + 1, 4, none⟩ (.slice A5 n5 c5)).heap.size) (copyEs es deep) (.slice A5 n5 c5) := by
            refine HO.out.exs.keep (fun b hb => ?_) (fun b hb => ⟨by have := HG.out; omega, by simpa using hb.2⟩)
            rw [Below.heap_setCell _ _ _ b (show b ≠ g + 1 by omega), Below.heap_setCell _ _ _ b (show b ≠ g + 1 by omega), Below.heap_setCell _ _ _ b (show b ≠ g + 1 by omega), Below.heap_setCell _ _ _ b (show b ≠ g + 1 by omega), Below.heap_setCell _ _ _ b (show b ≠ g + 1 by omega), Below.heap_setCell _ _ _ b (show b ≠ g by omega)]
          have hbel : Below w.heap.size w ((((((wo.setCell ⟨g, 4, none⟩ (.slice A5 n5 c5)).setCell ⟨g + 1, 0, none⟩ (.int .i64 k)).setCell ⟨g + 1, 1, none⟩ (.int .i64 p)).setCell ⟨g + 1, 2, none⟩ (.int .i64 num)).setCell ⟨g + 1, 3, none⟩ (.string name)).setCell ⟨g + 1, 4, none⟩ (.slice A5 n5 c5)) := by
            rw [← HG.out]
            exact ((((((HXB.out.trans (HBL.out.mono (by omega))).setCell (Nat.le_refl _) _).setCell (by simp) _).setCell (by simp) _).setCell (by simp) _).setCell (by simp) _).setCell (by simp) _
          exact bodyPost_ret (v := .agg #[.int .i64 k, .int .i64 p, .int .i64 num, .string name, .slice A5 n5 c5]) (by simp [results, Tryd.results12, go_sem, m0, m1, m2, m3, m4]) rfl ⟨_, rfl, hfin, hbel⟩

end Go.Proofs.YtmbkjabjcphkbaaDoor
end
section
/- The walk of SameExpr, where both are alike. -/
set_option linter.unusedVariables false
namespace Go.Proofs.YtmbkjabjcphkbaaDoor
open Go.RowKit

mutual
/-- alike in all fields, but where they stand, if at is false -/
def likeE (at_ : Bool) : Ex → Ex → Prop
  | .mk k p n s xs, .mk k' p' n' s' bs => k = k' ∧ (at_ = true → p = p') ∧ n = n' ∧ s = s' ∧ likeEs at_ xs bs
def likeEs (at_ : Bool) : List Ex → List Ex → Prop
  | [], [] => True
  | a :: xs, b :: bs => likeE at_ a b ∧ likeEs at_ xs bs
  | [], _ :: _ => False
  | _ :: _, [] => False
end
theorem likeEs_len {t : Bool} : ∀ {xs bs : List Ex}, likeEs t xs bs → xs.length = bs.length
  | [], [], _ => rfl
  | a :: xs, b :: bs, h => by rw [likeEs] at h; rw [List.length_cons, List.length_cons, likeEs_len h.2]
  | [], _ :: _, h => by rw [likeEs] at h; exact h.elim
  | _ :: _, [], h => by rw [likeEs] at h; exact h.elim
theorem likeEs_get {t : Bool} : ∀ {xs bs : List Ex}, likeEs t xs bs → ∀ (k : Nat) (h1 : k < xs.length) (h2 : k < bs.length), likeE t xs[k] bs[k]
  | [], [], _, k, h1, _ => absurd h1 (by simp)
  | a :: xs, b :: bs, h, 0, _, _ => by rw [likeEs] at h; exact h.1
  | a :: xs, b :: bs, h, k + 1, h1, h2 => by rw [likeEs] at h; exact likeEs_get h.2 k (by simpa using h1) (by simpa using h2)
  | [], _ :: _, h, _, _, _ => by rw [likeEs] at h; exact h.elim
  | _ :: _, [], h, _, _, _ => by rw [likeEs] at h; exact h.elim
theorem likeE_parts {t : Bool} {a b : Ex} (h : likeE t a b) : a.kind = b.kind ∧ (t = true → a.pl = b.pl) ∧ a.num = b.num ∧ a.name = b.name ∧ likeEs t a.args b.args := by
  cases a; cases b
  rw [likeE] at h
  exact h
mutual
theorem likeE_refl (t : Bool) : ∀ e : Ex, likeE t e e
  | .mk k p n s xs => by rw [likeE]; exact ⟨rfl, fun _ => rfl, rfl, rfl, likeEs_refl t xs⟩
theorem likeEs_refl (t : Bool) : ∀ es : List Ex, likeEs t es es
  | [] => by rw [likeEs]; trivial
  | e :: es => by rw [likeEs]; exact ⟨likeE_refl t e, likeEs_refl t es⟩
end

def Sames (w0 : World) (B : Nat) (es : List Ex) (v : Value) : Prop :=
  ∀ (t : Bool) (bs : List Ex) (u : Value), IsExs w0 (· < B) bs u → likeEs t es bs → es.length ≤ 1000000 → smallEs 1000000 es → ∀ (k p p' num deep : Int) (name : ByteArray) (w : World), (t = true → p = p') → Below B w0 w → B ≤ w.heap.size → -100000 ≤ deep → deep ≤ 100000 →
    Calls Tryd.prog 15 #[.agg #[.int .i64 k, .int .i64 p, .int .i64 num, .string name, v], .agg #[.int .i64 k, .int .i64 p', .int .i64 num, .string name, u], .bool t, .int .i64 deep] w
      fun e w' => e = .returned (.bool true) ∧ Below w.heap.size w w'

set_option maxHeartbeats 4000000 in
set_option maxRecDepth 100000 in
theorem sameex_any {w0 : World} {B : Nat} {es : List Ex} {v : Value} (h : IsExs w0 (· < B) es v) : Sames w0 B es v := by
  induction h with
  | mk es A c f hc hM hA hr ih =>
    intro t bs u hu hlk hne6 hsm k p p' num deep name w hpp hb hB hd0 hd
    have hlen := likeEs_len hlk
    cases hu with
    | mk bs D d f' hc' hM' hA' hr' =>
    obtain ⟨ne, hne⟩ : ∃ ne, ne = es.length := ⟨_, rfl⟩
    rw [← hlen] at hc' ⊢
    rw [← hne] at hc hc' hne6 ⊢
    rw [← hne] at hlen
    have HNE := Lib.hid hne
    have HNB := Lib.hid hlen
    have HLK := Lib.hid hlk
    have HB0 := Lib.hid hb
    have HIH := Lib.hid ih
    have HA1 := Lib.hid hA
    have HA2 := Lib.hid hA'
    have HR2 := Lib.hid hr'
    have HSM := Lib.hid hsm
    have hpt : (t && (p != p')) = false := by
      cases t with
      | false => rfl
      | true => rw [hpp rfl]; simp
    have hpp1 : t = true → (p != p') = false := fun h => by rw [hpp h]; simp
    have HPP := Lib.hid hpp1
    have e2 : (name.toList != name.toList) = false := by simp
    clear hne hlen hlk hb ih hA hr hA' hr' hsm hpt hpp1
    have key : ∀ (tt : Bool), tt = t → ((tt = true → (p != p') = false) → Calls Tryd.prog 15 #[.agg #[.int .i64 k, .int .i64 p, .int .i64 num, .string name, .slice A ne c], .agg #[.int .i64 k, .int .i64 p', .int .i64 num, .string name, .slice D ne d], .bool tt, .int .i64 deep] w
      fun e w' => e = .returned (.bool true) ∧ Below w.heap.size w w') := by
      intro tt htt hq
      have HTT := Lib.hid htt
      clear htt
      cases tt
      all_goals
        first
        | (have hq1 := hq rfl)
        | skip
        clear hq
        go_enter Tryd.func15, Tryd.ntmps15
        go_wp2
        obtain ⟨X, hX⟩ : ∃ X : World, X = (w.alloc (.cells #[.int .i64 k, .int .i64 p, .int .i64 num, .string name, .slice A ne c] 24)).alloc (.cells #[.int .i64 k, .int .i64 p', .int .i64 num, .string name, .slice D ne d] 24) := ⟨_, rfl⟩
        obtain ⟨g, hg⟩ : ∃ g, g = w.heap.size := ⟨_, rfl⟩
        have hx1 : ExBlk X g k p num name (.slice A ne c) := by
          rw [hX, hg]; exact (ExBlk.new w _ _ _ _ _).alloc (by simp) _
        have hx2 : ExBlk X (g + 1) k p' num name (.slice D ne d) := by
          rw [hX, hg]
          have h := ExBlk.new (w.alloc (.cells #[.int .i64 k, .int .i64 p, .int .i64 num, .string name, .slice A ne c] 24)) k p' num name (.slice D ne d)
          rw [show (w.alloc (.cells #[.int .i64 k, .int .i64 p, .int .i64 num, .string name, .slice A ne c] 24)).heap.size = w.heap.size + 1 from by simp] at h
          exact h
        have hxs : X.heap.size = g + 2 := by rw [hX, hg]; simp
        have hxb : Below g w X := by rw [hX, hg]; exact ((Below.refl _ w).alloc (Nat.le_refl _) _).alloc (by simp) _
        rw [← hX, ← hg]
        have HX1 := Lib.hid hx1
        have HX2 := Lib.hid hx2
        have HXS := Lib.hid hxs
        have HXB := Lib.hid hxb
        have HG := Lib.hid hg
        clear hX hx1 hx2 hxs hxb hg
        go_loopw [9] (fun i wr => ∃ j : Nat, j ≤ ne ∧ i = .int .i64 j ∧ Hid (Below (g + 2) X wr)) (fun i _ => ne - (intOf i).toNat)
        case atStart => exact ⟨0, Nat.zero_le _, rfl, Lib.hid (Below.refl _ _)⟩
        case round =>
          obtain ⟨wo, rfl⟩ : ∃ wo : World, wo = wr := ⟨_, rfl⟩
          obtain ⟨j, hj, rfl, HBL⟩ := hrel
          have hb1 := HX1.out.below HBL.out (by omega)
          have hb2 := HX2.out.below HBL.out (by omega)
          have k0 := hb1.c0
          have k4 := hb1.c4
          have m0 := hb2.c0
          have m4 := hb2.c4
          by_cases hgo : j < ne ∧ 0 < deep
          · obtain ⟨hlt, hdp⟩ := hgo
            have hje : j < es.length := by rw [← HNE.out]; exact hlt
            have hjb : j < bs.length := by rw [← HNB.out]; exact hlt
            obtain ⟨b, off, rfl, hbB, _, p0, p1, p2, p3, p4⟩ := HA1.out j hje
            obtain ⟨b', off', rfl, hbB', _, q0, q1, q2, q3, q4⟩ := HA2.out j hjb
            have hbw : Below B w0 wo := HB0.out.trans ((HXB.out.trans (HBL.out.mono (by omega))).mono (by rw [HG.out]; exact hB))
            have hsx : B ≤ wo.heap.size := by have := HG.out; have := HBL.out.size; have := HXS.out; omega
            obtain ⟨l1, l2, l3, l4, l5⟩ := likeE_parts (likeEs_get HLK.out j hje hjb)
            have hsmj := smallE_args (smallEs_get HSM.out j hje)
            have hcc := HIH.out j hje t bs[j].args (f' j) (HR2.out j hjb) l5 hsmj.2.1 hsmj.2.2 es[j].kind es[j].pl bs[j].pl es[j].num (deep - 1) (strOf es[j].name) wo.drew l2 hbw.drew (by simpa using hsx) (by omega) (by omega)
            have r0 := (hbw.cell (p := ⟨b, off + j * 5, none⟩) hbB).trans p0
            have r1 := (hbw.cell (p := ⟨b, off + j * 5 + 1, none⟩) hbB).trans p1
            have r2 := (hbw.cell (p := ⟨b, off + j * 5 + 2, none⟩) hbB).trans p2
            have r3 := (hbw.cell (p := ⟨b, off + j * 5 + 3, none⟩) hbB).trans p3
            have r4 := (hbw.cell (p := ⟨b, off + j * 5 + 4, none⟩) hbB).trans p4
            have s0 := (hbw.cell (p := ⟨b', off' + j * 5, none⟩) hbB').trans q0
            have s1 := (hbw.cell (p := ⟨b', off' + j * 5 + 1, none⟩) hbB').trans q1
            have s2 := (hbw.cell (p := ⟨b', off' + j * 5 + 2, none⟩) hbB').trans q2
            have s3 := (hbw.cell (p := ⟨b', off' + j * 5 + 3, none⟩) hbB').trans q3
            have s4 := (hbw.cell (p := ⟨b', off' + j * 5 + 4, none⟩) hbB').trans q4
            rw [← l1] at s0
            rw [← l3] at s2
            rw [← l4] at s3
            obtain ⟨yk, hyk⟩ : ∃ x, x = es[j].kind := ⟨_, rfl⟩
            obtain ⟨yp, hyp⟩ : ∃ x, x = es[j].pl := ⟨_, rfl⟩
            obtain ⟨zp, hzp⟩ : ∃ x, x = bs[j].pl := ⟨_, rfl⟩
            obtain ⟨yn, hyn⟩ : ∃ x, x = es[j].num := ⟨_, rfl⟩
            obtain ⟨ys, hys⟩ : ∃ x, x = strOf es[j].name := ⟨_, rfl⟩
            obtain ⟨yv, hyv⟩ : ∃ x, x = f j := ⟨_, rfl⟩
            obtain ⟨zv, hzv⟩ : ∃ x, x = f' j := ⟨_, rfl⟩
            rw [← hyk, ← hyp, ← hzp, ← hyn, ← hys, ← hyv, ← hzv] at hcc
            rw [← hyk] at r0 s0
            rw [← hyp] at r1
            rw [← hzp] at s1
            rw [← hyn] at r2 s2
            rw [← hys] at r3 s3
            rw [← hyv] at r4
            rw [← hzv] at s4
            rw [← HTT.out] at hcc
            have HCC := Lib.hid hcc
            clear hcc l1 l2 l3 l4 l5 hsmj hyk hyp hzp hyn hys hyv hzv p0 p1 p2 p3 p4 q0 q1 q2 q3 q4 hbw HIH HA1 HA2
            have bb : -9223372036854775808 ≤ deep - 1 ∧ deep - 1 ≤ 9223372036854775807 := by omega
            have rr := IntWalk.i64_in _ bb
            clear bb
            go_wp2
            go_still_tail 13, (by kernel_rfl)
            change wpList _ _ _ _ _ wo.drew
            clear rr
            go_wp2_with (first
              | ((with_reducible refine HCC.out.mono ?_); rintro e w1 ⟨rfl, hb1'⟩))
            have hs1 := hb1'.size
            go_roundw
            case rel => exact ⟨j + 1, by omega, by go_num, Lib.hid ((HBL.out.drew).trans (hb1'.mono (by have h1 := HBL.out.size; have h2 := HXS.out; simp; omega)))⟩
            case measure => simp [intOf]; omega
          · clear HIH HA1 HA2
            have hcase : j = ne ∨ (j < ne ∧ deep ≤ 0) := by
              rcases Nat.lt_or_ge j ne with h | h
              · exact .inr ⟨h, by
                  rcases Int.lt_or_le 0 deep with h2 | h2
                  · exact absurd ⟨h, h2⟩ hgo
                  · exact h2⟩
              · exact .inl (by omega)
            have hend : Below w.heap.size w wo := by rw [← HG.out]; exact HXB.out.trans (HBL.out.mono (by omega))
            clear hgo
            rcases hcase with h | ⟨h, h'⟩
            all_goals
              go_wp2
              go_ret
              exact ⟨rfl, hend⟩
    exact key t rfl HPP.out

end Go.Proofs.YtmbkjabjcphkbaaDoor
end
section
/- The walks of CopyExprs and SameExprs. -/
set_option linter.unusedVariables false
namespace Go.Proofs.YtmbkjabjcphkbaaDoor
open Go.RowKit

theorem map_take {es : List Ex} (f : Ex → Ex) {j : Nat} (h : j < es.length) : (es.take (j + 1)).map f = (es.take j).map f ++ [f es[j]] := by
  rw [List.take_succ_eq_append_getElem h, List.map_append]; rfl
def ExsPost (w : World) (es : List Ex) (e : Ending) (w' : World) : Prop :=
  ∃ v, e = .returned v ∧ IsExs w' (fun b => w.heap.size ≤ b ∧ b < w'.heap.size) es v ∧ Below w.heap.size w w'

set_option maxHeartbeats 1000000 in
theorem copys_any {w0 : World} {B : Nat} {es : List Ex} {v : Value} (h : IsExs w0 (· < B) es v) (hsm : smallEs 1000000 es) (hne6 : es.length ≤ 1000000) (deep : Int) (w : World) (hb : Below B w0 w) (hB : B ≤ w.heap.size) (hd0 : -100000 ≤ deep) (hd : deep ≤ 100000) :
    Calls Tryd.prog 64 #[v, .int .i64 deep] w (ExsPost w (es.map (copyE · deep))) := by
  cases h with
  | mk es A c f hc hM hA hr =>
    obtain ⟨ne, hne⟩ : ∃ ne, ne = es.length := ⟨_, rfl⟩
    rw [← hne] at hc hne6 ⊢
    have HNE := Lib.hid hne
    have HB0 := Lib.hid hb
    have HHA := Lib.hid hA
    have HR := Lib.hid hr
    have HSM := Lib.hid hsm
    clear hne hb hA hr hsm
    go_enter Tryd.func64, Tryd.ntmps64
    go_wp2
    obtain ⟨X, hX⟩ : ∃ X : World, X = w.alloc (.cells #[] 24) := ⟨_, rfl⟩
    obtain ⟨g, hg⟩ : ∃ g, g = w.heap.size := ⟨_, rfl⟩
    have hxo : OwnEx X g (.slice (some ⟨g, 0, none⟩) 0 0) ((es.take 0).map (copyE · deep)) := by rw [hX, hg]; exact OwnEx.nil w
    have hxs : X.heap.size = g + 1 := by rw [hX, hg]; simp
    have hxb : Below g w X := by rw [hX, hg]; exact (Below.refl _ w).alloc (Nat.le_refl _) _
    rw [← hX, ← hg]
    have HXO := Lib.hid hxo
    have HXS := Lib.hid hxs
    have HXB := Lib.hid hxb
    have HG := Lib.hid hg
    clear hX hxo hxs hxb hg
    go_loopw [5, 6] (fun v i wr => ∃ j : Nat, j ≤ ne ∧ i = .int .i64 j ∧ Hid (OwnEx wr g v ((es.take j).map (copyE · deep))) ∧ Hid (Below g X wr) ∧ g < wr.heap.size) (fun _ i _ => ne - (intOf i).toNat)
    case atStart => exact ⟨0, Nat.zero_le _, rfl, HXO, Lib.hid (Below.refl _ _), by have := HXS.out; omega⟩
    case round =>
      obtain ⟨wo, rfl⟩ : ∃ wo : World, wo = wr := ⟨_, rfl⟩
      obtain ⟨j, hj, rfl, HO, HBL, hws⟩ := hrel
      by_cases hlt : j < ne
      · have hje : j < es.length := by rw [← HNE.out]; exact hlt
        obtain ⟨b, off, rfl, hbB, hnm, p0, p1, p2, p3, p4⟩ := HHA.out j hje
        have hbw : Below B w0 wo := HB0.out.trans ((HXB.out.trans HBL.out).mono (by rw [HG.out]; exact hB))
        have hsx : B ≤ wo.heap.size := by have := HG.out; omega
        have hsmj := smallE_args (smallEs_get HSM.out j hje)
        have hcc := copy_any (HR.out j hje) hsmj.2.2 hsmj.2.1 es[j].kind es[j].pl es[j].num deep (strOf es[j].name) wo hbw hsx (by omega) (by omega)
        have r0 := (hbw.cell (p := ⟨b, off + j * 5, none⟩) hbB).trans p0
        have r1 := (hbw.cell (p := ⟨b, off + j * 5 + 1, none⟩) hbB).trans p1
        have r2 := (hbw.cell (p := ⟨b, off + j * 5 + 2, none⟩) hbB).trans p2
        have r3 := (hbw.cell (p := ⟨b, off + j * 5 + 3, none⟩) hbB).trans p3
        have r4 := (hbw.cell (p := ⟨b, off + j * 5 + 4, none⟩) hbB).trans p4
        have hct := map_take (copyE · deep) hje
        obtain ⟨e1, e2, e3, e4, e5⟩ := copyE_args es[j] deep
        obtain ⟨Y, hY⟩ : ∃ Y, Y = copyE es[j] deep := ⟨_, rfl⟩
        rw [← hY] at e1 e2 e3 e4 e5 hct
        rw [← e5] at hcc
        rw [← e4] at r3 hcc hnm
        rw [← e3] at r2 hcc
        rw [← e2] at r1 hcc
        rw [← e1] at r0 hcc
        obtain ⟨yk, hyk⟩ : ∃ x, x = Y.kind := ⟨_, rfl⟩
        obtain ⟨yp, hyp⟩ : ∃ x, x = Y.pl := ⟨_, rfl⟩
        obtain ⟨yn, hyn⟩ : ∃ x, x = Y.num := ⟨_, rfl⟩
        obtain ⟨ys, hys⟩ : ∃ x, x = strOf Y.name := ⟨_, rfl⟩
        obtain ⟨yv, hyv⟩ : ∃ x, x = f j := ⟨_, rfl⟩
        rw [← hyk, ← hyp, ← hyn, ← hys, ← hyv] at hcc
        rw [← hyk] at r0
        rw [← hyp] at r1
        rw [← hyn] at r2
        rw [← hys] at r3
        rw [← hyv] at r4
        have HCC := Lib.hid hcc
        have HCT := Lib.hid hct
        have hcells : ∀ u, exCells Y u = [.int .i64 yk, .int .i64 yp, .int .i64 yn, .string ys, u] := fun u => by rw [hyk, hyp, hyn, hys]; rfl
        have HCL := Lib.hid hcells
        have hlen : ((es.take j).map (copyE · deep)).length ≤ 1000000 := by
          rw [List.length_map, List.length_take]
          omega
        have HLEN := Lib.hid hlen
        have HNM := Lib.hid hnm
        clear hcc hct hcells hlen hnm hsmj e1 e2 e3 e4 e5 hY hyk hyp hyn hys hyv hbw p0 p1 p2 p3 p4 HHA
        go_wp2_with fail
        refine HCC.out.mono ?_
        rintro e w1 ⟨v1, rfl, hi1, hb1'⟩
        have hs1 := hb1'.size
        have ho1 : OwnEx (w1.alloc (.cells #[.int .i64 yk, .int .i64 yp, .int .i64 yn, .string ys, v1] 24)) g u5 ((es.take j).map (copyE · deep)) := (HO.out.below hb1').below ((Below.refl _ _).alloc (Nat.le_refl _) _)
        have hnew : ∀ q y, (exCells Y v1)[q]? = some y → (w1.alloc (.cells #[.int .i64 yk, .int .i64 yp, .int .i64 yn, .string ys, v1] 24)).cell? ((⟨w1.heap.size, 0, none⟩ : Addr).add q) = some y := fun q y hq => by
          rw [HCL.out] at hq
          rw [add_pl, Nat.zero_add, cell_of_row _ _ q _ _ (0, 0) (heap_alloc_new w1 _)]
          simpa using hq
        have hun : IsExs (w1.alloc (.cells #[.int .i64 yk, .int .i64 yp, .int .i64 yn, .string ys, v1] 24)) (fun b => g ≤ b ∧ b < (w1.alloc (.cells #[.int .i64 yk, .int .i64 yp, .int .i64 yn, .string ys, v1] 24)).heap.size ∧ u5.ownBlock ≠ some b) Y.args v1 := by
          obtain ⟨fs, _, hrow, _⟩ := HO.out
          refine hi1.keep (fun b hb2 => ((Below.refl _ w1).alloc (Nat.le_refl _) _).block b hb2.2) (fun b hb2 => ⟨by omega, by simp; omega, fun e => ?_⟩)
          have := (hrow.lt b e).2
          omega
        have HO1 := Lib.hid ho1
        have HNEW := Lib.hid hnew
        have HUN := Lib.hid hun
        have HB1 := Lib.hid hb1'
        have hcell := hi1.one
        clear ho1 hnew hun hi1 hb1'
        go_wp2_with (first
          | (at_builtin; refine wpList_append_ex rfl _ _ rfl g u5 ((es.take j).map (copyE · deep)) rfl HO1.out ⟨w1.heap.size, 0, none⟩ 1 Y v1 rfl HNEW.out HUN.out HNM.out HLEN.out (by simp; omega) ?_; intro v' w3 hown3 hgr))
        go_roundw
        case rel =>
          have hb3 := (((HBL.out.trans (HB1.out.mono (by omega))).alloc (B := g) (by omega) (.cells #[.int .i64 yk, .int .i64 yp, .int .i64 yn, .string ys, v1] 24))).grown hgr (by simp; omega) (fun q hq => by
            obtain ⟨fs, _, hrow, _⟩ := HO.out
            exact (hrow.lt q hq).1)
          exact ⟨j + 1, by omega, by go_num, Lib.hid (by rw [HCT.out]; exact hown3), Lib.hid hb3, by have h1 := hb3.size; have h2 := HXS.out; omega⟩
        case measure => simp [intOf]; omega
      · have hall : es.take j = es := List.take_of_length_le (by rw [← HNE.out]; omega)
        rw [hall] at HO
        have hfin : IsExs wo (fun b => w.heap.size ≤ b ∧ b < wo.heap.size) (es.map (copyE · deep)) u5 := by rw [← HG.out]; exact HO.out.exs
        have hend : Below w.heap.size w wo := by rw [← HG.out]; exact HXB.out.trans HBL.out
        clear hall HHA
        go_wp2
        go_ret
        exact ⟨_, rfl, hfin, hend⟩

end Go.Proofs.YtmbkjabjcphkbaaDoor
end
section
/- Trees of statements, plain, and in memory; what they weigh. -/
set_option linter.unusedVariables false
namespace Go.Proofs.YtmbkjabjcphkbaaDoor
open Go.RowKit

inductive Sm where
  | mk (kind pl : Int) (name type : List UInt8) (exprs : List Ex) (body els : List Sm)
def Sm.kind : Sm → Int | .mk k _ _ _ _ _ _ => k
def Sm.pl : Sm → Int | .mk _ p _ _ _ _ _ => p
def Sm.name : Sm → List UInt8 | .mk _ _ n _ _ _ _ => n
def Sm.type : Sm → List UInt8 | .mk _ _ _ t _ _ _ => t
def Sm.exprs : Sm → List Ex | .mk _ _ _ _ e _ _ => e
def Sm.body : Sm → List Sm | .mk _ _ _ _ _ b _ => b
def Sm.els : Sm → List Sm | .mk _ _ _ _ _ _ l => l

/-- the statements lie at the slice v, in blocks of S -/
inductive IsSms (w : World) (S : Nat → Prop) : List Sm → Value → Prop
  | mk (ss : List Sm) (A : Option Addr) (c : Nat) (fe fb fl : Nat → Value) (hc : ss.length ≤ c) (hM : c ≤ 9223372036854775807)
    (hA : ∀ (k : Nat) (hk : k < ss.length), ∃ b off, A = some ⟨b, off, none⟩ ∧ S b ∧ ss[k].name.length ≤ 140737488355328 ∧ ss[k].type.length ≤ 140737488355328 ∧
      w.cell? ⟨b, off + k * 7, none⟩ = some (.int .i64 ss[k].kind) ∧ w.cell? ⟨b, off + k * 7 + 1, none⟩ = some (.int .i64 ss[k].pl) ∧
      w.cell? ⟨b, off + k * 7 + 2, none⟩ = some (.string (strOf ss[k].name)) ∧ w.cell? ⟨b, off + k * 7 + 3, none⟩ = some (.string (strOf ss[k].type)) ∧
      w.cell? ⟨b, off + k * 7 + 4, none⟩ = some (fe k) ∧ w.cell? ⟨b, off + k * 7 + 5, none⟩ = some (fb k) ∧ w.cell? ⟨b, off + k * 7 + 6, none⟩ = some (fl k))
    (he : ∀ (k : Nat) (hk : k < ss.length), IsExs w S ss[k].exprs (fe k)) (hb : ∀ (k : Nat) (hk : k < ss.length), IsSms w S ss[k].body (fb k)) (hl : ∀ (k : Nat) (hk : k < ss.length), IsSms w S ss[k].els (fl k)) :
    IsSms w S ss (.slice A ss.length c)
theorem IsSms.keep {w w' : World} {S S' : Nat → Prop} {ss : List Sm} {v : Value} (h : IsSms w S ss v) (hw : ∀ b, S b → w'.heap[b]? = w.heap[b]?) (hS : ∀ b, S b → S' b) : IsSms w' S' ss v := by
  induction h with
  | mk ss A c fe fb fl hc hM hA he hb hl ihb ihl =>
    refine .mk ss A c fe fb fl hc hM (fun k hk => ?_) (fun k hk => (he k hk).keep hw hS) (fun k hk => ihb k hk) (fun k hk => ihl k hk)
    obtain ⟨b, off, h1, h2, h3, h4, c0, c1, c2, c3, c4, c5, c6⟩ := hA k hk
    have hcell : ∀ i, w'.cell? ⟨b, i, none⟩ = w.cell? ⟨b, i, none⟩ := fun i => World.cell?_of_block (hw b h2)
    exact ⟨b, off, h1, hS b h2, h3, h4, by rw [hcell]; exact c0, by rw [hcell]; exact c1, by rw [hcell]; exact c2, by rw [hcell]; exact c3, by rw [hcell]; exact c4, by rw [hcell]; exact c5, by rw [hcell]; exact c6⟩
theorem IsSms.slice {w : World} {S : Nat → Prop} {ss : List Sm} {v : Value} (h : IsSms w S ss v) : ∃ A c, v = .slice A ss.length c ∧ ss.length ≤ c ∧ c ≤ 9223372036854775807 := by
  cases h with
  | mk ss A c fe fb fl hc hM => exact ⟨A, c, rfl, hc, hM⟩
theorem IsExs.slice {w : World} {S : Nat → Prop} {es : List Ex} {v : Value} (h : IsExs w S es v) : ∃ A c, v = .slice A es.length c ∧ es.length ≤ c ∧ c ≤ 9223372036854775807 := by
  cases h with
  | mk es A c f hc hM => exact ⟨A, c, rfl, hc, hM⟩

mutual
/-- so much with a statement more -/
def goS : Sm → Int → Int → Int → Int
  | .mk _ _ nm ty ex bd el, n, most, deep =>
    let n2 := weighs ex (n + (1 + (nm.length : Int) + (ty.length : Int))) most 61
    let n3 := if n2 ≤ most then n2 + (if deep - 1 = 0 ∧ 0 < bd.length then most - n2 + 1 else goB bd 0 (most - n2) (deep - 1)) else n2
    if n3 ≤ most then n3 + (if deep - 1 = 0 ∧ 0 < el.length then most - n3 + 1 else goB el 0 (most - n3) (deep - 1)) else n3
def goB : List Sm → Int → Int → Int → Int
  | [], n, _, _ => n
  | s :: ss, n, most, deep => if n ≤ most then goB ss (goS s n most deep) most deep else n
end
/-- what statements weigh -/
def weighB (ss : List Sm) (most deep : Int) : Int := if deep = 0 ∧ 0 < ss.length then most + 1 else goB ss 0 most deep
theorem goS_eq (s : Sm) (n most deep : Int) {n2 n3 : Int} (h2 : n2 = weighs s.exprs (n + (1 + (s.name.length : Int) + (s.type.length : Int))) most 61)
    (h3 : n3 = if n2 ≤ most then n2 + weighB s.body (most - n2) (deep - 1) else n2) : goS s n most deep = if n3 ≤ most then n3 + weighB s.els (most - n3) (deep - 1) else n3 := by
  subst h2
  subst h3
  cases s
  rw [goS]
  rfl
theorem goB_go {s : Sm} {ss : List Sm} {n most deep : Int} (h : n ≤ most) : goB (s :: ss) n most deep = goB ss (goS s n most deep) most deep := by
  rw [goB, if_pos h]
theorem goB_stop (ss : List Sm) (n most deep : Int) (h : ¬ n ≤ most) : goB ss n most deep = n := by
  cases ss with
  | nil => rw [goB]
  | cons s ss => rw [goB, if_neg h]

/-- what the elements of a slice weigh -/
def WeighEls (w0 : World) (B : Nat) (es : List Ex) (A : Option Addr) : Prop := ∀ (j : Nat) (hj : j < es.length), ∃ b off yk yp yn ys yv, A = some ⟨b, off, none⟩ ∧ b < B ∧
    w0.cell? ⟨b, off + j * 5, none⟩ = some (.int .i64 yk) ∧ w0.cell? ⟨b, off + j * 5 + 1, none⟩ = some (.int .i64 yp) ∧ w0.cell? ⟨b, off + j * 5 + 2, none⟩ = some (.int .i64 yn) ∧ w0.cell? ⟨b, off + j * 5 + 3, none⟩ = some (.string ys) ∧ w0.cell? ⟨b, off + j * 5 + 4, none⟩ = some yv ∧
    ∀ (m d : Int) (w : World), Below B w0 w → B ≤ w.heap.size → 0 ≤ m → m ≤ 100000 → 0 ≤ d → d ≤ 100000 →
      Calls Tryd.prog 11 #[.agg #[.int .i64 yk, .int .i64 yp, .int .i64 yn, .string ys, yv], .int .i64 m, .int .i64 d] w (WeighPost w (weigh es[j] m d)) ∧ 0 ≤ weigh es[j] m d ∧ weigh es[j] m d ≤ m + 140737488355330
theorem weigh_at {w0 : World} {B : Nat} {es : List Ex} {v : Value} (h : IsExs w0 (· < B) es v) : ∃ A c, v = .slice A es.length c ∧ es.length ≤ c ∧ c ≤ 9223372036854775807 ∧ WeighEls w0 B es A := by
  cases h with
  | mk es A c f hc hM hA hr =>
    refine ⟨A, c, rfl, hc, hM, fun j hj => ?_⟩
    obtain ⟨b, off, h1, h2, h3, h4, h5, h6, h7, h8⟩ := hA j hj
    refine ⟨b, off, _, _, _, _, _, h1, h2, h4, h5, h6, h7, h8, fun m d w a1 a2 a3 a4 a5 a6 => ?_⟩
    have := weigh_any (hr j hj) es[j].kind es[j].pl es[j].num m d es[j].name w a1 a2 h3 a3 a4 a5 a6
    rw [Ex.eta] at this
    exact this

end Go.Proofs.YtmbkjabjcphkbaaDoor
end
section
/- The walk of WeighBlock. -/
set_option linter.unusedVariables false
namespace Go.Proofs.YtmbkjabjcphkbaaDoor
open Go.RowKit

def Weighbs (w0 : World) (B : Nat) (ss : List Sm) (v : Value) : Prop :=
  ∀ (most deep : Int) (w : World), Below B w0 w → B ≤ w.heap.size → 0 ≤ most → most ≤ 100000 → 0 ≤ deep → deep ≤ 100000 →
    Calls Tryd.prog 34 #[v, .int .i64 most, .int .i64 deep] w (WeighPost w (weighB ss most deep)) ∧ 0 ≤ weighB ss most deep ∧ weighB ss most deep ≤ most + 562949953421312
theorem drop_sm {ss : List Sm} {j : Nat} (h : j < ss.length) : ss.drop j = ss[j] :: ss.drop (j + 1) := List.drop_eq_getElem_cons h
/-- what is asked of a statement, so that its weight fits -/
def FitsS (most deep : Int) (s : Sm) : Prop := s.name.length ≤ 140737488355328 ∧ s.type.length ≤ 140737488355328 ∧
  (∀ (j : Nat) (hj : j < s.exprs.length) (m : Int), 0 ≤ m → m ≤ most → 0 ≤ weigh s.exprs[j] m (61 - 1) ∧ weigh s.exprs[j] m (61 - 1) ≤ m + 140737488355330) ∧
  (∀ m : Int, 0 ≤ m → m ≤ most → 0 ≤ weighB s.body m (deep - 1) ∧ weighB s.body m (deep - 1) ≤ m + 562949953421312) ∧
  (∀ m : Int, 0 ≤ m → m ≤ most → 0 ≤ weighB s.els m (deep - 1) ∧ weighB s.els m (deep - 1) ≤ m + 562949953421312)
theorem goS_bound {s : Sm} {n most deep : Int} (h : FitsS most deep s) (h0 : 0 ≤ n) (hn : n ≤ most) (hm : most ≤ 100000) : 0 ≤ goS s n most deep ∧ goS s n most deep ≤ most + 562949953421312 := by
  obtain ⟨h1, h2, h3, h4, h5⟩ := h
  obtain ⟨n2, hn2⟩ : ∃ n2, n2 = weighs s.exprs (n + (1 + (s.name.length : Int) + (s.type.length : Int))) most 61 := ⟨_, rfl⟩
  obtain ⟨n3, hn3⟩ : ∃ n3, n3 = if n2 ≤ most then n2 + weighB s.body (most - n2) (deep - 1) else n2 := ⟨_, rfl⟩
  rw [goS_eq s n most deep hn2 hn3]
  obtain ⟨b0, b1⟩ := weighs_bound (most := most) (deep := 61) (K := 562949953421312) (by omega) s.exprs (n + (1 + (s.name.length : Int) + (s.type.length : Int))) h3 (by omega) (by omega)
  rw [← hn2] at b0 b1
  have b3 : 0 ≤ n3 ∧ n3 ≤ most + 562949953421312 := by
    rw [hn3]
    split
    · rename_i hle
      have := h4 (most - n2) (by omega) (by omega)
      omega
    · omega
  split
  · rename_i hle
    have := h5 (most - n3) (by omega) (by omega)
    omega
  · exact b3
theorem goB_bound {most deep : Int} (hm : most ≤ 100000) : ∀ (ss : List Sm) (n : Int), (∀ (j : Nat) (hj : j < ss.length), FitsS most deep ss[j]) → 0 ≤ n → n ≤ most + 562949953421312 → 0 ≤ goB ss n most deep ∧ goB ss n most deep ≤ most + 562949953421312
  | [], n, _, h0, h1 => by rw [goB]; exact ⟨h0, h1⟩
  | s :: ss, n, h, h0, h1 => by
    rw [goB]
    split
    · rename_i hle
      obtain ⟨a, b⟩ := goS_bound (h 0 (by simp)) h0 hle hm
      have a' : 0 ≤ goS s n most deep := a
      have b' : goS s n most deep ≤ most + 562949953421312 := b
      exact goB_bound hm ss _ (fun j hj => h (j + 1) (by simpa using hj)) a' b'
    · exact ⟨h0, h1⟩

set_option maxHeartbeats 4000000 in
set_option maxRecDepth 100000 in
theorem weighb_any {w0 : World} {B : Nat} {ss : List Sm} {v : Value} (h : IsSms w0 (· < B) ss v) : Weighbs w0 B ss v := by
  induction h with
  | mk ss A c fe fb fl hc hM hA he hbd hel ihb ihl =>
    intro most deep w hb hB hm0 hm hd0 hd
    have hwb : weighB ss most deep = if deep = 0 ∧ 0 < ss.length then most + 1 else goB ss 0 most deep := rfl
    have HE := Lib.hid (fun k hk => weigh_at (he k hk))
    have HIB := Lib.hid ihb
    have HIL := Lib.hid ihl
    have HHA := Lib.hid hA
    have HBD := Lib.hid hbd
    have HEL := Lib.hid hel
    clear ihb ihl hA he hbd hel
    have hfit : 0 < deep → ∀ (j : Nat) (hj : j < ss.length), FitsS most deep ss[j] := fun hdp j hj => by
      obtain ⟨b, off, _, _, h1, h2, _⟩ := HHA.out j hj
      obtain ⟨A1, c1, _, _, _, hw⟩ := HE.out j hj
      refine ⟨h1, h2, fun i hi m h3 h4 => ?_, fun m h3 h4 => ?_, fun m h3 h4 => ?_⟩
      · obtain ⟨_, _, _, _, _, _, _, _, _, _, _, _, _, _, hcall⟩ := hw i hi
        exact (hcall m (61 - 1) w hb hB h3 (by omega) (by omega) (by omega)).2
      · exact (HIB.out j hj m (deep - 1) w hb hB h3 (by omega) (by omega) (by omega)).2
      · exact (HIL.out j hj m (deep - 1) w hb hB h3 (by omega) (by omega) (by omega)).2
    have hbound : 0 ≤ weighB ss most deep ∧ weighB ss most deep ≤ most + 562949953421312 := by
      rw [hwb]
      split
      · omega
      · rename_i hne
        by_cases hdp : 0 < deep
        · exact goB_bound hm ss 0 (hfit hdp) (Int.le_refl _) (by omega)
        · have : ss = [] := by
            cases ss with
            | nil => rfl
            | cons s ss => exact absurd ⟨by omega, by simp⟩ hne
          subst this
          rw [goB]
          omega
    refine ⟨?_, hbound⟩
    have HFIT := Lib.hid hfit
    clear hbound hfit
    obtain ⟨ns, hns⟩ : ∃ ns, ns = ss.length := ⟨_, rfl⟩
    rw [← hns] at hc hwb ⊢
    have HNS := Lib.hid hns
    have HWB := Lib.hid hwb
    have HB0 := Lib.hid hb
    clear hns hwb hb
    by_cases h00 : deep = 0 ∧ 0 < ns
    · obtain ⟨rfl, hpos⟩ := h00
      have hp1 : decide (0 < ns) = true := by simpa using hpos
      have HW1 : Hid (weighB ss most 0 = most + 1) := Lib.hid (by rw [HWB.out, if_pos ⟨rfl, hpos⟩])
      clear HWB
      go_enter Tryd.func34, Tryd.ntmps34
      go_wp2
      go_ret
      exact ⟨ret_int HW1.out.symm, Below.refl _ _⟩
    have HW2 : Hid (weighB ss most deep = goB ss 0 most deep) := Lib.hid (by rw [HWB.out, if_neg h00])
    clear HWB
    by_cases hdz : deep = 0
    · subst hdz
      obtain rfl : ns = 0 := by
        rcases Nat.eq_zero_or_pos ns with h | h
        · exact h
        · exact absurd ⟨rfl, h⟩ h00
      obtain rfl : ss = [] := List.eq_nil_of_length_eq_zero HNS.out.symm
      have HWS : Hid (goB [] 0 most 0 = 0) := Lib.hid (by rw [goB])
      clear HHA HE HIB HIL HBD HEL HFIT HNS h00
      go_enter Tryd.func34, Tryd.ntmps34
      go_wp2
      go_loop [7, 8] (fun n i => i = .int .i64 0 ∧ n = .int .i64 0) (fun _ _ => 0)
      case atStart => exact ⟨rfl, rfl⟩
      case round =>
        obtain ⟨rfl, rfl⟩ := hrel
        go_wp2
        go_ret
        exact ⟨ret_int (by rw [HW2.out, HWS.out]), Below.refl _ _⟩
    have hdp : 0 < deep := by omega
    clear h00 hdz
    go_enter Tryd.func34, Tryd.ntmps34
    go_wp2
    go_loopw [7, 8] (fun n i wr => ∃ (j : Nat) (nn : Int), j ≤ ns ∧ i = .int .i64 j ∧ n = .int .i64 nn ∧ 0 ≤ nn ∧ nn ≤ 562949953521312 ∧ Hid (goB (ss.drop j) nn most deep = goB ss 0 most deep) ∧ Hid (Below w.heap.size w wr)) (fun _ i _ => ns - (intOf i).toNat)
    case atStart => exact ⟨0, 0, Nat.zero_le _, rfl, rfl, by omega, by omega, Lib.hid rfl, Lib.hid (Below.refl _ _)⟩
    case round =>
      obtain ⟨wo, rfl⟩ : ∃ wo : World, wo = wr := ⟨_, rfl⟩
      obtain ⟨j, nn, hj, rfl, rfl, hn0, hn1, HGO, HBL⟩ := hrel
      by_cases hlt : j < ns
      · by_cases hle : nn ≤ most
        · have hje : j < ss.length := by rw [← HNS.out]; exact hlt
          obtain ⟨b, off, rfl, hbB, hnm, hty, p0, p1, p2, p3, p4, p5, p6⟩ := HHA.out j hje
          obtain ⟨A1, c1, hf1, hc1, hM1, hweigh⟩ := HE.out j hje
          obtain ⟨A2, c2, hf2, hc2, hM2⟩ := (HBD.out j hje).slice
          obtain ⟨A3, c3, hf3, hc3, hM3⟩ := (HEL.out j hje).slice
          have HFJ := Lib.hid (HFIT.out hdp j hje)
          have hib := HIB.out j hje
          have hil := HIL.out j hje
          have hdr := drop_sm hje
          rw [hf1] at p4
          rw [hf2] at p5 hib
          rw [hf3] at p6 hil
          obtain ⟨Y, hY⟩ : ∃ Y, Y = ss[j] := ⟨_, rfl⟩
          rw [← hY] at p2 p3 p4 p5 p6 hnm hty hc1 hc2 hc3 hib hil hdr HFJ hweigh
          have hbw : Below B w0 wo := HB0.out.trans (HBL.out.mono hB)
          have hsx : B ≤ wo.heap.size := by have := HBL.out.size; omega
          have HGO2 : Hid (goB (ss.drop (j + 1)) (goS Y nn most deep) most deep = goB ss 0 most deep) := Lib.hid (by
            have := HGO.out
            rw [hdr, goB_go hle] at this
            exact this)
          obtain ⟨g0, g1⟩ := goS_bound HFJ.out hn0 hle hm
          have r2 := (hbw.cell (p := ⟨b, off + j * 7 + 2, none⟩) hbB).trans p2
          have r3 := (hbw.cell (p := ⟨b, off + j * 7 + 3, none⟩) hbB).trans p3
          have r4 := (hbw.cell (p := ⟨b, off + j * 7 + 4, none⟩) hbB).trans p4
          have r5 := (hbw.cell (p := ⟨b, off + j * 7 + 5, none⟩) hbB).trans p5
          have r6 := (hbw.cell (p := ⟨b, off + j * 7 + 6, none⟩) hbB).trans p6
          have r0 : ∃ u, wo.cell? ⟨b, off + j * 7, none⟩ = some u := ⟨_, (hbw.cell (p := ⟨b, off + j * 7, none⟩) hbB).trans p0⟩
          obtain ⟨u0, r0⟩ := r0
          obtain ⟨nl, hnl⟩ : ∃ nl, nl = Y.name.length := ⟨_, rfl⟩
          obtain ⟨tl, htl⟩ : ∃ tl, tl = Y.type.length := ⟨_, rfl⟩
          obtain ⟨n1, hn1'⟩ : ∃ n1, n1 = Y.exprs.length := ⟨_, rfl⟩
          obtain ⟨m2, hm2⟩ : ∃ m2, m2 = Y.body.length := ⟨_, rfl⟩
          obtain ⟨m3, hm3⟩ : ∃ m3, m3 = Y.els.length := ⟨_, rfl⟩
          obtain ⟨sn, hsn⟩ : ∃ sn, sn = strOf Y.name := ⟨_, rfl⟩
          obtain ⟨st, hst⟩ : ∃ st, st = strOf Y.type := ⟨_, rfl⟩
          have z1 : sn.size = nl := by rw [hsn, Lib.size_eq, strOf_data, hnl]
          have z2 : st.size = tl := by rw [hst, Lib.size_eq, strOf_data, htl]
          rw [← hsn] at r2
          rw [← hst] at r3
          rw [← hn1'] at r4 hc1
          rw [← hm2] at r5 hc2 hib
          rw [← hm3] at r6 hc3 hil
          rw [← hnl] at hnm
          rw [← htl] at hty
          obtain ⟨X2, hX2⟩ : ∃ X2 : Int, X2 = weighs Y.exprs (nn + (1 + (nl : Int) + (tl : Int))) most 61 := ⟨_, rfl⟩
          obtain ⟨X3, hX3⟩ : ∃ X3 : Int, X3 = if X2 ≤ most then X2 + weighB Y.body (most - X2) (deep - 1) else X2 := ⟨_, rfl⟩
          have hgs := goS_eq Y nn most deep (n2 := X2) (n3 := X3) (by rw [hX2, hnl, htl]) hX3
          have HX2 := Lib.hid hX2
          have HX3 := Lib.hid hX3
          have HGS := Lib.hid hgs
          have HN1 := Lib.hid hn1'
          have HW := Lib.hid hweigh
          have HIBJ := Lib.hid hib
          have HILJ := Lib.hid hil
          have hx2b : 0 ≤ X2 ∧ X2 ≤ most + 562949953421312 := by
            rw [hX2]
            exact weighs_bound (most := most) (deep := 61) (K := 562949953421312) (by omega) Y.exprs _ HFJ.out.2.2.1 (by omega) (by omega)
          have hx3b : X2 ≤ most → 0 ≤ X3 ∧ X3 ≤ most + 562949953421312 := fun h => by
            rw [hX3, if_pos h]
            have := HFJ.out.2.2.2.1 (most - X2) (by omega) (by omega)
            omega
          have HX3B := Lib.hid hx3b
          have q1 : -9223372036854775808 ≤ 1 + (nl : Int) ∧ 1 + (nl : Int) ≤ 9223372036854775807 := by omega
          have q2 : -9223372036854775808 ≤ 1 + (nl : Int) + (tl : Int) ∧ 1 + (nl : Int) + (tl : Int) ≤ 9223372036854775807 := by omega
          have q3 : -9223372036854775808 ≤ nn + (1 + (nl : Int) + (tl : Int)) ∧ nn + (1 + (nl : Int) + (tl : Int)) ≤ 9223372036854775807 := by omega
          have y1 := IntWalk.i64_in _ q1
          have y2 := IntWalk.i64_in _ q2
          have y3 := IntWalk.i64_in _ q3
          have hx20 := hx2b.1
          have hx21 := hx2b.2
          clear q1 q2 q3 hx2b hx3b hX2 hX3 hgs hweigh hib hil hdr hnl htl hn1' hm2 hm3 hsn hst hY hf1 hf2 hf3 p0 p1 p2 p3 p4 p5 p6 HHA HE HIB HIL HBD HEL HFIT
          go_wp2
          go_quiet (fail)
          clear y1 y2 y3
          generalize hwq : wo.drewN _ = wq
          have hdq : Drawn wo wq := ⟨_, hwq.symm⟩
          have hb0 : Below wo.heap.size wo wq := hdq.below
          have HB00 := Lib.hid hb0
          clear hwq hdq hb0
          go_wp2
          go_loopw [7, 9] (fun n i wr => ∃ (kk : Nat) (mm : Int), kk ≤ n1 ∧ i = .int .i64 kk ∧ n = .int .i64 mm ∧ 0 ≤ mm ∧ mm ≤ 562949953521312 ∧ Hid (weighs (Y.exprs.drop kk) mm most 61 = X2) ∧ Hid (Below wo.heap.size wo wr)) (fun _ i _ => n1 - (intOf i).toNat)
          case atStart => exact ⟨0, _, Nat.zero_le _, rfl, rfl, by omega, by omega, Lib.hid HX2.out.symm, HB00⟩
          case round =>
            obtain ⟨wi, rfl⟩ : ∃ wi : World, wi = wr := ⟨_, rfl⟩
            obtain ⟨kk, mm, hkk, rfl, rfl, hmm0, hmm1, HWI, HBI⟩ := hrel
            have hbo : b < wo.heap.size := by omega
            have t0 := (HBI.out.cell (p := ⟨b, off + j * 7, none⟩) hbo).trans r0
            have t4 := (HBI.out.cell (p := ⟨b, off + j * 7 + 4, none⟩) hbo).trans r4
            have t5 := (HBI.out.cell (p := ⟨b, off + j * 7 + 5, none⟩) hbo).trans r5
            have t6 := (HBI.out.cell (p := ⟨b, off + j * 7 + 6, none⟩) hbo).trans r6
            have hsi : wo.heap.size ≤ wi.heap.size := HBI.out.size
            have hsw : w.heap.size ≤ wo.heap.size := HBL.out.size
            have hbi : Below B w0 wi := hbw.trans (HBI.out.mono hsx)
            clear r0 r2 r3 r4 r5 r6
            by_cases hgo : kk < n1 ∧ mm ≤ most
            · obtain ⟨hkl, hml⟩ := hgo
              have hke : kk < Y.exprs.length := by rw [← HN1.out]; exact hkl
              obtain ⟨b', off', yk, yp, yn, ys, yv, rfl, hbB', p0, p1, p2, p3, p4, hcall⟩ := HW.out kk hke
              obtain ⟨hcc, hy0, hy1⟩ := hcall (most - mm) 60 wi hbi (by omega) (by omega) (by omega) (by omega) (by omega)
              have s0 := (hbi.cell (p := ⟨b', off' + kk * 5, none⟩) hbB').trans p0
              have s1 := (hbi.cell (p := ⟨b', off' + kk * 5 + 1, none⟩) hbB').trans p1
              have s2 := (hbi.cell (p := ⟨b', off' + kk * 5 + 2, none⟩) hbB').trans p2
              have s3 := (hbi.cell (p := ⟨b', off' + kk * 5 + 3, none⟩) hbB').trans p3
              have s4 := (hbi.cell (p := ⟨b', off' + kk * 5 + 4, none⟩) hbB').trans p4
              have hdr := drop_ex hke
              obtain ⟨yw, hyw⟩ : ∃ x, x = weigh Y.exprs[kk] (most - mm) 60 := ⟨_, rfl⟩
              have HWN : Hid (weighs (Y.exprs.drop (kk + 1)) (mm + yw) most 61 = X2) := Lib.hid (by
                have := HWI.out
                rw [hdr, weighs_go hml] at this
                rw [hyw]
                exact this)
              rw [← hyw] at hcc hy0 hy1
              have HCC := Lib.hid hcc
              clear hcc hdr hyw hcall p0 p1 p2 p3 p4 HW
              go_wp2_with (first
                | ((with_reducible refine HCC.out.mono ?_); rintro e w5 ⟨rfl, hb5⟩))
              have hs5 := hb5.size
              go_roundw
              case rel => exact ⟨kk + 1, mm + yw, by omega, by go_num, rfl, by omega, by omega, HWN, Lib.hid (HBI.out.trans (hb5.mono (by omega)))⟩
              case measure => simp [intOf]; omega
            · obtain rfl : mm = X2 := by
                have hw := HWI.out
                by_cases hkl : kk < n1
                · rw [weighs_stop _ _ _ _ (fun h => hgo ⟨hkl, h⟩)] at hw; exact hw
                · rw [List.drop_of_length_le (by rw [← HN1.out]; omega), weighs] at hw; exact hw
              have hcase : (kk < n1 ∧ ¬ mm ≤ most) ∨ kk = n1 := by
                rcases Nat.lt_or_ge kk n1 with h | h
                · exact .inl ⟨h, fun h2 => hgo ⟨h, h2⟩⟩
                · exact .inr (by omega)
              clear hgo HW HWI
              by_cases hle2 : mm ≤ most
              · have hkn : kk = n1 := by
                  rcases hcase with h | h
                  · exact absurd hle2 h.2
                  · exact h
                clear hcase
                obtain ⟨hcb, hyb0, hyb1⟩ := HIBJ.out (most - mm) (deep - 1) wi hbi (by omega) (by omega) (by omega) (by omega) (by omega)
                obtain ⟨yb, hyb⟩ : ∃ x, x = weighB Y.body (most - mm) (deep - 1) := ⟨_, rfl⟩
                have hx3 : X3 = mm + yb := by rw [HX3.out, if_pos hle2, hyb]
                rw [← hyb] at hcb hyb0 hyb1
                have HCB := Lib.hid hcb
                have HX3E := Lib.hid hx3
                clear hcb hyb hx3
                by_cases hle3 : mm + yb ≤ most
                · go_wp2_with fail
                  refine HCB.out.mono ?_
                  rintro e w5 ⟨rfl, hb5⟩
                  have t6' := (hb5.cell (p := ⟨b, off + j * 7 + 6, none⟩) (by simp; omega)).trans t6
                  have t0' := (hb5.cell (p := ⟨b, off + j * 7, none⟩) (by simp; omega)).trans t0
                  have hs5 := hb5.size
                  have hb5' := hbi.trans (hb5.mono (show B ≤ wi.heap.size by omega))
                  obtain ⟨hcl, hyl0, hyl1⟩ := HILJ.out (most - (mm + yb)) (deep - 1) w5 hb5' (by omega) (by omega) (by omega) (by omega) (by omega)
                  obtain ⟨yl, hyl⟩ : ∃ x, x = weighB Y.els (most - (mm + yb)) (deep - 1) := ⟨_, rfl⟩
                  have HG4 : Hid (goS Y nn most deep = mm + yb + yl) := Lib.hid (by rw [HGS.out, HX3E.out, if_pos hle3, hyl])
                  rw [← hyl] at hcl hyl0 hyl1
                  have HCL := Lib.hid hcl
                  have HB5 := Lib.hid (HBI.out.trans (hb5.mono hsi))
                  clear hcl hyl hb5 hb5'
                  go_wp2_with (first
                    | ((with_reducible refine HCL.out.mono ?_); rintro e w6 ⟨rfl, hb6⟩))
                  have hs6 := hb6.size
                  go_roundw
                  case rel => exact ⟨j + 1, mm + yb + yl, by omega, by go_num, rfl, by omega, by omega, Lib.hid (by rw [← HG4.out]; exact HGO2.out), Lib.hid ((HBL.out.trans (HB5.out.mono (by omega))).trans (hb6.mono (by omega)))⟩
                  case measure => simp [intOf]; omega
                · have HG4 : Hid (goS Y nn most deep = mm + yb) := Lib.hid (by rw [HGS.out, HX3E.out, if_neg hle3])
                  go_wp2_with (first
                    | ((with_reducible refine HCB.out.mono ?_); rintro e w5 ⟨rfl, hb5⟩))
                  have hs5 := hb5.size
                  go_roundw
                  case rel => exact ⟨j + 1, mm + yb, by omega, by go_num, rfl, by omega, by omega, Lib.hid (by rw [← HG4.out]; exact HGO2.out), Lib.hid ((HBL.out.trans (HBI.out.mono (by omega))).trans (hb5.mono (by omega)))⟩
                  case measure => simp [intOf]; omega
              · have HG4 : Hid (goS Y nn most deep = mm) := Lib.hid (by
                  have hx3 : X3 = mm := by rw [HX3.out, if_neg hle2]
                  rw [HGS.out, hx3, if_neg hle2])
                rcases hcase with ⟨h, h'⟩ | h
                all_goals
                  go_wp2
                  go_roundw
                  case rel => exact ⟨j + 1, mm, by omega, by go_num, rfl, by omega, by omega, Lib.hid (by rw [← HG4.out]; exact HGO2.out), Lib.hid (HBL.out.trans (HBI.out.mono (by omega)))⟩
                  case measure => simp [intOf]; omega
        · have HWS : Hid (nn = goB ss 0 most deep) := Lib.hid (by have := HGO.out; rw [goB_stop _ _ _ _ hle] at this; exact this)
          clear HHA HE HIB HIL HBD HEL HFIT
          go_wp2
          go_ret
          exact ⟨ret_int (by rw [HW2.out]; exact HWS.out), HBL.out⟩
      · have hje : j = ns := by omega
        have HWS : Hid (nn = goB ss 0 most deep) := Lib.hid (by
          have := HGO.out
          rw [List.drop_of_length_le (by rw [hje, HNS.out]; exact Nat.le_refl _), goB] at this
          exact this)
        clear HHA HE HIB HIL HBD HEL HFIT hje
        go_wp2
        go_ret
        exact ⟨ret_int (by rw [HW2.out]; exact HWS.out), HBL.out⟩

end Go.Proofs.YtmbkjabjcphkbaaDoor
end
