/- What is proved: TreeExprs (P3.1, P3.2) holds of the program, for every expression and every text: ShowExpr and ShowType answer what the document's own functions answer, and leave the expression as it was. -/
import Derived.Test.YtihjdfbdpcghdaaDoorZf0
import Derived.Test.YtihjdfbdpcghdaaDoorZf1
import Derived.Shelf.Small.Strs
import Derived.Shelf.LaysM
import Derived.Shelf.Strconv.Clone
import Derived.Shelf.Strings.Search1
import Derived.Shelf.Strings.Prefix
import Derived.Test.YtihjdfbdpcghdaaDoorRows
import Derived.WalkKit
import Derived.WalkSpells
import Derived.WalkLawsBesides
import Derived.Lib.Hide
import Derived.Lib.IndexAny
import Derived.OwnWalk
import Derived.Deep.AppendLies
import Derived.Laws.AppendOwnNone
import Derived.Deep.QuietTactic
import Derived.BigQuiet
import Derived.Recover
import Derived.StillTailTactics
import Derived.IntWalk
import Derived.Lib.ItoaNum
import Derived.Lib.AppendStr
import Derived.Lib.BufferRead
import Derived.Deep.WholeRow
import Derived.Shelf.Small.Wraps
import Derived.Shelf.Strconv.Itoa0
import Derived.Shelf.Strconv.Itoa1
import Derived.Shelf.Strconv.Itoa2
import Derived.Shelf.Strconv.Itoa3
import Derived.Shelf.Slices.Turned
import Derived.Deep.CutRange
import Derived.Deep.CutBlock
import Derived.Lib.AppendIntMem
import Derived.Deep.RegionHeld3
import Derived.Lib.ItoaLen
import Derived.Maps.AppendAt
import Derived.Test.YtihjdfbdpcghdaaDoorTie
import Derived.Test.YtihjdfbdpcghdaaDoorCards
import Derived.LaidMore
import Derived.LaidOnce
import Derived.Handed
import Derived.Stop.LaidErr
import Derived.Lib.LaidTab
import Derived.SevenTiedAt
import Derived.JoinedOf
import Derived.ProofKit
import Derived.Deep.Slices
import Derived.OpenShut
import Derived.ChangeMaps5
import Derived.ChangeArms
import Derived.SizedLaws
import Derived.WideShapes
set_option linter.unusedVariables false
set_option linter.unusedSimpArgs false
namespace Go.Proofs.YtihjdfbdpcghdaaDoor
open Go.RowKit

mutual
theorem smallE_rise {N M : Nat} (h : N ≤ M) : ∀ e : Ex, smallE N e → smallE M e
  | .mk k p n s a, hs => by rw [smallE] at hs ⊢; exact ⟨by omega, by omega, smallEs_rise h a hs.2.2⟩
theorem smallEs_rise {N M : Nat} (h : N ≤ M) : ∀ es : List Ex, smallEs N es → smallEs M es
  | [], _ => by rw [smallEs]; trivial
  | e :: es, hs => by rw [smallEs] at hs ⊢; exact ⟨smallE_rise h e hs.1, smallEs_rise h es hs.2⟩
end
theorem ty_text (t : List UInt8) (ht : t.length ≤ 5000) : (fin (tyT t)).1 = joinT ((tyT t).getD []) ∧ (joinT ((tyT t).getD [])).length ≤ 90000 ∧ ((tyT t).getD []).length ≤ 100000 := by
  have key : ∀ T : List (List UInt8), (joinT T).length ≤ 16384 → T.length ≤ 4096 → (fin (some T)).1 = joinT ((some T).getD []) ∧ (joinT ((some T).getD [])).length ≤ 90000 ∧ ((some T).getD []).length ≤ 100000 := fun T h1 h2 => by
    rw [fin_fits ⟨h1, h2⟩]
    exact ⟨rfl, Nat.le_trans h1 (by omega), Nat.le_trans h2 (by omega)⟩
  have hno : (fin none).1 = joinT ((none : Ts).getD []) ∧ (joinT ((none : Ts).getD [])).length ≤ 90000 ∧ ((none : Ts).getD []).length ≤ 100000 := by
    rw [fin_none]
    exact ⟨rfl, by simp [joinT], by simp⟩
  unfold tyT
  split
  · split
    · refine key _ ?_ (by simp)
      simp [joinT]; omega
    · exact hno
  · split
    · exact key _ (by decide) (by decide)
    · split
      · rename_i h
        refine key _ ?_ (by simp)
        simp [joinT]; omega
      · exact hno

set_option maxHeartbeats 8000000 in
set_option maxRecDepth 100000 in
theorem treeExprs_walk (w : World) (htab : TabW w) (e : Ex) {v : Value} (h : IsExs w (· < w.heap.size) e.args v) (hnm : e.name.length ≤ 140737488355328) (tb : ByteArray) :
    Calls Tryd.prog 3 #[.agg #[.int .i64 e.kind, .int .i64 e.pl, .int .i64 e.num, .string (strOf e.name), v], .string tb] w fun r w' => r = .returned (.bool true) ∧ Below w.heap.size w w' := by
  obtain ⟨A, c, rfl, hlc, hM⟩ := h.slice
  obtain ⟨n, hn⟩ : ∃ n, n = e.args.length := ⟨_, rfl⟩
  rw [← hn] at h hlc ⊢
  have HWE : Hid (∀ wx, Below w.heap.size w wx → Calls Tryd.prog 5 #[.agg #[.int .i64 e.kind, .int .i64 e.pl, .int .i64 e.num, .string (strOf e.name), .slice A n c], .int .i64 40000, .int .i64 300] wx (WeighPost wx (weigh e 40000 300))) := Lib.hid fun wx hb => by
    have := (weigh_any h e.kind e.pl e.num 40000 300 e.name wx hb hb.size hnm (by omega) (by omega) (by omega) (by omega)).1
    rw [Ex.eta] at this
    exact this
  have hrs : smallEs 40000 e.args → e.name.length ≤ 40000 → ∀ wx, Below w.heap.size w wx → Calls Tryd.prog 8 #[.agg #[.int .i64 e.kind, .int .i64 e.pl, .int .i64 e.num, .string (strOf e.name), .slice A n c]] wx fun r w' => r = .returned (.tuple #[.string (strOf (fin (penE e 2 0)).1), .int .i64 (fin (penE e 2 0)).2]) ∧ Below wx.heap.size wx w' := fun h1 h2 wx hb =>
    refShowExpr_any wx e (h.keep (fun b hlt => hb.block b hlt) (fun b hlt => Nat.lt_of_lt_of_le hlt hb.size)) h1 h2
  have HRS := Lib.hid hrs
  clear hrs
  obtain ⟨kk, hkk⟩ : ∃ x, x = e.kind := ⟨_, rfl⟩
  obtain ⟨pp, hpp⟩ : ∃ x, x = e.pl := ⟨_, rfl⟩
  obtain ⟨nn, hnn⟩ : ∃ x, x = e.num := ⟨_, rfl⟩
  obtain ⟨SS, hss⟩ : ∃ x, x = strOf e.name := ⟨_, rfl⟩
  rw [← hkk, ← hpp, ← hnn, ← hss] at HWE HRS ⊢
  obtain ⟨X, hX⟩ : ∃ X : World, X = w.alloc (.cells #[.int .i64 kk, .int .i64 pp, .int .i64 nn, .string SS, .slice A n c] 24) := ⟨_, rfl⟩
  have hbx : Below w.heap.size w X := by rw [hX]; exact (Below.refl _ _).alloc (Nat.le_refl _) _
  have hrow : ExBlk X w.heap.size kk pp nn SS (.slice A n c) := by rw [hX]; exact ExBlk.new _ _ _ _ _ _
  have HAL := Lib.hid (alive_any X (htab.below hbx))
  have HX := Lib.hid hX
  have HBX := Lib.hid hbx
  have HROW := Lib.hid hrow
  have HT := Lib.hid htab
  have HIN := Lib.hid h
  have HK := Lib.hid hkk
  have HP := Lib.hid hpp
  have HN := Lib.hid hnn
  have HSS := Lib.hid hss
  have HLEN := Lib.hid hn
  clear hX hbx hrow htab h hkk hpp hnn hss hn
  have HCL : Hid (∀ wx, Below X.heap.size X wx → wx.cell? ⟨w.heap.size, 0, none⟩ = some (.int .i64 kk) ∧ wx.cell? ⟨w.heap.size, 1, none⟩ = some (.int .i64 pp) ∧ wx.cell? ⟨w.heap.size, 2, none⟩ = some (.int .i64 nn) ∧ wx.cell? ⟨w.heap.size, 3, none⟩ = some (.string SS) ∧ wx.cell? ⟨w.heap.size, 4, none⟩ = some (.slice A n c)) := Lib.hid fun wx hb => by
    have hk : ExBlk wx w.heap.size kk pp nn SS (.slice A n c) := HROW.out.below hb (lt_of_heap HROW.out)
    exact ⟨hk.c0, hk.c1, hk.c2, hk.c3, hk.c4⟩
  go_enter Tryd.func3, Tryd.ntmps3
  go_wp2_with fail
  rw [← HX.out]
  refine HAL.out.mono ?_
  rintro e1 w1 ⟨rfl, hb1⟩
  have HB1 := Lib.hid hb1
  have HD1 := Lib.hid (HBX.out.trans (hb1.mono HBX.out.size))
  obtain ⟨q0, q1, q2, q3, q4⟩ := HCL.out w1 hb1
  clear hb1
  go_wp2_with fail
  refine (HWE.out w1 HD1.out).mono ?_
  rintro e2 w2 ⟨rfl, hb2⟩
  clear q0 q1 q2 q3 q4
  have HB2 := Lib.hid (HB1.out.trans (hb2.mono HB1.out.size))
  have HD2 := Lib.hid (HD1.out.trans (hb2.mono HD1.out.size))
  obtain ⟨q0, q1, q2, q3, q4⟩ := HCL.out w2 HB2.out
  clear hb2
  obtain ⟨G, hG⟩ : ∃ G, G = weigh e 40000 300 := ⟨_, rfl⟩
  rw [← hG]
  have HG := Lib.hid hG
  clear hG
  by_cases hw : 40000 < G
  · have hd : decide (40000 < G) = true := decide_eq_true hw
    go_wp2
    go_ret
    exact ⟨rfl, HD2.out⟩
  have hd : decide (40000 < G) = false := decide_eq_false hw
  by_cases ht : 5000 < tb.size
  · have hd2 : decide (5000 < tb.size) = true := decide_eq_true ht
    have hd3 : decide ((5000 : Int) < (tb.size : Int)) = true := decide_eq_true (by omega)
    go_wp2
    go_ret
    exact ⟨rfl, HD2.out⟩
  have hd2 : decide (5000 < tb.size) = false := decide_eq_false ht
  have hd3 : decide ((5000 : Int) < (tb.size : Int)) = false := decide_eq_false (by omega)
  have hl := weigh_light e 40000 300 301 40000 (by rw [← HG.out]; omega) (by omega) (by omega) (by omega)
  have hargs := smallE_args hl.1
  have hcp : copyEs e.args 301 = e.args := by
    have h1 := (copyE_args e 301).2.2.2.2
    rw [hl.2] at h1
    exact h1.symm
  have HCPY : Hid (∀ wx, Below w.heap.size w wx → Calls Tryd.prog 6 #[.agg #[.int .i64 kk, .int .i64 pp, .int .i64 nn, .string SS, .slice A n c], .int .i64 301] wx fun r w' => ∃ A' n' c', r = .returned (.agg #[.int .i64 kk, .int .i64 pp, .int .i64 nn, .string SS, .slice A' n' c']) ∧ IsExs w' (· < w'.heap.size) e.args (.slice A' n' c') ∧ Below wx.heap.size wx w') := Lib.hid fun wx hb => by
    have h1 := copy_any HIN.out (smallEs_rise (by omega) _ hargs.2.2) (by have := hargs.2.1; omega) kk pp nn 301 SS wx hb hb.size (by omega) (by omega)
    rw [hcp] at h1
    refine h1.mono fun r w' => ?_
    rintro ⟨v', rfl, hi, hbs⟩
    obtain ⟨A', c', rfl, _, _⟩ := hi.slice
    exact ⟨A', _, c', rfl, hi.keep (fun _ _ => rfl) (fun b hlt => hlt.2), hbs⟩
  have hsm : smallEs 40000 e.args := hargs.2.2
  have hnl : e.name.length ≤ 40000 := hargs.1
  obtain ⟨S1, hS1⟩ : ∃ x, x = strOf (fin (penE e 2 0)).1 := ⟨_, rfl⟩
  obtain ⟨E1, hE1⟩ : ∃ x, x = (fin (penE e 2 0)).2 := ⟨_, rfl⟩
  have HSE : Hid (∀ wx A' n' c', Below w.heap.size w wx → IsExs wx (· < wx.heap.size) e.args (.slice A' n' c') → Calls Tryd.prog 7 #[.agg #[.int .i64 kk, .int .i64 pp, .int .i64 nn, .string SS, .slice A' n' c']] wx fun r w' => r = .returned (.tuple #[.string S1, .int .i64 E1]) ∧ Below wx.heap.size wx w') := Lib.hid fun wx A' n' c' hb hi => by
    rw [HK.out, HP.out, HN.out, HSS.out, hS1, hE1]
    exact showExpr_any wx (HT.out.below hb) e hi hsm hnl
  have HRE : Hid (∀ wx, Below w.heap.size w wx → Calls Tryd.prog 8 #[.agg #[.int .i64 kk, .int .i64 pp, .int .i64 nn, .string SS, .slice A n c]] wx fun r w' => r = .returned (.tuple #[.string S1, .int .i64 E1]) ∧ Below wx.heap.size wx w') := Lib.hid fun wx hb => by
    rw [hS1, hE1]
    exact HRS.out hsm hnl wx hb
  have HSM : Hid (∀ (Y : World) A' n' c', IsExs Y (· < Y.heap.size) e.args (.slice A' n' c') → Below w.heap.size w Y → ∀ wx, Below Y.heap.size Y wx → Calls Tryd.prog 9 #[.agg #[.int .i64 kk, .int .i64 pp, .int .i64 nn, .string SS, .slice A' n' c'], .agg #[.int .i64 kk, .int .i64 pp, .int .i64 nn, .string SS, .slice A n c], .bool true, .int .i64 301] wx fun r w' => r = .returned (.bool true) ∧ Below wx.heap.size wx w') := Lib.hid fun Y A' n' c' hi hby wx hb => by
    have ho : IsExs Y (· < Y.heap.size) e.args (.slice A n c) := HIN.out.keep (fun b hlt => hby.block b hlt) (fun b hlt => Nat.lt_of_lt_of_le hlt hby.size)
    exact sameexL_any hi true _ _ ho (likeEs_refl true _) kk pp pp nn 301 SS wx (fun _ => rfl) hb hb.size (by omega) (by omega)
  have htl : tb = strOf tb.data.toList := by cases tb; rfl
  have hts : tb.data.toList.length ≤ 5000 := by
    have h1 : tb.size = tb.data.toList.length := Lib.size_eq tb
    omega
  obtain ⟨y1, y2, y3⟩ := ty_text tb.data.toList hts
  obtain ⟨TS, hTS⟩ : ∃ x, x = strOf (joinT ((tyT tb.data.toList).getD [])) := ⟨_, rfl⟩
  have HTY : Hid (∀ wx, Calls Tryd.prog 10 #[.string tb] wx fun r w' => r = .returned (.string TS) ∧ Below wx.heap.size wx w') := Lib.hid fun wx => by
    have h1 := showType_any wx tb.data.toList (by omega)
    rw [← htl, y1, ← hTS] at h1
    exact h1
  have HTT : Hid (∀ wx, Calls Tryd.prog 12 #[.string tb] wx fun r w' => ∃ tv, r = .returned tv ∧ StrsOK w' w'.heap.size tv ((tyT tb.data.toList).getD []) ∧ Below wx.heap.size wx w') := Lib.hid fun wx => by
    have h1 := refTypeTokens_any wx tb.data.toList (by omega)
    rw [← htl] at h1
    exact h1.mono fun r w' ⟨tv, e1, e2, e3⟩ => ⟨tv, e1, e2.ok, e3⟩
  have HTX : Hid (∀ wx tv, StrsOK wx wx.heap.size tv ((tyT tb.data.toList).getD []) → Calls Tryd.prog 11 #[tv] wx fun r w' => r = .returned (.string TS) ∧ Below wx.heap.size wx w') := Lib.hid fun wx tv hk => by
    rw [hTS]; exact refText_any wx _ tv hk y2 y3
  clear hl hargs hcp hsm hnl hS1 hE1 HRS htl hts y1 y2 y3 hTS hw ht
  go_wp2_with fail
  refine (HCPY.out w2 HD2.out).mono ?_
  rintro e3 w3 ⟨A', n', c', rfl, hi3, hb3⟩
  clear q0 q1 q2 q3 q4
  have HB3 := Lib.hid (HB2.out.trans (hb3.mono HB2.out.size))
  have HD3 := Lib.hid (HD2.out.trans (hb3.mono HD2.out.size))
  have HI3 := Lib.hid hi3
  clear hb3 hi3
  go_wp2_with fail
  obtain ⟨Y, hY⟩ : ∃ Y : World, Y = w3.alloc (.cells #[.int .i64 kk, .int .i64 pp, .int .i64 nn, .string SS, .slice A' n' c'] 24) := ⟨_, rfl⟩
  have hby : Below w3.heap.size w3 Y := by rw [hY]; exact (Below.refl _ _).alloc (Nat.le_refl _) _
  have hyrow : ExBlk Y w3.heap.size kk pp nn SS (.slice A' n' c') := by rw [hY]; exact ExBlk.new _ _ _ _ _ _
  rw [← hY]
  have HYR := Lib.hid hyrow
  have HBY := Lib.hid (HB3.out.trans (hby.mono HB3.out.size))
  have HDY := Lib.hid (HD3.out.trans (hby.mono HD3.out.size))
  have HIY := Lib.hid (HI3.out.keep (w' := Y) (fun b hlt => hby.block b hlt) (fun b hlt => Nat.lt_of_lt_of_le hlt hby.size))
  have HCY : Hid (∀ wx, Below Y.heap.size Y wx → wx.cell? ⟨w3.heap.size, 0, none⟩ = some (.int .i64 kk) ∧ wx.cell? ⟨w3.heap.size, 1, none⟩ = some (.int .i64 pp) ∧ wx.cell? ⟨w3.heap.size, 2, none⟩ = some (.int .i64 nn) ∧ wx.cell? ⟨w3.heap.size, 3, none⟩ = some (.string SS) ∧ wx.cell? ⟨w3.heap.size, 4, none⟩ = some (.slice A' n' c')) := Lib.hid fun wx hb => by
    have hk : ExBlk wx w3.heap.size kk pp nn SS (.slice A' n' c') := HYR.out.below hb (lt_of_heap HYR.out)
    exact ⟨hk.c0, hk.c1, hk.c2, hk.c3, hk.c4⟩
  clear hY hby hyrow
  refine (HSE.out Y A' n' c' HDY.out HIY.out).mono ?_
  rintro e4 w4 ⟨rfl, hb4⟩
  have HY4 := Lib.hid hb4
  have HB4 := Lib.hid (HBY.out.trans (hb4.mono HBY.out.size))
  have HD4 := Lib.hid (HDY.out.trans (hb4.mono HDY.out.size))
  obtain ⟨q0, q1, q2, q3, q4⟩ := HCL.out w4 HB4.out
  clear hb4
  go_wp2_with fail
  refine (HRE.out w4 HD4.out).mono ?_
  rintro e5 w5 ⟨rfl, hb5⟩
  clear q0 q1 q2 q3 q4
  have HY5 := Lib.hid (HY4.out.trans (hb5.mono HY4.out.size))
  have HB5 := Lib.hid (HB4.out.trans (hb5.mono HB4.out.size))
  have HD5 := Lib.hid (HD4.out.trans (hb5.mono HD4.out.size))
  obtain ⟨q0, q1, q2, q3, q4⟩ := HCL.out w5 HB5.out
  obtain ⟨p0, p1, p2, p3, p4⟩ := HCY.out w5 HY5.out
  clear hb5
  have hse : (S1.toList == S1.toList) = true := by simp
  have hee : (E1 == E1) = true := by simp
  have hte : (TS.toList == TS.toList) = true := by simp
  go_wp2_with fail
  refine (HSM.out Y A' n' c' HIY.out HDY.out w5 HY5.out).mono ?_
  rintro e6 w6 ⟨rfl, hb6⟩
  clear q0 q1 q2 q3 q4 p0 p1 p2 p3 p4
  have HD6 := Lib.hid (HD5.out.trans (hb6.mono HD5.out.size))
  clear hb6
  go_wp2_with (first
    | ((with_reducible refine (HTY.out _).mono ?_); rintro e7 w7 ⟨rfl, hb7⟩; have HD7 := Lib.hid (HD6.out.trans (hb7.mono HD6.out.size)); clear hb7)
    | ((with_reducible refine (HTT.out _).mono ?_); rintro e8 w8 ⟨tv, rfl, hok8, hb8⟩; have HTX8 := Lib.hid (HTX.out w8 tv hok8); have HD8 := Lib.hid (HD7.out.trans (hb8.mono HD7.out.size)); clear hb8 hok8)
    | ((with_reducible refine HTX8.out.mono ?_); rintro e9 w9 ⟨rfl, hb9⟩; have HD9 := Lib.hid (HD8.out.trans (hb9.mono HD8.out.size)); clear hb9))
  go_ret
  exact ⟨rfl, HD9.out⟩

section
open Go Go.ChangeShapes Go.WideShapes Go.ChangeAt Go.ChangeMaps Go.RowKit

set_option maxRecDepth 100000 in
theorem treeExprs_lifted (os : Os) (started : os.Started) (H : Type) (enc : TypeId × Value → H) :
    ReturnsInHanded {} Tryd.checked os 3 .any (fun w args => (Rows.treeExprsSpec.pre enc Tryd.prog Tryd.f3 Rows.treeExprsRow.domain false w args ∧ laidMetH Tryd.prog laidL w) ∧ sizedMet enc Tryd.prog Tryd.f3 (OpenSpec.ofChange Rows.treeExprsSpec) false w args)
      (Rows.treeExprsSpec.post enc Tryd.prog Tryd.f3 false true false false) := by
  refine returnsInHanded_of_change_and (C := Tryd.checked) (X := fun w _ => laidMetH Tryd.prog laidL w) (fun _ _ _ hh h => h.of_heap hh) ownKnob_none started (by kernel_rfl) Tryd.func3
    (ChangeSpec.witness_shaped (enc := enc) (C := Tryd.checked) (os := os) (X := fun w _ => laidMetH Tryd.prog laidL w) false (World.doorLaid Tryd.prog 200 os) #[.agg #[.int .i64 0, .int .i64 0, .int .i64 0, .string ⟨#[]⟩, .slice none 0 0], .string ⟨#[]⟩] 8 rfl (World.shaped_of_RefB (by kernel_rfl) (by kernel_rfl)) (by kernel_rfl) (by kernel_rfl) (by kernel_rfl) (door_met os _)) ?_
  intro W base args ds gs before hval0 hW _ hwt hL _
  have hval : ∀ (j : Nat) t v, Tryd.f3.params[j]? = some t → args[j]? = some v → Value.okWide Tryd.prog W .any base t v := hval0
  have hW' := hW
  obtain ⟨p, q, hA0, hV, rfl, _, _⟩ := hW
  have hA : DataW.TrodAll enc Tryd.prog W 0 (fun _ => true) true Tryd.f3.params.toList args.toList ds p := hA0
  rw [Tryd.params3] at hA hval
  obtain ⟨v0, vs0, d0, ds0, p0, q0, hargs, rfl, rfl, h0, r0⟩ := trodAll_cons hA
  obtain ⟨v1, vs1, d1, ds1, p1, q1, rfl, rfl, rfl, h1, r1⟩ := trodAll_cons r0
  obtain ⟨rfl, rfl, rfl⟩ := trodAll_nil r1
  obtain rfl : args = #[v0, v1] := by cases args; simp_all
  obtain ⟨rfl, rfl⟩ := trodVars_none hV
  have htab := tabW_of_laid hL
  have k0 := h0
  have hw0 : ∀ y ∈ DataW.weights Tryd.prog 24 d0, y ≤ 140737488355328 := fun y hy => weight_le (of_decide_eq_true (List.all_eq_true.1 hwt y (weights_two (by rw [Tryd.params3]; rfl) rfl hy)))
  obtain ⟨es0, u0, rfl, nm0, in0⟩ := opens_expr h0 (expr_agg (hval 0 24 v0 rfl rfl)) hw0
  obtain ⟨x1, rfl, rfl, rfl, w1⟩ := open_string Tryd.underlying9 (hval 1 9 v1 rfl rfl) h1
  clear hA0 hval0
  simp only [List.append_nil] at hW'
  have hlt := fun x hx => hW'.lt x hx
  refine (treeExprs_walk W htab es0 in0 nm0 x1).mono fun e W' ⟨he, hb⟩ => ?_
  subst he
  exact ⟨_, rfl, _, _, _, [], _, [], hW', trodAll_mk1 (shut_true _), (trodAll_cons_mk (Below.trod Tryd.laidOut (by kernel_rfl) (of_decide_eq_true (by kernel_rfl)) k0 hb (fun x hx => hlt x (by simp [hx]))) (trodAll_cons_mk (shut_string Tryd.underlying9 w1) trodAll_mk0)), rfl, hb.frame _, fun h => by cases h⟩

theorem treeExprs_holds : Rows.TreeExprsSaid :=
  OpenClaim.holds_of_wide 3 Tryd.f3 rfl rfl rfl rfl rfl rfl rfl ⟨rfl, rfl, rfl, rfl, rfl⟩ rfl rfl rfl rfl rfl (by kernel_rfl) Tryd.func3 (by kernel_rfl)
    (of_decide_eq_true (by kernel_rfl)) (by unfold Func.isWrapper; first | (rw [if_pos (by decide +kernel)]; kernel_rfl) | (rw [if_neg (by decide +kernel)]; exact ⟨rfl, rfl⟩))
    (fun os started H enc _ => treeExprs_lifted os started H enc)

theorem treeExprs_card_holds : Rows.TreeExprsCardSaid :=
  Claim7.holds_tied_plain_at .later [] [.data, .data, .data] true (true, "4fd5755781e4d02310dac6efb226fd48b9ef47947cbb229d847a7752fa2ed6f6") true
    treeExprs_holds (fun _ h => by cases h) (by kernel_rfl) (fun _ h => by cases h) treeExprs_row_tie rfl ⟨rfl, rfl⟩ (by kernel_rfl) rfl
    (fun f fn hf hfn => by
      obtain rfl : f = 3 := Option.some.inj ((show Tryd.prog.funcNamed "portcullis/portcullislaw03.TreeExprs" = some 3 by kernel_rfl).symm.trans hf) |>.symm
      obtain rfl : fn = Tryd.f3 := (Option.some.inj (Tryd.func3.symm.trans hfn)).symm
      exact ⟨by kernel_rfl, fun j t ht => by
        rw [Tryd.params3] at ht
        have hm : t ∈ [24, 9] := by simpa using Array.mem_of_getElem? ht
        have hall : ([24, 9].all fun u => !Tryd.prog.wantsStandIn u) = true := by kernel_rfl
        exact (show Tryd.prog.wantsStandIn t = false by simpa using List.all_eq_true.1 hall t hm)⟩)
    (by kernel_rfl)
end

end Go.Proofs.YtihjdfbdpcghdaaDoor
