/- Layer 8: the walk of HatchSums. -/
import Derived.Test.YtadkimnpeachpaaGreatDoorPvi
import Derived.Test.YtadkimnpeachpaaGreatDoorPmf
import Derived.Test.YtadkimnpeachpaaGreatDoorEhK
set_option linter.unusedVariables false
set_option linter.unusedSimpArgs false
namespace Go.Proofs.YtadkimnpeachpaaGreatDoor
open Go.RowKit

def pinPub : List (List UInt8) := [[112, 105, 110], [112, 117, 98]]
theorem lies_pinPub (w : World) : Lies KT (w.alloc (.cells #[.string ⟨#[112, 105, 110]⟩, .string ⟨#[112, 117, 98]⟩] 9)) (· < (w.alloc (.cells #[.string ⟨#[112, 105, 110]⟩, .string ⟨#[112, 117, 98]⟩] 9)).heap.size) pinPub (.slice (some ⟨w.heap.size, 0, none⟩) 2 2) := by
  refine ⟨_, 2, fun k => [.string (bs (pinPub[k]?.getD []))], rfl, by decide, by omega, by decide, fun k hk => ⟨w.heap.size, 0, rfl, by simp, ?_, fun j hj => ?_⟩⟩
  · dsimp only
    rw [List.getElem?_eq_getElem hk]
    refine ⟨rfl, ?_⟩
    have : k < 2 := hk
    match k, hk with
    | 0, _ => exact (by omega : (3 : Nat) ≤ 140737488355328)
    | 1, _ => exact (by omega : (3 : Nat) ≤ 140737488355328)
  · obtain rfl : j = 0 := by have : j < 1 := hj; omega
    have : k < 2 := hk
    match k, hk with
    | 0, _ => rw [show 0 + 0 * KT.sz + 0 = 0 from rfl, cell_of_row _ _ 0 _ _ (0, 0) (heap_alloc_new w _)]; rfl
    | 1, _ => rw [show 0 + 1 * KT.sz + 0 = 1 from rfl, cell_of_row _ _ 1 _ _ (0, 0) (heap_alloc_new w _)]; rfl
theorem exs_new2 {w : World} {a b : Ex} {u v : Value} (ha : IsExs w (· < w.heap.size) a.args u) (hb : IsExs w (· < w.heap.size) b.args v) (h1 : a.name.length ≤ 140737488355328) (h2 : b.name.length ≤ 140737488355328) :
    IsExs (w.alloc (.cells #[.int .i64 a.kind, .int .i64 a.pl, .int .i64 a.num, .string (strOf a.name), u, .int .i64 b.kind, .int .i64 b.pl, .int .i64 b.num, .string (strOf b.name), v] 24))
      (· < (w.alloc (.cells #[.int .i64 a.kind, .int .i64 a.pl, .int .i64 a.num, .string (strOf a.name), u, .int .i64 b.kind, .int .i64 b.pl, .int .i64 b.num, .string (strOf b.name), v] 24)).heap.size) [a, b] (.slice (some ⟨w.heap.size, 0, none⟩) 2 2) := by
  have hr := heap_alloc_new w (.cells #[.int .i64 a.kind, .int .i64 a.pl, .int .i64 a.num, .string (strOf a.name), u, .int .i64 b.kind, .int .i64 b.pl, .int .i64 b.num, .string (strOf b.name), v] 24)
  have hbl : Below w.heap.size w (w.alloc (.cells #[.int .i64 a.kind, .int .i64 a.pl, .int .i64 a.num, .string (strOf a.name), u, .int .i64 b.kind, .int .i64 b.pl, .int .i64 b.num, .string (strOf b.name), v] 24)) := (Below.refl _ _).alloc (Nat.le_refl _) _
  refine .mk [a, b] (some ⟨w.heap.size, 0, none⟩) 2 (fun k => if k = 0 then u else v) (by simp) (by omega) (fun k hk => ?_) (fun k hk => ?_)
  · refine ⟨w.heap.size, 0, rfl, by simp, ?_⟩
    match k, hk with
    | 0, _ => refine ⟨h1, ?_, ?_, ?_, ?_, ?_⟩ <;> (rw [cell_of_row _ _ _ _ _ (0, 0) hr]; rfl)
    | 1, _ => refine ⟨h2, ?_, ?_, ?_, ?_, ?_⟩ <;> (rw [cell_of_row _ _ _ _ _ (0, 0) hr]; rfl)
  · match k, hk with
    | 0, _ => exact (ha.bel hbl).keep (fun _ _ => rfl) (fun b hlt => Nat.lt_of_lt_of_le hlt hbl.size)
    | 1, _ => exact (hb.bel hbl).keep (fun _ _ => rfl) (fun b hlt => Nat.lt_of_lt_of_le hlt hbl.size)
theorem exs_new1 {w : World} {a : Ex} {u : Value} (ha : IsExs w (· < w.heap.size) a.args u) (h1 : a.name.length ≤ 140737488355328) :
    IsExs (w.alloc (.cells #[.int .i64 a.kind, .int .i64 a.pl, .int .i64 a.num, .string (strOf a.name), u] 24))
      (· < (w.alloc (.cells #[.int .i64 a.kind, .int .i64 a.pl, .int .i64 a.num, .string (strOf a.name), u] 24)).heap.size) [a] (.slice (some ⟨w.heap.size, 0, none⟩) 1 1) := by
  have hr := heap_alloc_new w (.cells #[.int .i64 a.kind, .int .i64 a.pl, .int .i64 a.num, .string (strOf a.name), u] 24)
  have hbl : Below w.heap.size w (w.alloc (.cells #[.int .i64 a.kind, .int .i64 a.pl, .int .i64 a.num, .string (strOf a.name), u] 24)) := (Below.refl _ _).alloc (Nat.le_refl _) _
  refine .mk [a] (some ⟨w.heap.size, 0, none⟩) 1 (fun k => u) (by simp) (by omega) (fun k hk => ?_) (fun k hk => ?_)
  · refine ⟨w.heap.size, 0, rfl, by simp, ?_⟩
    match k, hk with
    | 0, _ => refine ⟨h1, ?_, ?_, ?_, ?_, ?_⟩ <;> (rw [cell_of_row _ _ _ _ _ (0, 0) hr]; rfl)
  · match k, hk with
    | 0, _ => exact (ha.bel hbl).keep (fun _ _ => rfl) (fun b hlt => Nat.lt_of_lt_of_le hlt hbl.size)
theorem exs_formS {w : World} {S : Nat → Prop} {es : List Ex} {v : Value} (h : IsExs w S es v) : ∃ A c, v = .slice A es.length c := by
  cases h with | mk es A c f => exact ⟨A, c, rfl⟩

set_option maxRecDepth 100000 in
set_option maxHeartbeats 8000000 in
theorem hatchSums_walk (w : World) (a : Ex) {ua : Value} (ha : IsExs w (· < w.heap.size) a.args ua) (hna : a.name.length ≤ 140737488355328) (b : Ex) {ub : Value} (hb : IsExs w (· < w.heap.size) b.args ub) (hnb : b.name.length ≤ 140737488355328) {xs : List Int} {iv : Value} (hi : Lies KI w (· < w.heap.size) xs iv) :
    Calls Tryz.prog 5 #[.agg #[.int .i64 a.kind, .int .i64 a.pl, .int .i64 a.num, .string (strOf a.name), ua], .agg #[.int .i64 b.kind, .int .i64 b.pl, .int .i64 b.num, .string (strOf b.name), ub], iv] w fun r w' => r = .returned (.bool true) ∧ Below w.heap.size w w' := by
  obtain ⟨A, c, rfl⟩ := exs_formS ha
  obtain ⟨A', c', rfl⟩ := exs_formS hb
  obtain ⟨n, hn_⟩ : ∃ n, n = a.args.length := ⟨_, rfl⟩
  obtain ⟨n', hn_'⟩ : ∃ n, n = b.args.length := ⟨_, rfl⟩
  rw [← hn_] at ha ⊢
  rw [← hn_'] at hb ⊢
  obtain ⟨Ai, ci, rfl, hci, hMi⟩ := hi.form
  obtain ⟨nx, hnx⟩ : ∃ nx, nx = xs.length := ⟨_, rfl⟩
  rw [← hnx] at hi hci hMi ⊢
  have HWA : Hid (∀ wx, Below w.heap.size w wx → Calls Tryz.prog 7 #[.agg #[.int .i64 a.kind, .int .i64 a.pl, .int .i64 a.num, .string (strOf a.name), .slice A n c], .int .i64 5000, .int .i64 300] wx (WeighPost wx (weigh a 5000 300))) := Lib.hid fun wx hbx => by
    have := (weigh_any ha a.kind a.pl a.num 5000 300 a.name wx hbx hbx.size hna (by omega) (by omega) (by omega) (by omega)).1
    rw [Ex.eta] at this
    exact this
  have HWB : Hid (∀ wx, Below w.heap.size w wx → Calls Tryz.prog 7 #[.agg #[.int .i64 b.kind, .int .i64 b.pl, .int .i64 b.num, .string (strOf b.name), .slice A' n' c'], .int .i64 5000, .int .i64 300] wx (WeighPost wx (weigh b 5000 300))) := Lib.hid fun wx hbx => by
    have := (weigh_any hb b.kind b.pl b.num 5000 300 b.name wx hbx hbx.size hnb (by omega) (by omega) (by omega) (by omega)).1
    rw [Ex.eta] at this
    exact this
  -- what Value answers, once all is light: of a, of b, of what is made of both
  have hlight : weigh a 5000 300 ≤ 5000 → weigh b 5000 300 ≤ 5000 →
      (∀ (wx : World) (nv : Value), Below w.heap.size w wx → Lies KT wx (· < wx.heap.size) pinPub nv → Calls Tryz.prog 10 #[.agg #[.int .i64 a.kind, .int .i64 a.pl, .int .i64 a.num, .string (strOf a.name), .slice A n c], nv, .slice Ai nx ci] wx fun r w' => r = .returned (.int .i64 (valE pinPub xs a)) ∧ Below wx.heap.size wx w') ∧
      (∀ (wx : World) (nv : Value), Below w.heap.size w wx → Lies KT wx (· < wx.heap.size) pinPub nv → Calls Tryz.prog 10 #[.agg #[.int .i64 b.kind, .int .i64 b.pl, .int .i64 b.num, .string (strOf b.name), .slice A' n' c'], nv, .slice Ai nx ci] wx fun r w' => r = .returned (.int .i64 (valE pinPub xs b)) ∧ Below wx.heap.size wx w') ∧
      (∀ (wx : World) (nv u : Value) (s : List UInt8), s ∈ [[43], [45], [42], [47], [37]] → Below w.heap.size w wx → Lies KT wx (· < wx.heap.size) pinPub nv → IsExs wx (· < wx.heap.size) [a, b] u → Calls Tryz.prog 10 #[.agg #[.int .i64 10, .int .i64 0, .int .i64 0, .string (strOf s), u], nv, .slice Ai nx ci] wx fun r w' => r = .returned (.int .i64 (opV s (valE pinPub xs a) (valE pinPub xs b))) ∧ Below wx.heap.size wx w') ∧
      (∀ (wx : World) (nv u : Value), Below w.heap.size w wx → Lies KT wx (· < wx.heap.size) pinPub nv → IsExs wx (· < wx.heap.size) [a] u → Calls Tryz.prog 10 #[.agg #[.int .i64 9, .int .i64 0, .int .i64 0, .string (strOf [45]), u], nv, .slice Ai nx ci] wx fun r w' => r = .returned (.int .i64 (wrap64 (0 - valE pinPub xs a))) ∧ Below wx.heap.size wx w') := by
    intro hwa hwb
    obtain ⟨pa, da⟩ := light_parts a 5000 300 (by omega) hwa
    obtain ⟨pb, db⟩ := light_parts b 5000 300 (by omega) hwb
    have hix : ∀ wx, Below w.heap.size w wx → Lies KI wx (· < wx.heap.size) xs (.slice Ai nx ci) := fun wx hbx => (hi.below hbx).keep (fun _ _ => rfl) (fun b hlt => Nat.lt_of_lt_of_le hlt hbx.size)
    refine ⟨fun wx nv hbx hn => ?_, fun wx nv hbx hn => ?_, fun wx nv u s hs hbx hn hu => ?_, fun wx nv u hbx hn hu => ?_⟩
    · exact hvalue_any hn (hix wx hbx) ((ha.bel hbx).keep (fun _ _ => rfl) (fun b hlt => Nat.lt_of_lt_of_le hlt hbx.size)) hna (by omega) (by omega) wx (Below.refl _ _)
    · exact hvalue_any hn (hix wx hbx) ((hb.bel hbx).keep (fun _ _ => rfl) (fun b hlt => Nat.lt_of_lt_of_le hlt hbx.size)) hnb (by omega) (by omega) wx (Below.refl _ _)
    · have hsl : s.length ≤ 140737488355328 := by simp only [List.mem_cons, List.not_mem_nil, or_false] at hs; rcases hs with rfl | rfl | rfl | rfl | rfl <;> decide
      have := hvalue_any (x := .mk 10 0 0 s [a, b]) hn (hix wx hbx) hu hsl (by simp only [parts, partsL]; omega) (by simp only [deepE, deepL]; omega) wx (Below.refl _ _)
      rw [valE_mk] at this
      simpa [kV, Ex.kind, Ex.pl, Ex.num, Ex.name] using this
    · have := hvalue_any (x := .mk 9 0 0 [45] [a]) hn (hix wx hbx) hu (show ([45] : List UInt8).length ≤ 140737488355328 by decide) (by simp only [parts, partsL]; omega) (by simp only [deepE, deepL]; omega) wx (Below.refl _ _)
      rw [valE_mk] at this
      simpa [kV, Ex.kind, Ex.pl, Ex.num, Ex.name] using this
  have HEX : Hid (∀ wx, Below w.heap.size w wx → IsExs wx (· < wx.heap.size) a.args (.slice A n c) ∧ IsExs wx (· < wx.heap.size) b.args (.slice A' n' c')) := Lib.hid fun wx hbx => ⟨(ha.bel hbx).keep (fun _ _ => rfl) (fun b hlt => Nat.lt_of_lt_of_le hlt hbx.size), (hb.bel hbx).keep (fun _ _ => rfl) (fun b hlt => Nat.lt_of_lt_of_le hlt hbx.size)⟩
  have H2 : Hid (∀ wx, Below w.heap.size w wx → IsExs (wx.alloc (.cells #[.int .i64 a.kind, .int .i64 a.pl, .int .i64 a.num, .string (strOf a.name), .slice A n c, .int .i64 b.kind, .int .i64 b.pl, .int .i64 b.num, .string (strOf b.name), .slice A' n' c'] 24)) (· < (wx.alloc (.cells #[.int .i64 a.kind, .int .i64 a.pl, .int .i64 a.num, .string (strOf a.name), .slice A n c, .int .i64 b.kind, .int .i64 b.pl, .int .i64 b.num, .string (strOf b.name), .slice A' n' c'] 24)).heap.size) [a, b] (.slice (some ⟨wx.heap.size, 0, none⟩) 2 2)) := Lib.hid fun wx hbx => exs_new2 (HEX.out wx hbx).1 (HEX.out wx hbx).2 hna hnb
  have H1 : Hid (∀ wx, Below w.heap.size w wx → IsExs (wx.alloc (.cells #[.int .i64 a.kind, .int .i64 a.pl, .int .i64 a.num, .string (strOf a.name), .slice A n c] 24)) (· < (wx.alloc (.cells #[.int .i64 a.kind, .int .i64 a.pl, .int .i64 a.num, .string (strOf a.name), .slice A n c] 24)).heap.size) [a] (.slice (some ⟨wx.heap.size, 0, none⟩) 1 1)) := Lib.hid fun wx hbx => exs_new1 (HEX.out wx hbx).1 hna
  have HLT := Lib.hid hlight
  clear hlight ha hb hi hn_ hn_' hnx hna hnb HEX
  generalize a.kind = k1 at HWA HLT H1 H2 ⊢
  generalize a.pl = p1 at HWA HLT H1 H2 ⊢
  generalize a.num = m1 at HWA HLT H1 H2 ⊢
  generalize strOf a.name = S1 at HWA HLT H1 H2 ⊢
  generalize b.kind = k2 at HWB HLT H2 ⊢
  generalize b.pl = p2 at HWB HLT H2 ⊢
  generalize b.num = m2 at HWB HLT H2 ⊢
  generalize strOf b.name = S2 at HWB HLT H2 ⊢
  generalize valE pinPub xs a = va at HLT
  generalize valE pinPub xs b = vb at HLT
  obtain ⟨X, hX⟩ : ∃ X : World, X = (w.alloc (.cells #[.int .i64 k1, .int .i64 p1, .int .i64 m1, .string S1, .slice A n c] 24)).alloc (.cells #[.int .i64 k2, .int .i64 p2, .int .i64 m2, .string S2, .slice A' n' c'] 24) := ⟨_, rfl⟩
  have e1 : (w.alloc (.cells #[.int .i64 k1, .int .i64 p1, .int .i64 m1, .string S1, .slice A n c] 24)).heap.size = w.heap.size + 1 := by simp
  have hbx : Below w.heap.size w X := by rw [hX]; exact ((Below.refl _ _).alloc (Nat.le_refl _) _).alloc (by simp) _
  have hr1 : ExBlk X w.heap.size k1 p1 m1 S1 (.slice A n c) := by rw [hX]; exact (ExBlk.new _ _ _ _ _ _).alloc (by simp) _
  have hr2 : ExBlk X (w.heap.size + 1) k2 p2 m2 S2 (.slice A' n' c') := by rw [hX, ← e1]; exact ExBlk.new _ _ _ _ _ _
  have hsz : X.heap.size = w.heap.size + 2 := by rw [hX]; simp
  have HAL : Hid (Calls Tryz.prog 6 #[] X fun e w' => e = .returned (.bool true) ∧ Below X.heap.size X w') := Lib.hid (alive_any X)
  have HX := Lib.hid hX
  have HBX := Lib.hid hbx
  have HSZ := Lib.hid hsz
  have HR1 := Lib.hid hr1
  have HR2 := Lib.hid hr2
  clear hX hbx hr1 hr2 hsz e1
  have HCL : Hid (∀ wx, Below X.heap.size X wx → wx.cell? ⟨w.heap.size, 0, none⟩ = some (.int .i64 k1) ∧ wx.cell? ⟨w.heap.size, 1, none⟩ = some (.int .i64 p1) ∧ wx.cell? ⟨w.heap.size, 2, none⟩ = some (.int .i64 m1) ∧ wx.cell? ⟨w.heap.size, 3, none⟩ = some (.string S1) ∧ wx.cell? ⟨w.heap.size, 4, none⟩ = some (.slice A n c) ∧ wx.cell? ⟨w.heap.size + 1, 0, none⟩ = some (.int .i64 k2) ∧ wx.cell? ⟨w.heap.size + 1, 1, none⟩ = some (.int .i64 p2) ∧ wx.cell? ⟨w.heap.size + 1, 2, none⟩ = some (.int .i64 m2) ∧ wx.cell? ⟨w.heap.size + 1, 3, none⟩ = some (.string S2) ∧ wx.cell? ⟨w.heap.size + 1, 4, none⟩ = some (.slice A' n' c')) := Lib.hid fun wx hb => by
    have h1 : ExBlk wx w.heap.size k1 p1 m1 S1 (.slice A n c) := HR1.out.below hb (by have := HSZ.out; omega)
    have h2 : ExBlk wx (w.heap.size + 1) k2 p2 m2 S2 (.slice A' n' c') := HR2.out.below hb (by have := HSZ.out; omega)
    exact ⟨h1.c0, h1.c1, h1.c2, h1.c3, h1.c4, h2.c0, h2.c1, h2.c2, h2.c3, h2.c4⟩
  go_enter Tryz.func5, Tryz.ntmps5
  go_wp2_with fail
  rw [← HX.out]
  refine HAL.out.mono ?_
  rintro e1 w1 ⟨rfl, hb1⟩
  have HB1 := Lib.hid hb1
  have HD1 := Lib.hid (HBX.out.trans (hb1.mono HBX.out.size))
  obtain ⟨q0, q1, q2, q3, q4, r0, r1, r2, r3, r4⟩ := HCL.out w1 hb1
  clear hb1
  go_wp2_with fail
  refine (HWA.out w1 HD1.out).mono ?_
  rintro e2 w2 ⟨rfl, hb2⟩
  clear q0 q1 q2 q3 q4 r0 r1 r2 r3 r4
  have HB2 := Lib.hid (HB1.out.trans (hb2.mono HB1.out.size))
  have HD2 := Lib.hid (HD1.out.trans (hb2.mono HD1.out.size))
  obtain ⟨q0, q1, q2, q3, q4, r0, r1, r2, r3, r4⟩ := HCL.out w2 HB2.out
  clear hb2
  obtain ⟨G, hG⟩ : ∃ G, G = weigh a 5000 300 := ⟨_, rfl⟩
  rw [← hG]
  rw [← hG] at HLT
  clear hG HWA
  by_cases hw : 5000 < G
  · have hd : decide (5000 < G) = true := decide_eq_true hw
    go_wp2
    go_ret
    exact ⟨rfl, HD2.out⟩
  have hd : decide (5000 < G) = false := decide_eq_false hw
  go_wp2_with fail
  refine (HWB.out w2 HD2.out).mono ?_
  rintro e3 w3 ⟨rfl, hb3⟩
  clear q0 q1 q2 q3 q4 r0 r1 r2 r3 r4
  have HB3 := Lib.hid (HB2.out.trans (hb3.mono HB2.out.size))
  have HD3 := Lib.hid (HD2.out.trans (hb3.mono HD2.out.size))
  clear hb3
  obtain ⟨H, hH⟩ : ∃ H, H = weigh b 5000 300 := ⟨_, rfl⟩
  rw [← hH]
  rw [← hH] at HLT
  clear hH HWB
  by_cases hw2 : 5000 < H
  · have hd2 : decide (5000 < H) = true := decide_eq_true hw2
    go_wp2
    go_ret
    exact ⟨rfl, HD3.out⟩
  have hd2 : decide (5000 < H) = false := decide_eq_false hw2
  by_cases ht : 50 < nx
  · have hd3 : decide ((50 : Int) < (nx : Int)) = true := decide_eq_true (by omega)
    have hd4 : (50 : Int) < (nx : Int) := by omega
    go_wp2
    go_ret
    exact ⟨rfl, HD3.out⟩
  have hd3 : decide ((50 : Int) < (nx : Int)) = false := decide_eq_false (by omega)
  have hd4 : ¬ (50 : Int) < (nx : Int) := by omega
  obtain ⟨l1, l2, l3, l4⟩ := HLT.out (by omega) (by omega)
  have HV1 := Lib.hid l1
  have HV2 := Lib.hid l2
  have HV3 := Lib.hid l3
  have HV4 := Lib.hid l4
  clear l1 l2 l3 l4 HLT hw hw2 ht
  -- the names
  obtain ⟨Y, hY⟩ : ∃ Y : World, Y = w3.alloc (.cells #[.string ⟨#[112, 105, 110]⟩, .string ⟨#[112, 117, 98]⟩] 9) := ⟨_, rfl⟩
  have hby : Below w3.heap.size w3 Y := by rw [hY]; exact (Below.refl _ _).alloc (Nat.le_refl _) _
  have hly : Lies KT Y (· < Y.heap.size) pinPub (.slice (some ⟨w3.heap.size, 0, none⟩) 2 2) := by rw [hY]; exact lies_pinPub w3
  have HYQ := Lib.hid hY
  have HBY := Lib.hid (HB3.out.trans (hby.mono HB3.out.size))
  have HDY := Lib.hid (HD3.out.trans (hby.mono HD3.out.size))
  have HLY : Hid (∀ wx, Below Y.heap.size Y wx → Lies KT wx (· < wx.heap.size) pinPub (.slice (some ⟨w3.heap.size, 0, none⟩) 2 2)) := Lib.hid fun wx hb => (hly.below hb).keep (fun _ _ => rfl) (fun b hlt => Nat.lt_of_lt_of_le hlt hb.size)
  obtain ⟨q0, q1, q2, q3, q4, r0, r1, r2, r3, r4⟩ := HCL.out Y HBY.out
  clear hY hby hly
  go_upto_region 6 with fail
  rw [← HYQ.out]
  go_wp2_with fail
  refine (HV1.out Y _ HDY.out (HLY.out Y (Below.refl _ _))).mono ?_
  rintro e4 w4 ⟨rfl, hb4⟩
  clear q0 q1 q2 q3 q4 r0 r1 r2 r3 r4
  have HE4 := Lib.hid hb4
  clear hb4
  have HD4 := Lib.hid (HDY.out.trans (HE4.out.mono HDY.out.size))
  obtain ⟨q0, q1, q2, q3, q4, r0, r1, r2, r3, r4⟩ := HCL.out w4 (HBY.out.trans (HE4.out.mono HBY.out.size))
  go_wp2_with fail
  refine (HV2.out w4 _ HD4.out (HLY.out w4 HE4.out)).mono ?_
  rintro e5 w5 ⟨rfl, hb5⟩
  clear q0 q1 q2 q3 q4 r0 r1 r2 r3 r4
  have HE5 := Lib.hid (HE4.out.trans (hb5.mono HE4.out.size))
  clear hb5
  have HD5 := Lib.hid (HDY.out.trans (HE5.out.mono HDY.out.size))
  obtain ⟨q0, q1, q2, q3, q4, r0, r1, r2, r3, r4⟩ := HCL.out w5 (HBY.out.trans (HE5.out.mono HBY.out.size))
  obtain ⟨Z, hZ⟩ : ∃ Z : World, Z = w5.alloc (.cells #[.int .i64 k1, .int .i64 p1, .int .i64 m1, .string S1, .slice A n c, .int .i64 k2, .int .i64 p2, .int .i64 m2, .string S2, .slice A' n' c'] 24) := ⟨_, rfl⟩
  have hbz : Below w5.heap.size w5 Z := by rw [hZ]; exact (Below.refl _ _).alloc (Nat.le_refl _) _
  have hiz : IsExs Z (· < Z.heap.size) [a, b] (.slice (some ⟨w5.heap.size, 0, none⟩) 2 2) := by rw [hZ]; exact H2.out w5 HD5.out
  have HZQ := Lib.hid hZ
  have HEZ := Lib.hid (HE5.out.trans (hbz.mono HE5.out.size))
  have HIZ : Hid (∀ wx, Below Z.heap.size Z wx → IsExs wx (· < wx.heap.size) [a, b] (.slice (some ⟨w5.heap.size, 0, none⟩) 2 2)) := Lib.hid fun wx hb => (hiz.bel hb).keep (fun _ _ => rfl) (fun b hlt => Nat.lt_of_lt_of_le hlt hb.size)
  have HDZ := Lib.hid (HDY.out.trans (HEZ.out.mono HDY.out.size))
  clear hZ hbz hiz
  go_upto_region 9 with fail
  rw [← HZQ.out]
  clear q0 q1 q2 q3 q4 r0 r1 r2 r3 r4
  go_wp2_with fail
  refine (HV3.out Z _ _ [43] (by simp) HDZ.out (HLY.out Z HEZ.out) (HIZ.out Z (Below.refl _ _))).mono ?_
  rintro e6 w6 ⟨rfl, hb6⟩
  have HF6 := Lib.hid hb6
  have HE6 := Lib.hid (HEZ.out.trans (hb6.mono HEZ.out.size))
  have HD6 := Lib.hid (HDZ.out.trans (hb6.mono HDZ.out.size))
  clear hb6
  rw [show opV [43] va vb = wrap64 (va + vb) from rfl]
  go_wp2_with fail
  refine (HV3.out w6 _ _ [42] (by simp) HD6.out (HLY.out w6 HE6.out) (HIZ.out w6 HF6.out)).mono ?_
  rintro e7 w7 ⟨rfl, hb7⟩
  have HF7 := Lib.hid (HF6.out.trans (hb7.mono HF6.out.size))
  have HE7 := Lib.hid (HE6.out.trans (hb7.mono HE6.out.size))
  have HD7 := Lib.hid (HD6.out.trans (hb7.mono HD6.out.size))
  clear hb7
  rw [show opV [42] va vb = wrap64 (va * vb) from rfl]
  go_wp2_with fail
  refine (HV3.out w7 _ _ [45] (by simp) HD7.out (HLY.out w7 HE7.out) (HIZ.out w7 HF7.out)).mono ?_
  rintro e8 w8 ⟨rfl, hb8⟩
  have HE8 := Lib.hid (HE7.out.trans (hb8.mono HE7.out.size))
  have HD8 := Lib.hid (HD7.out.trans (hb8.mono HD7.out.size))
  clear hb8
  rw [show opV [45] va vb = wrap64 (va - vb) from rfl]
  obtain ⟨q0, q1, q2, q3, q4, r0, r1, r2, r3, r4⟩ := HCL.out w8 (HBY.out.trans (HE8.out.mono HBY.out.size))
  go_wp2_with fail
  obtain ⟨U, hU⟩ : ∃ U : World, U = w8.alloc (.cells #[.int .i64 k1, .int .i64 p1, .int .i64 m1, .string S1, .slice A n c] 24) := ⟨_, rfl⟩
  have hbu : Below w8.heap.size w8 U := by rw [hU]; exact (Below.refl _ _).alloc (Nat.le_refl _) _
  have hiu : IsExs U (· < U.heap.size) [a] (.slice (some ⟨w8.heap.size, 0, none⟩) 1 1) := by rw [hU]; exact H1.out w8 HD8.out
  rw [← hU]
  have HIU := Lib.hid hiu
  have HEU := Lib.hid (HE8.out.trans (hbu.mono HE8.out.size))
  have HDU := Lib.hid (HD8.out.trans (hbu.mono HD8.out.size))
  clear hU hbu hiu
  refine (HV4.out U _ _ HDU.out (HLY.out U HEU.out) HIU.out).mono ?_
  rintro e9 w9 ⟨rfl, hb9⟩
  have HD9 := Lib.hid (HDU.out.trans (hb9.mono HDU.out.size))
  clear hb9
  rw [show (0 : Int) - va = -va from by omega]
  go_wp2
  go_ret
  exact ⟨rfl, HD9.out⟩

end Go.Proofs.YtadkimnpeachpaaGreatDoor
