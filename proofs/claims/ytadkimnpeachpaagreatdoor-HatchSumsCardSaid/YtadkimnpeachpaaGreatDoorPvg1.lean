/- Layer 8: a walk of (*valuer).expr. -/
import Derived.Test.YtadkimnpeachpaaGreatDoorPvf
set_option linter.unusedVariables false
set_option linter.unusedSimpArgs false
namespace Go.Proofs.YtadkimnpeachpaaGreatDoor
open Go.RowKit

set_option maxRecDepth 100000 in
set_option maxHeartbeats 2000000 in
theorem expr_no {w0 : World} {B : Nat} {nms : List (List UInt8)} {xs : List Int} {nv iv : Value} {es : List Ex} {A : Option Addr} {c : Nat} {k p n deep L left : Int} {s : List UInt8} {g G : Nat} {w W : World} (X : VF w0 B nms xs nv iv es A c k p n deep L s g G W) (hG : G = w.heap.size) (hW : W = (w.setCell ⟨g, 2, none⟩ (.int .i64 L)).alloc (.cells #[.int .i64 k, .int .i64 p, .int .i64 n, .string (strOf s), .slice A es.length c] 24))
    (c2 : w.cell? ⟨g, 2, none⟩ = some (.int .i64 left)) (f2 : w.frozen? ⟨g, 2, none⟩ = false) (hwl : IntKind.i64.wrap (left - 1) = L) (hmay : mayB k s = false) :
    Calls Tryz.prog 20 #[.pointer (some ⟨g, 0, none⟩), .agg #[.int .i64 k, .int .i64 p, .int .i64 n, .string (strOf s), .slice A es.length c], .int .i64 deep] w fun e w' => e = .returned (.int .i64 (0)) ∧ ∃ l', L - (partsL es : Int) ≤ l' ∧ l' ≤ L ∧ VBox w' g nv iv l' ∧ But g B W w' := by
  have HM := Lib.hid X.may
  obtain ⟨z0, z1, z2, z3, z4⟩ := X.z (w' := W) rfl
  obtain ⟨v0, v1, v2⟩ := X.v.cells
  have hL0 : ¬ L < 0 := by have := X.L0; omega
  have hd1 : ¬ 65536 < deep := by have := X.d1; omega
  have hgl : g < w.heap.size := by have := X.gG; omega
  have HGW := Lib.hid X.GW
  have HX := Lib.hid X
  rw [hmay] at HM
  obtain ⟨ne, hne⟩ : ∃ ne, ne = es.length := ⟨_, rfl⟩
  obtain ⟨N, hN⟩ : ∃ N, N = strOf s := ⟨_, rfl⟩
  rw [← hne, ← hN] at HM hW ⊢
  rw [← hne] at z4
  rw [← hN] at z3
  have HWQ := Lib.hid hW
  have HNE := Lib.hid hne
  have HNQ := Lib.hid hN
  have HGQ := Lib.hid hG
  clear hne hN hW hG X hmay
  go_enter Tryz.func20, Tryz.ntmps20
  go_upto_region 2 with fail
  rw [← HWQ.out, ← HGQ.out]
  go_wp2_with (first
    | ((with_reducible refine (HM.out _).mono ?_); rintro e w1 ⟨rfl, hb1⟩; have HB1 := Lib.hid hb1; have q0 := (hb1.cell (p := ⟨G, 0, none⟩) HGW.out).trans z0; have q2 := (hb1.cell (p := ⟨G, 2, none⟩) HGW.out).trans z2; have q3 := (hb1.cell (p := ⟨G, 3, none⟩) HGW.out).trans z3; have q4 := (hb1.cell (p := ⟨G, 4, none⟩) HGW.out).trans z4; clear hb1))
  go_ret
  exact ⟨rfl, L, by omega, Int.le_refl _, HX.out.v.below HB1.out, (But.refl g B W).box HB1.out (by have := HX.out.gG; have := HX.out.GW; have := HX.out.Bg; omega)⟩

set_option maxRecDepth 100000 in
set_option maxHeartbeats 2000000 in
theorem expr_1 {w0 : World} {B : Nat} {nms : List (List UInt8)} {xs : List Int} {nv iv : Value} {es : List Ex} {A : Option Addr} {c : Nat} {p n deep L left : Int} {s : List UInt8} {g G : Nat} {w W : World} (X : VF w0 B nms xs nv iv es A c (1) p n deep L s g G W) (hG : G = w.heap.size) (hW : W = (w.setCell ⟨g, 2, none⟩ (.int .i64 L)).alloc (.cells #[.int .i64 1, .int .i64 p, .int .i64 n, .string (strOf s), .slice A es.length c] 24))
    (c2 : w.cell? ⟨g, 2, none⟩ = some (.int .i64 left)) (f2 : w.frozen? ⟨g, 2, none⟩ = false) (hwl : IntKind.i64.wrap (left - 1) = L) (hmay : mayB 1 s = true) :
    Calls Tryz.prog 20 #[.pointer (some ⟨g, 0, none⟩), .agg #[.int .i64 1, .int .i64 p, .int .i64 n, .string (strOf s), .slice A es.length c], .int .i64 deep] w fun e w' => e = .returned (.int .i64 (n)) ∧ ∃ l', L - (partsL es : Int) ≤ l' ∧ l' ≤ L ∧ VBox w' g nv iv l' ∧ But g B W w' := by
  have HM := Lib.hid X.may
  obtain ⟨z0, z1, z2, z3, z4⟩ := X.z (w' := W) rfl
  obtain ⟨v0, v1, v2⟩ := X.v.cells
  have hL0 : ¬ L < 0 := by have := X.L0; omega
  have hd1 : ¬ 65536 < deep := by have := X.d1; omega
  have hgl : g < w.heap.size := by have := X.gG; omega
  have HGW := Lib.hid X.GW
  have HX := Lib.hid X
  rw [hmay] at HM
  obtain ⟨ne, hne⟩ : ∃ ne, ne = es.length := ⟨_, rfl⟩
  obtain ⟨N, hN⟩ : ∃ N, N = strOf s := ⟨_, rfl⟩
  rw [← hne, ← hN] at HM hW ⊢
  rw [← hne] at z4
  rw [← hN] at z3
  have HWQ := Lib.hid hW
  have HNE := Lib.hid hne
  have HNQ := Lib.hid hN
  have HGQ := Lib.hid hG
  clear hne hN hW hG X hmay
  go_enter Tryz.func20, Tryz.ntmps20
  go_upto_region 2 with fail
  rw [← HWQ.out, ← HGQ.out]
  go_wp2_with (first
    | ((with_reducible refine (HM.out _).mono ?_); rintro e w1 ⟨rfl, hb1⟩; have HB1 := Lib.hid hb1; have q0 := (hb1.cell (p := ⟨G, 0, none⟩) HGW.out).trans z0; have q2 := (hb1.cell (p := ⟨G, 2, none⟩) HGW.out).trans z2; have q3 := (hb1.cell (p := ⟨G, 3, none⟩) HGW.out).trans z3; have q4 := (hb1.cell (p := ⟨G, 4, none⟩) HGW.out).trans z4; clear hb1))
  go_ret
  exact ⟨rfl, L, by omega, Int.le_refl _, HX.out.v.below HB1.out, (But.refl g B W).box HB1.out (by have := HX.out.gG; have := HX.out.GW; have := HX.out.Bg; omega)⟩

set_option maxRecDepth 100000 in
set_option maxHeartbeats 2000000 in
theorem expr_9n {w0 : World} {B : Nat} {nms : List (List UInt8)} {xs : List Int} {nv iv : Value} {es : List Ex} {A : Option Addr} {c : Nat} {p n deep L left : Int} {s : List UInt8} {g G : Nat} {w W : World} (X : VF w0 B nms xs nv iv es A c (9) p n deep L s g G W) (hG : G = w.heap.size) (hW : W = (w.setCell ⟨g, 2, none⟩ (.int .i64 L)).alloc (.cells #[.int .i64 9, .int .i64 p, .int .i64 n, .string (strOf s), .slice A es.length c] 24))
    (c2 : w.cell? ⟨g, 2, none⟩ = some (.int .i64 left)) (f2 : w.frozen? ⟨g, 2, none⟩ = false) (hwl : IntKind.i64.wrap (left - 1) = L) (hmay : mayB 9 s = true) (h1 : es.length ≠ 1) :
    Calls Tryz.prog 20 #[.pointer (some ⟨g, 0, none⟩), .agg #[.int .i64 9, .int .i64 p, .int .i64 n, .string (strOf s), .slice A es.length c], .int .i64 deep] w fun e w' => e = .returned (.int .i64 (0)) ∧ ∃ l', L - (partsL es : Int) ≤ l' ∧ l' ≤ L ∧ VBox w' g nv iv l' ∧ But g B W w' := by
  have HM := Lib.hid X.may
  obtain ⟨z0, z1, z2, z3, z4⟩ := X.z (w' := W) rfl
  obtain ⟨v0, v1, v2⟩ := X.v.cells
  have hL0 : ¬ L < 0 := by have := X.L0; omega
  have hd1 : ¬ 65536 < deep := by have := X.d1; omega
  have hgl : g < w.heap.size := by have := X.gG; omega
  have HGW := Lib.hid X.GW
  have HX := Lib.hid X
  rw [hmay] at HM
  obtain ⟨ne, hne⟩ : ∃ ne, ne = es.length := ⟨_, rfl⟩
  obtain ⟨N, hN⟩ : ∃ N, N = strOf s := ⟨_, rfl⟩
  rw [← hne, ← hN] at HM hW ⊢
  rw [← hne] at z4
  rw [← hN] at z3
  have HWQ := Lib.hid hW
  have HNE := Lib.hid hne
  have HNQ := Lib.hid hN
  have HGQ := Lib.hid hG
  clear hne hN hW hG X hmay
  have hn1 : ¬ (ne : Int) = 1 := by rw [HNE.out]; omega
  have hn1b : ((ne : Int) == 1) = false := by rw [beq_eq_false_iff_ne]; exact hn1
  clear h1
  go_enter Tryz.func20, Tryz.ntmps20
  go_upto_region 2 with fail
  rw [← HWQ.out, ← HGQ.out]
  go_wp2_with (first
    | ((with_reducible refine (HM.out _).mono ?_); rintro e w1 ⟨rfl, hb1⟩; have HB1 := Lib.hid hb1; have q0 := (hb1.cell (p := ⟨G, 0, none⟩) HGW.out).trans z0; have q2 := (hb1.cell (p := ⟨G, 2, none⟩) HGW.out).trans z2; have q3 := (hb1.cell (p := ⟨G, 3, none⟩) HGW.out).trans z3; have q4 := (hb1.cell (p := ⟨G, 4, none⟩) HGW.out).trans z4; clear hb1))
  go_ret
  exact ⟨rfl, L, by omega, Int.le_refl _, HX.out.v.below HB1.out, (But.refl g B W).box HB1.out (by have := HX.out.gG; have := HX.out.GW; have := HX.out.Bg; omega)⟩

set_option maxRecDepth 100000 in
set_option maxHeartbeats 2000000 in
theorem expr_10n {w0 : World} {B : Nat} {nms : List (List UInt8)} {xs : List Int} {nv iv : Value} {es : List Ex} {A : Option Addr} {c : Nat} {p n deep L left : Int} {s : List UInt8} {g G : Nat} {w W : World} (X : VF w0 B nms xs nv iv es A c (10) p n deep L s g G W) (hG : G = w.heap.size) (hW : W = (w.setCell ⟨g, 2, none⟩ (.int .i64 L)).alloc (.cells #[.int .i64 10, .int .i64 p, .int .i64 n, .string (strOf s), .slice A es.length c] 24))
    (c2 : w.cell? ⟨g, 2, none⟩ = some (.int .i64 left)) (f2 : w.frozen? ⟨g, 2, none⟩ = false) (hwl : IntKind.i64.wrap (left - 1) = L) (hmay : mayB 10 s = true) (h1 : es.length ≠ 2) :
    Calls Tryz.prog 20 #[.pointer (some ⟨g, 0, none⟩), .agg #[.int .i64 10, .int .i64 p, .int .i64 n, .string (strOf s), .slice A es.length c], .int .i64 deep] w fun e w' => e = .returned (.int .i64 (0)) ∧ ∃ l', L - (partsL es : Int) ≤ l' ∧ l' ≤ L ∧ VBox w' g nv iv l' ∧ But g B W w' := by
  have HM := Lib.hid X.may
  obtain ⟨z0, z1, z2, z3, z4⟩ := X.z (w' := W) rfl
  obtain ⟨v0, v1, v2⟩ := X.v.cells
  have hL0 : ¬ L < 0 := by have := X.L0; omega
  have hd1 : ¬ 65536 < deep := by have := X.d1; omega
  have hgl : g < w.heap.size := by have := X.gG; omega
  have HGW := Lib.hid X.GW
  have HX := Lib.hid X
  rw [hmay] at HM
  obtain ⟨ne, hne⟩ : ∃ ne, ne = es.length := ⟨_, rfl⟩
  obtain ⟨N, hN⟩ : ∃ N, N = strOf s := ⟨_, rfl⟩
  rw [← hne, ← hN] at HM hW ⊢
  rw [← hne] at z4
  rw [← hN] at z3
  have HWQ := Lib.hid hW
  have HNE := Lib.hid hne
  have HNQ := Lib.hid hN
  have HGQ := Lib.hid hG
  clear hne hN hW hG X hmay
  have hn1 : ¬ (ne : Int) = 2 := by rw [HNE.out]; omega
  have hn1b : ((ne : Int) == 2) = false := by rw [beq_eq_false_iff_ne]; exact hn1
  clear h1
  go_enter Tryz.func20, Tryz.ntmps20
  go_upto_region 2 with fail
  rw [← HWQ.out, ← HGQ.out]
  go_wp2_with (first
    | ((with_reducible refine (HM.out _).mono ?_); rintro e w1 ⟨rfl, hb1⟩; have HB1 := Lib.hid hb1; have q0 := (hb1.cell (p := ⟨G, 0, none⟩) HGW.out).trans z0; have q2 := (hb1.cell (p := ⟨G, 2, none⟩) HGW.out).trans z2; have q3 := (hb1.cell (p := ⟨G, 3, none⟩) HGW.out).trans z3; have q4 := (hb1.cell (p := ⟨G, 4, none⟩) HGW.out).trans z4; clear hb1))
  go_ret
  exact ⟨rfl, L, by omega, Int.le_refl _, HX.out.v.below HB1.out, (But.refl g B W).box HB1.out (by have := HX.out.gG; have := HX.out.GW; have := HX.out.Bg; omega)⟩

end Go.Proofs.YtadkimnpeachpaaGreatDoor
