/- Ag Ah Ai Ax Aj Ad Ak Al Fa -/
import Derived.Test.YtbckeljbpknbdaaGreatDoorVa0
import Derived.Shelf.Strconv.Atoi
import Derived.Test.YtbckeljbpknbdaaGreatDoorRows
import Derived.Lib.AtoiErrMem
import Derived.Deep.RegionHeld3
import Derived.Deep.RegionLaw
import Derived.Laws.EntriesVeiled
set_option linter.unusedVariables false
set_option linter.unusedSimpArgs false
namespace Go.Proofs.YtbckeljbpknbdaaGreatDoor
open Go.RowKit
theorem Xnb (l : List (List UInt8)) (s : List UInt8) : Lib.containsS (l.map Xab) (Xab s) = decide (s ∈ l) := by
 rw [Bool.eq_iff_iff, Lib.containsS_iff, decide_eq_true_eq, List.mem_map]
 constructor
 · rintro ⟨a, ha, he⟩
   have := congrArg (fun x => x.data.toList) he
   have : a = s := this
   rw [← this]; exact ha
 · intro h; exact ⟨s, h, rfl⟩
theorem row3 {w : World} {g : Nat} {a b c : Value} {t : TypeId} (h : w.heap[g]? = some (.cells #[a, b, c] t (0, 0))) :
  w.cell? ⟨g, 0, none⟩ = some a ∧ w.cell? ⟨g, 1, none⟩ = some b ∧ w.cell? ⟨g, 2, none⟩ = some c ∧ w.frozen? ⟨g, 0, none⟩ = false ∧ w.frozen? ⟨g, 1, none⟩ = false ∧ w.frozen? ⟨g, 2, none⟩ = false :=
 ⟨by rw [cell_of_row w g 0 _ _ (0, 0) h]; rfl, by rw [cell_of_row w g 1 _ _ (0, 0) h]; rfl, by rw [cell_of_row w g 2 _ _ (0, 0) h]; rfl, frozen_of_row w g 0 _ _ h, frozen_of_row w g 1 _ _ h, frozen_of_row w g 2 _ _ h⟩
theorem Chg.row {w w' : World} {R g : Nat} {o : Obj} (h : Chg (fun b => b = R) w w') (hg : w.heap[g]? = some o) (hne : g ≠ R) : w'.heap[g]? = some o := (h.block g (Xac hg) hne).trans hg
theorem Xia {w w1 : World} {R : Nat} (h : Chg (fun b => b = R) w w1) {p : Addr} (hp : w.heap.size ≤ p.block) (u : Value) : Chg (fun b => b = R) w (w1.setCell p u) := h.setCell p u fun e => by omega
theorem Xty {w : World} {B R L : Nat} {us : List Tok} (h : RdAt w B R L us) {p : Addr} (hp : B ≤ p.block) (u : Value) : RdAt (w.setCell p u) B R L us := h.setCell p u hp
set_option maxRecDepth 100000 in
theorem Xan {w : World} {B R L : Nat} {us : List Tok} (h : RdAt w B R L us) (hB : B ≤ w.heap.size) (ts : List (List UInt8)) (hn : ts.length ≤ 1000) (hne : [] ∉ ts) :
  Calls Tryz.prog 50 #[.pointer (some ⟨R, 0, none⟩), .slice (some ⟨w.heap.size, 0, none⟩) ts.length ts.length] (w.alloc (.cells (Xgt ts) 9)) (Xaj TokV w B R L (Xal L ts us)) := by
 obtain ⟨X, hX⟩ : ∃ X : World, X = w.alloc (.cells (Xgt ts) 9) := ⟨_, rfl⟩
 obtain ⟨Y, hY⟩ : ∃ Y : World, Y = X.alloc (.cells #[.int .i64 0, .string ⟨#[]⟩, .int .i64 0] 76) := ⟨_, rfl⟩
 have hbX : Below w.heap.size w X := by rw [hX]; exact Xae _ _
 have hbXY : Below X.heap.size X Y := by rw [hY]; exact Xae _ _
 have hbY : Below w.heap.size w Y := hbX.trans (hbXY.mono hbX.size)
 have hXs : X.heap[w.heap.size]? = some (.cells (Xgt ts) 9 (0, 0)) := by rw [hX]; exact heap_alloc_new _ _
 have hYs := (hbXY.block _ (Xac hXs)).trans hXs
 have hYg : Y.heap[X.heap.size]? = some (.cells #[.int .i64 0, .string ⟨#[]⟩, .int .i64 0] 76 (0, 0)) := by rw [hY]; exact Xgi _ _ _ _
 have hRY := h.below' hB hbY
 have hBY : B ≤ Y.heap.size := Nat.le_trans hB hbY.size
 have HNX := lh (Xeg hRY)
 have HCON : Hid (∀ wx, Below Y.heap.size Y wx → Calls Tryz.prog 77 #[.slice (some ⟨w.heap.size, 0, none⟩) ts.length ts.length, .string (Xab (tx us))] wx fun e w' => e = .returned (.bool (decide (tx us ∈ ts))) ∧ w' = wx) := lh fun wx hb => by
  have hx := (hb.block _ (Xac hYs)).trans hYs
  have := slices_Contains_string w.heap.size 0 ts.length ts.length (ts.map Xab) (Xab (tx us)) wx (by simp) (by omega) (fun j hj => by
   rw [Nat.zero_add, cell_of_row _ _ j _ _ (0, 0) hx]
   simp only [List.length_map] at hj
   simp [Xgt, List.getElem?_eq_getElem hj])
  rw [List.take_of_length_le (by simp), Xnb] at this
  exact this
 have HRY := lh hRY
 have HBB := lh hBY
 have HY0 := lh hbY
 have HG := lh hYg
 have HXB := lh hbX
 have hf := Xdn
 have hgR : X.heap.size ≠ R := fun e => by have := h.lt; have := hbX.size; omega
 have HGR := lh hgR
 have hX1 := lh hX
 have hY1 := lh hY
 obtain ⟨K, hK⟩ : ∃ K : Int, K = (kd us : Nat) := ⟨_, rfl⟩
 obtain ⟨P, hP⟩ : ∃ P : Int, P = (plc L us : Nat) := ⟨_, rfl⟩
 rw [← hK, ← hP] at HNX
 have hBw : B ≤ X.heap.size := Nat.le_trans hB hbX.size
 have HBX := lh hBw
 rw [← hX]
 by_cases hm : tx us ∈ ts
 · match us, hm with
   | [], hm => exact absurd hm hne
   | t :: r, hm =>
     have HM : Hid (Xal L ts (t :: r) = .ok t r) := lh (by rw [Xal, if_pos (show t.text ∈ ts from hm)])
     have HOK := lh (h.ok t (by simp))
     have hd : decide (tx (t :: r) ∈ ts) = true := decide_eq_true hm
     rw [hd] at HCON
     clear hX hY hbX hbXY hbY hXs hYs hYg hRY hBY hK hP hgR h hd hm hBw hne
     go_enter Tryz.func50, Tryz.ntmps50
     go_wp2_with fail
     rw [← hY1.out]
     refine HNX.out.mono ?_
     rintro e w1 ⟨rfl, hb⟩
     have HB1 := lh hb
     clear hb
     go_wp2_with fail
     refine (HCON.out w1 HB1.out).mono ?_
     rintro e w2 ⟨rfl, rfl⟩
     go_wp2_with fail
     refine (Xcb _ _ _).mono ?_
     rintro e w2 ⟨rfl, rfl⟩
     go_wp2_with fail
     refine (Xbn (HRY.out.below' HBB.out HB1.out) (Nat.le_trans HBB.out HB1.out.size)).mono ?_
     rintro e w2 ⟨rfl, hr, hc⟩
     obtain ⟨m0, m1, m2, f0, f1, f2⟩ := row3 (hc.row ((HB1.out.block _ (Xac HG.out)).trans HG.out) HGR.out)
     have HR := lh hr
     have HC := lh (Xbf (HY0.out.trans (HB1.out.mono HY0.out.size)) hc)
     clear hr hc
     go_wp2
     refine bodyPost_ret (v := .agg #[.int .i64 (t.kind : Nat), .string (Xab t.text), .int .i64 (t.pl : Nat)]) ?_ rfl ?_
     · simp [results, Tryz.results50, go_sem, m0, m1, m2]
     · rw [HM.out]
       exact ⟨⟨_, rfl, rfl, HOK.out⟩, Xty (Xty (Xty HR.out HBX.out _) HBX.out _) HBX.out _, Xia (Xia (Xia HC.out HXB.out.size _) HXB.out.size _) HXB.out.size _⟩
 · have HM : Hid (Xal L ts us = .bad (plc L us) 20) := lh (by
    cases us with
    | nil => rfl
    | cons t r => rw [Xal, if_neg (show ¬ t.text ∈ ts from hm)]; rfl)
   have hd : decide (tx us ∈ ts) = false := decide_eq_false hm
   rw [hd] at HCON
   clear hX hY hbX hbXY hbY hXs hYs hYg hRY hBY hK hP hgR h hd hm hBw hne
   go_enter Tryz.func50, Tryz.ntmps50
   go_wp2_with fail
   rw [← hY1.out]
   refine HNX.out.mono ?_
   rintro e w1 ⟨rfl, hb⟩
   have HB1 := lh hb
   clear hb
   go_wp2_with fail
   refine (HCON.out w1 HB1.out).mono ?_
   rintro e w2 ⟨rfl, rfl⟩
   go_wp2_with fail
   refine (Xel (HRY.out.below' HBB.out HB1.out) 20).mono ?_
   rintro e w2 ⟨rfl, hb⟩
   have HB2 := lh (HY0.out.trans ((HB1.out.trans (hb.mono HB1.out.size)).mono HY0.out.size))
   clear hb
   unfold Xag
   go_wp2
   rw [HM.out]
   exact ⟨rfl, rfl, Chg.of_below HB2.out⟩
section
section
variable {α β : Type} {x : Rd α} {a : α} {r : List Tok} {p c : Nat}
theorem Xap {f : α → List Tok → Rd β} (h : x = .ok a r) : x.bind f = f a r := by rw [h]; rfl
theorem Xam {f : α → List Tok → Rd β} (h : x = .bad p c) : x.bind f = .bad p c := by rw [h]; rfl
theorem Xbi {f : α → β} (h : x = .ok a r) : x.map f = .ok (f a) r := by rw [h]; rfl
theorem Xbc {f : α → β} (h : x = .bad p c) : x.map f = .bad p c := by rw [h]; rfl
end
theorem Chg.up {P : Nat → Prop} {a b c : World} (h : Chg P a b) (k : Chg P b c) : Chg P a c := h.trans k fun _ _ e => e
theorem Xfw {w : World} {B R L : Nat} {us : List Tok} (h : RdAt w B R L us) (hB : B ≤ w.heap.size) (s : List UInt8) (hs : s ≠ []) :
  Calls Tryz.prog 111 #[.pointer (some ⟨R, 0, none⟩), .string (Xab s)] w fun e w' => e = .returned (.bool (decide (tx us = s))) ∧ RdAt w' B R L (if tx us = s then us.tail else us) ∧ Chg (fun b => b = R) w w' := by
 have HNX := lh (Xeg h)
 have HH := lh h
 have hf := Xdn
 obtain ⟨K, hK⟩ : ∃ K : Int, K = (kd us : Nat) := ⟨_, rfl⟩
 obtain ⟨P, hP⟩ : ∃ P : Int, P = (plc L us : Nat) := ⟨_, rfl⟩
 rw [← hK, ← hP] at HNX
 by_cases hm : tx us = s
 · match us, hm with
   | [], hm => exact absurd hm.symm hs
   | t :: r, hm =>
     have e1 : ((Xab (tx (t :: r))).toList == (Xab s).toList) = true := by rw [hm]; exact beq_self_eq_true _
     have HE : Hid (decide (tx (t :: r) = s) = true ∧ (if tx (t :: r) = s then (t :: r).tail else t :: r) = r) := lh ⟨decide_eq_true hm, by rw [if_pos hm]; rfl⟩
     rw [HE.out.1, HE.out.2]
     obtain ⟨T, hT⟩ : ∃ T, T = Xab (tx (t :: r)) := ⟨_, rfl⟩
     obtain ⟨S, hS⟩ : ∃ S, S = Xab s := ⟨_, rfl⟩
     rw [← hT, ← hS] at e1
     rw [← hT] at HNX
     rw [← hS]
     clear hK hP h hm hs hT hS
     go_enter Tryz.func111, Tryz.ntmps111
     go_wp2_with fail
     refine HNX.out.mono ?_
     rintro e w1 ⟨rfl, hb⟩
     have HB1 := lh hb
     clear hb
     go_wp2_with fail
     refine (Xbn (HH.out.below' hB HB1.out) (Nat.le_trans hB HB1.out.size)).mono ?_
     rintro e w2 ⟨rfl, hr, hc⟩
     have HR := lh hr
     have HC := lh (Xbf HB1.out hc)
     clear hr hc
     go_wp2
     go_ret
     exact ⟨rfl, HR.out, HC.out⟩
 · have e1 : ((Xab (tx us)).toList == (Xab s).toList) = false := by
    rw [Xad, Xad]; simpa using hm
   have HE : Hid (decide (tx us = s) = false ∧ (if tx us = s then us.tail else us) = us) := lh ⟨decide_eq_false hm, by rw [if_neg hm]⟩
   rw [HE.out.1, HE.out.2]
   obtain ⟨T, hT⟩ : ∃ T, T = Xab (tx us) := ⟨_, rfl⟩
   obtain ⟨S, hS⟩ : ∃ S, S = Xab s := ⟨_, rfl⟩
   rw [← hT, ← hS] at e1
   rw [← hT] at HNX
   rw [← hS]
   clear hK hP h hm hs hT hS
   go_enter Tryz.func111, Tryz.ntmps111
   go_wp2_with fail
   refine HNX.out.mono ?_
   rintro e w1 ⟨rfl, hb⟩
   have HB1 := lh hb
   clear hb
   go_wp2
   go_ret
   exact ⟨rfl, HH.out.below' hB HB1.out, Chg.of_below HB1.out⟩
theorem Xff {w : World} {B R L : Nat} {us : List Tok} (h : RdAt w B R L us) (b : Bool) (x y : Nat) :
  Calls Tryz.prog 51 #[.pointer (some ⟨R, 0, none⟩), .bool b, .int .i64 (x : Nat), .int .i64 (y : Nat)] w (Xaj UnV w B R L (Xcc L b x y us)) := by
 have HH := lh h
 clear h
 cases b with
 | false =>
   have HM : Hid (Xcc L false x y us = .bad (plc L us) 20) := lh rfl
   go_enter Tryz.func51, Tryz.ntmps51
   go_wp2_with fail
   refine (Xel HH.out 20).mono ?_
   rintro e w2 ⟨rfl, hb⟩
   have HB2 := lh hb
   clear hb
   unfold Xag
   go_wp2
   rw [HM.out]
   exact ⟨rfl, rfl, Chg.of_below HB2.out⟩
 | true =>
   by_cases hxy : x < y
   · have HM : Hid (Xcc L true x y us = .ok () us) := lh (by unfold Xcc; rw [if_pos rfl, if_pos hxy])
     have hd : (x : Int) < (y : Int) := by omega
     go_enter Tryz.func51, Tryz.ntmps51
     go_wp2_with fail
     refine (Xcb _ _ _).mono ?_
     rintro e w2 ⟨rfl, rfl⟩
     go_wp2_with fail
     refine (Xcb _ _ _).mono ?_
     rintro e w2 ⟨rfl, rfl⟩
     go_wp2
     go_end0
     rw [HM.out]
     exact ⟨⟨_, rfl, rfl⟩, HH.out, Chg.refl _ _⟩
   · have HM : Hid (Xcc L true x y us = .bad (plc L us) 22) := lh (by unfold Xcc; rw [if_pos rfl, if_neg hxy])
     have hd : ¬ (x : Int) < (y : Int) := by omega
     go_enter Tryz.func51, Tryz.ntmps51
     go_wp2_with fail
     refine (Xcb _ _ _).mono ?_
     rintro e w2 ⟨rfl, rfl⟩
     go_wp2_with fail
     refine (Xel HH.out 22).mono ?_
     rintro e w2 ⟨rfl, hb⟩
     have HB2 := lh hb
     clear hb
     unfold Xag
     go_wp2
     rw [HM.out]
     exact ⟨rfl, rfl, Chg.of_below HB2.out⟩
theorem Xpk {w : World} {B R L : Nat} {us : List Tok} (h : RdAt w B R L us) (hB : B ≤ w.heap.size) (x : Nat) :
  Calls Tryz.prog 81 #[.pointer (some ⟨R, 0, none⟩), .int .i64 (x : Nat)] w (Xaj UnV w B R L (Xeq L x us)) := by
 have HH := lh h
 by_cases hx : 0 < x
 · have HM : Hid (Xeq L x us = (Xal L [[44]] us).map fun _ => ()) := lh (by unfold Xeq; rw [if_pos hx])
   have hd : (0 : Int) < (x : Int) := by omega
   have HT := lh (Xan h hB [[44]] (by simp) (by decide))
   clear h hx
   go_enter Tryz.func81, Tryz.ntmps81
   go_wp2_with fail
   refine HT.out.mono ?_
   rintro e w1 hp
   cases hR : Xal L [[44]] us with
   | bad p c =>
     have HM1 := lh (HM.out.trans (Xbc hR))
     rw [hR] at hp
     obtain ⟨rfl, hc⟩ := hp
     have HC := lh hc
     clear hR hc
     unfold Xag
     go_wp2
     rw [HM1.out]
     exact ⟨rfl, rfl, HC.out⟩
   | ok t r =>
     have HM1 := lh (HM.out.trans (Xbi hR))
     rw [hR] at hp
     obtain ⟨⟨v, rfl, hv⟩, hr, hc⟩ := hp
     have HR := lh hr
     have HC := lh hc
     clear hR hr hc hv
     go_wp2
     go_end0
     rw [HM1.out]
     exact ⟨⟨_, rfl, rfl⟩, HR.out, HC.out⟩
 · have HM : Hid (Xeq L x us = .ok () us) := lh (by unfold Xeq; rw [if_neg hx])
   have hd : ¬ (0 : Int) < (x : Int) := by omega
   clear h hx
   go_enter Tryz.func81, Tryz.ntmps81
   go_wp2
   go_end0
   rw [HM.out]
   exact ⟨⟨_, rfl, rfl⟩, HH.out, Chg.refl _ _⟩
end
theorem Xoo {L : Nat} {T : List (List UInt8)} {us r : List Tok} {t : Tok} (h : Xal L T us = .ok t r) : t.text ∈ T := by
 cases us with
 | nil => cases h
 | cons u s =>
   rw [Xal] at h
   split at h
   · cases h; assumption
   · cases h
theorem str_of {S : ByteArray} {l : List UInt8} (h : S.toList = l) : S = Xab l := by
 rw [← h, ByteArray.toList_eq]; cases S; rfl
theorem Yae {w : World} {B R L : Nat} {us r : List Tok} {s : List UInt8} (h : RdAt w B R L us) (hn : Xbo L us = .ok s r) : s.length ≤ 16 := by
 cases us with
 | nil => cases hn
 | cons t u =>
   rw [Xbo] at hn
   split at hn
   · rename_i hk
     cases hn
     have := (h.ok t (by simp)).2.2.1 hk
     unfold Xfb at this
     exact (of_decide_eq_true this).2.2
   · cases hn
theorem star_str (s : List UInt8) : (⟨#[42]⟩ : ByteArray) ++ Xab s = Xab (42 :: s) := ByteArray.ext (by simp [Xab])
set_option maxRecDepth 100000 in
theorem Xjb {w : World} {B R L : Nat} {us : List Tok} (h : RdAt w B R L us) (hB : B ≤ w.heap.size) :
  Calls Tryz.prog 56 #[.pointer (some ⟨R, 0, none⟩)] w (Xaj StrV w B R L (Xem L us)) := by
 have HR0 := lh h
 have HS0 := lh hB
 have HC0 := lh (Chg.refl (fun b => b = R) w)
 have HM0 := lh (Xem.eq_1 L us)
 have hf := Xdn
 clear h hB
 go_enter Tryz.func56, Tryz.ntmps56
 go_wp2_with fail
 refine (Xan HR0.out HS0.out [[105, 110, 116], [98, 111, 111, 108], [91], [42]] (by simp) (by decide)).mono ?_
 rintro e w1 hp
 cases hx : Xal L [[105, 110, 116], [98, 111, 111, 108], [91], [42]] us with
 | bad p c =>
   have HM1 := lh (HM0.out.trans (Xam hx))
   rw [hx] at hp
   obtain ⟨rfl, hc⟩ := hp
   have HC1 := lh (HC0.out.up hc)
   clear hx hc
   unfold Xag
   go_wp2
   rw [HM1.out]
   exact ⟨rfl, rfl, HC1.out⟩
 | ok a1 u1 =>
   have HM1 := lh (HM0.out.trans (Xap hx))
   rw [hx] at hp
   obtain ⟨⟨v1, rfl, hv⟩, hr, hc⟩ := hp
   have HR1 := lh hr
   have HC1 := lh (HC0.out.up hc)
   have HS1 := lh (Nat.le_trans HS0.out hc.size)
   have HX1 := lh hx
   clear hx hr hc
   have hmem : a1.text = [105, 110, 116] ∨ a1.text = [98, 111, 111, 108] ∨ a1.text = [91] ∨ a1.text = [42] := by
    have := Xoo HX1.out
    simpa using this
   rcases hmem with ht | ht | ht | ht
   ·
    obtain ⟨rfl, hok⟩ := hv
    obtain ⟨S, hS⟩ : ∃ S, S = Xab a1.text := ⟨_, rfl⟩
    have hl : S.toList = [105, 110, 116] := by rw [hS, Xad, ht]
    rw [← hS]
    clear hS hok
    obtain ⟨K, hK⟩ : ∃ K : Int, K = (a1.kind : Nat) := ⟨_, rfl⟩
    obtain ⟨P, hP⟩ : ∃ P : Int, P = (a1.pl : Nat) := ⟨_, rfl⟩
    rw [← hK, ← hP]
    clear hK hP
    have HM2 := lh (HM1.out.trans ((if_neg (by rw [ht]; decide)).trans (if_neg (by rw [ht]; decide))))
    have HV : Hid (S = Xab a1.text ∧ a1.text.length ≤ 16384) := lh ⟨by rw [ht]; exact str_of hl, by rw [ht]; simp⟩
    clear ht
    go_wp2
    go_ret
    rw [HM2.out]
    exact ⟨⟨_, rfl, by rw [HV.out.1]; rfl, HV.out.2⟩, HR1.out, HC1.out⟩
   ·
    obtain ⟨rfl, hok⟩ := hv
    obtain ⟨S, hS⟩ : ∃ S, S = Xab a1.text := ⟨_, rfl⟩
    have hl : S.toList = [98, 111, 111, 108] := by rw [hS, Xad, ht]
    rw [← hS]
    clear hS hok
    obtain ⟨K, hK⟩ : ∃ K : Int, K = (a1.kind : Nat) := ⟨_, rfl⟩
    obtain ⟨P, hP⟩ : ∃ P : Int, P = (a1.pl : Nat) := ⟨_, rfl⟩
    rw [← hK, ← hP]
    clear hK hP
    have HM2 := lh (HM1.out.trans ((if_neg (by rw [ht]; decide)).trans (if_neg (by rw [ht]; decide))))
    have HV : Hid (S = Xab a1.text ∧ a1.text.length ≤ 16384) := lh ⟨by rw [ht]; exact str_of hl, by rw [ht]; simp⟩
    clear ht
    go_wp2
    go_ret
    rw [HM2.out]
    exact ⟨⟨_, rfl, by rw [HV.out.1]; rfl, HV.out.2⟩, HR1.out, HC1.out⟩
   ·
    obtain ⟨rfl, hok⟩ := hv
    obtain ⟨S, hS⟩ : ∃ S, S = Xab a1.text := ⟨_, rfl⟩
    have hl : S.toList = [91] := by rw [hS, Xad, ht]
    rw [← hS]
    clear hS hok
    obtain ⟨K, hK⟩ : ∃ K : Int, K = (a1.kind : Nat) := ⟨_, rfl⟩
    obtain ⟨P, hP⟩ : ∃ P : Int, P = (a1.pl : Nat) := ⟨_, rfl⟩
    rw [← hK, ← hP]
    clear hK hP
    have HM1 := lh (HM1.out.trans (if_pos ht))
    clear ht
    go_wp2_with fail
    refine (Xan HR1.out HS1.out [[93]] (by simp) (by decide)).mono ?_
    rintro e w2 hp
    cases hx : Xal L [[93]] u1 with
    | bad p c =>
      have HM2 := lh (HM1.out.trans (Xam hx))
      rw [hx] at hp
      obtain ⟨rfl, hc⟩ := hp
      have HC2 := lh (HC1.out.up hc)
      clear hx hc
      unfold Xag
      go_wp2
      rw [HM2.out]
      exact ⟨rfl, rfl, HC2.out⟩
    | ok a2 u2 =>
      have HM2 := lh (HM1.out.trans (Xap hx))
      rw [hx] at hp
      obtain ⟨⟨v2, rfl, hv⟩, hr, hc⟩ := hp
      have HR2 := lh hr
      have HC2 := lh (HC1.out.up hc)
      have HS2 := lh (Nat.le_trans HS1.out hc.size)
      have HX2 := lh hx
      clear hx hr hc
      clear hv
      go_wp2_with fail
      refine (Xan HR2.out HS2.out [[105, 110, 116]] (by simp) (by decide)).mono ?_
      rintro e w3 hp
      cases hx : Xal L [[105, 110, 116]] u2 with
      | bad p c =>
        have HM3 := lh (HM2.out.trans (Xbc hx))
        rw [hx] at hp
        obtain ⟨rfl, hc⟩ := hp
        have HC3 := lh (HC2.out.up hc)
        clear hx hc
        unfold Xag
        go_wp2
        rw [HM3.out]
        exact ⟨rfl, rfl, HC3.out⟩
      | ok a3 u3 =>
        have HM3 := lh (HM2.out.trans (Xbi hx))
        rw [hx] at hp
        obtain ⟨⟨v3, rfl, hv⟩, hr, hc⟩ := hp
        have HR3 := lh hr
        have HC3 := lh (HC2.out.up hc)
        have HS3 := lh (Nat.le_trans HS2.out hc.size)
        have HX3 := lh hx
        clear hx hr hc
        clear hv
        go_wp2
        go_ret
        rw [HM3.out]
        exact ⟨⟨_, rfl, ⟨rfl, by simp⟩⟩, HR3.out, HC3.out⟩
   ·
    obtain ⟨rfl, hok⟩ := hv
    obtain ⟨S, hS⟩ : ∃ S, S = Xab a1.text := ⟨_, rfl⟩
    have hl : S.toList = [42] := by rw [hS, Xad, ht]
    rw [← hS]
    clear hS hok
    obtain ⟨K, hK⟩ : ∃ K : Int, K = (a1.kind : Nat) := ⟨_, rfl⟩
    obtain ⟨P, hP⟩ : ∃ P : Int, P = (a1.pl : Nat) := ⟨_, rfl⟩
    rw [← hK, ← hP]
    clear hK hP
    have HM1 := lh (HM1.out.trans ((if_neg (by rw [ht]; decide)).trans (if_pos ht)))
    clear ht
    go_wp2_with fail
    refine (Xcr HR1.out HS1.out).mono ?_
    rintro e w2 hp
    cases hx : Xbo L u1 with
    | bad p c =>
      have HM2 := lh (HM1.out.trans (Xbc hx))
      rw [hx] at hp
      obtain ⟨rfl, hc⟩ := hp
      have HC2 := lh (HC1.out.up hc)
      clear hx hc
      unfold Xag
      go_wp2
      rw [HM2.out]
      exact ⟨rfl, rfl, HC2.out⟩
    | ok a2 u2 =>
      have HM2 := lh (HM1.out.trans (Xbi hx))
      rw [hx] at hp
      obtain ⟨⟨v2, rfl, hv⟩, hr, hc⟩ := hp
      have HR2 := lh hr
      have HC2 := lh (HC1.out.up hc)
      have HS2 := lh (Nat.le_trans HS1.out hc.size)
      have HX2 := lh hx
      clear hx hr hc
      obtain ⟨rfl, hsz⟩ := hv
      have hq : ¬ 9223372036854775807 < 1 + (Xab a2).size := by rw [Lib.size_eq, Xbe]; omega
      have HN2 : Hid (a2.length ≤ 15384) := lh (by have := Yae HR1.out HX2.out; omega)
      clear hsz
      go_wp2
      go_ret
      rw [HM2.out]
      exact ⟨⟨_, rfl, by rw [star_str]; rfl, by have := HN2.out; simp; omega⟩, HR2.out, HC2.out⟩
def PrV (_ : World) (p : Pr) (v : Value) : Prop := v = .agg #[.string (Xab p.name), .string (Xab p.type)] ∧ p.name.length ≤ 16384 ∧ p.type.length ≤ 16384
theorem row2 {w : World} {g : Nat} {a b : Value} {t : TypeId} (h : w.heap[g]? = some (.cells #[a, b] t (0, 0))) :
  w.cell? ⟨g, 0, none⟩ = some a ∧ w.cell? ⟨g, 1, none⟩ = some b ∧ w.frozen? ⟨g, 0, none⟩ = false ∧ w.frozen? ⟨g, 1, none⟩ = false :=
 ⟨by rw [cell_of_row w g 0 _ _ (0, 0) h]; rfl, by rw [cell_of_row w g 1 _ _ (0, 0) h]; rfl, frozen_of_row w g 0 _ _ h, frozen_of_row w g 1 _ _ h⟩
set_option maxRecDepth 100000 in
theorem Xke {w : World} {B R L : Nat} {us : List Tok} (h : RdAt w B R L us) (hB : B ≤ w.heap.size) (x y : Nat) :
  Calls Tryz.prog 79 #[.pointer (some ⟨R, 0, none⟩), .int .i64 (x : Nat), .int .i64 (y : Nat)] w (Xaj PrV w B R L (Xhg L y x us)) := by
 have HR0 := lh h
 have HS0 := lh hB
 have HC0 := lh (Chg.refl (fun b => b = R) w)
 have HM0 := lh (Xhg.eq_1 L y x us)
 obtain ⟨X, hX⟩ : ∃ X : World, X = w.alloc (.cells #[.string ⟨#[]⟩, .string ⟨#[]⟩] 49) := ⟨_, rfl⟩
 have hbX : Below w.heap.size w X := by rw [hX]; exact Xae _ _
 have hXg : X.heap[w.heap.size]? = some (.cells #[.string ⟨#[]⟩, .string ⟨#[]⟩] 49 (0, 0)) := by rw [hX]; exact heap_alloc_new _ _
 have HG := lh hXg
 have HGR := lh (show w.heap.size ≠ R from fun e => by have := h.lt; omega)
 have HR0 := lh (h.below' hB hbX)
 have HS0 := lh (Nat.le_trans hB hbX.size)
 have HB0 := lh hbX
 have HC0 := lh (Chg.refl (fun b => b = R) X)
 have HX0 := lh hX
 have HBW := lh hB
 have HI := lh (Xda HR0.out)
 clear h hB hX hbX hXg
 go_enter Tryz.func79, Tryz.ntmps79
 go_wp2_with fail
 rw [← HX0.out]
 refine HI.out.mono ?_
 rintro e wi ⟨rfl, hb⟩
 have HRi := lh (HR0.out.below' HS0.out hb)
 have HCi := lh (Chg.of_below (P := fun b => b = R) hb)
 have HSi := lh (Nat.le_trans HS0.out hb.size)
 clear hb
 go_wp2_with fail
 refine (Xff HRi.out (decide (kd us = 1)) x y).mono ?_
 rintro e w1 hp
 cases hx : Xcc L (decide (kd us = 1)) x y us with
 | bad p c =>
   have HM1 := lh (HM0.out.trans (Xam hx))
   rw [hx] at hp
   obtain ⟨rfl, hc⟩ := hp
   have HC1 := lh (HCi.out.up hc)
   clear hx hc
   have HC1 := lh (Xbf HB0.out HC1.out)
   unfold Xag
   go_wp2
   rw [HM1.out]
   exact ⟨rfl, rfl, HC1.out⟩
 | ok a1 u1 =>
   have HM1 := lh (HM0.out.trans (Xap hx))
   rw [hx] at hp
   obtain ⟨⟨v1, rfl, hv⟩, hr, hc⟩ := hp
   have HR1 := lh hr
   have HC1 := lh (HCi.out.up hc)
   have HS1 := lh (Nat.le_trans HSi.out hc.size)
   have HX1 := lh hx
   clear hv
   clear hx hr hc
   go_wp2_with fail
   refine (Xcr HR1.out HS1.out).mono ?_
   rintro e w2 hp
   cases hx : Xbo L u1 with
   | bad p c =>
     have HM2 := lh (HM1.out.trans (Xam hx))
     rw [hx] at hp
     obtain ⟨rfl, hc⟩ := hp
     have HC2 := lh (HC1.out.up hc)
     clear hx hc
     have HC2 := lh (Xbf HB0.out HC2.out)
     unfold Xag
     go_wp2
     rw [HM2.out]
     exact ⟨rfl, rfl, HC2.out⟩
   | ok a2 u2 =>
     have HM2 := lh (HM1.out.trans (Xap hx))
     rw [hx] at hp
     obtain ⟨⟨v2, rfl, hv⟩, hr, hc⟩ := hp
     have HR2 := lh hr
     have HC2 := lh (HC1.out.up hc)
     have HS2 := lh (Nat.le_trans HS1.out hc.size)
     have HX2 := lh hx
     have hv2 := hv
     clear hv
     clear hx hr hc
     go_wp2_with fail
     refine (Xjb HR2.out HS2.out).mono ?_
     rintro e w3 hp
     cases hx : Xem L u2 with
     | bad p c =>
       have HM3 := lh (HM2.out.trans (Xbc hx))
       rw [hx] at hp
       obtain ⟨rfl, hc⟩ := hp
       have HC3 := lh (HC2.out.up hc)
       clear hx hc
       have HC3 := lh (Xbf HB0.out HC3.out)
       unfold Xag
       go_wp2
       rw [HM3.out]
       exact ⟨rfl, rfl, HC3.out⟩
     | ok a3 u3 =>
       have HM3 := lh (HM2.out.trans (Xbi hx))
       rw [hx] at hp
       obtain ⟨⟨v3, rfl, hv⟩, hr, hc⟩ := hp
       have HR3 := lh hr
       have HC3 := lh (HC2.out.up hc)
       have HS3 := lh (Nat.le_trans HS2.out hc.size)
       have HX3 := lh hx
       clear hx hr hc
       obtain ⟨rfl, hl2⟩ := hv2
       obtain ⟨rfl, hl3⟩ := hv
       obtain ⟨m0, m1, f0, f1⟩ := row2 (HC3.out.row HG.out HGR.out)
       go_wp2
       refine bodyPost_ret (v := .agg #[.string (Xab a2), .string (Xab a3)]) ?_ rfl ?_
       · simp [results, Tryz.results79, go_sem, m0, m1]
       · rw [HM3.out]
         exact ⟨⟨_, rfl, rfl, hl2, hl3⟩, Xty (Xty HR3.out HBW.out _) HBW.out _, Xia (Xia (Xbf HB0.out HC3.out) (Nat.le_refl _) _) (Nat.le_refl _) _⟩
section
open Go.Shelf
def Xvw : Go.Shelf.Ren := ⟨fun | 172 => 114 | 244 => 128 | 245 => 129 | 247 => 134 | 279 => 135 | 280 => 136 | 281 => 137 | 282 => 138 | 287 => 139 | 316 => 75 | 171 => 141 | 205 => 140 | 321 => 142 | 322 => 143 | 243 => 144 | 246 => 145 | 283 => 146 | 284 => 147 | 285 => 148 | 286 => 149 | 129 => 102 | 317 => 150 | 318 => 151 | 319 => 152 | 320 => 153 | 337 => 154 | 338 => 155 | n => n, fun | 9 => 9 | 3 => 3 | 75 => 157 | 76 => 158 | 4 => 4 | 5 => 5 | 167 => 172 | 37 => 148 | 0 => 0 | 85 => 173 | 2 => 2 | 168 => 175 | 53 => 146 | 175 => 178 | 46 => 121 | 210 => 181 | 127 => 149 | 145 => 187 | 143 => 185 | 21 => 21 | 171 => 189 | 173 => 191 | 212 => 195 | 51 => 144 | 20 => 20 | 213 => 196 | 232 => 197 | 233 => 198 | 80 => 109 | n => n, fun | 15 => 1 | 16 => 2 | 17 => 3 | 18 => 4 | 19 => 5 | n => n⟩
theorem lays172 : Go.Proofs.Lays.n172 Tryz.prog Xvw := {
 mixed := by kernel_rfl
 f129 := Tryz.func102.trans (congrArg some (by kernel_rfl))
 f171 := Tryz.func141.trans (congrArg some (by kernel_rfl))
 f172 := Tryz.func114.trans (congrArg some (by kernel_rfl))
 f205 := Tryz.func140.trans (congrArg some (by kernel_rfl))
 f243 := Tryz.func144.trans (congrArg some (by kernel_rfl))
 f244 := Tryz.func128.trans (congrArg some (by kernel_rfl))
 f245 := Tryz.func129.trans (congrArg some (by kernel_rfl))
 f246 := Tryz.func145.trans (congrArg some (by kernel_rfl))
 f247 := Tryz.func134.trans (congrArg some (by kernel_rfl))
 f279 := Tryz.func135.trans (congrArg some (by kernel_rfl))
 f280 := Tryz.func136.trans (congrArg some (by kernel_rfl))
 f281 := Tryz.func137.trans (congrArg some (by kernel_rfl))
 f282 := Tryz.func138.trans (congrArg some (by kernel_rfl))
 f283 := Tryz.func146.trans (congrArg some (by kernel_rfl))
 f284 := Tryz.func147.trans (congrArg some (by kernel_rfl))
 f285 := Tryz.func148.trans (congrArg some (by kernel_rfl))
 f286 := Tryz.func149.trans (congrArg some (by kernel_rfl))
 f287 := Tryz.func139.trans (congrArg some (by kernel_rfl))
 f316 := Tryz.func75.trans (congrArg some (by kernel_rfl))
 f317 := Tryz.func150.trans (congrArg some (by kernel_rfl))
 f318 := Tryz.func151.trans (congrArg some (by kernel_rfl))
 f319 := Tryz.func152.trans (congrArg some (by kernel_rfl))
 f320 := Tryz.func153.trans (congrArg some (by kernel_rfl))
 f321 := Tryz.func142.trans (congrArg some (by kernel_rfl))
 f322 := Tryz.func143.trans (congrArg some (by kernel_rfl))
 f337 := Tryz.func154.trans (congrArg some (by kernel_rfl))
 f338 := Tryz.func155.trans (congrArg some (by kernel_rfl))
 t0 := Tryz.underlying0
 a0 := Tryz.isAgg0
 z0 := Tryz.sizeOf0
 v0 := Tryz.zeroValue0
 t2 := Tryz.underlying2
 a2 := Tryz.isAgg2
 z2 := Tryz.sizeOf2
 v2 := Tryz.zeroValue2
 t3 := Tryz.underlying3
 a3 := Tryz.isAgg3
 z3 := Tryz.sizeOf3
 v3 := Tryz.zeroValue3
 t4 := Tryz.underlying4
 a4 := Tryz.isAgg4
 z4 := Tryz.sizeOf4
 v4 := Tryz.zeroValue4
 t5 := Tryz.underlying5
 a5 := Tryz.isAgg5
 z5 := Tryz.sizeOf5
 v5 := Tryz.zeroValue5
 t9 := Tryz.underlying9
 a9 := Tryz.isAgg9
 z9 := Tryz.sizeOf9
 v9 := Tryz.zeroValue9
 t20 := Tryz.underlying20
 a20 := Tryz.isAgg20
 z20 := Tryz.sizeOf20
 v20 := Tryz.zeroValue20
 t21 := Tryz.underlying21
 a21 := Tryz.isAgg21
 z21 := Tryz.sizeOf21
 v21 := Tryz.zeroValue21
 t37 := Tryz.underlying148
 a37 := Tryz.isAgg148
 z37 := Tryz.sizeOf148
 v37 := Tryz.zeroValue148
 t46 := Tryz.underlying121
 a46 := Tryz.isAgg121
 z46 := Tryz.sizeOf121
 v46 := Tryz.zeroValue121
 t51 := Tryz.underlying144
 a51 := Tryz.isAgg144
 z51 := Tryz.sizeOf144
 v51 := Tryz.zeroValue144
 t53 := Tryz.underlying146
 a53 := Tryz.isAgg146
 z53 := Tryz.sizeOf146
 v53 := Tryz.zeroValue146
 t75 := Tryz.underlying157
 a75 := Tryz.isAgg157
 z75 := Tryz.sizeOf157
 v75 := Tryz.zeroValue157
 t76 := Tryz.underlying158
 a76 := Tryz.isAgg158
 z76 := Tryz.sizeOf158
 v76 := Tryz.zeroValue158
 t85 := Tryz.underlying173
 a85 := Tryz.isAgg173
 z85 := Tryz.sizeOf173
 v85 := Tryz.zeroValue173
 t127 := Tryz.underlying149
 a127 := Tryz.isAgg149
 z127 := Tryz.sizeOf149
 v127 := Tryz.zeroValue149
 t143 := Tryz.underlying185
 a143 := Tryz.isAgg185
 z143 := Tryz.sizeOf185
 v143 := Tryz.zeroValue185
 t145 := Tryz.underlying187
 a145 := Tryz.isAgg187
 z145 := Tryz.sizeOf187
 v145 := Tryz.zeroValue187
 t167 := Tryz.underlying172
 a167 := Tryz.isAgg172
 z167 := Tryz.sizeOf172
 v167 := Tryz.zeroValue172
 t168 := Tryz.underlying175
 a168 := Tryz.isAgg175
 z168 := Tryz.sizeOf175
 v168 := Tryz.zeroValue175
 t171 := Tryz.underlying189
 a171 := Tryz.isAgg189
 z171 := Tryz.sizeOf189
 v171 := Tryz.zeroValue189
 t173 := Tryz.underlying191
 a173 := Tryz.isAgg191
 z173 := Tryz.sizeOf191
 v173 := Tryz.zeroValue191
 t175 := Tryz.underlying178
 a175 := Tryz.isAgg178
 z175 := Tryz.sizeOf178
 v175 := Tryz.zeroValue178
 t210 := Tryz.underlying181
 a210 := Tryz.isAgg181
 z210 := Tryz.sizeOf181
 v210 := Tryz.zeroValue181
 t212 := Tryz.underlying195
 a212 := Tryz.isAgg195
 z212 := Tryz.sizeOf195
 v212 := Tryz.zeroValue195
 t213 := Tryz.underlying196
 a213 := Tryz.isAgg196
 z213 := Tryz.sizeOf196
 t232 := Tryz.underlying197
 a232 := Tryz.isAgg197
 z232 := Tryz.sizeOf197
 v232 := Tryz.zeroValue197
 t233 := Tryz.underlying198
 a233 := Tryz.isAgg198
 z233 := Tryz.sizeOf198
 v233 := Tryz.zeroValue198
 g15 := by kernel_rfl
 g16 := by kernel_rfl
 g17 := by kernel_rfl
 g18 := by kernel_rfl
 g19 := by kernel_rfl }
open Go.RowKit in
theorem strconv_Atoi (s : ByteArray) (n : Int) (hl : s.size ≤ 18) (h : Lib.atoi s.data.toList = some n) (w : World) :
  Calls Tryz.prog 114 #[.string s] w fun e w' => e = .returned (.tuple #[.int .i64 n, .nilIface]) ∧ ∃ t, w' = Lib.bytesWorld w 5 t := Any.strconv_Atoi lays172 s n hl h w
end
theorem Xng : ∀ (l : List UInt8) (acc : Nat), (∀ c ∈ l, Xcd c = true) → Lib.decFrom acc l = some (l.foldl (fun n c => n * 10 + (c.toNat - 48)) acc)
 | [], acc, _ => rfl
 | c :: r, acc, h => by
   have hc := h c (by simp)
   unfold Xcd at hc
   have hd : Lib.digitVal c = some (c.toNat - 48) := by unfold Lib.digitVal; rw [if_pos (by simpa using hc)]
   simp only [Lib.decFrom, hd]
   exact Xng r _ fun d hd => h d (by simp [hd])
theorem atoi_num {l : List UInt8} (h : ∀ c ∈ l, Xcd c = true) (hne : l ≠ []) : Lib.atoi l = some (numOf l : Nat) := by
 cases l with
 | nil => exact absurd rfl hne
 | cons c r =>
   have hc := h c (by simp)
   unfold Xcd at hc
   simp only [Bool.and_eq_true, decide_eq_true_eq] at hc
   have h1 : (c == 45) = false := by
    rw [beq_eq_false_iff_ne]; intro e; rw [e] at hc; exact absurd hc.1 (by decide)
   have h2 : (c == 43) = false := by
    rw [beq_eq_false_iff_ne]; intro e; rw [e] at hc; exact absurd hc.1 (by decide)
   have h3 : Lib.decNat (c :: r) = some (numOf (c :: r)) := by
    unfold Lib.decNat numOf; rw [if_neg (by simp)]; exact Xng _ _ h
   simp [Lib.atoi, h1, h2, h3]
theorem Xpv (k p : Int) (s : List UInt8) (w : World) (h : ∀ c ∈ s, Xcd c = true) (hne : s ≠ []) (hl : s.length ≤ 18) :
  Calls Tryz.prog 85 #[.agg #[.int .i64 k, .string (Xab s), .int .i64 p]] w fun e w' => e = .returned (.int .i64 (numOf s : Nat)) ∧ Below w.heap.size w w' := by
 obtain ⟨X, hX⟩ : ∃ X : World, X = w.alloc (.cells #[.int .i64 k, .string (Xab s), .int .i64 p] 76) := ⟨_, rfl⟩
 have hbX : Below w.heap.size w X := by rw [hX]; exact Xae _ _
 have HA := lh (strconv_Atoi (Xab s) (numOf s : Nat) (by rw [Lib.size_eq, Xbe]; exact hl) (atoi_num h hne) X)
 have HB := lh hbX
 have HX := lh hX
 clear h hne hl hX hbX
 go_enter Tryz.func85, Tryz.ntmps85
 go_wp2_with fail
 rw [← HX.out]
 refine HA.out.mono ?_
 rintro e w1 ⟨rfl, t, rfl⟩
 go_wp2
 go_ret
 exact ⟨rfl, HB.out.trans ((Lib.bytesWorld_below _ _ _).mono HB.out.size)⟩
theorem kd_dec (us : List Tok) (n : Nat) : decide (((kd us : Nat) : Int) = (n : Int)) = decide (kd us = n) := by
 by_cases h : kd us = n
 · simp [h]
 · simp [h]; omega
theorem Yei {w : World} {B R L : Nat} {us : List Tok} (h : RdAt w B R L us) (hB : B ≤ w.heap.size) (P N : Int) (S : ByteArray) (g1 : (1 : Int) ≤ N) (g2 : ¬ N ≤ 4) (HM : Hid (Xby L us = .bad (plc L us) 11))
  (HNX : Hid (∀ wx, Below w.heap.size w wx → Calls Tryz.prog 49 #[.pointer (some ⟨R, 0, none⟩)] wx fun e w' => e = .returned (.agg #[.int .i64 2, .string S, .int .i64 P]) ∧ Below wx.heap.size wx w'))
  (HN : Hid (∀ w, Calls Tryz.prog 85 #[.agg #[.int .i64 2, .string S, .int .i64 P]] w fun e w' => e = .returned (.int .i64 N) ∧ Below w.heap.size w w')) :
  Calls Tryz.prog 58 #[.pointer (some ⟨R, 0, none⟩)] w (Xaj IntV w B R L (Xby L us)) := by
 have HH := lh h
 have HBB := lh hB
 have hf0 := Yav
 have hf1 := Xdn
 clear h hB
 go_enter Tryz.func58, Tryz.ntmps58
 go_wp2_with fail
 refine (HNX.out w (Below.refl _ _)).mono ?_
 rintro e w1 ⟨rfl, hb⟩
 have HB1 := lh hb
 clear hb
 go_wp2_with fail
 refine (Xcb _ _ _).mono ?_
 rintro e w2 ⟨rfl, rfl⟩
 go_wp2_with fail
 refine (HNX.out w1 HB1.out).mono ?_
 rintro e w2 ⟨rfl, hb⟩
 have HB2 := lh (HB1.out.trans (hb.mono HB1.out.size))
 clear hb
 go_wp2_with fail
 refine (HN.out w2).mono ?_
 rintro e w3 ⟨rfl, hb⟩
 have HB3 := lh (HB2.out.trans (hb.mono HB2.out.size))
 clear hb
 go_wp2_with fail
 rw [show decide (N ≤ 4) = false from decide_eq_false (by omega)]
 refine (Xel (HH.out.below' HBB.out HB3.out) 11).mono ?_
 rintro e w4 ⟨rfl, hb⟩
 have HB4 := lh (HB3.out.trans (hb.mono HB3.out.size))
 clear hb
 unfold Xag
 go_wp2
 rw [HM.out]
 exact ⟨rfl, rfl, Chg.of_below HB4.out⟩
theorem Yek {w : World} {B R L : Nat} {us : List Tok} (h : RdAt w B R L us) (hB : B ≤ w.heap.size) (P N : Int) (S : ByteArray) (g1 : ¬ (1 : Int) ≤ N) (HM : Hid (Xby L us = .bad (plc L us) 11))
  (HNX : Hid (∀ wx, Below w.heap.size w wx → Calls Tryz.prog 49 #[.pointer (some ⟨R, 0, none⟩)] wx fun e w' => e = .returned (.agg #[.int .i64 2, .string S, .int .i64 P]) ∧ Below wx.heap.size wx w'))
  (HN : Hid (∀ w, Calls Tryz.prog 85 #[.agg #[.int .i64 2, .string S, .int .i64 P]] w fun e w' => e = .returned (.int .i64 N) ∧ Below w.heap.size w w')) :
  Calls Tryz.prog 58 #[.pointer (some ⟨R, 0, none⟩)] w (Xaj IntV w B R L (Xby L us)) := by
 have HH := lh h
 have HBB := lh hB
 have hf0 := Yav
 have hf1 := Xdn
 clear h hB
 go_enter Tryz.func58, Tryz.ntmps58
 go_wp2_with fail
 refine (HNX.out w (Below.refl _ _)).mono ?_
 rintro e w1 ⟨rfl, hb⟩
 have HB1 := lh hb
 clear hb
 go_wp2_with fail
 refine (Xcb _ _ _).mono ?_
 rintro e w2 ⟨rfl, rfl⟩
 go_wp2_with fail
 refine (HNX.out w1 HB1.out).mono ?_
 rintro e w2 ⟨rfl, hb⟩
 have HB2 := lh (HB1.out.trans (hb.mono HB1.out.size))
 clear hb
 go_wp2_with fail
 refine (HN.out w2).mono ?_
 rintro e w3 ⟨rfl, hb⟩
 have HB3 := lh (HB2.out.trans (hb.mono HB2.out.size))
 clear hb
 go_wp2_with fail
 try rw [show decide ((1 : Int) ≤ N) = false from decide_eq_false (by omega)]
 refine (Xel (HH.out.below' HBB.out HB3.out) 11).mono ?_
 rintro e w4 ⟨rfl, hb⟩
 have HB4 := lh (HB3.out.trans (hb.mono HB3.out.size))
 clear hb
 unfold Xag
 go_wp2
 rw [HM.out]
 exact ⟨rfl, rfl, Chg.of_below HB4.out⟩
theorem Yej {w : World} {B R L : Nat} {us : List Tok} (h : RdAt w B R L us) (hB : B ≤ w.heap.size) (P N : Int) (S : ByteArray) (g1 : (1 : Int) ≤ N) (g2 : N ≤ 4) {t : Tok} {r : List Tok} (hus : us = t :: r) (HM : Hid (Xby L us = .ok N r))
  (HNX : Hid (∀ wx, Below w.heap.size w wx → Calls Tryz.prog 49 #[.pointer (some ⟨R, 0, none⟩)] wx fun e w' => e = .returned (.agg #[.int .i64 2, .string S, .int .i64 P]) ∧ Below wx.heap.size wx w'))
  (HN : Hid (∀ w, Calls Tryz.prog 85 #[.agg #[.int .i64 2, .string S, .int .i64 P]] w fun e w' => e = .returned (.int .i64 N) ∧ Below w.heap.size w w')) :
  Calls Tryz.prog 58 #[.pointer (some ⟨R, 0, none⟩)] w (Xaj IntV w B R L (Xby L us)) := by
 have HH := lh h
 have HBB := lh hB
 have hf0 := Yav
 have hf1 := Xdn
 clear h hB
 go_enter Tryz.func58, Tryz.ntmps58
 go_wp2_with fail
 refine (HNX.out w (Below.refl _ _)).mono ?_
 rintro e w1 ⟨rfl, hb⟩
 have HB1 := lh hb
 clear hb
 go_wp2_with fail
 refine (Xcb _ _ _).mono ?_
 rintro e w2 ⟨rfl, rfl⟩
 go_wp2_with fail
 refine (HNX.out w1 HB1.out).mono ?_
 rintro e w2 ⟨rfl, hb⟩
 have HB2 := lh (HB1.out.trans (hb.mono HB1.out.size))
 clear hb
 go_wp2_with fail
 refine (HN.out w2).mono ?_
 rintro e w3 ⟨rfl, hb⟩
 have HB3 := lh (HB2.out.trans (hb.mono HB2.out.size))
 clear hb
 go_wp2_with fail
 refine (Xcb _ _ _).mono ?_
 rintro e w4 ⟨rfl, rfl⟩
 subst hus
 go_wp2_with fail
 refine (Xbn (HH.out.below' HBB.out HB3.out) (Nat.le_trans HBB.out HB3.out.size)).mono ?_
 rintro e w4 ⟨rfl, hr, hc⟩
 have HR := lh hr
 have HC := lh (Xbf HB3.out hc)
 clear hr hc
 go_wp2
 go_ret
 rw [HM.out]
 exact ⟨⟨_, rfl, rfl⟩, HR.out, HC.out⟩
theorem Xwg {w : World} {B R L : Nat} {us : List Tok} (h : RdAt w B R L us) (hB : B ≤ w.heap.size) (P K : Int) (S : ByteArray) (hk2 : ¬ K = 2) (HM : Hid (Xby L us = .bad (plc L us) 20))
  (HNX : Hid (∀ wx, Below w.heap.size w wx → Calls Tryz.prog 49 #[.pointer (some ⟨R, 0, none⟩)] wx fun e w' => e = .returned (.agg #[.int .i64 K, .string S, .int .i64 P]) ∧ Below wx.heap.size wx w')) :
  Calls Tryz.prog 58 #[.pointer (some ⟨R, 0, none⟩)] w (Xaj IntV w B R L (Xby L us)) := by
 have HH := lh h
 have HBB := lh hB
 have hf0 := Yav
 clear h hB
 go_enter Tryz.func58, Tryz.ntmps58
 go_wp2_with fail
 refine (HNX.out w (Below.refl _ _)).mono ?_
 rintro e w1 ⟨rfl, hb⟩
 have HB1 := lh hb
 clear hb
 have k1 : decide (K = 2) = false := decide_eq_false hk2
 have k2 : (K == 2) = false := by simpa using hk2
 go_wp2_with fail
 first | rw [k1] | rw [k2] | skip
 refine (Xel (HH.out.below' HBB.out HB1.out) 20).mono ?_
 rintro e w2 ⟨rfl, hb⟩
 have HB2 := lh (HB1.out.trans (hb.mono HB1.out.size))
 clear hb
 unfold Xag
 go_wp2
 rw [HM.out]
 exact ⟨rfl, rfl, Chg.of_below HB2.out⟩
theorem Yak {w : World} {B R L : Nat} {us : List Tok} (h : RdAt w B R L us) (hB : B ≤ w.heap.size) :
  Calls Tryz.prog 58 #[.pointer (some ⟨R, 0, none⟩)] w (Xaj IntV w B R L (Xby L us)) := by
 have hnx := fun wx hb => Xeg (h.below' (w' := wx) hB hb)
 by_cases hk : kd us = 2
 · match us, hk with
   | t :: r, hk =>
     obtain ⟨hne, _, _, hnum⟩ := h.ok t (by simp)
     obtain ⟨hdg, hlen⟩ := hnum hk
     have hn := fun w => Xpv 2 (plc L (t :: r) : Nat) t.text w hdg hne hlen
     have e3 : ((kd (t :: r) : Nat) : Int) = 2 := by rw [hk]; rfl
     rw [e3] at hnx
     have e2 : tx (t :: r) = t.text := rfl
     rw [e2] at hnx
     by_cases h1 : 1 ≤ numOf t.text
     · by_cases h2 : numOf t.text ≤ 4
       · exact Yej h hB _ _ _ (by omega) (by omega) rfl (lh (by unfold Xby; rw [if_pos hk]; exact if_pos ⟨h1, h2⟩)) (lh hnx) (lh hn)
       · exact Yei h hB _ _ _ (by omega) (by omega) (lh (by unfold Xby; rw [if_pos hk]; exact if_neg fun e => h2 e.2)) (lh hnx) (lh hn)
     · exact Yek h hB _ _ _ (by omega) (lh (by unfold Xby; rw [if_pos hk]; exact if_neg fun e => h1 e.1)) (lh hnx) (lh hn)
 · exact Xwg h hB _ _ _ (by omega) (lh (by unfold Xby; rw [if_neg hk])) (lh hnx)
section
theorem Rd.bind_ok {α β : Type} {x : Rd α} {f : α → List Tok → Rd β} {b : β} {r : List Tok} (h : x.bind f = .ok b r) : ∃ a r1, x = .ok a r1 ∧ f a r1 = .ok b r := by
 cases x with
 | bad p c => cases h
 | ok a r1 => exact ⟨a, r1, rfl, h⟩
theorem Rd.map_ok {α β : Type} {x : Rd α} {f : α → β} {b : β} {r : List Tok} (h : x.map f = .ok b r) : ∃ a, x = .ok a r ∧ b = f a := by
 cases x with
 | bad p c => cases h
 | ok a r1 => cases h; exact ⟨a, rfl, rfl⟩
def Lt {α : Type} (x : Rd α) (n : Nat) : Prop := ∀ a r, x = .ok a r → r.length < n
theorem Lt.bind {α β : Type} {x : Rd α} {f : α → List Tok → Rd β} {n : Nat} (h : Lt x n) (hf : ∀ a r, r.length < n → Lt (f a r) (r.length + 1)) : Lt (x.bind f) n := fun b r e => by
 obtain ⟨a, r1, h1, h2⟩ := Rd.bind_ok e
 have := h a r1 h1
 have := hf a r1 this b r h2
 omega
theorem Lt.map {α β : Type} {x : Rd α} {f : α → β} {n : Nat} (h : Lt x n) : Lt (x.map f) n := fun b r e => by
 obtain ⟨a, h1, _⟩ := Rd.map_ok e
 exact h a r h1
theorem Lt.up {α : Type} {x : Rd α} {n m : Nat} (h : Lt x n) (hn : n ≤ m) : Lt x m := fun a r e => by have := h a r e; omega
theorem Lt.bad {α : Type} {p c n : Nat} : Lt (.bad p c : Rd α) n := fun _ _ e => by cases e
theorem Lt.ok {α : Type} {a : α} {r : List Tok} {n : Nat} (h : r.length < n) : Lt (.ok a r) n := fun _ _ e => by cases e; exact h
theorem Lt.ite {α : Type} {x y : Rd α} {n : Nat} {p : Prop} [Decidable p] (hx : p → Lt x n) (hy : ¬ p → Lt y n) : Lt (if p then x else y) n := by
 split
 · exact hx ‹_›
 · exact hy ‹_›
section
variable {L : Nat}
theorem Xbz (T : List (List UInt8)) : ∀ us, Lt (Xal L T us) us.length
 | [] => Lt.bad
 | t :: r => Lt.ite (fun _ => Lt.ok (by simp)) (fun _ => Lt.bad)
theorem Xef : ∀ us, Lt (Xbo L us) us.length
 | [] => Lt.bad
 | t :: r => Lt.ite (fun _ => Lt.ok (by simp)) (fun _ => Lt.bad)
theorem up1 {α : Type} {x : Rd α} {n : Nat} (h : Lt x n) : Lt x (n + 1) := h.up (by omega)
theorem Xkr (us : List Tok) : Lt (Xem L us) us.length :=
 (Xbz _ us).bind fun t r _ => Lt.ite (fun _ => up1 ((Xbz _ r).bind fun _ r2 _ => up1 (Xbz _ r2).map)) fun _ => Lt.ite (fun _ => up1 (Xef r).map) fun _ => Lt.ok (by omega)
theorem Yaj : ∀ us, Lt (Xby L us) us.length
 | [] => fun a r e => by unfold Xby at e; rw [if_neg (by decide)] at e; cases e
 | t :: r => by unfold Xby; exact Lt.ite (fun _ => Lt.ite (fun _ => Lt.ok (by simp)) fun _ => Lt.bad) fun _ => Lt.bad
theorem Xkj {b : Bool} {x y : Nat} {us r : List Tok} {a : Unit} (h : Xcc L b x y us = .ok a r) : r = us := by
 unfold Xcc at h
 split at h
 · split at h
   · cases h; rfl
   · cases h
 · cases h
theorem Xsg (x : Nat) (us : List Tok) : Lt (Xeq L x us) (us.length + 1) := by
 unfold Xeq; exact Lt.ite (fun _ => up1 (Xbz _ us).map) fun _ => Lt.ok (by omega)
theorem Xya (m x : Nat) (us : List Tok) : Lt (Xhg L m x us) us.length := fun a r e => by
 unfold Xhg at e
 obtain ⟨_, r1, h1, h2⟩ := Rd.bind_ok e
 rw [Xkj h1] at h2
 exact ((Xef us).bind fun s r2 _ => up1 (Xkr r2).map) a r h2
theorem Xip {α : Type} (shut : List UInt8) (least : Nat) (P : Nat → List Tok → Rd α) (hP : ∀ n us, Lt (P n us) us.length) : ∀ (m n : Nat) (us : List Tok), Lt (Xas shut least P m n us) (us.length + 1)
 | 0, n, us => Lt.bad
 | m + 1, n, us => by
   unfold Xas
   refine Lt.ite (fun _ => up1 ((hP n us).bind fun a r _ => (Xip shut least P hP m (n + 1) r).map)) fun _ => ?_
   cases us with
   | nil => exact Lt.ok (by simp)
   | cons t r => exact Lt.ok (by simp; omega)
theorem Xid (n : Nat) (us : List Tok) : Lt (Xfo L n us) us.length := (Xya 8 n us).bind fun _ r _ => up1 (Xbz _ r).map
theorem Xzm (us : List Tok) : Lt (Xen L us) us.length := (Xbz _ us).bind fun _ r _ => Xip _ _ _ Xid _ _ r
theorem Xkf (n : Nat) (us : List Tok) : Lt (Xfp L n us) us.length := fun a r e => by
 unfold Xfp at e
 obtain ⟨_, r1, h1, h2⟩ := Rd.bind_ok e
 have := Xsg n us _ _ h1
 have := Xya 4 n r1 _ _ h2
 omega
theorem Yah (us : List Tok) : Lt (Xfc L us) us.length := (Xbz _ us).bind fun _ r _ => Xip _ _ _ Xkf _ _ r
theorem Ygd (us : List Tok) : us.tail.length ≤ us.length := by simp
section
variable {E : List Tok → Rd Ex} (hE : ∀ us, Lt (E us) us.length)
include hE
theorem brM_lt (us : List Tok) : Lt (brM L E us) us.length :=
 (Xbz _ us).bind fun _ r _ => up1 ((hE r).bind fun _ r2 _ => up1 (Xbz _ r2).map)
theorem Ycx : ∀ us, Lt (Xch L E us) us.length
 | [] => Lt.bad
 | t :: r => by
   show Lt (Xch L E (t :: r)) (r.length + 1)
   unfold Xch
   refine Lt.ite (fun _ => Lt.ok (by omega)) fun _ => Lt.ite (fun _ => Lt.ok (by omega)) fun _ => Lt.ite (fun _ => Lt.ok (by omega)) fun _ => Lt.ite (fun _ => up1 (brM_lt hE r).map) fun _ =>
    Lt.ite (fun _ => up1 (brM_lt hE r).map) fun _ => Lt.ite (fun _ => up1 (Xef r).map) fun _ => Lt.ite (fun _ => up1 (Xef r).map) fun _ => Lt.ite (fun _ => ?_) fun _ => Lt.ite (fun _ => Lt.ok (by omega)) fun _ => Lt.ok (by omega)
   refine Lt.ite (fun _ => ?_) fun _ => up1 ((hE r).bind fun _ r2 _ => up1 ((Xbz _ r2).bind fun _ r3 _ => up1 ((hE r3).bind fun _ r4 _ => up1 (Xbz _ r4).map)))
   exact (((hE r.tail).up (Nat.le_trans (Ygd r) (Nat.le_succ _))).bind fun _ r2 _ => up1 (Xbz _ r2).map)
theorem linkM_lt (o : Ex) : ∀ us, Lt (Xdh L E o us) us.length
 | [] => Lt.bad
 | t :: r => by
   show Lt (Xdh L E o (t :: r)) (r.length + 1)
   unfold Xdh
   refine Lt.ite (fun _ => up1 (Xef r).map) fun _ => up1 ((hE r).bind fun _ r2 _ => Lt.ite (fun _ => ?_) fun _ => up1 (Xbz _ r2).map)
   exact (((hE r2.tail).up (Nat.le_trans (Ygd r2) (Nat.le_succ _))).bind fun _ r3 _ => up1 (Xbz _ r3).map)
theorem Xsf : ∀ (n : Nat) (e : Ex) (us : List Tok), Lt (Xdc L E n e us) (us.length + 1)
 | 0, e, us => by unfold Xdc; exact Lt.ite (fun _ => Lt.bad) fun _ => Lt.ok (by omega)
 | n + 1, e, us => by unfold Xdc; exact Lt.ite (fun _ => up1 ((linkM_lt hE e us).bind fun e2 r _ => Xsf n e2 r)) fun _ => Lt.ok (by omega)
end
theorem Xmi : ∀ (n : Nat) (us : List Tok), Lt (Xah L n us) us.length
 | 0, us => by unfold Xah; exact Lt.ite (fun _ => Lt.bad) fun _ => Lt.bad
 | n + 1, us => by unfold Xah; exact Lt.ite (fun _ => (Ycx (Xmi n) us).bind fun e r _ => Xsf (Xmi n) 8 e r) fun _ => Lt.bad
theorem Xqo (k n : Nat) (us : List Tok) : Lt (argM L (Xah L k) n us) us.length := fun a r e => by
 unfold argM at e
 obtain ⟨_, r1, h1, h2⟩ := Rd.bind_ok e
 obtain ⟨_, r2, h3, h4⟩ := Rd.bind_ok h2
 have := Xsg n us _ _ h1
 rw [Xkj h3] at h4
 have := Xmi k r1 _ _ h4
 omega
theorem Xww (k : Nat) (us : List Tok) : Lt (Xgx L (Xah L k) us) us.length := (Xbz _ us).bind fun _ r _ => Xip _ _ _ (Xqo k) _ _ r
theorem Xsc {S : List Tok → Rd Sm} (hS : ∀ us, Lt (S us) us.length) (n : Nat) (us : List Tok) : Lt (Xdp L S n us) us.length := (Xbz _ us).bind fun _ r _ => Xip _ _ _ (fun _ => hS) _ _ r
theorem Xgc (s : Sm) (us : List Tok) : Lt (endM L s us) us.length := (Xbz _ us).map
theorem Yge {α : Type} {x : Rd α} {us : List Tok} (h : Lt x us.tail.length) : Lt x (us.length + 1) := h.up (by simp; omega)
theorem Yfw (k : Nat) {S : List Tok → Rd Sm} (hS : ∀ us, Lt (S us) us.length) (t : Tok) (r : List Tok) : Lt (Xfh L (Xah L k) S t r) (r.length + 1) := by
 unfold Xfh
 have hE := Xmi (L := L) k
 have hB := fun n => Xsc (L := L) hS n
 refine Lt.ite (fun _ => up1 ((hE r).bind fun c r2 _ => up1 ((hB 0 r2).bind fun b r3 _ => Lt.ite (fun _ => Yge (hB 1 r3.tail).map) fun _ => Lt.ok (by omega)))) fun _ => ?_
 refine Lt.ite (fun _ => up1 ((hE r).bind fun c r2 _ => up1 (hB 0 r2).map)) fun _ => ?_
 refine Lt.ite (fun _ => up1 ((Xef r).bind fun n r2 _ => up1 ((Xkr r2).bind fun y r3 _ => up1 ((Xbz _ r3).bind fun _ r4 _ => up1 ((hE r4).bind fun v r5 _ => up1 (Xgc _ r5)))))) fun _ => ?_
 refine Lt.ite (fun _ => up1 ((hE r).bind fun p r2 _ => Lt.ite (fun _ => up1 ((Xbz _ r2).bind fun _ r3 _ => up1 ((hE r3).bind fun v r4 _ => up1 (Xgc _ r4)))) fun _ => Lt.bad)) fun _ => ?_
 refine Lt.ite (fun _ => up1 ((Xef r).bind fun n r2 _ => up1 (Xgc _ r2))) fun _ => ?_
 refine Lt.ite (fun _ => up1 ((Xef r).bind fun n r2 _ => up1 (Xgc _ r2))) fun _ => ?_
 refine Lt.ite (fun _ => up1 ((Xef r).bind fun n r2 _ => up1 ((hE r2).bind fun v r3 _ => up1 (Xgc _ r3)))) fun _ => ?_
 refine Lt.ite (fun _ => up1 ((Xef r).bind fun n r2 _ => up1 ((Xef r2).bind fun y r3 _ => up1 (Xgc _ r3)))) fun _ => ?_
 refine Lt.ite (fun _ => up1 ((Xef r).bind fun n r2 _ => up1 ((hE r2).bind fun v r3 _ => up1 (Xgc _ r3)))) fun _ => ?_
 refine Lt.ite (fun _ => up1 ((Xef r).bind fun n r2 _ => Lt.ite (fun _ => ?_) fun _ => up1 ((Xww k r2).bind fun xs r3 _ => up1 (Xgc _ r3)))) fun _ => ?_
 · exact Yge ((Xef r2.tail).bind fun f r3 _ => up1 ((Xww k r3).bind fun xs r4 _ => up1 (Xgc _ r4)))
 · exact Lt.ite (fun _ => up1 (Xgc _ r)) fun _ => up1 ((hE r).bind fun v r2 _ => up1 (Xgc _ r2))
theorem Xgs : ∀ (n : Nat) (us : List Tok), Lt (Xcp L n us) us.length
 | 0, us => by unfold Xcp; exact Lt.bad
 | n + 1, us => by unfold Xcp; exact (Xbz _ us).bind fun t r _ => Yfw n (Xgs n) t r
theorem Xqq (us : List Tok) : Lt (Xgy L us) us.length := Xsc (Xgs 24) 0 us
theorem Xkl (d : Dc) (us : List Tok) : Lt (Xgk L d us) us.length := (Xbz _ us).map
theorem Yca (w : List UInt8) (p : Nat) (s : List UInt8) (r : List Tok) : Lt (Xee L w p s r) (r.length + 1) := by
 unfold Xee
 refine Lt.ite (fun _ => up1 (Xzm r).map) fun _ => ?_
 refine Lt.ite (fun _ => up1 ((Yah r).bind fun ps r2 _ => Lt.ite (fun _ => up1 (Xqq r2).map) fun _ => up1 ((Xkr r2).bind fun y r3 _ => up1 (Xqq r3).map))) fun _ => ?_
 refine Lt.ite (fun _ => up1 (Xqq r).map) fun _ => ?_
 refine Lt.ite (fun _ => up1 (Xkl _ r)) fun _ => ?_
 refine Lt.ite (fun _ => up1 ((Yaj r).bind fun n r2 _ => up1 (Xkl _ r2))) fun _ => ?_
 refine Lt.ite (fun _ => up1 ((Xkr r).bind fun n r2 _ => up1 (Xkl _ r2))) fun _ => ?_
 exact Lt.ite (fun _ => up1 (Xkl _ r)) fun _ => up1 (Xkl _ r)
theorem Xhn (n : Nat) (us : List Tok) : Lt (Xbx L n us) us.length := by
 unfold Xbx
 refine (Xbz _ us).bind fun t r _ => fun a r9 e => ?_
 obtain ⟨_, r1, h1, h2⟩ := Rd.bind_ok e
 rw [Xkj h1] at h2
 have := Yca _ _ _ r.tail a r9 h2
 have := List.length_tail (l := r)
 omega
end
end
section
theorem Rd.map_map {α β γ : Type} (f : α → β) (g : β → γ) (x : Rd α) : (x.map f).map g = x.map (g ∘ f) := by cases x <;> rfl
section
variable {α : Type} {shut : List UInt8} {least : Nat} {P : Nat → List Tok → Rd α} {m k p c : Nat} {us r : List Tok} {acc : List α} {a : α} {T : Rd (List α)}
theorem Xek (hc : k < least ∨ tx us ≠ shut) : Xas shut least P (m + 1) k us = (P k us).bind fun a r => (Xas shut least P m (k + 1) r).map (a :: ·) := by
 rw [Xas.eq_def]; exact if_pos hc
theorem Xlx (h : T = (Xas shut least P (m + 1) k us).map (acc ++ ·)) (hc : k < least ∨ tx us ≠ shut) (hp : P k us = .bad p c) : T = .bad p c := by
 rw [h, Xek hc, hp]; rfl
theorem Xor (h : T = (Xas shut least P (m + 1) k us).map (acc ++ ·)) (hc : k < least ∨ tx us ≠ shut) (hp : P k us = .ok a r) : T = (Xas shut least P m (k + 1) r).map ((acc ++ [a]) ++ ·) := by
 rw [h, Xek hc, hp]
 show Rd.map _ (Rd.map _ (Xas shut least P m (k + 1) r)) = _
 rw [Rd.map_map]
 congr 1
 funext l
 show acc ++ (a :: l) = acc ++ [a] ++ l
 simp
theorem Yay (h : T = (Xas shut least P (m + 1) k us).map (acc ++ ·)) (hc : ¬ (k < least ∨ tx us ≠ shut)) : T = .ok acc us.tail := by
 rw [h]; unfold Xas; rw [if_neg hc]
 cases us with
 | nil => simp [Rd.map]
 | cons t r => simp [Rd.map]
end
structure Elem {α : Type} (w0 : World) (B R L : Nat) (F : FuncId) (caps : Array Value) (Q : Nat → Prop) (P : Nat → List Tok → Rd α) (Inv : World → List α → Prop) : Prop where
 ent : ∀ args w, (callFunc F args).run Tryz.prog w = .ok (.enter F args) w
 keep : ∀ w w' acc, Inv w acc → Chg (fun b => b = R) w w' → Inv w' acc
 reader : Q R
 less : ∀ n us, Lt (P n us) us.length
 call : ∀ (acc : List α) (us : List Tok) (w : World), RdAt w B R L us → B ≤ w.heap.size → Chg Q w0 w → Inv w acc → acc.length ≤ 5000 → Calls Tryz.prog F (#[.int .i64 (acc.length : Nat)] ++ caps) w fun e w' => match P acc.length us with
  | .bad p c => e = Xag p c ∧ Chg Q w0 w'
  | .ok a r => e = .returned (.tuple #[]) ∧ RdAt w' B R L r ∧ Chg Q w0 w' ∧ Inv w' (acc ++ [a])
def Ybc {α : Type} (w0 : World) (B R L : Nat) (Q : Nat → Prop) (Inv : World → List α → Prop) (shut : List UInt8) (x : Rd (List α)) (e : Ending) (w' : World) : Prop := match x with
 | .bad p c => e = Xag p c ∧ Chg Q w0 w'
 | .ok l r => e = .returned (.tuple #[]) ∧ (shut ≠ [] → RdAt w' B R L r) ∧ Chg Q w0 w' ∧ Inv w' l
set_option maxRecDepth 100000 in
set_option maxHeartbeats 1000000 in
theorem Xiq {α : Type} {w0 : World} {B R L : Nat} {F : FuncId} {caps : Array Value} {Q : Nat → Prop} {P : Nat → List Tok → Rd α} {Inv : World → List α → Prop} (hE : Elem w0 B R L F caps Q P Inv)
  {us0 : List Tok} (h : RdAt w0 B R L us0) (hB : B ≤ w0.heap.size) (hI : Inv w0 []) (shut : List UInt8) (least : Nat)
  (htake : ∀ (w : World) (us : List Tok), RdAt w B R L us → B ≤ w.heap.size → tx us = shut → Calls Tryz.prog 50 #[.pointer (some ⟨R, 0, none⟩), .slice (some ⟨w.heap.size, 0, none⟩) 1 1] (w.alloc (.cells #[.string (Xab shut)] 9)) fun e w' =>
    (∃ v, e = .returned v) ∧ (shut ≠ [] → RdAt w' B R L us.tail) ∧ Chg (fun b => b = R) w w') :
  Calls Tryz.prog 29 #[.pointer (some ⟨R, 0, none⟩), .string (Xab shut), .int .i64 (least : Nat), .func (.func F) #[] caps] w0 (Ybc w0 B R L Q Inv shut (Xas shut least P (us0.length + 1) 0 us0)) := by
 obtain ⟨T, hT⟩ : ∃ T, T = Xas shut least P (us0.length + 1) 0 us0 := ⟨_, rfl⟩
 have hstart : T = (Xas shut least P (us0.length + 1) 0 us0).map (([] : List α) ++ ·) := by
  rw [hT]; cases Xas shut least P (us0.length + 1) 0 us0 <;> simp [Rd.map]
 have hlen := h.len
 obtain ⟨N, hN⟩ : ∃ N, N = us0.length := ⟨_, rfl⟩
 obtain ⟨S, hS⟩ : ∃ S, S = Xab shut := ⟨_, rfl⟩
 rw [← hN] at hlen hstart
 rw [← hT, ← hS]
 have HE := lh hE
 have HS := lh hS
 have HTK := lh htake
 have hent := hE.ent
 have hf := Xdn
 have HREL : Hid (∃ (acc : List α) (us : List Tok), acc.length = 0 ∧ RdAt w0 B R L us ∧ B ≤ w0.heap.size ∧ Chg Q w0 w0 ∧ Inv w0 acc ∧ acc.length + us.length ≤ N ∧ ∃ m, us.length ≤ m ∧ T = (Xas shut least P (m + 1) acc.length us).map (acc ++ ·)) :=
  lh ⟨[], us0, rfl, h, hB, Chg.refl _ _, hI, by rw [hN]; simp, N, by omega, hstart⟩
 have HB0 := lh hB
 clear hE hS htake h hB hI hT hstart hN
 go_enter Tryz.func29, Tryz.ntmps29
 go_wp2
 go_loopw [8] (fun i wr => ∃ k : Nat, i = .int .i64 (k : Nat) ∧ k ≤ N ∧ Hid (∃ (acc : List α) (us : List Tok), acc.length = k ∧ RdAt wr B R L us ∧ B ≤ wr.heap.size ∧ Chg Q w0 wr ∧ Inv wr acc ∧ acc.length + us.length ≤ N ∧ ∃ m, us.length ≤ m ∧ T = (Xas shut least P (m + 1) acc.length us).map (acc ++ ·))) (fun i _ => N - (intOf i).toNat)
 case atStart => exact ⟨0, rfl, Nat.zero_le _, HREL⟩
 case round =>
  obtain ⟨wo, rfl⟩ : ∃ wo : World, wo = wr := ⟨_, rfl⟩
  obtain ⟨k, rfl, hk, HR⟩ := hrel
  obtain ⟨acc, us, hacc, hr, hbw, hch, hinv, hsum, m, hm, hTm⟩ := HR.out
  clear HR
  have HRD := lh hr
  have HBW := lh hbw
  have HCH := lh hch
  have HIN := lh hinv
  have HTM := lh hTm
  have HM := lh hm
  have HSUM := lh hsum
  subst hacc
  have hal : acc.length ≤ 5000 := by omega
  by_cases h1 : acc.length < least
  · have h1' : (acc.length : Int) < (least : Int) := by omega
    have HCALL := lh (HE.out.call acc us wo hr hbw hch hinv hal)
    have HSZ : Hid (B ≤ w0.heap.size) := HB0
    have HC1 : Hid (acc.length < least ∨ tx us ≠ shut) := lh (.inl h1)
    clear hr hbw hch hinv hTm hm hsum h1
    go_wp2_with fail
    refine HCALL.out.mono ?_
    rintro e w2 hp
    have HLT := lh (HE.out.less acc.length us)
    cases hx : P acc.length us with
    | bad p c =>
      rw [hx] at hp
      obtain ⟨rfl, hc⟩ := hp
      have HF : Hid (T = .bad p c) := lh (Xlx HTM.out HC1.out hx)
      have HC := lh hc
      clear hx hc
      unfold Xag
      go_wp2
      rw [HF.out]
      exact ⟨rfl, rfl, HC.out⟩
    | ok a r =>
      rw [hx] at hp
      obtain ⟨rfl, hr2, hc2, hi2⟩ := hp
      have hlt := HLT.out a r hx
      have HR2 := lh hr2
      have HC2 := lh hc2
      have HI2 := lh hi2
      have HF := lh (Xor HTM.out HC1.out hx)
      clear hx hr2 hc2 hi2
      go_wp2_with fail
      go_roundw
      case rel =>
       have := HSUM.out
       have := HM.out
       refine ⟨acc.length + 1, by go_num, by omega, lh ⟨acc ++ [a], r, by simp, HR2.out, ?_, HC2.out, HI2.out, by simp; omega, m - 1, by omega, ?_⟩⟩
       · have := HC2.out.size; have := HSZ.out; omega
       · rw [HF.out, show m - 1 + 1 = m by omega]; simp
      case measure => simp [intOf]; have := HSUM.out; omega
  · have h1' : ¬ (acc.length : Int) < (least : Int) := by omega
    have HNX := lh (Xeg hr)
    obtain ⟨K, hK⟩ : ∃ K : Int, K = (kd us : Nat) := ⟨_, rfl⟩
    obtain ⟨U, hU⟩ : ∃ U : Int, U = (plc L us : Nat) := ⟨_, rfl⟩
    obtain ⟨X, hX⟩ : ∃ X, X = Xab (tx us) := ⟨_, rfl⟩
    rw [← hK, ← hU, ← hX] at HNX
    have HSZ : Hid (B ≤ w0.heap.size) := HB0
    by_cases h2 : tx us = shut
    · have e1 : (X.toList == S.toList) = true := by rw [hX, HS.out, h2]; exact beq_self_eq_true _
      have HF := lh (Yay hTm (by rintro (h | h); exact h1 h; exact h h2))
      have HTX := lh h2
      clear hr hbw hch hinv hTm hm hsum h1 hK hU hX h2
      go_wp2_with fail
      refine HNX.out.mono ?_
      rintro e w1 ⟨rfl, hb⟩
      have HB1 := lh hb
      have HTC := lh (HTK.out w1 us (HRD.out.below' HBW.out hb) (Nat.le_trans HBW.out hb.size) HTX.out)
      rw [← HS.out] at HTC
      clear hb
      go_wp2_with fail
      refine HTC.out.mono ?_
      rintro e w2 ⟨⟨v, rfl⟩, hr2, hc2⟩
      have hc3 := Xbf HB1.out hc2
      have HC3 := lh (HCH.out.trans hc3 fun _ _ e => by rw [e]; exact HE.out.reader)
      have HI3 := lh (HE.out.keep _ _ _ HIN.out hc3)
      have HR3 := lh hr2
      clear hr2 hc2 hc3
      go_wp2
      go_end0
      rw [HF.out]
      exact ⟨rfl, HR3.out, HC3.out, HI3.out⟩
    · have e1 : (X.toList == S.toList) = false := by rw [hX, HS.out, Xad, Xad]; simpa using h2
      have HC1 : Hid (acc.length < least ∨ tx us ≠ shut) := lh (.inr h2)
      clear hr hbw hch hinv hTm hm hsum h1 hK hU hX h2
      go_wp2_with fail
      refine HNX.out.mono ?_
      rintro e w1 ⟨rfl, hb⟩
      have hcb := Chg.of_below (P := fun b => b = R) hb
      have HCALL := lh (HE.out.call acc us w1 (HRD.out.below' HBW.out hb) (Nat.le_trans HBW.out hb.size) (HCH.out.trans hcb fun _ _ e => by rw [e]; exact HE.out.reader) (HE.out.keep _ _ _ HIN.out hcb) hal)
      clear hb hcb
      go_wp2_with fail
      refine HCALL.out.mono ?_
      rintro e w2 hp
      have HLT := lh (HE.out.less acc.length us)
      cases hx : P acc.length us with
      | bad p c =>
        rw [hx] at hp
        obtain ⟨rfl, hc⟩ := hp
        have HF : Hid (T = .bad p c) := lh (Xlx HTM.out HC1.out hx)
        have HC := lh hc
        clear hx hc
        unfold Xag
        go_wp2
        rw [HF.out]
        exact ⟨rfl, rfl, HC.out⟩
      | ok a r =>
        rw [hx] at hp
        obtain ⟨rfl, hr2, hc2, hi2⟩ := hp
        have hlt := HLT.out a r hx
        have HR2 := lh hr2
        have HC2 := lh hc2
        have HI2 := lh hi2
        have HF := lh (Xor HTM.out HC1.out hx)
        clear hx hr2 hc2 hi2
        go_wp2_with fail
        go_roundw
        case rel =>
         have := HSUM.out
         have := HM.out
         refine ⟨acc.length + 1, by go_num, by omega, lh ⟨acc ++ [a], r, by simp, HR2.out, ?_, HC2.out, HI2.out, by simp; omega, m - 1, by omega, ?_⟩⟩
         · have := HC2.out.size; have := HSZ.out; omega
         · rw [HF.out, show m - 1 + 1 = m by omega]; simp
        case measure => simp [intOf]; have := HSUM.out; omega
end
section
def ExB (base : Nat) (w' : World) (x : Ex) (v : Value) : Prop := ∃ u, v = .agg #[.int .i64 x.kind, .int .i64 x.pl, .int .i64 x.num, .string (Xab x.name), u] ∧ x.name.length ≤ 16384 ∧ Xbb w' (fun b => base ≤ b ∧ b < w'.heap.size) x.args u
def Xrw (L n : Nat) : Prop := ∀ (w : World) (B R : Nat) (us : List Tok), RdAt w B R L us → B ≤ w.heap.size →
 Calls Tryz.prog 110 #[.pointer (some ⟨R, 0, none⟩), .int .i64 (25 - (n : Nat))] w (Xaj (ExB w.heap.size) w B R L (Xah L n us))
section
variable {w w' : World} {R base : Nat}
end
theorem row5 {w : World} {g : Nat} {a b c d e : Value} {t : TypeId} (h : w.heap[g]? = some (.cells #[a, b, c, d, e] t (0, 0))) :
  w.cell? ⟨g, 0, none⟩ = some a ∧ w.cell? ⟨g, 1, none⟩ = some b ∧ w.cell? ⟨g, 2, none⟩ = some c ∧ w.cell? ⟨g, 3, none⟩ = some d ∧ w.cell? ⟨g, 4, none⟩ = some e ∧
  w.frozen? ⟨g, 0, none⟩ = false ∧ w.frozen? ⟨g, 1, none⟩ = false ∧ w.frozen? ⟨g, 2, none⟩ = false ∧ w.frozen? ⟨g, 3, none⟩ = false ∧ w.frozen? ⟨g, 4, none⟩ = false :=
 ⟨by rw [cell_of_row w g 0 _ _ (0, 0) h]; rfl, by rw [cell_of_row w g 1 _ _ (0, 0) h]; rfl, by rw [cell_of_row w g 2 _ _ (0, 0) h]; rfl, by rw [cell_of_row w g 3 _ _ (0, 0) h]; rfl, by rw [cell_of_row w g 4 _ _ (0, 0) h]; rfl,
  frozen_of_row w g 0 _ _ h, frozen_of_row w g 1 _ _ h, frozen_of_row w g 2 _ _ h, frozen_of_row w g 3 _ _ h, frozen_of_row w g 4 _ _ h⟩
def Xaf (w : World) (P : Nat → Prop) (base : Nat) (v : Value) (es : List Ex) : Prop :=
 ∃ fs : List Value, es.length = fs.length ∧ w.ownsRow base 152 5 v es.length (exsV es fs) ∧
  ∀ (k : Nat) (hk : k < es.length) (hk' : k < fs.length), es[k].name.length ≤ 140737488355328 ∧ Xbb w (fun b => P b ∧ b < w.heap.size ∧ v.ownBlock ≠ some b) es[k].args fs[k]
theorem Xaf.lt {w : World} {P : Nat → Prop} {base : Nat} {v : Value} {es : List Ex} (h : Xaf w P base v es) {b : Nat} (hb : v.ownBlock = some b) : base ≤ b ∧ b < w.heap.size := by
 obtain ⟨fs, hl, hown, hin⟩ := h; exact hown.lt b hb
theorem Xaf.keep {w w' : World} {P : Nat → Prop} {base : Nat} {v : Value} {es : List Ex} (h : Xaf w P base v es) (hsz : w.heap.size ≤ w'.heap.size) (hk : ∀ b, b < w.heap.size → (P b ∨ v.ownBlock = some b) → w'.heap[b]? = w.heap[b]?) : Xaf w' P base v es := by
 obtain ⟨fs, hl, hown, hin⟩ := h
 have hlt := hown.lt
 refine ⟨fs, hl, ?_, fun k hk1 hk' => ⟨(hin k hk1 hk').1, (hin k hk1 hk').2.keep (fun b hb => hk b hb.2.1 (.inl hb.1)) fun b hb => ⟨hb.1, by omega, hb.2.2⟩⟩⟩
 rcases hown with ⟨h1, h2 | ⟨g, cap, cur, hv, hbg, hg, h3⟩⟩
 · exact ⟨h1, .inl h2⟩
 · exact ⟨h1, .inr ⟨g, cap, cur, hv, hbg, (hk g (Xac hg) (.inr (by rw [hv]; rfl))).trans hg, h3⟩⟩
theorem Xaf.nil (w : World) (P : Nat → Prop) (base : Nat) : Xaf w P base (.slice none 0 0) [] := ⟨[], rfl, ⟨rfl, .inl ⟨rfl, rfl⟩⟩, fun k hk => absurd hk (by simp)⟩
theorem Xbh {ops : Array Oper} {o : Oper} {a : Act} {w : World} {K : Act → World → Prop} {Q : Exit → Act → World → Prop} {E : Prop} {P : Nat → Prop} (hgd : o.guard = none) (s x : Operand)
  (ho : o.op = .call { callee := .builtin .append, args := #[s, x], argTypes := #[66, 66] })
  (base : Nat) (v : Value) (es : List Ex) (hs : a.eval s = v) (hown : Xaf w P base v es) (ad : Addr) (c : Nat) (e : Ex) (u : Value) (hx : a.eval x = .slice (some ad) 1 c)
  (hnews : ∀ j y, (Xbd e u)[j]? = some y → w.cell? (ad.add j) = some y) (hu : Xbb w (fun b => P b ∧ b < w.heap.size ∧ v.ownBlock ≠ some b) e.args u) (hen : e.name.length ≤ 140737488355328) (hb : es.length ≤ 1000000) (hbase : base ≤ w.heap.size)
  (h : ∀ g' c' w', Xaf w' P base (.slice (some ⟨g', 0, none⟩) (es.length + 1) c') (es ++ [e]) → w.grownBy w' v.ownBlock → (v.ownBlock = some g' ∨ g' = w.heap.size) → K (a.put o.dst (.slice (some ⟨g', 0, none⟩) (es.length + 1) c')) w') :
  if Region.wanted o (yielded ops a.tmps) = true then Oper.wp Tryz.prog o a w K Q else E := by
 obtain ⟨i0, hi, hz0, hz1, hz2⟩ := info_parts Ydn
 obtain ⟨fs, hl, hrow, hin⟩ := hown
 refine step_append_lies _ hgd s x 66 ho base 152 i0 _ 5 64 Tryz.underlying66 hi hz0 hz1 hz2 rfl (by decide) v es.length (exsV es fs) hs hrow ad 1 c (Xbd e u) hx rfl hnews (Xni e u hu.one)
  (by omega) (by unfold maxLen; omega) (by omega) hbase w.heap.size rfl fun g cap w' hown' hgr hat hlt => h g cap w' ?_ hgr hat
 have hkeep : ∀ b, (P b ∧ b < w.heap.size ∧ v.ownBlock ≠ some b) → w'.heap[b]? = w.heap[b]? := fun b hb => hgr.block b hb.2.1 (fun e => hb.2.2 e.symm)
 have hS : ∀ b, (P b ∧ b < w.heap.size ∧ v.ownBlock ≠ some b) → (P b ∧ b < w'.heap.size ∧ (Value.slice (some ⟨g, 0, none⟩) (es.length + 1) cap).ownBlock ≠ some b) := fun b hb => by
  have hsz := hgr.size
  refine ⟨hb.1, by omega, fun e => ?_⟩
  have e' : g = b := by simpa [Value.ownBlock] using e
  rcases hat with hat | hat
  · exact hb.2.2 (by rw [hat, e'])
  · omega
 refine ⟨fs ++ [u], by simp [hl], ?_, fun k hk hk' => ?_⟩
 · rw [List.length_append, Xmk e u hl]
   exact hown'
 · by_cases hke : k < es.length
   · have hkf : k < fs.length := by omega
     rw [List.getElem_append_left hke, List.getElem_append_left hkf]
     exact ⟨(hin k hke hkf).1, (hin k hke hkf).2.keep hkeep hS⟩
   · have hk0 : k = es.length := by simp at hk; omega
     subst hk0
     have e1 : (es ++ [e])[es.length] = e := by simp
     have e2 : (fs ++ [u])[es.length]'hk' = u := by
      rw [List.getElem_append_right (by omega)]
      simp [hl]
     rw [e1, e2]
     exact ⟨hen, hu.keep hkeep hS⟩
theorem Xgo {w : World} {P : Nat → Prop} {g base : Nat} {x : Ex} {u : Value} (hb : base ≤ g) (hg : w.heap[g]? = some (.cells #[.int .i64 x.kind, .int .i64 x.pl, .int .i64 x.num, .string (Xab x.name), u] 152 (0, 0)))
  (hn : x.name.length ≤ 140737488355328) (hi : Xbb w (fun b => P b ∧ b < w.heap.size ∧ g ≠ b) x.args u) : Xaf w P base (.slice (some ⟨g, 0, none⟩) 1 1) [x] := by
 refine ⟨[u], rfl, ⟨rfl, .inr ⟨g, 1, _, rfl, hb, hg, Nat.le_refl _, by unfold maxLen; omega, rfl, rfl⟩⟩, fun k hk hk' => ?_⟩
 obtain rfl : k = 0 := by simp at hk; omega
 exact ⟨hn, hi.keep (fun _ _ => rfl) fun b hb => ⟨hb.1, hb.2.1, fun e => hb.2.2 (by simpa [Value.ownBlock] using e)⟩⟩
theorem Xnx {w : World} {x : Ex} {u : Value} (k p n : Int) (s : ByteArray) (h : Xbd x u = [.int .i64 k, .int .i64 p, .int .i64 n, .string s, u]) : ∀ q y, (Xbd x u)[q]? = some y → (w.alloc (.cells #[.int .i64 k, .int .i64 p, .int .i64 n, .string s, u] 152)).cell? ((⟨w.heap.size, 0, none⟩ : Addr).add q) = some y := fun q y hq => by
 rw [h] at hq
 rw [Xdo, Nat.zero_add, cell_of_row _ _ q _ _ (0, 0) (heap_alloc_new w _)]
 simpa using hq
theorem Xoc {g c n b : Nat} (h : (Value.slice (some ⟨g, 0, none⟩) n c).ownBlock = some b) (hb : g < b) : False := by
 have : g = b := by simpa [Value.ownBlock] using h
 omega
end
theorem Xcl {w : World} {base : Nat} {e : TypeId} {size g n cap i : Nat} {xs : List Value} (h : w.ownsRow base e size (.slice (some ⟨g, 0, none⟩) n cap) n xs) (hi : i < n * size) (u : Value) :
  (w.setCell ⟨g, i, none⟩ u).ownsRow base e size (.slice (some ⟨g, 0, none⟩) n cap) n (xs.set i u) := by
 rcases h with ⟨h1, ⟨h2, _⟩ | ⟨g', cap', cur, hv, hb, hg, h3, h4, h5, h6⟩⟩
 · cases h2
 · simp only [Value.slice.injEq, Option.some.injEq, Addr.mk.injEq, true_and, and_true] at hv
   obtain ⟨rfl, rfl⟩ := hv
   refine ⟨by simpa using h1, .inr ⟨g, cap, cur.setIfInBounds i u, rfl, hb, ?_, h3, h4, by simpa using h5, ?_⟩⟩
   · simp [World.setCell, Array.getElem?_modify, hg]
   · rw [← h6]
     simp only [Array.toList_setIfInBounds]
     rw [List.take_set]
theorem Xod {w : World} {base : Nat} {e : TypeId} {size g n cap : Nat} {xs : List Value} (h : w.ownsRow base e size (.slice (some ⟨g, 0, none⟩) n cap) n xs) : ∃ cur, w.heap[g]? = some (.cells cur e (0, 0)) ∧ n ≤ cap ∧ cur.size = cap * size ∧ base ≤ g := by
 rcases h with ⟨h1, ⟨h2, _⟩ | ⟨g', cap', cur, hv, hb, hg, h3, h4, h5, h6⟩⟩
 · cases h2
 · simp only [Value.slice.injEq, Option.some.injEq, Addr.mk.injEq, true_and, and_true] at hv
   obtain ⟨rfl, rfl⟩ := hv
   exact ⟨cur, hg, h3, h5, hb⟩
def five (W : World) (g i : Nat) (a : Ex) (u : Value) : World :=
 ((((W.setCell ⟨g, i, none⟩ (.int .i64 a.kind)).setCell ⟨g, i + 1, none⟩ (.int .i64 a.pl)).setCell ⟨g, i + 2, none⟩ (.int .i64 a.num)).setCell ⟨g, i + 3, none⟩ (.string (Xab a.name))).setCell ⟨g, i + 4, none⟩ u
theorem Xax (W : World) (g i : Nat) (a : Ex) (u : Value) : Chg (fun b => b = g) W (five W g i a u) :=
 (((((Chg.refl (fun x => x = g) W).setCell _ _ fun _ => rfl).setCell _ _ fun _ => rfl).setCell _ _ fun _ => rfl).setCell _ _ fun _ => rfl).setCell _ _ fun _ => rfl
theorem Xso {xs : List Ex} {fs : List Value} (h : xs.length = fs.length) (a : Ex) (u : Value) :
  exsV (xs ++ [a]) (fs ++ [u]) = exsV xs fs ++ Xbd a u := Xmk a u h
theorem Yfi {l : List Value} {a b c d e a' b' c' d' e' : Value} {n : Nat} (hn : l.length = n) :
  (((((l ++ [a, b, c, d, e]).set n a').set (n + 1) b').set (n + 2) c').set (n + 3) d').set (n + 4) e' = l ++ [a', b', c', d', e'] := by
 subst hn
 simp [List.set_append]
theorem Xug {W : World} {P : Nat → Prop} {base g m c : Nat} {xs : List Ex} {z a : Ex} {u : Value} (hm : m = xs.length) (h : Xaf W P base (.slice (some ⟨g, 0, none⟩) (m + 1) c) (xs ++ [z]))
  (hu : Xbb W (fun b => P b ∧ b < W.heap.size ∧ b ≠ g) a.args u) (hn : a.name.length ≤ 16384) : Xaf (five W g (m * 5) a u) P base (.slice (some ⟨g, 0, none⟩) (m + 1) c) (xs ++ [a]) := by
 subst hm
 obtain ⟨fs, hl, hown, hin⟩ := h
 have hlen : fs.length = xs.length + 1 := by rw [← hl]; simp
 obtain ⟨fs1, f, rfl⟩ : ∃ fs1 f, fs = fs1 ++ [f] := ⟨fs.dropLast, fs.getLast (by intro e; rw [e] at hlen; simp at hlen), (List.dropLast_concat_getLast _).symm⟩
 have hl1 : xs.length = fs1.length := by simpa using hl
 have hsz : (five W g (xs.length * 5) a u).heap.size = W.heap.size := by simp [five, World.setCell]
 have hch := Xax W g (xs.length * 5) a u
 have hne : ∀ b, (Value.slice (some ⟨g, 0, none⟩) (xs.length + 1) c).ownBlock ≠ some b → b ≠ g := fun b h e => h (by rw [e]; rfl)
 refine ⟨fs1 ++ [u], by simp [hl1], ?_, fun k hk hk' => ?_⟩
 · rw [List.length_append, List.length_singleton] at hown ⊢
   rw [Xso hl1]
   rw [Xso hl1] at hown
   have h1 := Xcl (Xcl (Xcl (Xcl (Xcl hown (i := xs.length * 5) (by omega) (.int .i64 a.kind)) (i := xs.length * 5 + 1) (by omega) (.int .i64 a.pl)) (i := xs.length * 5 + 2) (by omega) (.int .i64 a.num)) (i := xs.length * 5 + 3) (by omega) (.string (Xab a.name))) (i := xs.length * 5 + 4) (by omega) u
   have h2 := Yfi (l := exsV xs fs1) (a := .int .i64 z.kind) (b := .int .i64 z.pl) (c := .int .i64 z.num) (d := .string (Xab z.name)) (e := f) (a' := .int .i64 a.kind) (b' := .int .i64 a.pl) (c' := .int .i64 a.num) (d' := .string (Xab a.name)) (e' := u) (Xxi hl1)
   unfold Xbd at h1 ⊢
   rw [h2] at h1
   exact h1
 · by_cases hke : k < xs.length
   · have hkf : k < fs1.length := by omega
     rw [List.getElem_append_left hke, List.getElem_append_left hkf]
     have h3 := hin k (by simp; omega) (by simp; omega)
     rw [List.getElem_append_left hke, List.getElem_append_left hkf] at h3
     exact ⟨h3.1, h3.2.keep (fun b hb => hch.block b hb.2.1 (hne b hb.2.2)) fun b hb => ⟨hb.1, by rw [hsz]; exact hb.2.1, hb.2.2⟩⟩
   · have hk0 : k = xs.length := by simp at hk; omega
     subst hk0
     have e1 : (xs ++ [a])[xs.length] = a := by simp
     have e2 : (fs1 ++ [u])[xs.length]'hk' = u := by
      rw [List.getElem_append_right (by omega)]
      simp [hl1]
     rw [e1, e2]
     exact ⟨by omega, hu.keep (fun b hb => hch.block b hb.2.1 hb.2.2) fun b hb => ⟨hb.1, by rw [hsz]; exact hb.2.1, fun e => hb.2.2 (by simpa [Value.ownBlock] using e.symm)⟩⟩
theorem Xaw {W : World} {P : Nat → Prop} {base g m c : Nat} {xs : List Ex} {z : Ex} (hm : m = xs.length) (h : Xaf W P base (.slice (some ⟨g, 0, none⟩) (m + 1) c) (xs ++ [z])) :
  ∀ i, i < 5 → (∃ y, W.cell? ⟨g, m * 5 + i, none⟩ = some y) ∧ W.frozen? ⟨g, m * 5 + i, none⟩ = false := by
 subst hm
 obtain ⟨fs, hl, hown, hin⟩ := h
 rw [List.length_append, List.length_singleton] at hown
 obtain ⟨cur, hg, hc, hs, -⟩ := Xod hown
 intro i hi
 have hlt : xs.length * 5 + i < cur.size := by rw [hs]; omega
 refine ⟨⟨cur[xs.length * 5 + i], ?_⟩, frozen_of_row W g _ _ _ hg⟩
 rw [cell_of_row W g _ _ _ (0, 0) hg]
 simp [hlt]
end Go.Proofs.YtbckeljbpknbdaaGreatDoor
