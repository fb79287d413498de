/- At Au -/
import Derived.Test.YtbckeljbpknbdaaGreatDoorVa4
import Derived.Test.YtbckeljbpknbdaaGreatDoorVa5
set_option linter.unusedVariables false
set_option linter.unusedSimpArgs false
namespace Go.Proofs.YtbckeljbpknbdaaGreatDoor
open Go.RowKit
theorem Xii {w : World} {B R L : Nat} {us : List Tok} (h : RdAt w B R L us) (hB : B ≤ w.heap.size) :
  Calls Tryz.prog 124 #[.pointer (some ⟨R, 0, none⟩)] w fun e w' => e = .returned (.bool (opensB us)) ∧ Below w.heap.size w w' := by
 obtain ⟨S, hS⟩ : ∃ S, S = Xab (tx us) := ⟨_, rfl⟩
 obtain ⟨K, hK⟩ : ∃ K : Int, K = (kd us : Nat) := ⟨_, rfl⟩
 obtain ⟨P, hP⟩ : ∃ P : Int, P = (plc L us : Nat) := ⟨_, rfl⟩
 have HNX : Hid (∀ wx, Below w.heap.size w wx → Calls Tryz.prog 49 #[.pointer (some ⟨R, 0, none⟩)] wx fun e w' => e = .returned (.agg #[.int .i64 K, .string S, .int .i64 P]) ∧ Below wx.heap.size wx w') := lh fun wx hb => by
  rw [hS, hK, hP]; exact Xeg (h.below' hB hb)
 have HIN : Hid (∀ wx, Below w.heap.size w wx → Calls Tryz.prog 52 #[.pointer (some ⟨R, 0, none⟩)] wx fun e w' => e = .returned (.bool (decide (kd us = 1))) ∧ Below wx.heap.size wx w') := lh fun wx hb => Xda (h.below' hB hb)
 have hf0 := Yav
 have hf1 := Xdn
 by_cases hm : tx us ∈ [[116, 114, 117, 101], [102, 97, 108, 115, 101], [110, 105, 108], [108, 101, 110], [40], [110, 101, 119], [109, 97, 107, 101], [114, 101, 108, 101, 97, 115, 101]]
 · have HO : Hid (opensB us = true) := lh (by unfold opensB; exact decide_eq_true (.inl hm))
   rw [HO.out]
   have hst : S.toList = tx us := by rw [hS, Xad]
   have hm8 : tx us = [116, 114, 117, 101] ∨ tx us = [102, 97, 108, 115, 101] ∨ tx us = [110, 105, 108] ∨ tx us = [108, 101, 110] ∨ tx us = [40] ∨ tx us = [110, 101, 119] ∨ tx us = [109, 97, 107, 101] ∨ tx us = [114, 101, 108, 101, 97, 115, 101] := by simpa using hm
   clear h hB hS hK hP hm
   rcases hm8 with hm | hm | hm | hm | hm | hm | hm | hm
   all_goals
    rw [hm] at hst
    clear hm
    go_enter Tryz.func124, Tryz.ntmps124
    go_wp2_with fail
    refine (HNX.out w (Below.refl _ _)).mono ?_
    rintro e w1 ⟨rfl, hb⟩
    have HB1 := lh hb
    clear hb
    go_wp2
    go_ret
    exact ⟨rfl, HB1.out⟩
 · have HO : Hid (opensB us = (decide (kd us = 1) || decide (kd us = 2))) := lh (by
    unfold opensB
    by_cases h1 : kd us = 1 <;> by_cases h2 : kd us = 2 <;> simp [h1, h2] <;> (first | omega | skip)
    simpa using hm)
   rw [HO.out]
   have e0 : (S.toList == [116, 114, 117, 101]) = false := by rw [hS, Xad]; exact beq_eq_false_iff_ne.2 fun e => hm (by rw [e]; decide)
   have e1 : (S.toList == [102, 97, 108, 115, 101]) = false := by rw [hS, Xad]; exact beq_eq_false_iff_ne.2 fun e => hm (by rw [e]; decide)
   have e2 : (S.toList == [110, 105, 108]) = false := by rw [hS, Xad]; exact beq_eq_false_iff_ne.2 fun e => hm (by rw [e]; decide)
   have e3 : (S.toList == [108, 101, 110]) = false := by rw [hS, Xad]; exact beq_eq_false_iff_ne.2 fun e => hm (by rw [e]; decide)
   have e4 : (S.toList == [40]) = false := by rw [hS, Xad]; exact beq_eq_false_iff_ne.2 fun e => hm (by rw [e]; decide)
   have e5 : (S.toList == [110, 101, 119]) = false := by rw [hS, Xad]; exact beq_eq_false_iff_ne.2 fun e => hm (by rw [e]; decide)
   have e6 : (S.toList == [109, 97, 107, 101]) = false := by rw [hS, Xad]; exact beq_eq_false_iff_ne.2 fun e => hm (by rw [e]; decide)
   have e7 : (S.toList == [114, 101, 108, 101, 97, 115, 101]) = false := by rw [hS, Xad]; exact beq_eq_false_iff_ne.2 fun e => hm (by rw [e]; decide)
   by_cases h1 : kd us = 1
   · have d1 : decide (kd us = 1) = true := decide_eq_true h1
     rw [d1] at HIN ⊢
     clear h hB hS hK hP hm h1 d1
     go_enter Tryz.func124, Tryz.ntmps124
     go_wp2_with fail
     refine (HNX.out w (Below.refl _ _)).mono ?_
     rintro e w1 ⟨rfl, hb⟩
     have HB1 := lh hb
     clear hb
     go_wp2_with fail
     refine (HIN.out w1 HB1.out).mono ?_
     rintro e w2 ⟨rfl, hb⟩
     have HB2 := lh (HB1.out.trans (hb.mono HB1.out.size))
     clear hb
     go_wp2
     go_ret
     exact ⟨rfl, HB2.out⟩
   · have d1 : decide (kd us = 1) = false := decide_eq_false h1
     rw [d1] at HIN ⊢
     have HD : Hid (decide (kd us = 2) = decide (K = 2)) := lh (by rw [hK]; exact (kd_dec us 2).symm)
     rw [HD.out]
     clear h hB hS hK hP hm h1 d1
     go_enter Tryz.func124, Tryz.ntmps124
     go_wp2_with fail
     refine (HNX.out w (Below.refl _ _)).mono ?_
     rintro e w1 ⟨rfl, hb⟩
     have HB1 := lh hb
     clear hb
     go_wp2_with fail
     refine (HIN.out w1 HB1.out).mono ?_
     rintro e w2 ⟨rfl, hb⟩
     have HB2 := lh (HB1.out.trans (hb.mono HB1.out.size))
     clear hb
     go_wp2_with fail
     refine (HNX.out w2 HB2.out).mono ?_
     rintro e w3 ⟨rfl, hb⟩
     have HB3 := lh (HB2.out.trans (hb.mono HB2.out.size))
     clear hb
     go_wp2
     go_ret
     exact ⟨by by_cases h : K = 2 <;> simp [h], HB3.out⟩
theorem Xxr {w : World} {B R L n : Nat} (hn : n ≤ 24) (hE : Xrw L n) {us : List Tok} (h : RdAt w B R L us) (hl : tx us = [46] ∨ tx us = [91]) (hB : B ≤ w.heap.size) {Q : Nat → Prop} (hQ1 : ∀ b, Q b → B ≤ b) (hQ2 : ∀ b, w.heap.size ≤ b → Q b) (o : Ex) {u : Value} (hio : Xbb w (fun b => Q b ∧ b < w.heap.size) o.args u) (hon : o.name.length ≤ 16384) :
  Calls Tryz.prog 126 #[.pointer (some ⟨R, 0, none⟩), .agg #[.int .i64 o.kind, .int .i64 o.pl, .int .i64 o.num, .string (Xab o.name), u], .int .i64 (24 - (n : Nat))] w (Xaj (ExQ Q) w B R L (Xdh L (Xah L n) o us)) := by
 obtain ⟨A, c, rfl, _, _⟩ := hio.slice
 have HQ : Hid ((∀ b, Q b → B ≤ b) ∧ ∀ b, w.heap.size ≤ b → Q b) := lh ⟨hQ1, hQ2⟩
 have hE' : ∀ (w : World) (us : List Tok), RdAt w B R L us → B ≤ w.heap.size → Calls Tryz.prog 110 #[.pointer (some ⟨R, 0, none⟩), .int .i64 ((24 - (n : Nat) : Int) + 1)] w (Xaj (ExB w.heap.size) w B R L (Xah L n us)) := fun w us hr hb => by
  rw [show (24 - (n : Nat) : Int) + 1 = 25 - (n : Nat) by omega]; exact hE w B R us hr hb
 match us, hl with
 | t :: r, hl =>
   have hne : (Xab t.text).toList = t.text := Xad _
   rcases hl with hl | hl
   · have hl : t.text = [46] := hl
     have hT : (Xab t.text).toList = [46] := by rw [hne, hl]
     have hM : Xdh L (Xah L n) o (t :: r) = (Xbo L r).map fun s => .mk 5 t.pl 0 s [o] := by unfold Xdh; exact if_pos hl
     cases hx : Xbo L r with
     | bad p9 c9 => exact Xtp h hB hB (Nat.le_refl _) HQ o A _ c hio hon _ hT rfl _ (by omega) (by omega) hE' hx (hM.trans (Xbc hx))
     | ok s9 r9 => exact link_dot h hB hB (Nat.le_refl _) HQ o A _ c hio hon _ hT rfl _ (by omega) (by omega) hE' hx (hM.trans (Xbi hx))
   · have hl : t.text = [91] := hl
     have hT : (Xab t.text).toList = [91] := by rw [hne, hl]
     have hM : Xdh L (Xah L n) o (t :: r) = (Xah L n r).bind fun a r2 => if tx r2 = [58] then (Xah L n r2.tail).bind fun b r3 => (Xal L [[93]] r3).map fun _ => .mk 7 t.pl 0 [] [o, a, b]
       else (Xal L [[93]] r2).map fun _ => .mk 6 t.pl 0 [] [o, a] := by unfold Xdh; exact if_neg (by rw [hl]; decide)
     cases hx : Xah L n r with
     | bad p9 c9 => exact Ydq h hB hB (Nat.le_refl _) HQ o A _ c hio hon _ hT rfl _ (by omega) (by omega) hE' hx (hM.trans (Xam hx))
     | ok a r2 =>
       have hM := hM.trans (Xap hx)
       by_cases h58 : tx r2 = [58]
       · have hM := hM.trans (if_pos h58)
         cases hx2 : Xah L n r2.tail with
         | bad p9 c9 => exact Xnv h hB hB (Nat.le_refl _) HQ o A _ c hio hon _ hT rfl _ (by omega) (by omega) hE' hx h58 hx2 (hM.trans (Xam hx2))
         | ok b r6 =>
           have hM := hM.trans (Xap hx2)
           cases htx : Xal L [[93]] r6 with
           | bad p5 c5 => exact Xoy h hB hB (Nat.le_refl _) HQ o A _ c hio hon _ hT rfl _ (by omega) (by omega) hE' hx h58 hx2 htx (hM.trans (Xbc htx))
           | ok t5 r5 => exact Yab h hB hB (Nat.le_refl _) HQ o A _ c hio hon _ hT rfl _ (by omega) (by omega) hE' hx h58 hx2 htx (hM.trans (Xbi htx))
       · have hM := hM.trans (if_neg h58)
         cases htx : Xal L [[93]] r2 with
         | bad p5 c5 => exact Xox h hB hB (Nat.le_refl _) HQ o A _ c hio hon _ hT rfl _ (by omega) (by omega) hE' hx h58 htx (hM.trans (Xbc htx))
         | ok t5 r5 => exact Yaa h hB hB (Nat.le_refl _) HQ o A _ c hio hon _ hT rfl _ (by omega) (by omega) hE' hx h58 htx (hM.trans (Xbi htx))
section
def Xws (L n : Nat) : Prop := ∀ (w : World) (B R : Nat) (us : List Tok), RdAt w B R L us → B ≤ w.heap.size → opensB us = true →
 Calls Tryz.prog 125 #[.pointer (some ⟨R, 0, none⟩), .int .i64 (24 - (n : Nat))] w (Xaj (ExB w.heap.size) w B R L (Xch L (Xah L n) us))
structure Xje (w Z : World) (B R L F : Nat) (x : Ex) (u : Value) (us : List Tok) : Prop where
 row : Z.heap[F]? = some (.cells #[.int .i64 x.kind, .int .i64 x.pl, .int .i64 x.num, .string (Xab x.name), u] 152 (0, 0))
 res : Z.heap[w.heap.size]? = some (.cells #[.int .i64 0, .int .i64 0, .int .i64 0, .string ⟨#[]⟩, .slice none 0 0] 152 (0, 0))
 rd : RdAt Z B R L us
 chg : Chg (fun b => b = R) w Z
 exs : Xbb Z (fun b => (w.heap.size ≤ b ∧ b ≠ F ∧ b ≠ w.heap.size) ∧ b < Z.heap.size) x.args u
 nm : x.name.length ≤ 16384
theorem set_five {w : World} {g : Nat} {a b c d e : Value} {t : TypeId} (h : w.heap[g]? = some (.cells #[a, b, c, d, e] t (0, 0))) (a' b' c' d' e' : Value) :
  (((((w.setCell ⟨g, 0, none⟩ a').setCell ⟨g, 1, none⟩ b').setCell ⟨g, 2, none⟩ c').setCell ⟨g, 3, none⟩ d').setCell ⟨g, 4, none⟩ e').heap[g]? = some (.cells #[a', b', c', d', e'] t (0, 0)) := by
 simp [World.setCell, Array.getElem?_modify, h]
theorem Xwz (Z : World) (g : Nat) (a b c d e : Value) : Chg (fun x => x = g) Z (((((Z.setCell ⟨g, 0, none⟩ a).setCell ⟨g, 1, none⟩ b).setCell ⟨g, 2, none⟩ c).setCell ⟨g, 3, none⟩ d).setCell ⟨g, 4, none⟩ e) :=
 (((((Chg.refl (fun x => x = g) Z).setCell _ _ fun _ => rfl).setCell _ _ fun _ => rfl).setCell _ _ fun _ => rfl).setCell _ _ fun _ => rfl).setCell _ _ fun _ => rfl
section
variable {w Z Z' : World} {B R L F : Nat} {x y : Ex} {u v : Value} {us us' : List Tok}
theorem Xje.below (h : Xje w Z B R L F x u us) (hB : B ≤ w.heap.size) (hb : Below Z.heap.size Z Z') : Xje w Z' B R L F x u us :=
 ⟨(hb.block _ (Xac h.row)).trans h.row, (hb.block _ (Xac h.res)).trans h.res, h.rd.below' (Nat.le_trans hB h.chg.size) hb, h.chg.up (Chg.of_below hb), h.exs.keep (fun b hb2 => hb.block b hb2.2) fun b hb2 => ⟨hb2.1, Nat.lt_of_lt_of_le hb2.2 hb.size⟩, h.nm⟩
theorem Xje.linked (h : Xje w Z B R L F x u us) (hB : B ≤ w.heap.size) (hF : w.heap.size < F) (hr : RdAt Z' B R L us') (hc : Chg (fun b => b = R) Z Z') (hi : Xbb Z' (fun b => (w.heap.size ≤ b ∧ b ≠ F ∧ b ≠ w.heap.size) ∧ b < Z'.heap.size) y.args v) (hn : y.name.length ≤ 16384) :
  Xje w (((((Z'.setCell ⟨F, 0, none⟩ (.int .i64 y.kind)).setCell ⟨F, 1, none⟩ (.int .i64 y.pl)).setCell ⟨F, 2, none⟩ (.int .i64 y.num)).setCell ⟨F, 3, none⟩ (.string (Xab y.name))).setCell ⟨F, 4, none⟩ v) B R L F y v us' := by
 have hR := hr.lt
 have hf := Xwz Z' F (.int .i64 y.kind) (.int .i64 y.pl) (.int .i64 y.num) (.string (Xab y.name)) v
 refine ⟨set_five (hc.row h.row (by omega)) _ _ _ _ _, (hf.block _ (by have := Xac h.res; have := hc.size; omega) (by omega)).trans (hc.row h.res (by omega)), hr.keep fun b hb => hf.block b (by have := hc.size; have := h.chg.size; omega) (by omega), (h.chg.up hc).trans hf fun z hz e => by omega, ?_, hn⟩
 exact hi.keep (fun b hb => hf.block b hb.2 hb.1.2.1) fun b hb => ⟨hb.1, Nat.lt_of_lt_of_le hb.2 hf.size⟩
theorem Xje.done (h : Xje w Z B R L F x u us) (hB : B ≤ w.heap.size) (hF : w.heap.size < F) :
  Xaj (ExB w.heap.size) w B R L (.ok x us) (.returned (.agg #[.int .i64 x.kind, .int .i64 x.pl, .int .i64 x.num, .string (Xab x.name), u]))
   (((((Z.setCell ⟨w.heap.size, 0, none⟩ (.int .i64 x.kind)).setCell ⟨w.heap.size, 1, none⟩ (.int .i64 x.pl)).setCell ⟨w.heap.size, 2, none⟩ (.int .i64 x.num)).setCell ⟨w.heap.size, 3, none⟩ (.string (Xab x.name))).setCell ⟨w.heap.size, 4, none⟩ u) := by
 have hf := Xwz Z w.heap.size (.int .i64 x.kind) (.int .i64 x.pl) (.int .i64 x.num) (.string (Xab x.name)) u
 refine ⟨⟨_, rfl, u, rfl, h.nm, ?_⟩, h.rd.keep fun b hb => hf.block b (by have := h.chg.size; omega) (by omega), h.chg.trans hf fun z hz e => by omega⟩
 exact h.exs.keep (fun b hb => hf.block b hb.2 hb.1.2.2) fun b hb => ⟨hb.1.1, Nat.lt_of_lt_of_le hb.2 hf.size⟩
end
theorem Xpj {L n k : Nat} {x : Ex} {us : List Tok} {T : Rd Ex} (h : T = Xdc L (Xah L n) (k + 1) x us) (hc : tx us = [46] ∨ tx us = [91]) : T = (Xdh L (Xah L n) x us).bind fun e2 r => Xdc L (Xah L n) k e2 r := by
 rw [h]; conv => lhs; unfold Xdc
 exact if_pos hc
theorem Xpi {L n : Nat} {x : Ex} {us : List Tok} {T : Rd Ex} (h : T = Xdc L (Xah L n) 0 x us) (hc : tx us = [46] ∨ tx us = [91]) : T = .bad (plc L us) 21 := by
 rw [h]; unfold Xdc; exact if_pos hc
theorem Xyy {L n k : Nat} {x : Ex} {us : List Tok} {T : Rd Ex} (h : T = Xdc L (Xah L n) k x us) (hc : ¬ (tx us = [46] ∨ tx us = [91])) : T = .ok x us := by
 rw [h]; unfold Xdc; exact if_neg hc
set_option maxRecDepth 100000 in
set_option maxHeartbeats 4000000 in
theorem Ycq {L n : Nat} (hn : n ≤ 24) (hE : Xrw L n) (hF : Xws L n) {w : World} {B R : Nat} {us : List Tok} (h : RdAt w B R L us) (hB : B ≤ w.heap.size) (ho : opensB us = true) {e0 : Ex} {r0 : List Tok} (hx : Xch L (Xah L n) us = .ok e0 r0) (D : Int) (hD : D = 24 - (n : Nat)) :
  Calls Tryz.prog 110 #[.pointer (some ⟨R, 0, none⟩), .int .i64 D] w (Xaj (ExB w.heap.size) w B R L (Xdc L (Xah L n) 8 e0 r0)) := by
 obtain ⟨T, hT⟩ : ∃ T, T = Xdc L (Xah L n) 8 e0 r0 := ⟨_, rfl⟩
 rw [← hT]
 obtain ⟨X, hX⟩ : ∃ X : World, X = w.alloc (.cells #[.int .i64 0, .int .i64 0, .int .i64 0, .string ⟨#[]⟩, .slice none 0 0] 152) := ⟨_, rfl⟩
 have hbx : Below w.heap.size w X := by rw [hX]; exact Xae _ _
 have hxg : X.heap[w.heap.size]? = some (.cells #[.int .i64 0, .int .i64 0, .int .i64 0, .string ⟨#[]⟩, .slice none 0 0] 152 (0, 0)) := by rw [hX]; exact heap_alloc_new _ _
 have HO := lh (Xii (h.below' hB hbx) (Nat.le_trans hB hbx.size))
 rw [ho] at HO
 have HFC : Hid (∀ wx, Below X.heap.size X wx → Calls Tryz.prog 125 #[.pointer (some ⟨R, 0, none⟩), .int .i64 D] wx (Xaj (ExB wx.heap.size) wx B R L (.ok e0 r0))) := lh fun wx hb => by
  rw [hD, ← hx]
  exact hF wx B R us (h.below' hB (hbx.trans (hb.mono hbx.size))) (Nat.le_trans hB (Nat.le_trans hbx.size hb.size)) ho
 have hD1 : D ≤ 24 := by omega
 have hD0 : 0 ≤ D := by omega
 have HD := lh hD
 have HB := lh hB
 have HN := lh hn
 have HE := lh hE
 have HT := lh hT
 have HX := lh hX
 have HBX := lh hbx
 have HG := lh hxg
 have HRW := lh (show R < w.heap.size by have := h.lt; omega)
 have hf1 := Xdn
 clear hX hbx hxg h hB ho hx hT hD hn hE hF
 go_enter Tryz.func110, Tryz.ntmps110
 go_wp2_with fail
 rw [← HX.out]
 refine HO.out.mono ?_
 rintro e w1 ⟨rfl, hb⟩
 have HB1 := lh hb
 clear hb
 go_wp2_with fail
 refine (Xcb _ _ _).mono ?_
 rintro e wm ⟨rfl, rfl⟩
 go_wp2_with fail
 refine (Xcb _ _ _).mono ?_
 rintro e wm ⟨rfl, rfl⟩
 go_wp2_with fail
 refine (HFC.out w1 HB1.out).mono ?_
 rintro e w2 ⟨⟨v, rfl, u0, rfl, hn0, hi0⟩, hr0, hc0⟩
 obtain ⟨A0, z0, c0, hu0⟩ : ∃ A z c, u0 = .slice A z c := by cases hi0; exact ⟨_, _, _, rfl⟩
 subst hu0
 obtain ⟨F, hFd⟩ : ∃ F, F = w2.heap.size := ⟨_, rfl⟩
 obtain ⟨Y, hY⟩ : ∃ Y : World, Y = w2.alloc (.cells #[.int .i64 e0.kind, .int .i64 e0.pl, .int .i64 e0.num, .string (Xab e0.name), .slice A0 z0 c0] 152) := ⟨_, rfl⟩
 have hsX : X.heap.size = w.heap.size + 1 := by rw [HX.out]; simp
 have hs1 := HB1.out.size
 have hs2 := hc0.size
 have HAT0 : Hid (Xje w Y B R L F e0 (.slice A0 z0 c0) r0) := lh (by
  have hbY : Below w2.heap.size w2 Y := by rw [hY]; exact Xae _ _
  refine ⟨by rw [hY, hFd]; exact heap_alloc_new _ _, ?_, hr0.below' (by have := HB.out; omega) hbY, (Xbf HBX.out (Xbf HB1.out hc0)).up (Chg.of_below hbY), ?_, hn0⟩
  · rw [hbY.block _ (by omega)]
    exact hc0.row ((HB1.out.block _ (by omega)).trans HG.out) (by have := HRW.out; omega)
  · exact hi0.keep (fun b hb => hbY.block b hb.2) fun b hb => ⟨⟨by omega, by omega, by omega⟩, by have := hbY.size; omega⟩)
 have HFW : Hid (w.heap.size < F) := lh (by omega)
 have HY := lh hY
 have HFD := lh hFd
 clear hn0 hi0 hr0 hc0 hFd hY hsX hs1 hs2 HG
 go_wp2_with fail
 rw [← HY.out, ← HFD.out]
 go_loopw [6] (fun i wr => ∃ k : Nat, i = .int .i64 (k : Nat) ∧ k ≤ 8 ∧ Hid (∃ (x : Ex) (u : Value) (us' : List Tok), Xje w wr B R L F x u us' ∧ T = Xdc L (Xah L n) (8 - k) x us')) (fun i _ => 8 - (intOf i).toNat)
 case atStart => exact ⟨0, rfl, Nat.zero_le _, lh ⟨e0, _, r0, HAT0.out, HT.out⟩⟩
 case round =>
  obtain ⟨wo, rfl⟩ : ∃ wo : World, wo = wr := ⟨_, rfl⟩
  obtain ⟨k, rfl, hk, HR⟩ := hrel
  obtain ⟨x, u, us', hat, htm⟩ := HR.out
  obtain ⟨A1, z1, c1, hu1⟩ : ∃ A z c, u = .slice A z c := by have h9 := hat.exs; cases h9; exact ⟨_, _, _, rfl⟩
  subst hu1
  clear HR HAT0
  have HAT := lh hat
  have HTM := lh htm
  obtain ⟨S, hS⟩ : ∃ S, S = Xab (tx us') := ⟨_, rfl⟩
  obtain ⟨K, hK⟩ : ∃ K : Int, K = (kd us' : Nat) := ⟨_, rfl⟩
  obtain ⟨P, hP⟩ : ∃ P : Int, P = (plc L us' : Nat) := ⟨_, rfl⟩
  have HNX : Hid (∀ wx, Below wo.heap.size wo wx → Calls Tryz.prog 49 #[.pointer (some ⟨R, 0, none⟩)] wx fun e w' => e = .returned (.agg #[.int .i64 K, .string S, .int .i64 P]) ∧ Below wx.heap.size wx w') := lh fun wx hb => by
   rw [hS, hK, hP]; exact Xeg (HAT.out.below HB.out hb).rd
  have HBo := lh (Below.refl wo.heap.size wo)
  have hst : S.toList = tx us' := by rw [hS, Xad]
  by_cases h46 : tx us' = [46]
  · have HCC : Hid (tx us' = [46] ∨ tx us' = [91]) := lh (.inl h46)
    rw [h46] at hst
    clear hat htm hS hK hP h46
    by_cases hk8 : k < 8
    · have hk8' : (k : Int) < 8 := by omega
      have HCH := lh (Xpj (T := T) (k := 8 - (k + 1)) (by rw [show 8 - (k + 1) + 1 = 8 - k by omega]; exact HTM.out) HCC.out)
      clear hk8
      go_wp2_with fail
      refine (HNX.out wo HBo.out).mono ?_
      rintro e wp ⟨rfl, hb⟩
      have HBp := lh (HBo.out.trans (hb.mono HBo.out.size))
      clear hb
      have HA2 := lh (HAT.out.below HB.out HBp.out)
      go_wp2_with fail
      refine (Xcb _ _ _).mono ?_
      rintro e wm ⟨rfl, rfl⟩
      obtain ⟨q0, q1, q2, q3, q4, -⟩ := row5 HA2.out.row
      have HLK := lh (Xxr HN.out HE.out HA2.out.rd HCC.out (Nat.le_trans HB.out HA2.out.chg.size) (Q := fun b => w.heap.size ≤ b ∧ b ≠ F ∧ b ≠ w.heap.size) (fun b hb => Nat.le_trans HB.out hb.1) (fun b hb => by have := Xac HA2.out.row; have := HA2.out.chg.size; have := HFW.out; have := Xac HA2.out.res; exact ⟨by omega, by omega, by omega⟩) x HA2.out.exs HA2.out.nm)
      rw [← HD.out] at HLK
      go_wp2_with fail
      refine HLK.out.mono ?_
      rintro e wl hp
      clear q0 q1 q2 q3 q4 HLK
      cases hx : Xdh L (Xah L n) x us' with
      | bad p c =>
        have HM := lh (HCH.out.trans (Xam hx))
        rw [hx] at hp
        obtain ⟨rfl, hc⟩ := hp
        have HC := lh (HA2.out.chg.up hc)
        clear hx hc
        unfold Xag
        go_wp2
        rw [HM.out]
        exact ⟨rfl, rfl, HC.out⟩
      | ok y r =>
        have HM := lh (HCH.out.trans (Xap hx))
        rw [hx] at hp
        obtain ⟨⟨v, rfl, u2, rfl, hn2, hi2⟩, hr2, hc2⟩ := hp
        obtain ⟨A2, z2, c2, hu2⟩ : ∃ A z c, u2 = .slice A z c := by cases hi2; exact ⟨_, _, _, rfl⟩
        subst hu2
        have HA3 := lh (HA2.out.linked HB.out HFW.out hr2 hc2 hi2 hn2)
        obtain ⟨q0, q1, q2, q3, q4, z0, z1, z2, z3, z4⟩ := row5 (hc2.row HA2.out.row (by have := hr2.lt; have := HB.out; have := HFW.out; omega))
        clear hx hr2 hc2 hi2 hn2
        go_wp2_with fail
        go_roundw
        case rel => exact ⟨k + 1, by go_num, by omega, lh ⟨y, _, r, HA3.out, HM.out⟩⟩
        case measure => simp [intOf]; omega
    · have hk8' : ¬ (k : Int) < 8 := by omega
      have HCH := lh (Xpi (T := T) (by rw [show (0 : Nat) = 8 - k by omega]; exact HTM.out) HCC.out)
      clear hk8
      go_wp2_with fail
      refine (HNX.out wo HBo.out).mono ?_
      rintro e wp ⟨rfl, hb⟩
      have HBp := lh (HBo.out.trans (hb.mono HBo.out.size))
      clear hb
      have HA2 := lh (HAT.out.below HB.out HBp.out)
      go_wp2_with fail
      rw [show decide ((k : Int) < 8) = false from decide_eq_false (by omega)]
      refine (Xel HA2.out.rd 21).mono ?_
      rintro e wm ⟨rfl, hb⟩
      have HC := lh (HA2.out.chg.up (Chg.of_below hb))
      clear hb
      unfold Xag
      go_wp2
      rw [HCH.out]
      exact ⟨rfl, rfl, HC.out⟩
  · by_cases h91 : tx us' = [91]
    · have HCC : Hid (tx us' = [46] ∨ tx us' = [91]) := lh (.inr h91)
      rw [h91] at hst
      clear hat htm hS hK hP h46 h91
      by_cases hk8 : k < 8
      · have hk8' : (k : Int) < 8 := by omega
        have HCH := lh (Xpj (T := T) (k := 8 - (k + 1)) (by rw [show 8 - (k + 1) + 1 = 8 - k by omega]; exact HTM.out) HCC.out)
        clear hk8
        go_wp2_with fail
        refine (HNX.out wo HBo.out).mono ?_
        rintro e wp ⟨rfl, hb⟩
        have HBp := lh (HBo.out.trans (hb.mono HBo.out.size))
        clear hb
        go_wp2_with fail
        refine (HNX.out wp HBp.out).mono ?_
        rintro e wq ⟨rfl, hb⟩
        have HBq := lh (HBp.out.trans (hb.mono HBp.out.size))
        clear hb
        have HA2 := lh (HAT.out.below HB.out HBq.out)
        go_wp2_with fail
        refine (Xcb _ _ _).mono ?_
        rintro e wm ⟨rfl, rfl⟩
        obtain ⟨q0, q1, q2, q3, q4, -⟩ := row5 HA2.out.row
        have HLK := lh (Xxr HN.out HE.out HA2.out.rd HCC.out (Nat.le_trans HB.out HA2.out.chg.size) (Q := fun b => w.heap.size ≤ b ∧ b ≠ F ∧ b ≠ w.heap.size) (fun b hb => Nat.le_trans HB.out hb.1) (fun b hb => by have := Xac HA2.out.row; have := HA2.out.chg.size; have := HFW.out; have := Xac HA2.out.res; exact ⟨by omega, by omega, by omega⟩) x HA2.out.exs HA2.out.nm)
        rw [← HD.out] at HLK
        go_wp2_with fail
        refine HLK.out.mono ?_
        rintro e wl hp
        clear q0 q1 q2 q3 q4 HLK
        cases hx : Xdh L (Xah L n) x us' with
        | bad p c =>
          have HM := lh (HCH.out.trans (Xam hx))
          rw [hx] at hp
          obtain ⟨rfl, hc⟩ := hp
          have HC := lh (HA2.out.chg.up hc)
          clear hx hc
          unfold Xag
          go_wp2
          rw [HM.out]
          exact ⟨rfl, rfl, HC.out⟩
        | ok y r =>
          have HM := lh (HCH.out.trans (Xap hx))
          rw [hx] at hp
          obtain ⟨⟨v, rfl, u2, rfl, hn2, hi2⟩, hr2, hc2⟩ := hp
          obtain ⟨A2, z2, c2, hu2⟩ : ∃ A z c, u2 = .slice A z c := by cases hi2; exact ⟨_, _, _, rfl⟩
          subst hu2
          have HA3 := lh (HA2.out.linked HB.out HFW.out hr2 hc2 hi2 hn2)
          obtain ⟨q0, q1, q2, q3, q4, z0, z1, z2, z3, z4⟩ := row5 (hc2.row HA2.out.row (by have := hr2.lt; have := HB.out; have := HFW.out; omega))
          clear hx hr2 hc2 hi2 hn2
          go_wp2_with fail
          go_roundw
          case rel => exact ⟨k + 1, by go_num, by omega, lh ⟨y, _, r, HA3.out, HM.out⟩⟩
          case measure => simp [intOf]; omega
      · have hk8' : ¬ (k : Int) < 8 := by omega
        have HCH := lh (Xpi (T := T) (by rw [show (0 : Nat) = 8 - k by omega]; exact HTM.out) HCC.out)
        clear hk8
        go_wp2_with fail
        refine (HNX.out wo HBo.out).mono ?_
        rintro e wp ⟨rfl, hb⟩
        have HBp := lh (HBo.out.trans (hb.mono HBo.out.size))
        clear hb
        go_wp2_with fail
        refine (HNX.out wp HBp.out).mono ?_
        rintro e wq ⟨rfl, hb⟩
        have HBq := lh (HBp.out.trans (hb.mono HBp.out.size))
        clear hb
        have HA2 := lh (HAT.out.below HB.out HBq.out)
        go_wp2_with fail
        rw [show decide ((k : Int) < 8) = false from decide_eq_false (by omega)]
        refine (Xel HA2.out.rd 21).mono ?_
        rintro e wm ⟨rfl, hb⟩
        have HC := lh (HA2.out.chg.up (Chg.of_below hb))
        clear hb
        unfold Xag
        go_wp2
        rw [HCH.out]
        exact ⟨rfl, rfl, HC.out⟩
    · have HCH := lh (Xyy htm (fun e => e.elim h46 h91))
      have e1 : (S.toList == [46]) = false := by rw [hst]; exact beq_eq_false_iff_ne.2 h46
      have e2 : (S.toList == [91]) = false := by rw [hst]; exact beq_eq_false_iff_ne.2 h91
      clear hat htm hS hK hP h46 h91 hst
      go_wp2_with fail
      refine (HNX.out wo HBo.out).mono ?_
      rintro e wp ⟨rfl, hb⟩
      have HBp := lh (HBo.out.trans (hb.mono HBo.out.size))
      clear hb
      go_wp2_with fail
      refine (HNX.out wp HBp.out).mono ?_
      rintro e wq ⟨rfl, hb⟩
      have HBq := lh (HBp.out.trans (hb.mono HBp.out.size))
      clear hb
      have HA2 := lh (HAT.out.below HB.out HBq.out)
      obtain ⟨q0, q1, q2, q3, q4, -⟩ := row5 HA2.out.row
      obtain ⟨b0, b1, b2, b3, b4, f0, f1, f2, f3, f4⟩ := row5 HA2.out.res
      go_wp2
      refine bodyPost_ret (v := .agg #[.int .i64 x.kind, .int .i64 x.pl, .int .i64 x.num, .string (Xab x.name), .slice A1 z1 c1]) ?_ rfl ?_
      · clear HA2 HAT HCH HNX HTM HE HD HN
        simp [results, Tryz.results110, go_sem, b0, b1, b2, b3, b4]
      · rw [HCH.out]
        exact HA2.out.done HB.out HFW.out
end
end Go.Proofs.YtbckeljbpknbdaaGreatDoor
