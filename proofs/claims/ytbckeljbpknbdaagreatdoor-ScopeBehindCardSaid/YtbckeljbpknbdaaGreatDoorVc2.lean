/- Gb -/
import Derived.Test.YtbckeljbpknbdaaGreatDoorVb7
import Derived.Test.YtbckeljbpknbdaaGreatDoorVb8
import Derived.Test.YtbckeljbpknbdaaGreatDoorVc0
set_option linter.unusedVariables false
set_option linter.unusedSimpArgs false
namespace Go.Proofs.YtbckeljbpknbdaaGreatDoor
open Go.RowKit
theorem Xpt {T : TypeId} {w Y : World} {B R L lo : Nat} {us : List Tok} (hB : B ≤ w.heap.size) (h : RdAt w B R L us) (hY : Y = (w.alloc (.cells #[.pointer (some ⟨R, 0, none⟩)] 52)).alloc (.cells #[.slice none 0 0] T)) (hlo : lo = w.heap.size + 2) :
  LRow T w Y B R lo w.heap.size (w.heap.size + 1) Y (.slice none 0 0) ∧ RdAt Y B R L us := by
 have hb : Below w.heap.size w Y := by rw [hY]; exact (Xae _ _).alloc (by simp) _
 have hs : Y.heap.size = w.heap.size + 2 := by rw [hY]; simp
 refine ⟨⟨hB, h.lt, ⟨by omega, by omega, by omega⟩, ⟨by omega, by omega⟩, ?_, ?_, fun _ _ _ _ => rfl, by omega, Chg.of_below hb⟩, h.below' hB hb⟩
 · rw [hY, Below.heap_alloc _ _ _ (by simp)]; exact heap_alloc_new _ _
 · rw [hY]
   have := heap_alloc_new (w.alloc (.cells #[.pointer (some ⟨R, 0, none⟩)] 52)) (.cells #[.slice none 0 0] T)
   simpa using this
theorem Yam {w Y : World} {B R L lo : Nat} {us : List Tok} (hB : B ≤ w.heap.size) (h : RdAt w B R L us) (hY : Y = ((w.alloc (.cells #[.pointer (some ⟨R, 0, none⟩)] 52)).alloc (.cells #[.slice none 0 0] 25)).alloc (.cells #[.slice none 0 0] 25)) (hlo : lo = w.heap.size + 3) :
  LRow 25 w Y B R lo w.heap.size (w.heap.size + 1 + 1) Y (.slice none 0 0) ∧ RdAt Y B R L us ∧ Y.heap[w.heap.size + 1]? = some (.cells #[.slice none 0 0] 25 (0, 0)) := by
 have hb : Below w.heap.size w Y := by rw [hY]; exact ((Xae _ _).alloc (by simp) _).alloc (by simp; omega) _
 have hs : Y.heap.size = w.heap.size + 3 := by rw [hY]; simp
 refine ⟨⟨hB, h.lt, ⟨by omega, by omega, by omega⟩, ⟨by omega, by omega⟩, ?_, ?_, fun _ _ _ _ => rfl, by omega, Chg.of_below hb⟩, h.below' hB hb, ?_⟩
 · rw [hY, Below.heap_alloc _ _ _ (by simp; omega), Below.heap_alloc _ _ _ (by simp)]; exact heap_alloc_new _ _
 · rw [hY]
   have := heap_alloc_new ((w.alloc (.cells #[.pointer (some ⟨R, 0, none⟩)] 52)).alloc (.cells #[.slice none 0 0] 25)) (.cells #[.slice none 0 0] 25)
   simpa using this
 · rw [hY, Below.heap_alloc _ _ _ (by simp)]
   have := heap_alloc_new (w.alloc (.cells #[.pointer (some ⟨R, 0, none⟩)] 52)) (.cells #[.slice none 0 0] 25)
   simpa using this
set_option maxRecDepth 100000 in
theorem Xsp {w Y w0 : World} {B R L lo : Nat} (hB : B ≤ w.heap.size) (hR : R < B) (hlo : w.heap.size < lo)
   (h0 : Chg (fun b => b = R) w w0) : Elem w0 B R L 78 #[.pointer (some ⟨w.heap.size + 1, 0, none⟩), .pointer (some ⟨w.heap.size, 0, none⟩)] (fun b => b = R ∨ w.heap.size ≤ b) (Xfo L)
    (fun Z acc => ∃ A m c, LRow 43 w Y B R lo w.heap.size (w.heap.size + 1) Z (.slice A m c) ∧ Xci Z lo (.slice A m c) acc) where
 ent := fun _ _ => rfl
 keep Z Z' acc hi hc := by
  obtain ⟨A, m, c, hl, ho⟩ := hi
  exact ⟨A, m, c, hl.step hc, Xci.keep ho hc.size fun b hb hl => hc.block b hb (by omega)⟩
 reader := .inl rfl
 less k us := Xid k us
 call acc us Z hr hBz hc hi hk := by
  obtain ⟨A, m, c, hl, ho⟩ := hi
  refine Calls.mono (efield hl hr ho hk) ?_
  rintro e w' ⟨hp, hsz⟩
  have hs2 := Nat.le_trans hc.size hsz
  cases hx : Xfo L acc.length us with
  | bad p c =>
    rw [hx] at hp
    obtain ⟨rfl, hc2⟩ := hp
    exact ⟨rfl, Xgz h0 hc2 hs2⟩
  | ok a r =>
    rw [hx] at hp
    obtain ⟨rfl, A2, m2, c2, hf, hr2, ho2⟩ := hp
    exact ⟨rfl, hr2, Xgz h0 hf.chg hs2, A2, m2, c2, hf, ho2⟩
set_option maxRecDepth 100000 in
set_option maxHeartbeats 2000000 in
theorem Xvd {w : World} {B R L : Nat} {us : List Tok} (h : RdAt w B R L us) (hB : B ≤ w.heap.size) : Calls Tryz.prog 54 #[.pointer (some ⟨R, 0, none⟩)] w (Xaj (PrsB w.heap.size) w B R L (Xen L us)) := by
 obtain ⟨Y, hY⟩ : ∃ Y : World, Y = (w.alloc (.cells #[.pointer (some ⟨R, 0, none⟩)] 52)).alloc (.cells #[.slice none 0 0] 43) := ⟨_, rfl⟩
 obtain ⟨lo, hlo⟩ : ∃ lo, lo = w.heap.size + 2 := ⟨_, rfl⟩
 obtain ⟨hf, hr0⟩ := Xpt (T := 43) hB h hY hlo
 have hys : Y.heap.size = w.heap.size + 1 + 1 := by rw [hY]; simp
 have HT := lh (Xan hr0 (by omega) [[123]] (by simp) (by decide))
 rw [hys] at HT
 have HF0 := lh hf
 have HY := lh hY
 have HLO := lh hlo
 have HM0 : Hid (Xen L us = (Xal L [[123]] us).bind fun _ r => Xas [125] 0 (Xfo L) (r.length + 1) 0 r) := lh rfl
 have q0 := hf.cells.1
 have HB := lh hB
 have HR := lh h.lt
 clear h hf hY hB hys hr0 hlo
 go_enter Tryz.func54, Tryz.ntmps54
 go_wp2_with fail
 rw [← HY.out]
 refine HT.out.mono ?_
 rintro e w1 hp
 cases hx : Xal L [[123]] us with
 | bad p c =>
   have HM := lh (HM0.out.trans (Xam hx))
   rw [hx] at hp
   obtain ⟨rfl, hc⟩ := hp
   have HC := lh (HF0.out.chg.up hc)
   clear hx hc q0
   unfold Xag
   go_wp2
   rw [HM.out]
   exact ⟨rfl, rfl, HC.out⟩
 | ok a1 u1 =>
   have HM := lh (HM0.out.trans (Xap hx))
   rw [hx] at hp
   obtain ⟨⟨v1, rfl, hv⟩, hr, hc⟩ := hp
   have HL1 := lh (HF0.out.step hc)
   have HR1 := lh hr
   clear hx hr hc hv q0 HF0 HT
   obtain ⟨q0, q2, -⟩ := HL1.out.cells
   have HU := lh (Xiq (Xsp (Y := Y) (lo := lo) (L := L) HB.out HR.out (by have := HLO.out; omega) HL1.out.chg) HR1.out (by have := HL1.out.sz; have := HB.out; have := HLO.out; omega) ⟨_, _, _, HL1.out, Xci.nil _ _⟩ [125] 0 (Xjc (by decide)))
   go_wp2_with fail
   refine HU.out.mono ?_
   rintro e w2 hp
   cases hx : Xas [125] 0 (Xfo L) (u1.length + 1) 0 u1 with
   | bad p c =>
     have HM := lh (HM.out.trans hx)
     rw [hx] at hp
     obtain ⟨rfl, hc⟩ := hp
     have HC := lh (Xfn HL1.out.chg hc)
     clear hx hc q0 q2 HU
     unfold Xag
     go_wp2
     rw [HM.out]
     exact ⟨rfl, rfl, HC.out⟩
   | ok l u2 =>
     have HM := lh (HM.out.trans hx)
     rw [hx] at hp
     obtain ⟨rfl, hr, hc, A, m, c, hl, ho⟩ := hp
     have HRD := lh (hr (by decide))
     have HL2 := lh hl
     have HO2 := lh ho
     clear hx hr hc hl ho q0 q2 HU
     have q2 := HL2.out.cells.2.1
     go_wp2
     go_ret
     rw [HM.out]
     exact ⟨⟨_, rfl, Xca.keep (Xci.prs HO2.out) (fun _ _ => rfl) fun b hb => ⟨by have := hb.1; have := HLO.out; omega, hb.2⟩⟩, HRD.out, HL2.out.chg⟩
set_option maxRecDepth 100000 in
theorem Xtt {w Y w0 : World} {B R L lo : Nat} (hB : B ≤ w.heap.size) (hR : R < B) (hlo : w.heap.size < lo)
   (h0 : Chg (fun b => b = R) w w0) : Elem w0 B R L 80 #[.pointer (some ⟨w.heap.size, 0, none⟩), .pointer (some ⟨w.heap.size + 1, 0, none⟩)] (fun b => b = R ∨ w.heap.size ≤ b) (Xfp L)
    (fun Z acc => ∃ A m c, LRow 43 w Y B R lo w.heap.size (w.heap.size + 1) Z (.slice A m c) ∧ Xci Z lo (.slice A m c) acc) where
 ent := fun _ _ => rfl
 keep Z Z' acc hi hc := by
  obtain ⟨A, m, c, hl, ho⟩ := hi
  exact ⟨A, m, c, hl.step hc, Xci.keep ho hc.size fun b hb hl => hc.block b hb (by omega)⟩
 reader := .inl rfl
 less k us := Xkf k us
 call acc us Z hr hBz hc hi hk := by
  obtain ⟨A, m, c, hl, ho⟩ := hi
  refine Calls.mono (eparam hl hr ho hk) ?_
  rintro e w' ⟨hp, hsz⟩
  have hs2 := Nat.le_trans hc.size hsz
  cases hx : Xfp L acc.length us with
  | bad p c =>
    rw [hx] at hp
    obtain ⟨rfl, hc2⟩ := hp
    exact ⟨rfl, Xgz h0 hc2 hs2⟩
  | ok a r =>
    rw [hx] at hp
    obtain ⟨rfl, A2, m2, c2, hf, hr2, ho2⟩ := hp
    exact ⟨rfl, hr2, Xgz h0 hf.chg hs2, A2, m2, c2, hf, ho2⟩
set_option maxRecDepth 100000 in
set_option maxHeartbeats 2000000 in
theorem Xwe {w : World} {B R L : Nat} {us : List Tok} (h : RdAt w B R L us) (hB : B ≤ w.heap.size) : Calls Tryz.prog 55 #[.pointer (some ⟨R, 0, none⟩)] w (Xaj (PrsB w.heap.size) w B R L (Xfc L us)) := by
 obtain ⟨Y, hY⟩ : ∃ Y : World, Y = (w.alloc (.cells #[.pointer (some ⟨R, 0, none⟩)] 52)).alloc (.cells #[.slice none 0 0] 43) := ⟨_, rfl⟩
 obtain ⟨lo, hlo⟩ : ∃ lo, lo = w.heap.size + 2 := ⟨_, rfl⟩
 obtain ⟨hf, hr0⟩ := Xpt (T := 43) hB h hY hlo
 have hys : Y.heap.size = w.heap.size + 1 + 1 := by rw [hY]; simp
 have HT := lh (Xan hr0 (by omega) [[40]] (by simp) (by decide))
 rw [hys] at HT
 have HF0 := lh hf
 have HY := lh hY
 have HLO := lh hlo
 have HM0 : Hid (Xfc L us = (Xal L [[40]] us).bind fun _ r => Xas [41] 0 (Xfp L) (r.length + 1) 0 r) := lh rfl
 have q0 := hf.cells.1
 have HB := lh hB
 have HR := lh h.lt
 clear h hf hY hB hys hr0 hlo
 go_enter Tryz.func55, Tryz.ntmps55
 go_wp2_with fail
 rw [← HY.out]
 refine HT.out.mono ?_
 rintro e w1 hp
 cases hx : Xal L [[40]] us with
 | bad p c =>
   have HM := lh (HM0.out.trans (Xam hx))
   rw [hx] at hp
   obtain ⟨rfl, hc⟩ := hp
   have HC := lh (HF0.out.chg.up hc)
   clear hx hc q0
   unfold Xag
   go_wp2
   rw [HM.out]
   exact ⟨rfl, rfl, HC.out⟩
 | ok a1 u1 =>
   have HM := lh (HM0.out.trans (Xap hx))
   rw [hx] at hp
   obtain ⟨⟨v1, rfl, hv⟩, hr, hc⟩ := hp
   have HL1 := lh (HF0.out.step hc)
   have HR1 := lh hr
   clear hx hr hc hv q0 HF0 HT
   obtain ⟨q0, q2, -⟩ := HL1.out.cells
   have HU := lh (Xiq (Xtt (Y := Y) (lo := lo) (L := L) HB.out HR.out (by have := HLO.out; omega) HL1.out.chg) HR1.out (by have := HL1.out.sz; have := HB.out; have := HLO.out; omega) ⟨_, _, _, HL1.out, Xci.nil _ _⟩ [41] 0 (Xjc (by decide)))
   go_wp2_with fail
   refine HU.out.mono ?_
   rintro e w2 hp
   cases hx : Xas [41] 0 (Xfp L) (u1.length + 1) 0 u1 with
   | bad p c =>
     have HM := lh (HM.out.trans hx)
     rw [hx] at hp
     obtain ⟨rfl, hc⟩ := hp
     have HC := lh (Xfn HL1.out.chg hc)
     clear hx hc q0 q2 HU
     unfold Xag
     go_wp2
     rw [HM.out]
     exact ⟨rfl, rfl, HC.out⟩
   | ok l u2 =>
     have HM := lh (HM.out.trans hx)
     rw [hx] at hp
     obtain ⟨rfl, hr, hc, A, m, c, hl, ho⟩ := hp
     have HRD := lh (hr (by decide))
     have HL2 := lh hl
     have HO2 := lh ho
     clear hx hr hc hl ho q0 q2 HU
     have q2 := HL2.out.cells.2.1
     go_wp2
     go_ret
     rw [HM.out]
     exact ⟨⟨_, rfl, Xca.keep (Xci.prs HO2.out) (fun _ _ => rfl) fun b hb => ⟨by have := hb.1; have := HLO.out; omega, hb.2⟩⟩, HRD.out, HL2.out.chg⟩
set_option maxRecDepth 100000 in
theorem Yal {w Y w0 : World} {B R L lo : Nat} (hB : B ≤ w.heap.size) (hR : R < B) (hlo : w.heap.size < lo)
  (hDC : ∀ (w : World) (us : List Tok) (x : Nat), RdAt w B R L us → B ≤ w.heap.size → Calls Tryz.prog 31 #[.pointer (some ⟨R, 0, none⟩), .int .i64 (x : Nat)] w (Xaj (DcB w.heap.size) w B R L (Xbx L x us))) (h0 : Chg (fun b => b = R) w w0) : Elem w0 B R L 30 #[.pointer (some ⟨w.heap.size + 1 + 1, 0, none⟩), .pointer (some ⟨w.heap.size, 0, none⟩)] (fun b => b = R ∨ w.heap.size ≤ b) (Xbx L)
    (fun Z acc => ∃ A m c, LRow 25 w Y B R lo w.heap.size (w.heap.size + 1 + 1) Z (.slice A m c) ∧ Xbu Z lo (.slice A m c) acc) where
 ent := fun _ _ => rfl
 keep Z Z' acc hi hc := by
  obtain ⟨A, m, c, hl, ho⟩ := hi
  exact ⟨A, m, c, hl.step hc, Xbu.keep ho hc.size fun b hb hl => hc.block b hb (by omega)⟩
 reader := .inl rfl
 less k us := Xhn k us
 call acc us Z hr hBz hc hi hk := by
  obtain ⟨A, m, c, hl, ho⟩ := hi
  refine Calls.mono (epdecl hl hr ho hk hDC) ?_
  rintro e w' ⟨hp, hsz⟩
  have hs2 := Nat.le_trans hc.size hsz
  cases hx : Xbx L acc.length us with
  | bad p c =>
    rw [hx] at hp
    obtain ⟨rfl, hc2⟩ := hp
    exact ⟨rfl, Xgz h0 hc2 hs2⟩
  | ok a r =>
    rw [hx] at hp
    obtain ⟨rfl, A2, m2, c2, hf, hr2, ho2⟩ := hp
    exact ⟨rfl, hr2, Xgz h0 hf.chg hs2, A2, m2, c2, hf, ho2⟩
def ProgB (base : Nat) (w' : World) (xs : List Dc) (v : Value) : Prop := ∃ A m c, v = .agg #[.slice A m c] ∧ Xbu w' base (.slice A m c) xs
theorem Xbu.low {w : World} {base lo : Nat} {v : Value} {ds : List Dc} (h : Xbu w lo v ds) (hb : base ≤ lo) : Xbu w base v ds := by
 obtain ⟨fs, hl, ⟨h1, h2⟩, hin⟩ := h
 refine ⟨fs, hl, ⟨h1, ?_⟩, fun k hk hk' => (hin k hk hk').keep (fun _ _ => rfl) fun b h3 => ⟨by omega, h3.2⟩⟩
 rcases h2 with h2 | ⟨g, cap, cur, hv, hbg, h3⟩
 · exact .inl h2
 · exact .inr ⟨g, cap, cur, hv, by omega, h3⟩
def Xql (w : World) (R : Nat) (x : Rd (List Dc)) (e : Ending) (w' : World) : Prop := match x with
 | .bad p c => e = Xag p c ∧ Chg (fun b => b = R) w w'
 | .ok l _ => ∃ v, e = .returned v ∧ ProgB w.heap.size w' l v ∧ Chg (fun b => b = R) w w'
theorem Xwr {B R L : Nat} (w : World) (us : List Tok) (h : RdAt w B R L us) (hB : B ≤ w.heap.size) (ht : tx us = []) : Calls Tryz.prog 50 #[.pointer (some ⟨R, 0, none⟩), .slice (some ⟨w.heap.size, 0, none⟩) 1 1] (w.alloc (.cells #[.string (Xab [])] 9)) fun e w' =>
   (∃ v, e = .returned v) ∧ (([] : List UInt8) ≠ [] → RdAt w' B R L us.tail) ∧ Chg (fun b => b = R) w w' := by
 have h1 := take_end h hB
 cases us with
 | nil =>
   refine Calls.mono h1 ?_
   rintro e w' ⟨hv, hc⟩
   exact ⟨hv, fun h => absurd rfl h, hc⟩
 | cons t r => exact absurd ht (h.ok t (by simp)).1
set_option maxRecDepth 100000 in
set_option maxHeartbeats 2000000 in
theorem Xtx {w : World} {B R L : Nat} {us : List Tok} (h : RdAt w B R L us) (hB : B ≤ w.heap.size) (hDC : ∀ (w : World) (us : List Tok) (x : Nat), RdAt w B R L us → B ≤ w.heap.size → Calls Tryz.prog 31 #[.pointer (some ⟨R, 0, none⟩), .int .i64 (x : Nat)] w (Xaj (DcB w.heap.size) w B R L (Xbx L x us))) : Calls Tryz.prog 18 #[.pointer (some ⟨R, 0, none⟩)] w (Xql w R (Xbs L us)) := by
 obtain ⟨Y, hY⟩ : ∃ Y : World, Y = ((w.alloc (.cells #[.pointer (some ⟨R, 0, none⟩)] 52)).alloc (.cells #[.slice none 0 0] 25)).alloc (.cells #[.slice none 0 0] 25) := ⟨_, rfl⟩
 obtain ⟨lo, hlo⟩ : ∃ lo, lo = w.heap.size + 3 := ⟨_, rfl⟩
 obtain ⟨hf, hr0, hres⟩ := Yam hB h hY hlo
 have HF0 := lh hf
 have HY := lh hY
 have HLO := lh hlo
 have HRES := lh hres
 have HM0 : Hid (Xbs L us = Xas [] 0 (Xbx L) (us.length + 1) 0 us) := lh rfl
 obtain ⟨q0, q2, -⟩ := hf.cells
 have HB := lh hB
 have HR := lh h.lt
 have HU := lh (Xiq (Yal (Y := Y) (lo := lo) (L := L) hB h.lt (by omega) hDC hf.chg) hr0 (by have := hf.sz; omega) ⟨_, _, _, hf, Xbu.none _ _⟩ [] 0 (fun w us h hB ht => Xwr w us h hB ht))
 clear h hf hY hB hr0 hlo hres hDC
 go_enter Tryz.func18, Tryz.ntmps18
 go_wp2_with fail
 rw [← HY.out]
 refine HU.out.mono ?_
 rintro e w2 hp
 cases hx : Xas [] 0 (Xbx L) (us.length + 1) 0 us with
 | bad p c =>
   have HM := lh (HM0.out.trans hx)
   rw [hx] at hp
   obtain ⟨rfl, hc⟩ := hp
   have HC := lh (Xfn HF0.out.chg hc)
   clear hx hc q0 q2 HU
   unfold Xag
   go_wp2
   rw [HM.out]
   exact ⟨rfl, rfl, HC.out⟩
 | ok l u2 =>
   have HM := lh (HM0.out.trans hx)
   rw [hx] at hp
   obtain ⟨rfl, hr, hc, A, m, c, hl, ho⟩ := hp
   have HL2 := lh hl
   have HO2 := lh ho
   have hrs := (hl.low (w.heap.size + 1) (by omega) (by have := HLO.out; omega) (by omega)).trans HRES.out
   have b0 : w2.cell? ⟨w.heap.size + 1, 0, none⟩ = some (.slice none 0 0) := by rw [cell_of_row w2 _ 0 _ _ (0, 0) hrs]; rfl
   have f0 := frozen_of_row w2 _ 0 _ _ hrs
   have HCL := lh (Xac hrs)
   clear hx hr hc hl ho q0 q2 HU hrs
   have q2 := HL2.out.cells.2.1
   go_wp2
   refine bodyPost_ret (v := .agg #[.slice A m c]) ?_ rfl ?_
   · clear HL2 HO2
     simp [results, Tryz.results18, go_sem, b0]
   · rw [HM.out]
     have hch : Chg (fun b => b = w.heap.size + 1) w2 (w2.setCell ⟨w.heap.size + 1, 0, none⟩ (.slice A m c)) := (Chg.refl _ _).setCell _ _ fun _ => rfl
     refine ⟨_, rfl, ⟨A, m, c, rfl, Xbu.low (Xbu.keep HO2.out hch.size fun b hb hb2 => hch.block b hb (by have := HLO.out; omega)) (by have := HLO.out; omega)⟩, HL2.out.chg.trans hch fun b hb e => by omega⟩
end Go.Proofs.YtbckeljbpknbdaaGreatDoor
