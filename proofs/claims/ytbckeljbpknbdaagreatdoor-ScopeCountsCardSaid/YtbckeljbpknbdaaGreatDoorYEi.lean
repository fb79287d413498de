/- What is proved: ScopeCounts' walk: each declaration stands in the table once, in the list of its kind. -/
import Derived.Test.YtbckeljbpknbdaaGreatDoorYe6
import Derived.Test.YtbckeljbpknbdaaGreatDoorYe7
import Derived.Test.YtbckeljbpknbdaaGreatDoorRows
import Derived.Test.YtbckeljbpknbdaaGreatDoorTie
import Derived.Test.YtbckeljbpknbdaaGreatDoorCards
set_option linter.unusedVariables false
set_option linter.unusedSimpArgs false
namespace Go.Proofs.YtbckeljbpknbdaaGreatDoor
open Go.RowKit

/-- how many declarations are of lesser kinds -/
def cntB (ds : List Dc) (k : Int) : Nat := (ds.filter fun d => decide (d.kind < k)).length
theorem listK_cnt (k : Int) : ∀ (ds : List Dc) (i : Nat), (listK k ds i).length = (ds.filter fun d => decide (d.kind = k)).length
 | [], _ => rfl
 | d :: ds, i => by
   unfold listK
   by_cases h : d.kind = k
   · rw [if_pos h, List.length_cons, listK_cnt k ds, List.filter_cons_of_pos (by simpa using h), List.length_cons]
   · rw [if_neg h, listK_cnt k ds, List.filter_cons_of_neg (by simpa using h)]
theorem cntB_succ (k : Int) : ∀ (ds : List Dc), cntB ds (k + 1) = cntB ds k + (listK k ds 0).length := fun ds => by
 rw [listK_cnt]
 unfold cntB
 induction ds with
 | nil => rfl
 | cons d ds ih =>
   by_cases h1 : d.kind < k
   · rw [List.filter_cons_of_pos (by simp; omega), List.filter_cons_of_pos (by simpa using h1), List.filter_cons_of_neg (by simp; omega), List.length_cons, List.length_cons, ih]; omega
   · by_cases h2 : d.kind = k
     · rw [List.filter_cons_of_pos (by simp; omega), List.filter_cons_of_neg (by simpa using h1), List.filter_cons_of_pos (by simpa using h2), List.length_cons, List.length_cons, ih]; omega
     · rw [List.filter_cons_of_neg (by simp; omega), List.filter_cons_of_neg (by simpa using h1), List.filter_cons_of_neg (by simpa using h2), ih]
theorem cntB_one {ds : List Dc} (h : ∀ d ∈ ds, 1 ≤ d.kind ∧ d.kind ≤ 8) : cntB ds 1 = 0 := by
 unfold cntB
 rw [List.filter_eq_nil_iff.2 fun d hd => by have := h d hd; simp; omega]; rfl
theorem cntB_nine {ds : List Dc} (h : ∀ d ∈ ds, 1 ≤ d.kind ∧ d.kind ≤ 8) : cntB ds 9 = ds.length := by
 unfold cntB
 rw [List.filter_eq_self.2 fun d hd => by have := h d hd; simp; omega]
theorem listK_at (k : Int) : ∀ (ds : List Dc) (i x : Nat), x ∈ listK k ds i → i ≤ x ∧ ∃ h : x - i < ds.length, ds[x - i].kind = k
 | [], i, x, h => by cases h
 | d :: ds, i, x, h => by
   unfold listK at h
   have hrec : x ∈ listK k ds (i + 1) → i ≤ x ∧ ∃ h : x - i < (d :: ds).length, (d :: ds)[x - i].kind = k := fun h => by
    obtain ⟨h1, h2, h3⟩ := listK_at k ds (i + 1) x h
    refine ⟨by omega, by simp; omega, ?_⟩
    have e : x - i = (x - (i + 1)) + 1 := by omega
    simp only [e, List.getElem_cons_succ]
    exact h3
   split at h
   · rename_i hk
     rcases List.mem_cons.1 h with rfl | h
     · refine ⟨Nat.le_refl _, by simp, ?_⟩
       simp only [Nat.sub_self, List.getElem_cons_zero]
       exact hk
     · exact hrec h
   · exact hrec h
theorem listK_rise (k : Int) : ∀ (ds : List Dc) (i : Nat), (listK k ds i).Pairwise (· < ·)
 | [], _ => by simp [listK]
 | d :: ds, i => by
   unfold listK
   split
   · rw [List.pairwise_cons]
     exact ⟨fun x hx => by have := (listK_at k ds (i + 1) x hx).1; omega, listK_rise k ds (i + 1)⟩
   · exact listK_rise k ds (i + 1)
set_option maxRecDepth 100000 in
set_option maxHeartbeats 4000000 in
theorem scopeCounts_walk (w : World) (s : ByteArray) : Calls Tryz.prog 7 #[.string s] w fun e w' => e = .returned (.bool true) ∧ Below w.heap.size w w' := by
 by_cases hl : 20000 < s.size
 · go_enter Tryz.func7, Tryz.ntmps7
   go_wp2_with fail
   refine (alive6_any w).mono ?_
   rintro e w1 ⟨rfl, hb1⟩
   have h1 : (decide ((20000 : Int) < (s.size : Nat))) = true := by simp; omega
   go_wp2
   go_ret
   exact ⟨rfl, hb1⟩
 · have h1 : (decide ((20000 : Int) < (s.size : Nat))) = false := by simp; omega
   obtain ⟨ds, p, c, hP⟩ : ∃ ds p c, progM s.data.toList = (ds, p, c) := ⟨_, _, _, rfl⟩
   have HC1 := Lib.hid (prog6_any s (by omega) hP)
   obtain ⟨hkd, hW⟩ := read6 hP
   have HKD := Lib.hid hkd
   have HW := Lib.hid hW
   clear hP hkd hW
   go_enter Tryz.func7, Tryz.ntmps7
   go_wp2_with fail
   refine (alive6_any w).mono ?_
   rintro e w1 ⟨rfl, hb1⟩
   have HB1 := Lib.hid hb1
   clear hb1
   go_wp2_with fail
   refine (HC1.out _).mono ?_
   rintro e w2 ⟨A, n, m, rfl, hd, hb2⟩
   have HB2 := Lib.hid (HB1.out.trans (hb2.mono HB1.out.size))
   have HD := Lib.hid hd
   clear hb2 hd HC1 HB1
   by_cases hc : c = 0
   · subst hc
     go_wp2_with fail
     obtain ⟨X, hX⟩ : ∃ X, X = w2.alloc (.cells #[.slice A n m] 25) := ⟨_, rfl⟩
     have hbX : Below w2.heap.size w2 X := by rw [hX]; exact below_new _ _
     have hp0 : X.cell? ⟨w2.heap.size, 0, none⟩ = some (.slice A n m) := by rw [hX, cell_of_row _ _ 0 _ _ (0, 0) (heap_alloc_new w2 _)]; rfl
     have hlt : w2.heap.size < X.heap.size := by rw [hX]; simp
     have hinX : DcsIn X (· < X.heap.size) ds (.slice A n m) := HD.out.keep (fun b hb => hbX.block b hb.2) (fun b hb => Nat.lt_of_lt_of_le hb.2 hbX.size)
     rw [← hX]
     clear hX
     refine (names6_any X hinX HKD.out HW.out).mono ?_
     rintro e w3 ⟨Af, cf, L, cL, D, cD, rfl, hix, hlv, hdg, hb3⟩
     have hb13 := hbX.trans (hb3.mono hbX.size)
     have HB3 := Lib.hid (HB2.out.trans (hb13.mono HB2.out.size))
     have hin3 : DcsIn w3 (· < w3.heap.size) ds (.slice A n m) := hinX.keep (fun b hb => hb3.block b hb) (fun b hb => Nat.lt_of_lt_of_le hb hb3.size)
     have hp3 := (hb3.cell (p := ⟨w2.heap.size, 0, none⟩) hlt).trans hp0
     have hg3 : w2.heap.size < w3.heap.size := by have := hb3.size; omega
     obtain ⟨P, hPg⟩ : ∃ P, P = w2.heap.size := ⟨_, rfl⟩
     rw [← hPg] at hp3 hg3 ⊢
     obtain ⟨lk, hlk⟩ : ∃ lk : Int → Nat, lk = fun k => (listK k ds 0).length := ⟨_, rfl⟩
     have hlk' : ∀ k, (listK k ds 0).length = lk k := fun k => by rw [hlk]
     have HLK := Lib.hid hlk'
     simp only [hlk']
     generalize (locD ds).length = n9
     generalize (ordD (rawD ds)).length = n10
     obtain ⟨A', c', fp, fb, eA, hc1, hc2, hA, -, -⟩ := hin3
     cases eA
     have HIX := Lib.hid hix
     have HDC := Lib.hid hA
     have HG3 := Lib.hid hg3
     obtain ⟨N, hN⟩ : ∃ N, N = ds.length := ⟨_, rfl⟩
     rw [← hN] at hc1 hp3 ⊢
     have HP3 := Lib.hid hp3
     have HN := Lib.hid hN
     clear hix hlv hdg hbX hinX hb3 hb13 HD HB2 hlk hlk' hPg hp0 hlt hA hN hp3 hg3
     go_wp2_with fail
     obtain ⟨Z, hZ⟩ : ∃ Z, Z = (w3.alloc (.cells #[.slice (Af 1) (lk 1) (cf 1), .slice (Af 2) (lk 2) (cf 2), .slice (Af 3) (lk 3) (cf 3), .slice (Af 4) (lk 4) (cf 4), .slice (Af 5) (lk 5) (cf 5), .slice (Af 6) (lk 6) (cf 6), .slice (Af 7) (lk 7) (cf 7), .slice (Af 8) (lk 8) (cf 8), .slice L n9 cL] 34)).alloc (.cells #[.slice none 0 0, .slice (Af 1) (lk 1) (cf 1), .slice (Af 2) (lk 2) (cf 2), .slice (Af 3) (lk 3) (cf 3), .slice (Af 4) (lk 4) (cf 4), .slice (Af 5) (lk 5) (cf 5), .slice (Af 6) (lk 6) (cf 6), .slice (Af 7) (lk 7) (cf 7), .slice (Af 8) (lk 8) (cf 8)] 50) := ⟨_, rfl⟩
     have hbZ : Below w3.heap.size w3 Z := by rw [hZ]; exact ((Below.refl _ _).alloc (Nat.le_refl _) _).alloc (by simp) _
     have hrow : Z.heap[w3.heap.size + 1]? = some (.cells #[.slice none 0 0, .slice (Af 1) (lk 1) (cf 1), .slice (Af 2) (lk 2) (cf 2), .slice (Af 3) (lk 3) (cf 3), .slice (Af 4) (lk 4) (cf 4), .slice (Af 5) (lk 5) (cf 5), .slice (Af 6) (lk 6) (cf 6), .slice (Af 7) (lk 7) (cf 7), .slice (Af 8) (lk 8) (cf 8)] 50 (0, 0)) := by
      rw [hZ]
      generalize (Obj.cells #[.slice (Af 1) (lk 1) (cf 1), .slice (Af 2) (lk 2) (cf 2), .slice (Af 3) (lk 3) (cf 3), .slice (Af 4) (lk 4) (cf 4), .slice (Af 5) (lk 5) (cf 5), .slice (Af 6) (lk 6) (cf 6), .slice (Af 7) (lk 7) (cf 7), .slice (Af 8) (lk 8) (cf 8), .slice L n9 cL] 34) = o
      have e : (w3.alloc o).heap.size = w3.heap.size + 1 := by simp
      rw [← e]; exact heap_alloc_new _ _
     have hlc : ∀ k : Nat, 1 ≤ k → k ≤ 8 → Z.cell? ⟨w3.heap.size + 1, k, none⟩ = some (.slice (Af k) (lk k) (cf k)) := fun k h1 h8 => by
      rw [cell_of_row Z _ k _ _ (0, 0) hrow]
      have h : k = 1 ∨ k = 2 ∨ k = 3 ∨ k = 4 ∨ k = 5 ∨ k = 6 ∨ k = 7 ∨ k = 8 := by omega
      rcases h with rfl | rfl | rfl | rfl | rfl | rfl | rfl | rfl <;> rfl
     have hpc : Z.cell? ⟨P, 0, none⟩ = some (.slice A N m) := (hbZ.cell (p := ⟨P, 0, none⟩) HG3.out).trans HP3.out
     rw [← hZ]
     have HLC := Lib.hid hlc
     have HBZ := Lib.hid hbZ
     have HPC := Lib.hid hpc
     obtain ⟨BL, hBL⟩ : ∃ BL, BL = w3.heap.size + 1 := ⟨_, rfl⟩
     rw [← hBL] at HLC ⊢
     clear hlc hbZ hrow hZ hpc hBL
     have hcle : ∀ k : Int, cntB ds k ≤ N := fun k => by rw [HN.out]; exact List.length_filter_le _ _
     have HCL := Lib.hid hcle
     have H1 : Hid (0 = cntB ds 1) := Lib.hid (cntB_one HKD.out).symm
     clear hcle
     go_loop [9, 10] (fun s9 s10 => ∃ k q : Nat, 1 ≤ k ∧ k ≤ 9 ∧ s9 = .int .i64 q ∧ s10 = .int .i64 k ∧ Hid (q = cntB ds k)) (fun _ s10 => 9 - (intOf s10).toNat)
     case atStart => exact ⟨1, 0, Nat.le_refl _, by omega, rfl, rfl, H1⟩
     case round =>
      obtain ⟨k, q, hk1, hk9, rfl, rfl, HQ⟩ := hrel
      by_cases hk : k < 9
      · have hc := HLC.out k hk1 (by omega)
        obtain ⟨hi1, hi2, hi3⟩ := HIX.out k (by omega) (by omega)
        have hnx := cntB_succ k ds
        rw [HLK.out, ← HQ.out] at hnx
        rw [HLK.out] at hi1
        have hup := listK_rise k ds 0
        have hat := fun x => listK_at k ds 0 x
        have hlen := HLK.out k
        have hle := HCL.out (k + 1)
        rw [hnx] at hle
        generalize listK k ds 0 = lst at hi3 hup hat hlen
        generalize Af k = Ak at hc hi3
        generalize cf k = ck at hc hi1 hi2 hi3
        generalize lk k = nk at hc hi1 hnx hlen hle
        have HI3 := Lib.hid hi3
        have HUP := Lib.hid hup
        have HAT := Lib.hid hat
        have HLEN := Lib.hid hlen
        have HNX := Lib.hid hnx
        clear hi3 hup hat hlen hnx
        go_wp2
        go_loop [9, 11] (fun s9 s11 => ∃ i : Nat, i ≤ nk ∧ s9 = .int .i64 (q + i : Nat) ∧ s11 = .int .i64 i) (fun _ s11 => nk - (intOf s11).toNat)
        case atStart => exact ⟨0, Nat.zero_le _, rfl, rfl⟩
        case round =>
         obtain ⟨i, hi, rfl, rfl⟩ := hrel
         by_cases hlt : i < nk
         · have hil : i < lst.length := by rw [HLEN.out]; exact hlt
           obtain ⟨g, eA, -, hg, ci⟩ := HI3.out i hil
           obtain ⟨-, hx1, hx2⟩ := HAT.out lst[i] (List.getElem_mem hil)
           have hci := (HBZ.out.cell (p := ⟨g, i, none⟩) hg).trans ci
           have hprev : 0 < i → ∃ y : Nat, Z.cell? ⟨g, i - 1, none⟩ = some (.int .i64 y) ∧ y < lst[i] := fun h0 => by
            obtain ⟨g', eA', -, hg', ci'⟩ := HI3.out (i - 1) (by omega)
            rw [eA] at eA'
            cases eA'
            exact ⟨_, (HBZ.out.cell (p := ⟨g, i - 1, none⟩) hg).trans ci', List.pairwise_iff_getElem.1 HUP.out (i - 1) i (by omega) hil (by omega)⟩
           obtain ⟨x, hx⟩ : ∃ x, x = lst[i] := ⟨_, rfl⟩
           rw [← hx] at hci hprev
           have hxl : x < ds.length := by rw [hx]; simpa using hx1
           have hkx : ds[x].kind = k := by have := hx2; simp only [Nat.sub_zero] at this; simp only [hx]; exact this
           obtain ⟨b, off, eD, hb, -, -, d0, -⟩ := HDC.out x hxl
           have hd0 := (HBZ.out.cell (p := ⟨b, off + x * 7, none⟩) hb).trans d0
           rw [hkx] at hd0
           have hxN : x < N := by rw [HN.out]; exact hxl
           subst eA eD
           have hpc := HPC.out
           clear hx1 hx2 ci hx d0 hkx hxl hil
           by_cases h0 : i = 0
           · subst h0
             clear hprev
             go_wp2
             go_round
             case rel => exact ⟨1, by omega, by go_num, by go_num⟩
             case measure => first | (simp [intOf]; done) | (simp [intOf]; omega)
           · obtain ⟨y, hy1, hy2⟩ := hprev (by omega)
             have hwi : IntKind.i64.wrap ((i : Int) - 1) = (i : Int) - 1 := IntWalk.i64_in _ ⟨by omega, by omega⟩
             have hin : ¬ ((i : Int) - 1 < 0) := by omega
             have hti : ((i : Int) - 1).toNat = i - 1 := by omega
             clear hprev
             go_wp2
             go_round
             case rel => exact ⟨i + 1, by omega, by go_num, by go_num⟩
             case measure => first | (simp [intOf]; done) | (simp [intOf]; omega)
         · have hend : i = nk := by omega
           subst hend
           go_wp2
           go_round
           case rel => exact ⟨k + 1, q + i, by omega, by omega, rfl, by go_num, Lib.hid HNX.out.symm⟩
           case measure => first | (simp [intOf]; done) | (simp [intOf]; omega)
      · have hk' : k = 9 := by omega
        subst hk'
        have hq : q = N := by rw [HQ.out, HN.out]; exact cntB_nine HKD.out
        subst hq
        have hpc := HPC.out
        go_wp2
        go_ret
        exact ⟨by simp, HB3.out.trans (HBZ.out.mono HB3.out.size)⟩
   · have hc0 : (((c : Nat) : Int) == 0) = false := by simp; omega
     go_wp2
     go_ret
     exact ⟨rfl, HB2.out.alloc HB2.out.size _⟩

section
open Go Go.ChangeShapes Go.WideShapes Go.ChangeAt Go.ChangeMaps Go.RowKit

set_option maxRecDepth 100000 in
theorem scopeCounts_lifted (os : Os) (started : os.Started) (H : Type) (enc : TypeId × Value → H) :
  ReturnsInHanded {} Tryz.checked os 7 .any (fun w args => (Rows.scopeCountsSpec.pre enc Tryz.prog Tryz.f7 Rows.scopeCountsRow.domain false w args ∧ laidMetH Tryz.prog laidL w) ∧ sizedMet enc Tryz.prog Tryz.f7 (OpenSpec.ofChange Rows.scopeCountsSpec) false w args)
   (Rows.scopeCountsSpec.post enc Tryz.prog Tryz.f7 false true false false) := by
 refine returnsInHanded_of_change_and (C := Tryz.checked) (X := fun w _ => laidMetH Tryz.prog laidL w) (fun _ _ _ hh h => h.of_heap hh) ownKnob_none started (by kernel_rfl) Tryz.func7
  (ChangeSpec.witness_shaped (enc := enc) (C := Tryz.checked) (os := os) (X := fun w _ => laidMetH Tryz.prog laidL w) false (World.doorLaid Tryz.prog 200 os) #[.string ⟨#[]⟩] 8 rfl (World.shaped_of_RefB (by kernel_rfl) (by kernel_rfl)) (by kernel_rfl) (by kernel_rfl) (by kernel_rfl) (door_met os _)) ?_
 intro W base args ds gs before hval0 hW _ hwt hL _
 have hval : ∀ (j : Nat) t v, Tryz.f7.params[j]? = some t → args[j]? = some v → Value.okWide Tryz.prog W .any base t v := hval0
 have hW' := hW
 obtain ⟨p, q, hA0, hV, rfl, _, _⟩ := hW
 have hA : DataW.TrodAll enc Tryz.prog W 0 (fun _ => true) true Tryz.f7.params.toList args.toList ds p := hA0
 rw [Tryz.params7] at hA hval
 obtain ⟨v0, vs0, d0, ds0, p0, q0, hargs, rfl, rfl, h0, r0⟩ := trodAll_cons hA
 obtain ⟨rfl, rfl, rfl⟩ := trodAll_nil r0
 obtain rfl : args = #[v0] := by cases args; simp_all
 obtain ⟨rfl, rfl⟩ := trodVars_none hV
 obtain ⟨x0, rfl, rfl, rfl, w0⟩ := open_string Tryz.underlying9 (hval 0 9 v0 rfl rfl) h0
 clear hA0 hval0
 simp only [List.append_nil] at hW'
 have hlt := fun x hx => hW'.lt x hx
 refine (scopeCounts_walk W x0).mono fun e W' ⟨he, hb⟩ => ?_
 subst he
 exact ⟨_, rfl, _, _, _, [], _, [], hW', trodAll_mk1 (shut_true _), (trodAll_cons_mk (shut_string Tryz.underlying9 w0) trodAll_mk0), rfl, hb.frame _, fun h => by cases h⟩

theorem scopeCounts_holds : Rows.ScopeCountsSaid :=
 OpenClaim.holds_of_wide 7 Tryz.f7 rfl rfl rfl rfl rfl rfl rfl ⟨rfl, rfl, rfl, rfl, rfl⟩ rfl rfl rfl rfl rfl (by kernel_rfl) Tryz.func7 (by kernel_rfl)
  (of_decide_eq_true (by kernel_rfl)) (by unfold Func.isWrapper; first | (rw [if_pos (by decide +kernel)]; kernel_rfl) | (rw [if_neg (by decide +kernel)]; exact ⟨rfl, rfl⟩))
  (fun os started H enc _ => scopeCounts_lifted os started H enc)

theorem scopeCounts_card_holds : Rows.ScopeCountsCardSaid :=
 Claim7.holds_tied_plain_at .later [] [.data, .data, .data, .sentinel, .sentinel] true (true, "4fa5311912544140f9e0d2c0f06d37679f36473bef35ee7646ff926e7b112b0c") true
  scopeCounts_holds (fun _ h => by cases h) (by kernel_rfl) (fun _ h => by cases h) scopeCounts_row_tie rfl ⟨rfl, rfl⟩ (by kernel_rfl) rfl
  (fun f fn hf hfn => by
    obtain rfl : f = 7 := Option.some.inj ((show Tryz.prog.funcNamed "portcullis/portcullislaw06.ScopeCounts" = some 7 by kernel_rfl).symm.trans hf) |>.symm
    obtain rfl : fn = Tryz.f7 := (Option.some.inj (Tryz.func7.symm.trans hfn)).symm
    exact ⟨by kernel_rfl, fun j t ht => by
     rw [Tryz.params7] at ht
     have hm : t ∈ [9] := by simpa using Array.mem_of_getElem? ht
     have hall : ([9].all fun u => !Tryz.prog.wantsStandIn u) = true := by kernel_rfl
     exact (show Tryz.prog.wantsStandIn t = false by simpa using List.all_eq_true.1 hall t hm)⟩)
  (by kernel_rfl)
end

end Go.Proofs.YtbckeljbpknbdaaGreatDoor
