/- What is proved: ScopeSorted's walk: what is told of names rises, each once, and stands within the text. -/
import Derived.Test.YtbckeljbpknbdaaGreatDoorYe6
import Derived.Test.YtbckeljbpknbdaaGreatDoorYe7
import Derived.Test.YtbckeljbpknbdaaGreatDoorYe9
import Derived.Test.YtbckeljbpknbdaaGreatDoorRows
import Derived.Test.YtbckeljbpknbdaaGreatDoorTie
import Derived.Test.YtbckeljbpknbdaaGreatDoorCards
set_option linter.unusedVariables false
set_option linter.unusedSimpArgs false
namespace Go.Proofs.YtbckeljbpknbdaaGreatDoor
open Go.RowKit

theorem told_in {s : List UInt8} {ds : List Dc} {p c : Nat} (h : progM s = (ds, p, c)) : (∀ g ∈ ordD (rawD ds), 0 ≤ g.pl ∧ g.pl < s.length ∧ g.code ≠ 0 ∧ g.name ≠ []) ∧ (ordD (rawD ds)).Pairwise LtD := by
 obtain ⟨-, h3⟩ := prog_names h (fun x => x ≠ []) fun x hx _ => hx
 exact ⟨fun g hg => dcDs_q ds ds [] h3 g ((ordD_mem _ g).1 hg), ordD_up _⟩
set_option maxRecDepth 100000 in
set_option maxHeartbeats 4000000 in
theorem scopeSorted_walk (w : World) (s : ByteArray) : Calls Tryz.prog 4 #[.string s] w fun e w' => e = .returned (.bool true) ∧ Below w.heap.size w w' := by
 by_cases hl : 20000 < s.size
 · go_enter Tryz.func4, Tryz.ntmps4
   go_wp2_with fail
   refine (alive6_any w).mono ?_
   rintro e w1 ⟨rfl, hb1⟩
   have h1 : (decide ((20000 : Int) < (s.size : Nat))) = true := by simp; omega
   go_wp2
   go_ret
   exact ⟨rfl, hb1⟩
 · have h1 : (decide ((20000 : Int) < (s.size : Nat))) = false := by simp; omega
   obtain ⟨ds, p, c, hP⟩ : ∃ ds p c, progM s.data.toList = (ds, p, c) := ⟨_, _, _, rfl⟩
   have HC1 := Lib.hid (prog6_any s (by omega) hP)
   obtain ⟨hkd, hW⟩ := read6 hP
   obtain ⟨hq, hup⟩ := told_in hP
   rw [← Lib.size_eq] at hq
   have HKD := Lib.hid hkd
   have HW := Lib.hid hW
   have HQ := Lib.hid hq
   have HU := Lib.hid hup
   clear hP hkd hW hq hup
   go_enter Tryz.func4, Tryz.ntmps4
   go_wp2_with fail
   refine (alive6_any w).mono ?_
   rintro e w1 ⟨rfl, hb1⟩
   have HB1 := Lib.hid hb1
   clear hb1
   go_wp2_with fail
   refine (HC1.out _).mono ?_
   rintro e w2 ⟨A, n, m, rfl, hd, hb2⟩
   have HB2 := Lib.hid (HB1.out.trans (hb2.mono HB1.out.size))
   have HD := Lib.hid hd
   clear hb2 hd HC1 HB1
   by_cases hc : c = 0
   · subst hc
     go_wp2_with fail
     obtain ⟨X, hX⟩ : ∃ X, X = w2.alloc (.cells #[.slice A n m] 25) := ⟨_, rfl⟩
     have hbX : Below w2.heap.size w2 X := by rw [hX]; exact below_new _ _
     have hinX : DcsIn X (· < X.heap.size) ds (.slice A n m) := HD.out.keep (fun b hb => hbX.block b hb.2) (fun b hb => Nat.lt_of_lt_of_le hb.2 hbX.size)
     rw [← hX]
     clear hX
     refine (names6_any X hinX HKD.out HW.out).mono ?_
     rintro e w3 ⟨Af, cf, L, cL, D, cD, rfl, hix, hlv, hdg, hb3⟩
     have hb13 := hbX.trans (hb3.mono hbX.size)
     have HB3 := Lib.hid (HB2.out.trans (hb13.mono HB2.out.size))
     clear hix hlv hbX hinX hb3 hb13 HD HB2
     generalize (listK 1 ds 0).length = n1
     generalize (listK 2 ds 0).length = n2
     generalize (listK 3 ds 0).length = n3
     generalize (listK 4 ds 0).length = n4
     generalize (listK 5 ds 0).length = n5
     generalize (listK 6 ds 0).length = n6
     generalize (listK 7 ds 0).length = n7
     generalize (listK 8 ds 0).length = n8
     generalize (locD ds).length = n9
     generalize ordD (rawD ds) = l at HQ HU hdg ⊢
     obtain ⟨D', cD', eD, hc1, hc2, hdc⟩ := hdg
     cases eD
     obtain ⟨z, hz⟩ : ∃ z, z = l.length := ⟨_, rfl⟩
     rw [← hz] at hc1 ⊢
     have HZ := Lib.hid hz
     have HDC := Lib.hid hdc
     clear hz hdc
     go_wp2_with fail
     obtain ⟨Y, hY⟩ : ∃ Y, Y = w3.alloc (.cells #[.slice (Af 1) n1 (cf 1), .slice (Af 2) n2 (cf 2), .slice (Af 3) n3 (cf 3), .slice (Af 4) n4 (cf 4), .slice (Af 5) n5 (cf 5), .slice (Af 6) n6 (cf 6), .slice (Af 7) n7 (cf 7), .slice (Af 8) n8 (cf 8), .slice L n9 cL] 34) := ⟨_, rfl⟩
     have hbY : Below w3.heap.size w3 Y := by rw [hY]; exact below_new _ _
     rw [← hY]
     have HBY := Lib.hid hbY
     clear hY hbY
     go_loopw [8] (fun i wr => ∃ k : Nat, k ≤ z ∧ i = .int .i64 k ∧ Hid (Below w3.heap.size w3 wr)) (fun i _ => z - (intOf i).toNat)
     case atStart => exact ⟨0, Nat.zero_le _, rfl, HBY⟩
     case round =>
      obtain ⟨wo, rfl⟩ : ∃ wo : World, wo = wr := ⟨_, rfl⟩
      obtain ⟨k, hk, rfl, HB⟩ := hrel
      by_cases hlt : k < z
      · have hkl : k < l.length := by rw [← HZ.out]; exact hlt
        obtain ⟨g, off, eD, -, hg, a0, a1, a2⟩ := HDC.out k hkl
        obtain ⟨q1, q2, q3, q4⟩ := HQ.out l[k] (List.getElem_mem hkl)
        have r0 := (HB.out.cell (p := ⟨g, off + k * 3, none⟩) hg).trans a0
        have r1 := (HB.out.cell (p := ⟨g, off + k * 3 + 1, none⟩) hg).trans a1
        have r2 := (HB.out.cell (p := ⟨g, off + k * 3 + 2, none⟩) hg).trans a2
        obtain ⟨x, hx⟩ : ∃ x, x = l[k] := ⟨_, rfl⟩
        rw [← hx] at r0 r1 r2 q1 q2 q3 q4
        have HX := Lib.hid hx
        have he0 : (strOf x.name).toList.isEmpty = false := by rw [strOf_list]; cases hn : x.name with | nil => exact absurd hn q4 | cons a b => rfl
        have hcode : (x.code == 0) = false := by simpa using q3
        subst eD
        clear hx a0 a1 a2 q3 q4
        by_cases hk0 : k = 0
        · subst hk0
          generalize x.pl = p1 at r0 q1 q2
          generalize x.code = p2 at r1 hcode
          generalize strOf x.name = S at r2 he0
          simp only [Nat.zero_mul, Nat.add_zero] at r0 r1 r2
          go_wp2
          go_roundw
          case rel => exact ⟨1, by omega, by go_num, HB⟩
          case measure => first | (simp [intOf]; done) | (simp [intOf]; omega)
        · have hkl' : k - 1 < l.length := by omega
          obtain ⟨g', off', eD', -, hg', b0, b1, b2⟩ := HDC.out (k - 1) hkl'
          cases eD'
          have t0 := (HB.out.cell (p := ⟨g, off + (k - 1) * 3, none⟩) hg).trans b0
          have t1 := (HB.out.cell (p := ⟨g, off + (k - 1) * 3 + 1, none⟩) hg).trans b1
          have t2 := (HB.out.cell (p := ⟨g, off + (k - 1) * 3 + 2, none⟩) hg).trans b2
          have hlt2 : LtD l[k - 1] x := by rw [HX.out]; exact List.pairwise_iff_getElem.1 HU.out (k - 1) k hkl' hkl (by omega)
          obtain ⟨y, hy⟩ : ∃ y, y = l[k - 1] := ⟨_, rfl⟩
          rw [← hy] at t0 t1 t2 hlt2
          have hbl := cb_less (strOf y.name).toList (strOf x.name).toList
          have hbl2 : Lib.compareBytes y.name x.name < 0 → Op.bytesLess (strOf y.name).toList (strOf x.name).toList = true := fun h => by rw [hbl, strOf_list, strOf_list]; exact decide_eq_true h
          clear hy b0 b1 b2 hbl
          obtain ⟨c3, hc3⟩ : ∃ c3, c3 = Lib.compareBytes y.name x.name := ⟨_, rfl⟩
          unfold LtD at hlt2
          rw [← hc3] at hbl2 hlt2
          clear hc3 HX
          have lg := lt_of_cell r0
          have lg : g < wo.heap.size := lg
          have hwk : IntKind.i64.wrap ((k : Int) - 1) = (k : Int) - 1 := IntWalk.i64_in _ ⟨by omega, by omega⟩
          have hkn : ¬ ((k : Int) - 1 < 0) := by omega
          have htn : ((k : Int) - 1).toNat = k - 1 := by omega
          generalize x.pl = p1 at r0 q1 q2 hlt2
          generalize x.code = p2 at r1 hcode hlt2
          generalize strOf x.name = S at r2 he0 hbl2
          generalize y.pl = p3 at t0 hlt2
          generalize y.code = p4 at t1 hlt2
          generalize strOf y.name = T at t2 hbl2
          rcases hlt2 with h | ⟨rfl, h | ⟨rfl, h⟩⟩
          · clear hbl2
            go_wp2
            go_roundw
            case rel => exact ⟨k + 1, by omega, by go_num, Lib.hid ((HB.out.alloc HB.out.size _).alloc (by have := HB.out.size; simp; omega) _)⟩
            case measure => first | (simp [intOf]; done) | (simp [intOf]; omega)
          · clear hbl2
            go_wp2
            go_roundw
            case rel => exact ⟨k + 1, by omega, by go_num, Lib.hid ((HB.out.alloc HB.out.size _).alloc (by have := HB.out.size; simp; omega) _)⟩
            case measure => first | (simp [intOf]; done) | (simp [intOf]; omega)
          · have hbl3 := hbl2 h
            clear hbl2 h
            go_wp2
            go_roundw
            case rel => exact ⟨k + 1, by omega, by go_num, Lib.hid ((HB.out.alloc HB.out.size _).alloc (by have := HB.out.size; simp; omega) _)⟩
            case measure => first | (simp [intOf]; done) | (simp [intOf]; omega)
      · go_wp2
        go_ret
        exact ⟨rfl, HB3.out.trans (HB.out.mono HB3.out.size)⟩
   · have hc0 : (((c : Nat) : Int) == 0) = false := by simp; omega
     go_wp2
     go_ret
     exact ⟨rfl, HB2.out.alloc HB2.out.size _⟩

section
open Go Go.ChangeShapes Go.WideShapes Go.ChangeAt Go.ChangeMaps Go.RowKit

set_option maxRecDepth 100000 in
theorem scopeSorted_lifted (os : Os) (started : os.Started) (H : Type) (enc : TypeId × Value → H) :
  ReturnsInHanded {} Tryz.checked os 4 .any (fun w args => (Rows.scopeSortedSpec.pre enc Tryz.prog Tryz.f4 Rows.scopeSortedRow.domain false w args ∧ laidMetH Tryz.prog laidL w) ∧ sizedMet enc Tryz.prog Tryz.f4 (OpenSpec.ofChange Rows.scopeSortedSpec) false w args)
   (Rows.scopeSortedSpec.post enc Tryz.prog Tryz.f4 false true false false) := by
 refine returnsInHanded_of_change_and (C := Tryz.checked) (X := fun w _ => laidMetH Tryz.prog laidL w) (fun _ _ _ hh h => h.of_heap hh) ownKnob_none started (by kernel_rfl) Tryz.func4
  (ChangeSpec.witness_shaped (enc := enc) (C := Tryz.checked) (os := os) (X := fun w _ => laidMetH Tryz.prog laidL w) false (World.doorLaid Tryz.prog 200 os) #[.string ⟨#[]⟩] 8 rfl (World.shaped_of_RefB (by kernel_rfl) (by kernel_rfl)) (by kernel_rfl) (by kernel_rfl) (by kernel_rfl) (door_met os _)) ?_
 intro W base args ds gs before hval0 hW _ hwt hL _
 have hval : ∀ (j : Nat) t v, Tryz.f4.params[j]? = some t → args[j]? = some v → Value.okWide Tryz.prog W .any base t v := hval0
 have hW' := hW
 obtain ⟨p, q, hA0, hV, rfl, _, _⟩ := hW
 have hA : DataW.TrodAll enc Tryz.prog W 0 (fun _ => true) true Tryz.f4.params.toList args.toList ds p := hA0
 rw [Tryz.params4] at hA hval
 obtain ⟨v0, vs0, d0, ds0, p0, q0, hargs, rfl, rfl, h0, r0⟩ := trodAll_cons hA
 obtain ⟨rfl, rfl, rfl⟩ := trodAll_nil r0
 obtain rfl : args = #[v0] := by cases args; simp_all
 obtain ⟨rfl, rfl⟩ := trodVars_none hV
 obtain ⟨x0, rfl, rfl, rfl, w0⟩ := open_string Tryz.underlying9 (hval 0 9 v0 rfl rfl) h0
 clear hA0 hval0
 simp only [List.append_nil] at hW'
 have hlt := fun x hx => hW'.lt x hx
 refine (scopeSorted_walk W x0).mono fun e W' ⟨he, hb⟩ => ?_
 subst he
 exact ⟨_, rfl, _, _, _, [], _, [], hW', trodAll_mk1 (shut_true _), (trodAll_cons_mk (shut_string Tryz.underlying9 w0) trodAll_mk0), rfl, hb.frame _, fun h => by cases h⟩

theorem scopeSorted_holds : Rows.ScopeSortedSaid :=
 OpenClaim.holds_of_wide 4 Tryz.f4 rfl rfl rfl rfl rfl rfl rfl ⟨rfl, rfl, rfl, rfl, rfl⟩ rfl rfl rfl rfl rfl (by kernel_rfl) Tryz.func4 (by kernel_rfl)
  (of_decide_eq_true (by kernel_rfl)) (by unfold Func.isWrapper; first | (rw [if_pos (by decide +kernel)]; kernel_rfl) | (rw [if_neg (by decide +kernel)]; exact ⟨rfl, rfl⟩))
  (fun os started H enc _ => scopeSorted_lifted os started H enc)

theorem scopeSorted_card_holds : Rows.ScopeSortedCardSaid :=
 Claim7.holds_tied_plain_at .later [] [.data, .data, .data, .sentinel, .sentinel] true (true, "4fa5311912544140f9e0d2c0f06d37679f36473bef35ee7646ff926e7b112b0c") true
  scopeSorted_holds (fun _ h => by cases h) (by kernel_rfl) (fun _ h => by cases h) scopeSorted_row_tie rfl ⟨rfl, rfl⟩ (by kernel_rfl) rfl
  (fun f fn hf hfn => by
    obtain rfl : f = 4 := Option.some.inj ((show Tryz.prog.funcNamed "portcullis/portcullislaw06.ScopeSorted" = some 4 by kernel_rfl).symm.trans hf) |>.symm
    obtain rfl : fn = Tryz.f4 := (Option.some.inj (Tryz.func4.symm.trans hfn)).symm
    exact ⟨by kernel_rfl, fun j t ht => by
     rw [Tryz.params4] at ht
     have hm : t ∈ [9] := by simpa using Array.mem_of_getElem? ht
     have hall : ([9].all fun u => !Tryz.prog.wantsStandIn u) = true := by kernel_rfl
     exact (show Tryz.prog.wantsStandIn t = false by simpa using List.all_eq_true.1 hall t hm)⟩)
  (by kernel_rfl)
end

end Go.Proofs.YtbckeljbpknbdaaGreatDoor
