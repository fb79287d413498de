/- Package code: a line of parts, added to the text. -/
import Derived.Test.YtgohnlcgidmlfaaDoorMen
import Derived.Lib.AppendStr
import Derived.Laws.OwnMore
import Derived.Deep.RegionHeld3
set_option linter.unusedVariables false
set_option linter.unusedSimpArgs false
namespace Go.Proofs.YtgohnlcgidmlfaaDoor
open Go.RowKit

/-- a part of a line -/
inductive Pt where
  | s (t : List UInt8)
  | n (x : Int)
  | l (xs : List Int)
def ptT : Pt → List UInt8
  | .s t => t ++ [32]
  | .n x => Lib.itoa x ++ [32]
  | .l xs => nums xs
def ptW : Pt → Nat
  | .s t => t.length + 1
  | .n _ => 22
  | .l xs => 22 * xs.length
def PtQ (w : World) (S : Nat → Prop) (p : Pt) (cs : List Value) : Prop := match p with
  | .s t => cs = [.iface 9 (.string (bs t))] ∧ t.length ≤ 1000
  | .n x => cs = [.iface 3 (.int .i64 x)] ∧ In64 x
  | .l xs => ∃ v, cs = [.iface 25 v] ∧ Lies KI w S xs v ∧ ∀ x ∈ xs, In64 x
def KP : Kd Pt where
  sz := 1
  pos := by decide
  Q := PtQ
  keep := fun {w w' S S' a cs} h hw hS => by
    cases a with
    | s t => exact h
    | n x => exact h
    | l xs =>
      obtain ⟨v, h1, h2, h3⟩ := h
      exact ⟨v, h1, h2.keep hw hS, h3⟩
  len := fun {w S a cs} h => by
    cases a with
    | s t => rw [h.1]; rfl
    | n x => rw [h.1]; rfl
    | l xs => obtain ⟨v, h1, _⟩ := h; rw [h1]; rfl
  one := fun {w S a cs} h u hu => by
    cases a with
    | s t => rw [h.1] at hu; simp at hu; subst hu; rfl
    | n x => rw [h.1] at hu; simp at hu; subst hu; rfl
    | l xs => obtain ⟨v, h1, _⟩ := h; rw [h1] at hu; simp at hu; subst hu; rfl
def ptsT (ps : List Pt) : List UInt8 := ps.flatMap ptT
def ptsW (ps : List Pt) : Nat := (ps.map ptW).sum
def lineT (ps : List Pt) : List UInt8 := (ptsT ps).dropLast ++ [10]
theorem ptsT_take {ps : List Pt} {k : Nat} (h : k < ps.length) : ptsT (ps.take (k + 1)) = ptsT (ps.take k) ++ ptT ps[k] := by
  unfold ptsT
  rw [List.take_add_one, List.getElem?_eq_getElem h, Option.toList_some, List.flatMap_append]
  simp only [List.flatMap_cons, List.flatMap_nil, List.append_nil]

theorem set_last {us : List UInt8} {n : Nat} (h : us.length = n + 1) : us.set n 10 = us.dropLast ++ [10] := by
  rcases List.eq_nil_or_concat us with rfl | ⟨xs, x, rfl⟩
  · simp at h
  · have : xs.length = n := by simpa using h
    subst this
    simp
theorem ta_ss (s : ByteArray) (w : World) : (Instr.typeAssert (.iface 9 (.string s)) 20 9 true).run Tryd.prog w = .ok (.tuple #[.string s, .bool true]) w := by kernel_rfl
theorem ta_ns (x : Int) (w : World) : (Instr.typeAssert (.iface 3 (.int .i64 x)) 20 9 true).run Tryd.prog w = .ok (.tuple #[.string ⟨#[]⟩, .bool false]) w := by kernel_rfl
theorem ta_nn (x : Int) (w : World) : (Instr.typeAssert (.iface 3 (.int .i64 x)) 20 3 true).run Tryd.prog w = .ok (.tuple #[.int .i64 x, .bool true]) w := by kernel_rfl
theorem ta_ls (u : Value) (w : World) : (Instr.typeAssert (.iface 25 u) 20 9 true).run Tryd.prog w = .ok (.tuple #[.string ⟨#[]⟩, .bool false]) w := by kernel_rfl
theorem ta_ln (u : Value) (w : World) : (Instr.typeAssert (.iface 25 u) 20 3 true).run Tryd.prog w = .ok (.tuple #[.int .i64 0, .bool false]) w := by kernel_rfl
theorem ta_ll (u : Value) (w : World) : (Instr.typeAssert (.iface 25 u) 20 25 true).run Tryd.prog w = .ok (.tuple #[u, .bool true]) w := by kernel_rfl
theorem ptT_le {w : World} {S : Nat → Prop} {p : Pt} {cs : List Value} (h : PtQ w S p cs) : (ptT p).length ≤ ptW p := by
  cases p with
  | s t => simp [ptT, ptW]
  | n x => have := itoa_len h.2; simp [ptT, ptW]; omega
  | l xs => obtain ⟨v, _, _, h3⟩ := h; exact nums_len h3
theorem ptsW_take : ∀ {ps : List Pt}, (∀ p ∈ ps, (ptT p).length ≤ ptW p) → ∀ {j : Nat} (hj : j < ps.length), (ptsT (ps.take j)).length + ptW ps[j] ≤ ptsW ps
  | p :: ps, h, 0, hj => by simp [ptsT, ptsW]
  | p :: ps, h, j + 1, hj => by
    have h1 := h p (by simp)
    have h2 := ptsW_take (ps := ps) (fun q hq => h q (by simp [hq])) (j := j) (by simpa using hj)
    unfold ptsT ptsW at h2 ⊢
    simp only [List.take_succ_cons, List.flatMap_cons, List.length_append, List.map_cons, List.sum_cons, List.getElem_cons_succ]
    omega
theorem ptsW_all : ∀ {ps : List Pt}, (∀ p ∈ ps, (ptT p).length ≤ ptW p) → (ptsT ps).length ≤ ptsW ps
  | [], _ => by simp [ptsT, ptsW]
  | p :: ps, h => by
    have h1 := h p (by simp)
    have h2 := ptsW_all (ps := ps) (fun q hq => h q (by simp [hq]))
    unfold ptsT ptsW at h2 ⊢
    simp only [List.flatMap_cons, List.length_append, List.map_cons, List.sum_cons]
    omega
theorem Pg.alloc {w : World} {B g : Nat} {ts : List UInt8} (h : Pg w B g ts) (o : Obj) : Pg (w.alloc o) B g ts := by
  obtain ⟨sv, h1, h2, h3, h4⟩ := h
  exact ⟨sv, (Below.heap_alloc _ _ _ (by omega)).trans h1, h2.alloc o, h3, by rw [asz]; omega⟩
theorem Went.bel {B g : Nat} {w w' : World} (h : Went B g w w') (hg : g < B) : Below g w w' := ⟨h.os, h.tape, h.output, h.size, fun b hb => h.below b (by omega) (by omega)⟩

set_option maxHeartbeats 2000000 in
set_option maxRecDepth 100000 in
theorem line_any {w : World} {B g : Nat} {ts : List UInt8} {ps : List Pt} {S : Nat → Prop} {v : Value} (hp : Pg w B g ts) (h : Lies KP w S ps v)
    (hK : ∀ w', Went B g w w' → ∀ b, S b → w'.heap[b]? = w.heap[b]?) (hl : ts.length + ptsW ps ≤ 900000000) (hne : ptsT ps ≠ [])
    (htab : Lib.TabBelow Tryd.prog g w "internal/strconv.uint64pow10" .u64 Lib.pow10Tab) :
    Calls Tryd.prog 39 #[.pointer (some ⟨g, 0, none⟩), v] w fun e w' => e = .returned (.tuple #[]) ∧ Pg w' B g (ts ++ lineT ps) ∧ Went B g w w' := by
  obtain ⟨A, c, rfl, hc, hM⟩ := h.form
  obtain ⟨ns, hns⟩ : ∃ ns, ns = ps.length := ⟨_, rfl⟩
  rw [← hns] at h hc hM ⊢
  have hpt : ∀ p ∈ ps, (ptT p).length ≤ ptW p := fun p hp' => by
    obtain ⟨k, hk, rfl⟩ := List.getElem_of_mem hp'
    obtain ⟨_, _, _, _, _, hq, _⟩ := h.get k hk
    exact ptT_le hq
  have HPT := Lib.hid hpt
  have HX := Lib.hid h
  have HP := Lib.hid hp
  have HK := Lib.hid hK
  have HT := Lib.hid htab
  have HNS := Lib.hid hns
  have HL := Lib.hid hl
  have HNE := Lib.hid hne
  clear h hp hK htab hns hl hne hpt
  go_enter Tryd.func39, Tryd.ntmps39
  go_wp2
  go_loopw [11] (fun i wr => ∃ j : Nat, j ≤ ns ∧ i = .int .i64 j ∧ Hid (Pg wr B g (ts ++ ptsT (ps.take j))) ∧ Hid (Went B g w wr)) (fun i _ => ns - (intOf i).toNat)
  case atStart => exact ⟨0, Nat.zero_le _, rfl, Lib.hid (by simpa [ptsT] using HP.out), Lib.hid (Went.refl _ _ _)⟩
  case round =>
    obtain ⟨wo, rfl⟩ : ∃ wo : World, wo = wr := ⟨_, rfl⟩
    obtain ⟨j, hj, rfl, HPG, HW⟩ := hrel
    by_cases hlt : j < ns
    · have hje : j < ps.length := by rw [← HNS.out]; exact hlt
      obtain ⟨b, off, row, rfl, hbS, hq, hcs⟩ := HX.out.get j hje
      have k0 := (World.cell?_of_block (HK.out wo HW.out b hbS)).trans (hcs 0 (by decide))
      have htk := ptsT_take hje
      obtain ⟨sv, hg, hown, hgB, hBs⟩ := HPG.out
      have hbd := ptsW_take HPT.out hje
      obtain ⟨P, hP⟩ : ∃ P, P = ps[j] := ⟨_, rfl⟩
      rw [← hP] at hq htk hbd
      obtain ⟨us, hus⟩ : ∃ us, us = ts ++ ptsT (ps.take j) := ⟨_, rfl⟩
      have HTK : Hid (ts ++ ptsT (ps.take (j + 1)) = us ++ ptT P) := Lib.hid (by rw [htk, hus]; simp)
      have HUS : Hid (us.length + ptW P ≤ 900000000) := Lib.hid (by have := HL.out; rw [hus, List.length_append]; omega)
      rw [← hus] at hown
      have HPU : Hid (Pg wo B g us) := Lib.hid ⟨sv, hg, hown, hgB, hBs⟩
      have k9 : wo.cell? ⟨g, 0, none⟩ = some sv := by rw [cell_of_row wo g 0 _ _ (0, 0) hg]; rfl
      obtain ⟨A1, n1, c1, rfl⟩ := own_slice hown
      have HG := Lib.hid hg
      have HOW := Lib.hid hown
      clear hg hown htk hus hbd HPG
      cases P with
      | s t =>
        obtain ⟨rfl, ht⟩ := hq
        have k1 : wo.cell? ⟨b, off + j, none⟩ = some (.iface 9 (.string (bs t))) := by simpa [KP] using k0
        have y1 := ta_ss (bs t) wo
        obtain ⟨i0, hi0, hz0, hz1, hz2⟩ := info_parts info_u8
        have HI := Lib.hid (And.intro hi0 (And.intro hz0 (And.intro hz1 hz2)))
        have HBS := Lib.hid hBs
        have HTL : Hid ((bs t).size = t.length) := Lib.hid (bs_size t)
        have HNB : Hid (us.length + t.length + 1 ≤ 900000000) := Lib.hid (by have := HUS.out; simp only [ptW] at this; omega)
        clear k0 hcs hP hi0 hz0 hz1 hz2 ht
        go_wp2_with (first
          | (at_builtin; go_loud (refine Lib.wpList_append_own_string wo rfl _ _ _ _ rfl B 5 i0 Tryd.underlying61 Tryd.underlying9 HI.out.1 HI.out.2.1 HI.out.2.2.1 HI.out.2.2.2 (.slice A1 n1 c1) us.length (Lib.byteCells us) rfl HOW.out (bs t) rfl (by have := HNB.out; rw [HTL.out]; unfold maxLen; omega) (by have := HNB.out; rw [HTL.out]; omega) HBS.out ?_; go_loud (intro v2 w2 ho2 hg2 _; rw [HTL.out, Lib.strCells_eq] at ho2; have hw2 : Went B g wo w2 := (Went.refl B g wo).grown HBS.out HOW.out hg2; have hg2g : w2.heap[g]? = some (.cells #[.slice A1 n1 c1] 61 (0, 0)) := (hg2.block g (by have := HBS.out; omega) (fun e => by have := (HOW.out.lt g e.symm).1; omega)).trans HG.out; have hB2 : B ≤ w2.heap.size := Nat.le_trans HBS.out hg2.size; obtain ⟨A2, n2, c2, rfl⟩ := own_slice ho2; have HO2 := Lib.hid (ho2.alloc (.cells #[.int .u8 32] 5)); have HW2 := Lib.hid hw2; have HG2G := Lib.hid hg2g; have HB2 := Lib.hid hB2; clear ho2 hg2 hw2 hg2g hB2)))
          | (at_builtin; go_loud (refine wpList_append_own_at (w2.alloc (.cells #[.int .u8 32] 5)) rfl _ _ _ rfl B 5 i0 (.int .u8 0) 1 1 Tryd.underlying61 HI.out.1 HI.out.2.1 HI.out.2.2.1 HI.out.2.2.2 rfl (by decide) (.slice A2 n2 c2) (us.length + t.length) (Lib.byteCells us ++ Lib.byteCells (bs t).data.toList) rfl HO2.out ⟨w2.heap.size, 0, none⟩ 1 1 [.int .u8 32] rfl rfl (cell_one_new w2 _ _) (by simp [Value.oneCell']) (by have := HNB.out; unfold maxLen; omega) (by have := HNB.out; omega) (by have := HB2.out; rw [asz]; omega) ?_; go_loud (intro v3 w3 ho3 hg3 _ hat3; have hg3g : w3.heap[g]? = some (.cells #[.slice A1 n1 c1] 61 (0, 0)) := (hg3.block g (by have := HB2.out; rw [asz]; omega) (fun e => by have := (HO2.out.lt g e.symm).1; omega)).trans ((Below.heap_alloc _ _ _ (by have := HB2.out; omega)).trans HG2G.out); have k3 : w3.cell? ⟨g, 0, none⟩ = some (.slice A1 n1 c1) := (by rw [cell_of_row w3 g 0 _ _ (0, 0) hg3g]; rfl); have k4 : w3.frozen? ⟨g, 0, none⟩ = false := frozen_of_row w3 g 0 _ _ hg3g; obtain ⟨A3, n3, c3, rfl⟩ := own_slice ho3))))
        have HO3 := Lib.hid ho3
        go_roundw
        case rel =>
          have hB2 := HB2.out
          have hsz := hg3.size
          rw [asz] at hsz
          refine ⟨j + 1, by omega, by go_num, Lib.hid ⟨.slice A3 n3 c3, ?_, ?_, hgB, by rw [csz]; omega⟩, Lib.hid (HW.out.trans (((HW2.out.alloc hB2 _).grown (by rw [asz]; omega) HO2.out hg3).set 0 _))⟩
          · have := hg3g
            simp [World.setCell, Array.getElem?_modify, this]
          · rw [HTK.out]
            have h1 := ho3.setCell_ (p := ⟨g, 0, none⟩) (by show g < B; exact hgB) (.slice A3 n3 c3)
            have e1 : (us ++ ptT (.s t)).length = us.length + t.length + 1 := by simp [ptT]; omega
            have e2 : Lib.byteCells (us ++ ptT (.s t)) = Lib.byteCells us ++ Lib.byteCells (bs t).data.toList ++ [.int .u8 32] := by rw [bs_data, ptT, Lib.byteCells_append, Lib.byteCells_append, List.append_assoc]; rfl
            rw [e1, e2]
            exact h1
        case measure => simp [intOf]; omega
      | n x =>
        obtain ⟨rfl, hx⟩ := hq
        have k1 : wo.cell? ⟨b, off + j, none⟩ = some (.iface 3 (.int .i64 x)) := by simpa [KP] using k0
        have y1 := ta_ns x wo
        have y2 := ta_nn x wo
        have hW1 : Went B g wo (wo.alloc (.cells #[.int .i64 x] 3)) := (Went.refl B g wo).alloc hBs _
        have hcall := numbers_any (HPU.out.alloc (.cells #[.int .i64 x] 3)) (liesI_lit (xs := [x]) (n := 1) rfl (heap_alloc_new wo _) (by simpa using hx) (by simp)) (fun w' hw' b hb => by
          subst hb
          rw [heap_alloc_new wo (.cells #[.int .i64 x] 3)]
          exact hw'.others _ _ (heap_alloc_new wo _) (by intro e; have := Option.some.inj e; omega) (fun c fz e => by injection e with _ e2 _; exact absurd e2 (by decide))) (by simpa using hx) (by have := HUS.out; simp only [ptW] at this; simp only [List.length_cons, List.length_nil]; omega) (HT.out.on ((HW.out.bel hgB).trans (hW1.bel hgB)))
        have HC := Lib.hid hcall
        have HW1 := Lib.hid hW1
        clear k0 hcs hP hx hcall hW1
        go_wp2_with fail
        with_reducible refine HC.out.mono ?_
        rintro e w2 ⟨rfl, hp2, hw2⟩
        have HP2 := Lib.hid hp2
        have HW2 := Lib.hid (HW.out.trans (HW1.out.trans hw2))
        clear hp2 hw2 HC
        go_wp2
        go_roundw
        case rel =>
          refine ⟨j + 1, by omega, by go_num, Lib.hid ?_, HW2⟩
          have e1 : nums [x] = ptT (.n x) := by simp [nums, ptT]
          rw [HTK.out, ← e1]
          exact HP2.out
        case measure => simp [intOf]; omega
      | l xs =>
        obtain ⟨u, rfl, hu, hin⟩ := hq
        have k1 : wo.cell? ⟨b, off + j, none⟩ = some (.iface 25 u) := by simpa [KP] using k0
        have y1 := ta_ls u wo
        have y2 := ta_ln u wo
        have y3 := ta_ll u wo
        have hcall := numbers_any HPU.out (hu.keep (w' := wo) (fun b hb => HK.out wo HW.out b hb) (fun _ h => h)) (fun w' hw' b hb => by
          rw [HK.out w' (HW.out.trans hw') b hb, HK.out wo HW.out b hb]) hin (by have := HUS.out; simp only [ptW] at this; omega) (HT.out.on (HW.out.bel hgB))
        have HC := Lib.hid hcall
        clear k0 hcs hP hcall hu hin
        go_wp2_with fail
        with_reducible refine HC.out.mono ?_
        rintro e w2 ⟨rfl, hp2, hw2⟩
        have HP2 := Lib.hid hp2
        have HW2 := Lib.hid (HW.out.trans hw2)
        clear hp2 hw2 HC
        go_wp2
        go_roundw
        case rel => exact ⟨j + 1, by omega, by go_num, Lib.hid (by rw [HTK.out]; exact HP2.out), HW2⟩
        case measure => simp [intOf]; omega
    · have hall : ps.take j = ps := List.take_of_length_le (by rw [← HNS.out]; omega)
      rw [hall] at HPG
      obtain ⟨us, hus⟩ : ∃ us, us = ts ++ ptsT ps := ⟨_, rfl⟩
      obtain ⟨sv, hg, hown, hgB, hBs⟩ := HPG.out
      rw [← hus] at hown
      have hlne : us ≠ [] := by rw [hus]; exact List.append_ne_nil_of_right_ne_nil _ HNE.out
      obtain ⟨n1, hn1⟩ : ∃ n1, us.length = n1 + 1 := by
        cases us with
        | nil => exact absurd rfl hlne
        | cons x xs => exact ⟨xs.length, rfl⟩
      obtain ⟨G, cap, rfl, hGB⟩ : ∃ G cap, sv = .slice (some ⟨G, 0, none⟩) (n1 + 1) cap ∧ B ≤ G := by
        rcases hown.2 with ⟨rfl, h0⟩ | ⟨g', cap, cur, rfl, hb, _⟩
        · omega
        · exact ⟨g', cap, by rw [hn1], hb⟩
      have hub : us.length ≤ 900000000 := by have h1 := ptsW_all HPT.out; have h2 := HL.out; rw [hus, List.length_append]; omega
      rw [hn1] at hown hub
      have hlast : (Lib.byteCells us)[n1]? = some (.int .u8 ((us[n1]'(by omega)).toNat : Nat)) := by unfold Lib.byteCells; rw [List.getElem?_map, List.getElem?_eq_getElem (by omega)]; rfl
      have c1 := hown.cells (g := G) rfl n1 _ hlast
      rw [add_none, Nat.zero_add] at c1
      have c2 := hown.frozenAt n1
      have k9 : wo.cell? ⟨g, 0, none⟩ = some (.slice (some ⟨G, 0, none⟩) (n1 + 1) cap) := by rw [cell_of_row wo g 0 _ _ (0, 0) hg]; rfl
      have x1 : IntKind.i64.wrap (((n1 + 1 : Nat) : Int) - 1) = (n1 : Int) := by rw [IntWalk.i64_in _ (by omega)]; omega
      have x2 : IntKind.i64.wrap ((n1 : Int) + 1 - 1) = (n1 : Int) := by rw [IntWalk.i64_in _ (by omega)]; omega
      have x3 : IntKind.i64.wrap (n1 : Int) = (n1 : Int) := IntWalk.i64_in _ (by omega)
      have hne : g ≠ G := by omega
      have hne2 : G ≠ g := by omega
      have i1 : (0 : Int) ≤ (n1 : Int) := by omega
      have i2 : (n1 : Int) < ((n1 + 1 : Nat) : Int) := by omega
      have i3 : (n1 : Int) < (n1 : Int) + 1 := by omega
      obtain ⟨lb, hlb⟩ : ∃ lb : Int, lb = ((us[n1]'(by omega)).toNat : Nat) := ⟨_, rfl⟩
      rw [← hlb] at c1
      have HOW := Lib.hid hown
      have HG := Lib.hid hg
      have HUS : Hid (us = ts ++ ptsT ps) := Lib.hid hus
      have HN1 := Lib.hid hn1
      have hgs : g < wo.heap.size := by omega
      clear hall HPG hus hg hown hlne hn1 hub hlast hlb HX
      go_wp2
      go_region_held3 (fun w' => w'.cell? ⟨g, 0, none⟩ = some (.slice (some ⟨G, 0, none⟩) (n1 + 1) cap)) (first | exact k9 | go_keep) (fail)
      all_goals
        go_wp2
        go_end0
        have hst := HOW.out.stored n1 (.int .u8 10)
        have hw1 : Went B g w (wo.setCell ⟨G, n1, none⟩ (.int .u8 10)) := HW.out.grown hBs HOW.out hst.2
        have e1 : ts ++ lineT ps = us.set n1 10 := by
          rw [set_last HN1.out, HUS.out, List.dropLast_append_of_ne_nil HNE.out, List.append_assoc]; rfl
        refine ⟨rfl, ⟨.slice (some ⟨G, 0, none⟩) (n1 + 1) cap, (Below.heap_setCell _ _ _ g hne).trans HG.out, ?_, hgB, by show B ≤ (wo.setCell _ _).heap.size; rw [csz]; exact hBs⟩, ⟨hw1.os, hw1.tape, hw1.output, hw1.size, hw1.below, hw1.others⟩⟩
        have e2 : Lib.byteCells (us.set n1 10) = (Lib.byteCells us).set n1 (.int .u8 10) := by unfold Lib.byteCells; rw [List.map_set]; rfl
        rw [e1, List.length_set, HN1.out, e2]
        exact hst.1

end Go.Proofs.YtgohnlcgidmlfaaDoor
