/- Xq; Xr; Uu; Uv; Uw; Yd -/
import Derived.Test.YtmbkjabjcphkbaaDoorZb5
import Derived.Test.YtmbkjabjcphkbaaDoorZb4
import Derived.ChangeArms
import Derived.SizedLaws
import Derived.Test.YtmbkjabjcphkbaaDoorZb2
import Derived.WideShapes
import Derived.Handed
section
/- The walk of TreeTokens, where a text is shown. -/
set_option linter.unusedVariables false
namespace Go.Proofs.YtmbkjabjcphkbaaDoor
open Go.RowKit

theorem sumL_le (T : List (List UInt8)) (k : Nat) : sumL (T.take k) ≤ sumL T := by
  have h : sumL T = sumL (T.take k) + sumL (T.drop k) := by
    unfold sumL
    rw [← List.sum_append, ← List.map_append, List.take_append_drop]
  omega
theorem sumL_fit {T : List (List UInt8)} (h : fits T) : sumL T ≤ 16385 := by
  by_cases hT : T = []
  · subst hT; simp [sumL]
  · rw [← joinT_len hT]; have := h.1; omega
set_option maxRecDepth 100000 in
theorem treeTokens_some (w : World) (htab : TabW w) {ds : List Dc} {v : Value} (h : DcsIn w (· < w.heap.size) ds v) (hw : ¬ 40000 < goDs ds 0 40000 60) {T : List (List UInt8)} (hlim : lim (penP ds) = some T) (hfit : fits T) (hf : fin (penP ds) = (joinT T, 0)) {z : List Tok} (hz : toks (joinT T) = .ok z) (hat : AtP 0 T z) :
    Calls Tryd.prog 4 #[.agg #[v]] w fun r w' => r = .returned (.bool true) ∧ Below w.heap.size w w' := by
  obtain ⟨A, c, _, _, rfl, _⟩ := id h
  obtain ⟨X, hX⟩ : ∃ X : World, X = w.alloc (.cells #[.slice A ds.length c] 39) := ⟨_, rfl⟩
  have hbx : Below w.heap.size w X := by rw [hX]; exact (Below.refl _ _).alloc (Nat.le_refl _) _
  have hrow : X.heap[w.heap.size]? = some (.cells #[.slice A ds.length c] 39 (0, 0)) := by rw [hX]; exact heap_alloc_new _ _
  have hgx : w.heap.size < X.heap.size := lt_of_heap hrow
  have HAL := Lib.hid (alive_any X (htab.below hbx))
  have HX := Lib.hid hX
  have HBX := Lib.hid hbx
  have HIN := Lib.hid h
  have HROW := Lib.hid hrow
  have HT := Lib.hid htab
  have HGX := Lib.hid hgx
  clear hX hbx htab h hrow hgx
  go_enter Tryd.func4, Tryd.ntmps4
  go_wp2_with fail
  rw [← HX.out]
  refine HAL.out.mono ?_
  rintro e1 w1 ⟨rfl, hb1⟩
  have hq1 : w1.heap[w.heap.size]? = some (.cells #[.slice A ds.length c] 39 (0, 0)) := (hb1.block _ HGX.out).trans HROW.out
  have q1 : w1.cell? ⟨w.heap.size, 0, none⟩ = some (.slice A ds.length c) := by rw [cell_of_row w1 _ 0 _ _ (0, 0) hq1]; rfl
  have hbw : Below w.heap.size w w1 := HBX.out.trans (hb1.mono HBX.out.size)
  have HWG := Lib.hid (weighp_any HIN.out 40000 60 w1 hbw hbw.size (by omega) (by omega) (by omega) (by omega))
  have HB1 := Lib.hid hbw
  have HQ1 := Lib.hid hq1
  clear hb1 hq1 hbw
  go_wp2_with fail
  refine HWG.out.mono ?_
  rintro e2 w2 ⟨rfl, hb2⟩
  have hq2 : w2.heap[w.heap.size]? = some (.cells #[.slice A ds.length c] 39 (0, 0)) := (hb2.block _ (lt_of_heap HQ1.out)).trans HQ1.out
  have q2 : w2.cell? ⟨w.heap.size, 0, none⟩ = some (.slice A ds.length c) := by rw [cell_of_row w2 _ 0 _ _ (0, 0) hq2]; rfl
  have HQ2 := Lib.hid hq2
  have HB2 := Lib.hid (HB1.out.trans (hb2.mono HB1.out.size))
  clear hb2 q1 hq2
  obtain ⟨G, hG⟩ : ∃ G, G = goDs ds 0 40000 60 := ⟨_, rfl⟩
  rw [← hG] at hw ⊢
  have hl := light_of (ds := ds) (by omega)
  have HCP := Lib.hid (copy_light HIN.out hl w2 HB2.out HB2.out.size)
  have HL := Lib.hid hl
  have HF := Lib.hid hf
  have HFT := Lib.hid hfit
  have HZ := Lib.hid hz
  have HAT := Lib.hid hat
  clear hG hl hf hfit hz hat hlim
  go_wp2_with fail
  refine HCP.out.mono ?_
  rintro e3 w3 ⟨v', rfl, hin3, hb3⟩
  have hb30 := HB2.out.trans (hb3.mono HB2.out.size)
  have HSH := Lib.hid (show_any w3 (HT.out.below hb30) (hin3.keep (fun _ _ => rfl) (fun b hlt => hlt.2)) HL.out.nm)
  rw [HF.out] at HSH
  obtain ⟨S, hS⟩ : ∃ S, S = strOf (joinT T) := ⟨_, rfl⟩
  have HSH : Hid (Calls Tryd.prog 20 #[.agg #[v']] w3 fun r w' => r = .returned (.tuple #[.string S, .int .i64 0]) ∧ Below w3.heap.size w3 w') := by rw [hS]; exact HSH
  have hsl : S.toList = joinT T := by rw [hS, strOf_toList]
  have hsz : S.size = (joinT T).length := by rw [hS, Lib.size_eq, strOf_data]
  have HTK : Hid (∀ wx, Calls Tryd.prog 22 #[.string S] wx (TokPost wx (.ok z))) := Lib.hid fun wx => by
    have := tokens_any S wx (by rw [hsz]; have := HFT.out.1; omega)
    rw [show S.data.toList = joinT T by rw [hS, strOf_data], HZ.out] at this
    exact this
  have HSL := Lib.hid hsl
  have HSZ := Lib.hid hsz
  have HB3 := Lib.hid hb30
  clear hS hb30 hin3 hb3 q2 hsl hsz
  go_wp2_with fail
  refine HSH.out.mono ?_
  rintro e4 w4 ⟨rfl, hb4⟩
  have HB4 := Lib.hid (HB3.out.trans (hb4.mono HB3.out.size))
  clear hb4
  go_wp2_with fail
  refine (HTK.out w4).mono ?_
  rintro e5 w5 ⟨hb5, hn5, v5, rfl, hown⟩
  obtain ⟨A5, c5, rfl, hn1, hn2, htk⟩ := hown.toks
  have HB5 := Lib.hid (HB4.out.trans (hb5.mono HB4.out.size))
  obtain ⟨nz, hnz⟩ : ∃ n, n = z.length := ⟨_, rfl⟩
  rw [← hnz] at hn1 hn5 ⊢
  have HNZ := Lib.hid hnz
  have HTS := Lib.hid htk
  clear hb5 hown htk hnz
  unfold maxLen at hn2
  have HSM : Hid (sumL T ≤ 16385) := Lib.hid (sumL_fit HFT.out)
  have HLT : Hid (z.length = T.length) := Lib.hid (AtP_len HAT.out)
  go_wp2_with fail
  go_loop [8, 7] (fun i n => ∃ k : Nat, k ≤ nz ∧ i = .int .i64 k ∧ n = .int .i64 (sumL (T.take k) : Nat)) (fun i _ => nz - (intOf i).toNat)
  case atStart => exact ⟨0, Nat.zero_le _, rfl, rfl⟩
  case round =>
    obtain ⟨k, hk, rfl, rfl⟩ := hrel
    by_cases hlt : k < nz
    · have hkz : k < z.length := by rw [← HNZ.out]; exact hlt
      have hkT : k < T.length := by rw [← HLT.out]; exact hkz
      obtain ⟨b1, rfl, hbb1, p0, p1, p2⟩ := HTS.out k hkz
      obtain ⟨g1, g2⟩ := AtP_get HAT.out k hkz hkT
      rw [g1, Nat.zero_add] at p2
      rw [g2] at p1
      have hst := sumL_take hkT
      obtain ⟨L, hL⟩ : ∃ L, L = T[k] := ⟨_, rfl⟩
      rw [← hL] at p1 hst
      obtain ⟨m, hm⟩ : ∃ m, m = sumL (T.take k) := ⟨_, rfl⟩
      rw [← hm] at p2 hst ⊢
      have hL1 : (strOf L).size = L.length := by rw [Lib.size_eq, strOf_data]
      have hmb : m + (L.length + 1) ≤ 16385 := by rw [← hst]; exact Nat.le_trans (sumL_le T (k + 1)) HSM.out
      clear g1 g2 p0 hkz hkT hL hm
      go_wp2
      exact ⟨⟨k + 1, by omega, by go_num, by rw [hst]; go_num⟩, by simp [intOf]; omega⟩
    · have hkn : k = nz := by omega
      subst hkn
      have htk2 : T.take k = T := List.take_of_length_le (by rw [← HLT.out, ← HNZ.out]; exact Nat.le_refl _)
      rw [htk2]
      have hsz := HSZ.out
      have hsl := HSL.out
      have hf1 := HFT.out.1
      by_cases hT : T = []
      · have hk0 : k = 0 := by have h1 := HNZ.out; have h2 := HLT.out; rw [hT] at h2; rw [h1, h2]; rfl
        have hs0 : sumL T = 0 := by rw [hT]; rfl
        have hj0 : joinT T = [] := by rw [hT]; rfl
        rw [hs0]
        rw [hj0] at hsl hsz hf1
        subst hk0
        clear hT htk2 hj0 hs0
        go_wp2
        go_ret
        exact ⟨rfl, HB5.out⟩
      · have hsm : sumL T = S.size + 1 := by rw [hsz]; exact (joinT_len hT).symm
        rw [hsm]
        have hle : S.size ≤ 16384 := by rw [hsz]; exact hf1
        clear hT htk2 hsm hsz hsl hf1
        go_wp2
        go_ret
        exact ⟨rfl, HB5.out⟩

end Go.Proofs.YtmbkjabjcphkbaaDoor
end
section
/- TreeTokens holds of every program. -/
set_option linter.unusedVariables false
namespace Go.Proofs.YtmbkjabjcphkbaaDoor
open Go.RowKit

theorem treeTokens_walk (w : World) (htab : TabW w) {ds : List Dc} {v : Value} (h : DcsIn w (· < w.heap.size) ds v) :
    Calls Tryd.prog 4 #[.agg #[v]] w fun r w' => r = .returned (.bool true) ∧ Below w.heap.size w w' := by
  by_cases hw : 40000 < goDs ds 0 40000 60
  · exact treeTokens_heavy w htab h hw
  · rcases fin_cases (penP ds) with hf | ⟨T, hl, hft, hf⟩
    · exact treeTokens_none w htab h hw hf
    · obtain ⟨z, hz, hat⟩ := toks_fin (penP_good ds) hl
      exact treeTokens_some w htab h hw hl hft hf hz hat

end Go.Proofs.YtmbkjabjcphkbaaDoor
end
section
/- A list of expressions, read out of the memory that a caller hands over. -/
set_option linter.unusedVariables false
set_option maxRecDepth 100000
namespace Go.Proofs.YtmbkjabjcphkbaaDoor
open Go.RowKit

theorem cells_get {w : World} {base : Nat} {a : Addr} {n : Nat} {cs : List Value} (h : w.cells? base a n = some cs) : cs.length = n ∧ ∀ i, i < n → w.cell? (a.add i) = cs[i]? := by
  unfold World.cells? at h
  split at h
  · have h1 := mapM_some_length h
    refine ⟨by simpa using h1, fun i hi => ?_⟩
    have := mapM_some_get h i i (by simp [hi])
    exact this
  · cases h
theorem cell_lt {w : World} {a : Addr} {v : Value} (h : w.cell? a = some v) : a.block < w.heap.size ∧ a.spot = none := by
  unfold World.cell? at h
  split at h
  · rename_i c e z hc
    refine ⟨?_, ?_⟩
    · rcases Nat.lt_or_ge a.block w.heap.size with h1 | h1
      · exact h1
      · rw [Array.getElem?_eq_none h1] at hc; cases hc
    · split at h
      · cases h
      · rename_i hs
        cases hsp : a.spot with
        | none => rfl
        | some q => rw [hsp] at hs; simp at hs
  · cases h
theorem weightsAll_mem {H : Type} {P : Program} {e : TypeId} : ∀ {ds : List (DataW H)} {d : DataW H} {x : Nat}, d ∈ ds → x ∈ DataW.weights P e d → x ∈ DataW.weightsAll P e ds
  | d0 :: ds, d, x, hd, hx => by
    rw [DataW.weightsAll]
    rcases List.mem_cons.1 hd with rfl | hd
    · exact List.mem_append_left _ hx
    · exact List.mem_append_right _ (weightsAll_mem hd hx)
theorem strOf_back (s : ByteArray) : strOf s.data.toList = s := by
  cases s
  simp [strOf]

theorem trod_struct_5 {H : Type} {enc : TypeId × Value → H} {P : Program} {w : World} {base : Nat} {spare : Nat → Bool} {held : Bool} {t : TypeId} {f0 f1 f2 f3 f4 : Field} {fuel : Nat} {cs : List Value} {x : DataW H × List MemPlace}
    (ht : P.underlying t = some (.struct #[f0, f1, f2, f3, f4])) (h : DataW.trod enc P w base spare held fuel t cs = some x) :
    ∃ (x0 x1 x2 x3 x4 : DataW H × List MemPlace) (n : Nat), fuel = n + 1 ∧ x.1 = .agg [x0.1, x1.1, x2.1, x3.1, x4.1] ∧ cs.length = P.cellsOf t ∧ DataW.trod enc P w base spare held n f0.type ((cs.drop f0.offset).take (P.cellsOf f0.type)) = some x0 ∧ DataW.trod enc P w base spare held n f1.type ((cs.drop f1.offset).take (P.cellsOf f1.type)) = some x1 ∧ DataW.trod enc P w base spare held n f2.type ((cs.drop f2.offset).take (P.cellsOf f2.type)) = some x2 ∧ DataW.trod enc P w base spare held n f3.type ((cs.drop f3.offset).take (P.cellsOf f3.type)) = some x3 ∧ DataW.trod enc P w base spare held n f4.type ((cs.drop f4.offset).take (P.cellsOf f4.type)) = some x4 := by
  obtain ⟨xs, n, hn, rfl, hl, hlen, hf⟩ := DataW.trod_struct ht h
  match xs, hlen with
  | [x0, x1, x2, x3, x4], _ => exact ⟨x0, x1, x2, x3, x4, n, hn, rfl, hl, hf 0 f0 rfl, hf 1 f1 rfl, hf 2 f2 rfl, hf 3 f3 rfl, hf 4 f4 rfl⟩
theorem trod_struct_7 {H : Type} {enc : TypeId × Value → H} {P : Program} {w : World} {base : Nat} {spare : Nat → Bool} {held : Bool} {t : TypeId} {f0 f1 f2 f3 f4 f5 f6 : Field} {fuel : Nat} {cs : List Value} {x : DataW H × List MemPlace}
    (ht : P.underlying t = some (.struct #[f0, f1, f2, f3, f4, f5, f6])) (h : DataW.trod enc P w base spare held fuel t cs = some x) :
    ∃ (x0 x1 x2 x3 x4 x5 x6 : DataW H × List MemPlace) (n : Nat), fuel = n + 1 ∧ x.1 = .agg [x0.1, x1.1, x2.1, x3.1, x4.1, x5.1, x6.1] ∧ cs.length = P.cellsOf t ∧ DataW.trod enc P w base spare held n f0.type ((cs.drop f0.offset).take (P.cellsOf f0.type)) = some x0 ∧ DataW.trod enc P w base spare held n f1.type ((cs.drop f1.offset).take (P.cellsOf f1.type)) = some x1 ∧ DataW.trod enc P w base spare held n f2.type ((cs.drop f2.offset).take (P.cellsOf f2.type)) = some x2 ∧ DataW.trod enc P w base spare held n f3.type ((cs.drop f3.offset).take (P.cellsOf f3.type)) = some x3 ∧ DataW.trod enc P w base spare held n f4.type ((cs.drop f4.offset).take (P.cellsOf f4.type)) = some x4 ∧ DataW.trod enc P w base spare held n f5.type ((cs.drop f5.offset).take (P.cellsOf f5.type)) = some x5 ∧ DataW.trod enc P w base spare held n f6.type ((cs.drop f6.offset).take (P.cellsOf f6.type)) = some x6 := by
  obtain ⟨xs, n, hn, rfl, hl, hlen, hf⟩ := DataW.trod_struct ht h
  match xs, hlen with
  | [x0, x1, x2, x3, x4, x5, x6], _ => exact ⟨x0, x1, x2, x3, x4, x5, x6, n, hn, rfl, hl, hf 0 f0 rfl, hf 1 f1 rfl, hf 2 f2 rfl, hf 3 f3 rfl, hf 4 f4 rfl, hf 5 f5 rfl, hf 6 f6 rfl⟩
theorem trod_struct_1 {H : Type} {enc : TypeId × Value → H} {P : Program} {w : World} {base : Nat} {spare : Nat → Bool} {held : Bool} {t : TypeId} {f0 : Field} {fuel : Nat} {cs : List Value} {x : DataW H × List MemPlace}
    (ht : P.underlying t = some (.struct #[f0])) (h : DataW.trod enc P w base spare held fuel t cs = some x) :
    ∃ (x0 : DataW H × List MemPlace) (n : Nat), fuel = n + 1 ∧ x.1 = .agg [x0.1] ∧ cs.length = P.cellsOf t ∧ DataW.trod enc P w base spare held n f0.type ((cs.drop f0.offset).take (P.cellsOf f0.type)) = some x0 := by
  obtain ⟨xs, n, hn, rfl, hl, hlen, hf⟩ := DataW.trod_struct ht h
  match xs, hlen with
  | [x0], _ => exact ⟨x0, n, hn, rfl, hl, hf 0 f0 rfl⟩
/-- one expression's five cells -/
def ExAt (w : World) (cs : List Value) (e : Ex) (v : Value) : Prop := cs = exCells e v ∧ e.name.length ≤ 140737488355328 ∧ IsExs w (· < w.heap.size) e.args v

theorem opens_ex {H : Type} {enc : TypeId × Value → H} {w : World} {base : Nat} {spare : Nat → Bool} {held : Bool} : ∀ (fuel : Nat) (v : Value) (x : DataW H × List MemPlace),
    DataW.trod enc Tryd.prog w base spare held fuel 22 [v] = some x → (∀ y ∈ DataW.weights Tryd.prog 22 x.1, y ≤ 140737488355328) → ∃ es, IsExs w (· < w.heap.size) es v := by
  intro fuel
  induction fuel using Nat.strongRecOn with
  | _ fuel ih =>
    intro v x h hwt
    rcases DataW.trod_slice Tryd.underlying22 h with ⟨hcs, hx⟩ | ⟨a, len, cap, elems, rest, n, hfu, hcs, hx, hbase, hlc, hcap, hlen, hel, -, -⟩
    · obtain rfl : v = .slice none 0 0 := by simpa using hcs
      exact ⟨[], .mk [] none 0 (fun _ => undef) (Nat.le_refl _) (by omega) (fun k hk => absurd hk (by simp)) (fun k hk => absurd hk (by simp))⟩
    · obtain rfl : v = .slice (some a) len cap := by simpa using hcs
      have hone : ∀ i, i < len → ∃ (cs : List Value) (e : Ex) (u : Value), w.cells? base (a.add (i * 5)) 5 = some cs ∧ ExAt w cs e u := by
        intro i hi
        have h1 := hel i hi
        have hie : i < elems.length := by omega
        rw [List.getElem?_eq_getElem hie] at h1
        rw [show Tryd.prog.cellsOf 24 = 5 from by kernel_rfl] at h1
        obtain ⟨cs, h2, h3⟩ := Option.bind_eq_some_iff.1 h1
        refine ⟨cs, ?_⟩
        have hcl := cells_get h2
        obtain ⟨x0, x1, x2, x3, x4, m, hm, hx1, hl, f0, f1, f2, f3, f4⟩ := trod_struct_5 Tryd.underlying24 h3
        rw [show Tryd.prog.cellsOf 24 = 5 from by kernel_rfl] at hl
        obtain ⟨c0, c1, c2, c3, c4, rfl⟩ : ∃ x0 x1 x2 x3 x4, cs = [x0, x1, x2, x3, x4] := by
          match cs, hl with
          | [x0, x1, x2, x3, x4], _ => exact ⟨x0, x1, x2, x3, x4, rfl⟩
        simp only [show Tryd.prog.cellsOf 3 = 1 from by kernel_rfl, show Tryd.prog.cellsOf 9 = 1 from by kernel_rfl, show Tryd.prog.cellsOf 22 = 1 from by kernel_rfl, List.drop_zero, List.drop_succ_cons, List.take_succ_cons, List.take_zero] at f0 f1 f2 f3 f4
        obtain ⟨k0, hk0, -, -⟩ := DataW.trod_int Tryd.underlying3 f0
        obtain ⟨k1, hk1, -, -⟩ := DataW.trod_int Tryd.underlying3 f1
        obtain ⟨k2, hk2, -, -⟩ := DataW.trod_int Tryd.underlying3 f2
        obtain ⟨s3, hk3, hx3, -⟩ := DataW.trod_string Tryd.underlying9 f3
        obtain rfl : c0 = .int .i64 k0 := by simpa using hk0
        obtain rfl : c1 = .int .i64 k1 := by simpa using hk1
        obtain rfl : c2 = .int .i64 k2 := by simpa using hk2
        obtain rfl : c3 = .string s3 := by simpa using hk3
        have hw1 : ∀ y ∈ DataW.weights Tryd.prog 24 elems[i].1, y ≤ 140737488355328 := fun y hy => by
          refine hwt y ?_
          rw [hx]
          simp only [DataW.weights, Tryd.underlying22]
          exact List.mem_cons_of_mem _ (List.mem_append_left _ (weightsAll_mem (List.mem_map_of_mem (List.getElem_mem hie)) hy))
        rw [hx1] at hw1
        simp only [DataW.weights, Tryd.underlying24, List.map_cons, List.map_nil, DataW.weightsEach, List.append_nil] at hw1
        have hw3 : s3.data.toList.length ≤ 140737488355328 := hw1 _ (by simp [hx3, DataW.weights])
        obtain ⟨es, hes⟩ := ih m (by omega) c4 x4 f4 (fun y hy => hw1 y (by simp [hy]))
        exact ⟨.mk k0 k1 k2 s3.data.toList es, c4, h2, by simp [exCells, Ex.kind, Ex.pl, Ex.num, Ex.name, strOf_back], hw3, hes⟩
      have htot : ∀ i, ∃ p : Ex × Value, i < len → ∃ cs, w.cells? base (a.add (i * 5)) 5 = some cs ∧ ExAt w cs p.1 p.2 := fun i => by
        by_cases hi : i < len
        · obtain ⟨cs, e, u, h1, h2⟩ := hone i hi
          exact ⟨(e, u), fun _ => ⟨cs, h1, h2⟩⟩
        · exact ⟨(.mk 0 0 0 [] [], undef), fun h => absurd h hi⟩
      obtain ⟨F, hF⟩ := Classical.axiomOfChoice htot
      have hl : ((List.range len).map fun i => (F i).1).length = len := by simp
      have hget : ∀ (k : Nat) (hk : k < ((List.range len).map fun i => (F i).1).length), ((List.range len).map fun i => (F i).1)[k] = (F k).1 := fun k hk => by simp
      refine ⟨(List.range len).map fun i => (F i).1, ?_⟩
      have hmk := IsExs.mk (w := w) (S := (· < w.heap.size)) ((List.range len).map fun i => (F i).1) (some a) cap (fun i => (F i).2) (by rw [hl]; exact hlc) (by unfold maxLen at hcap; omega) (fun k hk => ?_) (fun k hk => ?_)
      · rw [hl] at hmk
        exact hmk
      · rw [hget k hk]
        obtain ⟨cs, h1, h2, h3, h4⟩ := hF k (by rw [hl] at hk; exact hk)
        have hc := (cells_get h1).2
        rw [h2] at hc
        have hc0 := hc 0 (by omega)
        have hc1 := hc 1 (by omega)
        have hc2 := hc 2 (by omega)
        have hc3 := hc 3 (by omega)
        have hc4 := hc 4 (by omega)
        have hsp : a.spot = none := by
          obtain ⟨cs0, g1, g2, _⟩ := hF 0 (by rw [hl] at hk; omega)
          have := (cell_lt (((cells_get g1).2 0 (by omega)).trans (show cs0[0]? = some (.int .i64 (F 0).1.kind) from by rw [g2]; rfl))).2
          simpa [Addr.add] using this
        obtain ⟨b, off, rfl⟩ : ∃ b off, a = ⟨b, off, none⟩ := ⟨a.block, a.off, by cases a; simp at hsp; rw [hsp]⟩
        simp only [add_pl] at hc0 hc1 hc2 hc3 hc4
        have hb := (cell_lt (hc0.trans (show (exCells (F k).1 (F k).2)[0]? = some (.int .i64 (F k).1.kind) from rfl))).1
        exact ⟨b, off, rfl, hb, h3, hc0, hc1, hc2, hc3, hc4⟩
      · rw [hget k hk]
        obtain ⟨cs, h1, h2, h3, h4⟩ := hF k (by rw [hl] at hk; exact hk)
        exact h4

end Go.Proofs.YtmbkjabjcphkbaaDoor
end
section
/- Lists of statements, read out of the memory that a caller hands over. -/
set_option linter.unusedVariables false
set_option maxRecDepth 100000
namespace Go.Proofs.YtmbkjabjcphkbaaDoor
open Go.RowKit

/-- the seven cells of a statement whose lists are the slices of f -/
def SmAt (w : World) (cs : List Value) (s : Sm) (f : Vs) : Prop := cs = smCells s f ∧ s.name.length ≤ 140737488355328 ∧ s.type.length ≤ 140737488355328 ∧ IsExs w (· < w.heap.size) s.exprs f.e ∧ IsSms w (· < w.heap.size) s.body f.b ∧ IsSms w (· < w.heap.size) s.els f.l

theorem opens_sm {H : Type} {enc : TypeId × Value → H} {w : World} {base : Nat} {spare : Nat → Bool} {held : Bool} : ∀ (fuel : Nat) (v : Value) (x : DataW H × List MemPlace),
    DataW.trod enc Tryd.prog w base spare held fuel 51 [v] = some x → (∀ y ∈ DataW.weights Tryd.prog 51 x.1, y ≤ 140737488355328) → ∃ ss, IsSms w (· < w.heap.size) ss v := by
  intro fuel
  induction fuel using Nat.strongRecOn with
  | _ fuel ih =>
    intro v x h hwt
    rcases DataW.trod_slice Tryd.underlying51 h with ⟨hcs, hx⟩ | ⟨a, len, cap, elems, rest, n, hfu, hcs, hx, hbase, hlc, hcap, hlen, hel, -, -⟩
    · obtain rfl : v = .slice none 0 0 := by simpa using hcs
      exact ⟨[], .mk [] none 0 (fun _ => undef) (fun _ => undef) (fun _ => undef) (Nat.le_refl _) (by omega) (fun k hk => absurd hk (by simp)) (fun k hk => absurd hk (by simp)) (fun k hk => absurd hk (by simp)) (fun k hk => absurd hk (by simp))⟩
    · obtain rfl : v = .slice (some a) len cap := by simpa using hcs
      have hone : ∀ i, i < len → ∃ (cs : List Value) (s : Sm) (u : Vs), w.cells? base (a.add (i * 7)) 7 = some cs ∧ SmAt w cs s u := by
        intro i hi
        have h1 := hel i hi
        have hie : i < elems.length := by omega
        rw [List.getElem?_eq_getElem hie] at h1
        rw [show Tryd.prog.cellsOf 55 = 7 from by kernel_rfl] at h1
        obtain ⟨cs, h2, h3⟩ := Option.bind_eq_some_iff.1 h1
        refine ⟨cs, ?_⟩
        obtain ⟨x0, x1, x2, x3, x4, x5, x6, m, hm, hx1, hl, f0, f1, f2, f3, f4, f5, f6⟩ := trod_struct_7 Tryd.underlying55 h3
        rw [show Tryd.prog.cellsOf 55 = 7 from by kernel_rfl] at hl
        obtain ⟨c0, c1, c2, c3, c4, c5, c6, rfl⟩ : ∃ x0 x1 x2 x3 x4 x5 x6, cs = [x0, x1, x2, x3, x4, x5, x6] := by
          match cs, hl with
          | [x0, x1, x2, x3, x4, x5, x6], _ => exact ⟨x0, x1, x2, x3, x4, x5, x6, rfl⟩
        simp only [show Tryd.prog.cellsOf 3 = 1 from by kernel_rfl, show Tryd.prog.cellsOf 9 = 1 from by kernel_rfl, show Tryd.prog.cellsOf 22 = 1 from by kernel_rfl, show Tryd.prog.cellsOf 51 = 1 from by kernel_rfl, List.drop_zero, List.drop_succ_cons, List.take_succ_cons, List.take_zero] at f0 f1 f2 f3 f4 f5 f6
        obtain ⟨k0, hk0, -, -⟩ := DataW.trod_int Tryd.underlying3 f0
        obtain ⟨k1, hk1, -, -⟩ := DataW.trod_int Tryd.underlying3 f1
        obtain ⟨s2, hk2, hx2, -⟩ := DataW.trod_string Tryd.underlying9 f2
        obtain ⟨s3, hk3, hx3, -⟩ := DataW.trod_string Tryd.underlying9 f3
        obtain rfl : c0 = .int .i64 k0 := by simpa using hk0
        obtain rfl : c1 = .int .i64 k1 := by simpa using hk1
        obtain rfl : c2 = .string s2 := by simpa using hk2
        obtain rfl : c3 = .string s3 := by simpa using hk3
        have hw1 : ∀ y ∈ DataW.weights Tryd.prog 55 elems[i].1, y ≤ 140737488355328 := fun y hy => by
          refine hwt y ?_
          rw [hx]
          simp only [DataW.weights, Tryd.underlying51]
          exact List.mem_cons_of_mem _ (List.mem_append_left _ (weightsAll_mem (List.mem_map_of_mem (List.getElem_mem hie)) hy))
        rw [hx1] at hw1
        simp only [DataW.weights, Tryd.underlying55, List.map_cons, List.map_nil, DataW.weightsEach, List.append_nil] at hw1
        have hw2 : s2.data.toList.length ≤ 140737488355328 := hw1 _ (by simp [hx2, DataW.weights])
        have hw3 : s3.data.toList.length ≤ 140737488355328 := hw1 _ (by simp [hx3, DataW.weights])
        obtain ⟨es, hes⟩ := opens_ex m c4 x4 f4 (fun y hy => hw1 y (by simp [hy]))
        obtain ⟨bd, hbd⟩ := ih m (by omega) c5 x5 f5 (fun y hy => hw1 y (by simp [hy]))
        obtain ⟨el, hel'⟩ := ih m (by omega) c6 x6 f6 (fun y hy => hw1 y (by simp [hy]))
        exact ⟨.mk k0 k1 s2.data.toList s3.data.toList es bd el, ⟨c4, c5, c6⟩, h2, by simp [smCells, Sm.kind, Sm.pl, Sm.name, Sm.type, strOf_back], hw2, hw3, hes, hbd, hel'⟩
      have htot : ∀ i, ∃ p : Sm × Vs, i < len → ∃ cs, w.cells? base (a.add (i * 7)) 7 = some cs ∧ SmAt w cs p.1 p.2 := fun i => by
        by_cases hi : i < len
        · obtain ⟨cs, e, u, h1, h2⟩ := hone i hi
          exact ⟨(e, u), fun _ => ⟨cs, h1, h2⟩⟩
        · exact ⟨(.mk 0 0 [] [] [] [] [], ⟨undef, undef, undef⟩), fun h => absurd h hi⟩
      obtain ⟨F, hF⟩ := Classical.axiomOfChoice htot
      have hl : ((List.range len).map fun i => (F i).1).length = len := by simp
      have hget : ∀ (k : Nat) (hk : k < ((List.range len).map fun i => (F i).1).length), ((List.range len).map fun i => (F i).1)[k] = (F k).1 := fun k hk => by simp
      refine ⟨(List.range len).map fun i => (F i).1, ?_⟩
      have hmk := IsSms.mk (w := w) (S := (· < w.heap.size)) ((List.range len).map fun i => (F i).1) (some a) cap (fun i => (F i).2.e) (fun i => (F i).2.b) (fun i => (F i).2.l) (by rw [hl]; exact hlc) (by unfold maxLen at hcap; omega) (fun k hk => ?_) (fun k hk => ?_) (fun k hk => ?_) (fun k hk => ?_)
      · rw [hl] at hmk
        exact hmk
      · rw [hget k hk]
        obtain ⟨cs, h1, h2, h3, h4, _⟩ := hF k (by rw [hl] at hk; exact hk)
        have hc := (cells_get h1).2
        rw [h2] at hc
        have hc0 := hc 0 (by omega)
        have hc1 := hc 1 (by omega)
        have hc2 := hc 2 (by omega)
        have hc3 := hc 3 (by omega)
        have hc4 := hc 4 (by omega)
        have hc5 := hc 5 (by omega)
        have hc6 := hc 6 (by omega)
        have hsp : a.spot = none := by
          obtain ⟨cs0, g1, g2, _⟩ := hF 0 (by rw [hl] at hk; omega)
          have := (cell_lt (((cells_get g1).2 0 (by omega)).trans (show cs0[0]? = some (.int .i64 (F 0).1.kind) from by rw [g2]; rfl))).2
          simpa [Addr.add] using this
        obtain ⟨b, off, rfl⟩ : ∃ b off, a = ⟨b, off, none⟩ := ⟨a.block, a.off, by cases a; simp at hsp; rw [hsp]⟩
        simp only [add_pl] at hc0 hc1 hc2 hc3 hc4 hc5 hc6
        have hb := (cell_lt (hc0.trans (show (smCells (F k).1 (F k).2)[0]? = some (.int .i64 (F k).1.kind) from rfl))).1
        exact ⟨b, off, rfl, hb, h3, h4, hc0, hc1, hc2, hc3, hc4, hc5, hc6⟩
      · rw [hget k hk]
        obtain ⟨cs, h1, h2, h3, h4, h5, h6, h7⟩ := hF k (by rw [hl] at hk; exact hk)
        exact h5
      · rw [hget k hk]
        obtain ⟨cs, h1, h2, h3, h4, h5, h6, h7⟩ := hF k (by rw [hl] at hk; exact hk)
        exact h6
      · rw [hget k hk]
        obtain ⟨cs, h1, h2, h3, h4, h5, h6, h7⟩ := hF k (by rw [hl] at hk; exact hk)
        exact h7

end Go.Proofs.YtmbkjabjcphkbaaDoor
end
section
/- Lists of pairs and of declarations, and a program, read out of the memory that a caller hands over. -/
set_option linter.unusedVariables false
set_option maxRecDepth 100000
namespace Go.Proofs.YtmbkjabjcphkbaaDoor
open Go.RowKit

theorem trod_struct_2 {H : Type} {enc : TypeId × Value → H} {P : Program} {w : World} {base : Nat} {spare : Nat → Bool} {held : Bool} {t : TypeId} {f0 f1 : Field} {fuel : Nat} {cs : List Value} {x : DataW H × List MemPlace}
    (ht : P.underlying t = some (.struct #[f0, f1])) (h : DataW.trod enc P w base spare held fuel t cs = some x) :
    ∃ (x0 x1 : DataW H × List MemPlace) (n : Nat), fuel = n + 1 ∧ x.1 = .agg [x0.1, x1.1] ∧ cs.length = P.cellsOf t ∧ DataW.trod enc P w base spare held n f0.type ((cs.drop f0.offset).take (P.cellsOf f0.type)) = some x0 ∧ DataW.trod enc P w base spare held n f1.type ((cs.drop f1.offset).take (P.cellsOf f1.type)) = some x1 := by
  obtain ⟨xs, n, hn, rfl, hl, hlen, hf⟩ := DataW.trod_struct ht h
  match xs, hlen with
  | [x0, x1], _ => exact ⟨x0, x1, n, hn, rfl, hl, hf 0 f0 rfl, hf 1 f1 rfl⟩

def PrAt (w : World) (cs : List Value) (p : Pr) : Prop := cs = [.string (strOf p.name), .string (strOf p.type)] ∧ p.name.length ≤ 140737488355328 ∧ p.type.length ≤ 140737488355328
theorem opens_pr {H : Type} {enc : TypeId × Value → H} {w : World} {base : Nat} {spare : Nat → Bool} {held : Bool} (fuel : Nat) (v : Value) (x : DataW H × List MemPlace)
    (h : DataW.trod enc Tryd.prog w base spare held fuel 50 [v] = some x) (hwt : ∀ y ∈ DataW.weights Tryd.prog 50 x.1, y ≤ 140737488355328) : ∃ ps, PrsIn w (· < w.heap.size) ps v := by
  rcases DataW.trod_slice Tryd.underlying50 h with ⟨hcs, hx⟩ | ⟨a, len, cap, elems, rest, n, hfu, hcs, hx, hbase, hlc, hcap, hlen, hel, -, -⟩
  · obtain rfl : v = .slice none 0 0 := by simpa using hcs
    exact ⟨[], none, 0, rfl, Nat.le_refl _, by omega, fun k hk => absurd hk (by simp)⟩
  · obtain rfl : v = .slice (some a) len cap := by simpa using hcs
    have hone : ∀ i, i < len → ∃ (cs : List Value) (p : Pr), w.cells? base (a.add (i * 2)) 2 = some cs ∧ PrAt w cs p := by
      intro i hi
      have h1 := hel i hi
      have hie : i < elems.length := by omega
      rw [List.getElem?_eq_getElem hie] at h1
      rw [show Tryd.prog.cellsOf 71 = 2 from by kernel_rfl] at h1
      obtain ⟨cs, h2, h3⟩ := Option.bind_eq_some_iff.1 h1
      refine ⟨cs, ?_⟩
      obtain ⟨x0, x1, m, hm, hx1, hl, f0, f1⟩ := trod_struct_2 Tryd.underlying71 h3
      rw [show Tryd.prog.cellsOf 71 = 2 from by kernel_rfl] at hl
      obtain ⟨c0, c1, rfl⟩ : ∃ x0 x1, cs = [x0, x1] := by
        match cs, hl with
        | [x0, x1], _ => exact ⟨x0, x1, rfl⟩
      simp only [show Tryd.prog.cellsOf 9 = 1 from by kernel_rfl, List.drop_zero, List.drop_succ_cons, List.take_succ_cons, List.take_zero] at f0 f1
      obtain ⟨s2, hk2, hx2, -⟩ := DataW.trod_string Tryd.underlying9 f0
      obtain ⟨s3, hk3, hx3, -⟩ := DataW.trod_string Tryd.underlying9 f1
      obtain rfl : c0 = .string s2 := by simpa using hk2
      obtain rfl : c1 = .string s3 := by simpa using hk3
      have hw1 : ∀ y ∈ DataW.weights Tryd.prog 71 elems[i].1, y ≤ 140737488355328 := fun y hy => by
        refine hwt y ?_
        rw [hx]
        simp only [DataW.weights, Tryd.underlying50]
        exact List.mem_cons_of_mem _ (List.mem_append_left _ (weightsAll_mem (List.mem_map_of_mem (List.getElem_mem hie)) hy))
      rw [hx1] at hw1
      simp only [DataW.weights, Tryd.underlying71, List.map_cons, List.map_nil, DataW.weightsEach, List.append_nil] at hw1
      have hw2 : s2.data.toList.length ≤ 140737488355328 := hw1 _ (by simp [hx2, DataW.weights])
      have hw3 : s3.data.toList.length ≤ 140737488355328 := hw1 _ (by simp [hx3, DataW.weights])
      exact ⟨⟨s2.data.toList, s3.data.toList⟩, h2, by simp [strOf_back], hw2, hw3⟩
    have htot : ∀ i, ∃ p : Pr, i < len → ∃ cs, w.cells? base (a.add (i * 2)) 2 = some cs ∧ PrAt w cs p := fun i => by
      by_cases hi : i < len
      · obtain ⟨cs, e, h1, h2⟩ := hone i hi
        exact ⟨e, fun _ => ⟨cs, h1, h2⟩⟩
      · exact ⟨⟨[], []⟩, fun h => absurd h hi⟩
    obtain ⟨F, hF⟩ := Classical.axiomOfChoice htot
    have hl : ((List.range len).map fun i => F i).length = len := by simp
    have hget : ∀ (k : Nat) (hk : k < ((List.range len).map fun i => F i).length), ((List.range len).map fun i => F i)[k] = F k := fun k hk => by simp
    refine ⟨(List.range len).map fun i => F i, some a, cap, by rw [hl], by rw [hl]; exact hlc, by unfold maxLen at hcap; omega, fun k hk => ?_⟩
    rw [hget k hk]
    obtain ⟨cs, h1, h2, h3, h4⟩ := hF k (by rw [hl] at hk; exact hk)
    have hc := (cells_get h1).2
    rw [h2] at hc
    have hc0 := hc 0 (by omega)
    have hc1 := hc 1 (by omega)
    have hsp : a.spot = none := by
      obtain ⟨cs0, g1, g2, _⟩ := hF 0 (by rw [hl] at hk; omega)
      have := (cell_lt (((cells_get g1).2 0 (by omega)).trans (show cs0[0]? = some (.string (strOf (F 0).name)) from by rw [g2]; rfl))).2
      simpa [Addr.add] using this
    obtain ⟨b, off, rfl⟩ : ∃ b off, a = ⟨b, off, none⟩ := ⟨a.block, a.off, by cases a; simp at hsp; rw [hsp]⟩
    simp only [add_pl] at hc0 hc1
    have hc0' : w.cell? ⟨b, off + k * 2, none⟩ = some (.string (strOf (F k).name)) := hc0
    exact ⟨b, off, rfl, (cell_lt hc0').1, h3, h4, hc0', hc1⟩

def DcAt (w : World) (cs : List Value) (s : Dc) (f : Vd) : Prop := cs = dcCells s f ∧ s.name.length ≤ 140737488355328 ∧ s.type.length ≤ 140737488355328 ∧ PrsIn w (· < w.heap.size) s.pairs f.p ∧ IsSms w (· < w.heap.size) s.body f.b
theorem opens_dc {H : Type} {enc : TypeId × Value → H} {w : World} {base : Nat} {spare : Nat → Bool} {held : Bool} (fuel : Nat) (v : Value) (x : DataW H × List MemPlace)
    (h : DataW.trod enc Tryd.prog w base spare held fuel 37 [v] = some x) (hwt : ∀ y ∈ DataW.weights Tryd.prog 37 x.1, y ≤ 140737488355328) : ∃ ds, DcsIn w (· < w.heap.size) ds v := by
  rcases DataW.trod_slice Tryd.underlying37 h with ⟨hcs, hx⟩ | ⟨a, len, cap, elems, rest, n, hfu, hcs, hx, hbase, hlc, hcap, hlen, hel, -, -⟩
  · obtain rfl : v = .slice none 0 0 := by simpa using hcs
    exact ⟨[], none, 0, fun _ => undef, fun _ => undef, rfl, Nat.le_refl _, by omega, fun k hk => absurd hk (by simp), fun k hk => absurd hk (by simp), fun k hk => absurd hk (by simp)⟩
  · obtain rfl : v = .slice (some a) len cap := by simpa using hcs
    have hone : ∀ i, i < len → ∃ (cs : List Value) (s : Dc) (u : Vd), w.cells? base (a.add (i * 7)) 7 = some cs ∧ DcAt w cs s u := by
      intro i hi
      have h1 := hel i hi
      have hie : i < elems.length := by omega
      rw [List.getElem?_eq_getElem hie] at h1
      rw [show Tryd.prog.cellsOf 53 = 7 from by kernel_rfl] at h1
      obtain ⟨cs, h2, h3⟩ := Option.bind_eq_some_iff.1 h1
      refine ⟨cs, ?_⟩
      obtain ⟨x0, x1, x2, x3, x4, x5, x6, m, hm, hx1, hl, f0, f1, f2, f3, f4, f5, f6⟩ := trod_struct_7 Tryd.underlying53 h3
      rw [show Tryd.prog.cellsOf 53 = 7 from by kernel_rfl] at hl
      obtain ⟨c0, c1, c2, c3, c4, c5, c6, rfl⟩ : ∃ x0 x1 x2 x3 x4 x5 x6, cs = [x0, x1, x2, x3, x4, x5, x6] := by
        match cs, hl with
        | [x0, x1, x2, x3, x4, x5, x6], _ => exact ⟨x0, x1, x2, x3, x4, x5, x6, rfl⟩
      simp only [show Tryd.prog.cellsOf 3 = 1 from by kernel_rfl, show Tryd.prog.cellsOf 9 = 1 from by kernel_rfl, show Tryd.prog.cellsOf 50 = 1 from by kernel_rfl, show Tryd.prog.cellsOf 51 = 1 from by kernel_rfl, List.drop_zero, List.drop_succ_cons, List.take_succ_cons, List.take_zero] at f0 f1 f2 f3 f4 f5 f6
      obtain ⟨k0, hk0, -, -⟩ := DataW.trod_int Tryd.underlying3 f0
      obtain ⟨k1, hk1, -, -⟩ := DataW.trod_int Tryd.underlying3 f1
      obtain ⟨k2, hk2, -, -⟩ := DataW.trod_int Tryd.underlying3 f2
      obtain ⟨s3, hk3, hx3, -⟩ := DataW.trod_string Tryd.underlying9 f3
      obtain ⟨s4, hk4, hx4, -⟩ := DataW.trod_string Tryd.underlying9 f4
      obtain rfl : c0 = .int .i64 k0 := by simpa using hk0
      obtain rfl : c1 = .int .i64 k1 := by simpa using hk1
      obtain rfl : c2 = .int .i64 k2 := by simpa using hk2
      obtain rfl : c3 = .string s3 := by simpa using hk3
      obtain rfl : c4 = .string s4 := by simpa using hk4
      have hw1 : ∀ y ∈ DataW.weights Tryd.prog 53 elems[i].1, y ≤ 140737488355328 := fun y hy => by
        refine hwt y ?_
        rw [hx]
        simp only [DataW.weights, Tryd.underlying37]
        exact List.mem_cons_of_mem _ (List.mem_append_left _ (weightsAll_mem (List.mem_map_of_mem (List.getElem_mem hie)) hy))
      rw [hx1] at hw1
      simp only [DataW.weights, Tryd.underlying53, List.map_cons, List.map_nil, DataW.weightsEach, List.append_nil] at hw1
      have hw3 : s3.data.toList.length ≤ 140737488355328 := hw1 _ (by simp [hx3, DataW.weights])
      have hw4 : s4.data.toList.length ≤ 140737488355328 := hw1 _ (by simp [hx4, DataW.weights])
      obtain ⟨ps, hps⟩ := opens_pr m c5 x5 f5 (fun y hy => hw1 y (by simp [hy]))
      obtain ⟨bd, hbd⟩ := opens_sm m c6 x6 f6 (fun y hy => hw1 y (by simp [hy]))
      exact ⟨⟨k0, k1, k2, s3.data.toList, s4.data.toList, ps, bd⟩, ⟨c5, c6⟩, h2, by simp [dcCells, strOf_back], hw3, hw4, hps, hbd⟩
    have htot : ∀ i, ∃ p : Dc × Vd, i < len → ∃ cs, w.cells? base (a.add (i * 7)) 7 = some cs ∧ DcAt w cs p.1 p.2 := fun i => by
      by_cases hi : i < len
      · obtain ⟨cs, e, u, h1, h2⟩ := hone i hi
        exact ⟨(e, u), fun _ => ⟨cs, h1, h2⟩⟩
      · exact ⟨(⟨0, 0, 0, [], [], [], []⟩, ⟨undef, undef⟩), fun h => absurd h hi⟩
    obtain ⟨F, hF⟩ := Classical.axiomOfChoice htot
    have hl : ((List.range len).map fun i => (F i).1).length = len := by simp
    have hget : ∀ (k : Nat) (hk : k < ((List.range len).map fun i => (F i).1).length), ((List.range len).map fun i => (F i).1)[k] = (F k).1 := fun k hk => by simp
    refine ⟨(List.range len).map fun i => (F i).1, some a, cap, (fun i => (F i).2.p), (fun i => (F i).2.b), by rw [hl], by rw [hl]; exact hlc, by unfold maxLen at hcap; omega, fun k hk => ?_, fun k hk => ?_, fun k hk => ?_⟩
    · rw [hget k hk]
      obtain ⟨cs, h1, h2, h3, h4, _⟩ := hF k (by rw [hl] at hk; exact hk)
      have hc := (cells_get h1).2
      rw [h2] at hc
      have hc0 := hc 0 (by omega)
      have hc1 := hc 1 (by omega)
      have hc2 := hc 2 (by omega)
      have hc3 := hc 3 (by omega)
      have hc4 := hc 4 (by omega)
      have hc5 := hc 5 (by omega)
      have hc6 := hc 6 (by omega)
      have hsp : a.spot = none := by
        obtain ⟨cs0, g1, g2, _⟩ := hF 0 (by rw [hl] at hk; omega)
        have := (cell_lt (((cells_get g1).2 0 (by omega)).trans (show cs0[0]? = some (.int .i64 (F 0).1.kind) from by rw [g2]; rfl))).2
        simpa [Addr.add] using this
      obtain ⟨b, off, rfl⟩ : ∃ b off, a = ⟨b, off, none⟩ := ⟨a.block, a.off, by cases a; simp at hsp; rw [hsp]⟩
      simp only [add_pl] at hc0 hc1 hc2 hc3 hc4 hc5 hc6
      have hb := (cell_lt (hc0.trans (show (dcCells (F k).1 (F k).2)[0]? = some (.int .i64 (F k).1.kind) from rfl))).1
      exact ⟨b, off, rfl, hb, h3, h4, hc0, hc1, hc2, hc3, hc4, hc5, hc6⟩
    · rw [hget k hk]
      obtain ⟨cs, h1, h2, h3, h4, h5, h6⟩ := hF k (by rw [hl] at hk; exact hk)
      exact h5
    · rw [hget k hk]
      obtain ⟨cs, h1, h2, h3, h4, h5, h6⟩ := hF k (by rw [hl] at hk; exact hk)
      exact h6

/-- a program, out of an argument -/
theorem opens_prog {H : Type} {enc : TypeId × Value → H} {w : World} {base : Nat} {spare : Nat → Bool} {held : Bool} {v : Value} {d : DataW H} {ps : List MemPlace}
    (h : DataW.Trod enc Tryd.prog w base spare held 39 v d ps) (hv : ∃ u, v = .agg #[u]) (hwt : ∀ y ∈ DataW.weights Tryd.prog 39 d, y ≤ 140737488355328) : ∃ ds u, v = .agg #[u] ∧ DcsIn w (· < w.heap.size) ds u := by
  obtain ⟨u, rfl⟩ := hv
  obtain ⟨fuel, h⟩ := h
  obtain ⟨x0, n, hn, hx, hl, f0⟩ := trod_struct_1 Tryd.underlying39 h
  have hx' : d = .agg [x0.1] := hx
  rw [hx'] at hwt
  simp only [DataW.weights, Tryd.underlying39, List.map_cons, List.map_nil, DataW.weightsEach, List.append_nil] at hwt
  rw [show Tryd.prog.cellsOf 39 = 1 from by kernel_rfl] at hl
  obtain ⟨c0, hc⟩ : ∃ c0, (Value.agg #[u]).cells.toList = [c0] := by
    match hh : (Value.agg #[u]).cells.toList, hl with
    | [c0], _ => exact ⟨c0, rfl⟩
  rw [hc] at f0
  simp only [show Tryd.prog.cellsOf 37 = 1 from by kernel_rfl, List.drop_zero, List.take_succ_cons, List.take_zero] at f0
  obtain ⟨ds, hds⟩ := opens_dc n c0 x0 f0 hwt
  refine ⟨ds, u, rfl, ?_⟩
  have : c0 = u := by simpa [Value.cells] using hc.symm
  rw [← this]
  exact hds

end Go.Proofs.YtmbkjabjcphkbaaDoor
end
section
/- A program and an expression, out of a row's arguments. -/
set_option linter.unusedVariables false
set_option maxRecDepth 100000
namespace Go.Proofs.YtmbkjabjcphkbaaDoor
open Go Go.ChangeShapes Go.WideShapes Go.ChangeAt Go.ChangeMaps Go.RowKit

theorem prog_agg {W : World} {r : Reach} {base : Nat} {v : Value} (h : Value.okWide Tryd.prog W r base 39 v) : ∃ u, v = .agg #[u] := by
  obtain ⟨cs, rfl, hs⟩ := okWide_struct Tryd.underlying39 h
  rw [show Tryd.prog.cellsOf 39 = 1 from by kernel_rfl] at hs
  match cs, hs with
  | ⟨[u]⟩, _ => exact ⟨u, rfl⟩
theorem expr_agg {W : World} {r : Reach} {base : Nat} {v : Value} (h : Value.okWide Tryd.prog W r base 24 v) : ∃ a b c d e, v = .agg #[a, b, c, d, e] := by
  obtain ⟨cs, rfl, hs⟩ := okWide_struct Tryd.underlying24 h
  rw [show Tryd.prog.cellsOf 24 = 5 from by kernel_rfl] at hs
  match cs, hs with
  | ⟨[a, b, c, d, e]⟩, _ => exact ⟨a, b, c, d, e, rfl⟩
theorem weights_one {H : Type} {P : Program} {t : TypeId} {d : DataW H} {ts : List TypeId} {l : List (DataW H)} {y : Nat} (hts : ts = [t]) (hl : l = [d]) (hy : y ∈ DataW.weights P t d) : y ∈ DataW.weightsEach P ts l := by
  subst hts hl
  simp [DataW.weightsEach, hy]
theorem weights_two {H : Type} {P : Program} {t t1 : TypeId} {d d1 : DataW H} {ts : List TypeId} {l : List (DataW H)} {y : Nat} (hts : ts = [t, t1]) (hl : l = [d, d1]) (hy : y ∈ DataW.weights P t d) : y ∈ DataW.weightsEach P ts l := by
  subst hts hl
  simp [DataW.weightsEach, hy]
theorem weights_three {H : Type} {P : Program} {t t1 t2 : TypeId} {d d1 d2 : DataW H} {ts : List TypeId} {l : List (DataW H)} {y : Nat} (hts : ts = [t, t1, t2]) (hl : l = [d, d1, d2]) (hy : y ∈ DataW.weights P t d) : y ∈ DataW.weightsEach P ts l := by
  subst hts hl
  simp [DataW.weightsEach, hy]
theorem weight_le {x : Nat} (h : x ≤ reachBytes) : x ≤ 140737488355328 := by unfold reachBytes at h; omega

end Go.Proofs.YtmbkjabjcphkbaaDoor
end
