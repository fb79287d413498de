/- A list of expressions, read out of the memory that a caller hands over. -/
import Derived.Test.YtadkimnpeachpaaGreatDoorUb
import Derived.ChangeArms
import Derived.SizedLaws
set_option linter.unusedVariables false
set_option maxRecDepth 100000
namespace Go.Proofs.YtadkimnpeachpaaGreatDoor
open Go.RowKit

theorem cells_get {w : World} {base : Nat} {a : Addr} {n : Nat} {cs : List Value} (h : w.cells? base a n = some cs) : cs.length = n ∧ ∀ i, i < n → w.cell? (a.add i) = cs[i]? := by
  unfold World.cells? at h
  split at h
  · have h1 := mapM_some_length h
    refine ⟨by simpa using h1, fun i hi => ?_⟩
    have := mapM_some_get h i i (by simp [hi])
    exact this
  · cases h
theorem cell_lt {w : World} {a : Addr} {v : Value} (h : w.cell? a = some v) : a.block < w.heap.size ∧ a.spot = none := by
  unfold World.cell? at h
  split at h
  · rename_i c e z hc
    refine ⟨?_, ?_⟩
    · rcases Nat.lt_or_ge a.block w.heap.size with h1 | h1
      · exact h1
      · rw [Array.getElem?_eq_none h1] at hc; cases hc
    · split at h
      · cases h
      · rename_i hs
        cases hsp : a.spot with
        | none => rfl
        | some q => rw [hsp] at hs; simp at hs
  · cases h
theorem weightsAll_mem {H : Type} {P : Program} {e : TypeId} : ∀ {ds : List (DataW H)} {d : DataW H} {x : Nat}, d ∈ ds → x ∈ DataW.weights P e d → x ∈ DataW.weightsAll P e ds
  | d0 :: ds, d, x, hd, hx => by
    rw [DataW.weightsAll]
    rcases List.mem_cons.1 hd with rfl | hd
    · exact List.mem_append_left _ hx
    · exact List.mem_append_right _ (weightsAll_mem hd hx)
theorem strOf_back (s : ByteArray) : strOf s.data.toList = s := by
  cases s
  simp [strOf]

theorem trod_struct_5 {H : Type} {enc : TypeId × Value → H} {P : Program} {w : World} {base : Nat} {spare : Nat → Bool} {held : Bool} {t : TypeId} {f0 f1 f2 f3 f4 : Field} {fuel : Nat} {cs : List Value} {x : DataW H × List MemPlace}
    (ht : P.underlying t = some (.struct #[f0, f1, f2, f3, f4])) (h : DataW.trod enc P w base spare held fuel t cs = some x) :
    ∃ (x0 x1 x2 x3 x4 : DataW H × List MemPlace) (n : Nat), fuel = n + 1 ∧ x.1 = .agg [x0.1, x1.1, x2.1, x3.1, x4.1] ∧ cs.length = P.cellsOf t ∧ DataW.trod enc P w base spare held n f0.type ((cs.drop f0.offset).take (P.cellsOf f0.type)) = some x0 ∧ DataW.trod enc P w base spare held n f1.type ((cs.drop f1.offset).take (P.cellsOf f1.type)) = some x1 ∧ DataW.trod enc P w base spare held n f2.type ((cs.drop f2.offset).take (P.cellsOf f2.type)) = some x2 ∧ DataW.trod enc P w base spare held n f3.type ((cs.drop f3.offset).take (P.cellsOf f3.type)) = some x3 ∧ DataW.trod enc P w base spare held n f4.type ((cs.drop f4.offset).take (P.cellsOf f4.type)) = some x4 := by
  obtain ⟨xs, n, hn, rfl, hl, hlen, hf⟩ := DataW.trod_struct ht h
  match xs, hlen with
  | [x0, x1, x2, x3, x4], _ => exact ⟨x0, x1, x2, x3, x4, n, hn, rfl, hl, hf 0 f0 rfl, hf 1 f1 rfl, hf 2 f2 rfl, hf 3 f3 rfl, hf 4 f4 rfl⟩
theorem trod_struct_7 {H : Type} {enc : TypeId × Value → H} {P : Program} {w : World} {base : Nat} {spare : Nat → Bool} {held : Bool} {t : TypeId} {f0 f1 f2 f3 f4 f5 f6 : Field} {fuel : Nat} {cs : List Value} {x : DataW H × List MemPlace}
    (ht : P.underlying t = some (.struct #[f0, f1, f2, f3, f4, f5, f6])) (h : DataW.trod enc P w base spare held fuel t cs = some x) :
    ∃ (x0 x1 x2 x3 x4 x5 x6 : DataW H × List MemPlace) (n : Nat), fuel = n + 1 ∧ x.1 = .agg [x0.1, x1.1, x2.1, x3.1, x4.1, x5.1, x6.1] ∧ cs.length = P.cellsOf t ∧ DataW.trod enc P w base spare held n f0.type ((cs.drop f0.offset).take (P.cellsOf f0.type)) = some x0 ∧ DataW.trod enc P w base spare held n f1.type ((cs.drop f1.offset).take (P.cellsOf f1.type)) = some x1 ∧ DataW.trod enc P w base spare held n f2.type ((cs.drop f2.offset).take (P.cellsOf f2.type)) = some x2 ∧ DataW.trod enc P w base spare held n f3.type ((cs.drop f3.offset).take (P.cellsOf f3.type)) = some x3 ∧ DataW.trod enc P w base spare held n f4.type ((cs.drop f4.offset).take (P.cellsOf f4.type)) = some x4 ∧ DataW.trod enc P w base spare held n f5.type ((cs.drop f5.offset).take (P.cellsOf f5.type)) = some x5 ∧ DataW.trod enc P w base spare held n f6.type ((cs.drop f6.offset).take (P.cellsOf f6.type)) = some x6 := by
  obtain ⟨xs, n, hn, rfl, hl, hlen, hf⟩ := DataW.trod_struct ht h
  match xs, hlen with
  | [x0, x1, x2, x3, x4, x5, x6], _ => exact ⟨x0, x1, x2, x3, x4, x5, x6, n, hn, rfl, hl, hf 0 f0 rfl, hf 1 f1 rfl, hf 2 f2 rfl, hf 3 f3 rfl, hf 4 f4 rfl, hf 5 f5 rfl, hf 6 f6 rfl⟩
theorem trod_struct_1 {H : Type} {enc : TypeId × Value → H} {P : Program} {w : World} {base : Nat} {spare : Nat → Bool} {held : Bool} {t : TypeId} {f0 : Field} {fuel : Nat} {cs : List Value} {x : DataW H × List MemPlace}
    (ht : P.underlying t = some (.struct #[f0])) (h : DataW.trod enc P w base spare held fuel t cs = some x) :
    ∃ (x0 : DataW H × List MemPlace) (n : Nat), fuel = n + 1 ∧ x.1 = .agg [x0.1] ∧ cs.length = P.cellsOf t ∧ DataW.trod enc P w base spare held n f0.type ((cs.drop f0.offset).take (P.cellsOf f0.type)) = some x0 := by
  obtain ⟨xs, n, hn, rfl, hl, hlen, hf⟩ := DataW.trod_struct ht h
  match xs, hlen with
  | [x0], _ => exact ⟨x0, n, hn, rfl, hl, hf 0 f0 rfl⟩
/-- one expression's five cells -/
def ExAt (w : World) (cs : List Value) (e : Ex) (v : Value) : Prop := cs = exCells e v ∧ e.name.length ≤ 140737488355328 ∧ IsExs w (· < w.heap.size) e.args v

theorem opens_ex {H : Type} {enc : TypeId × Value → H} {w : World} {base : Nat} {spare : Nat → Bool} {held : Bool} : ∀ (fuel : Nat) (v : Value) (x : DataW H × List MemPlace),
    DataW.trod enc Tryz.prog w base spare held fuel 22 [v] = some x → (∀ y ∈ DataW.weights Tryz.prog 22 x.1, y ≤ 140737488355328) → ∃ es, IsExs w (· < w.heap.size) es v := by
  intro fuel
  induction fuel using Nat.strongRecOn with
  | _ fuel ih =>
    intro v x h hwt
    rcases DataW.trod_slice Tryz.underlying22 h with ⟨hcs, hx⟩ | ⟨a, len, cap, elems, rest, n, hfu, hcs, hx, hbase, hlc, hcap, hlen, hel, -, -⟩
    · obtain rfl : v = .slice none 0 0 := by simpa using hcs
      exact ⟨[], .mk [] none 0 (fun _ => undef) (Nat.le_refl _) (by omega) (fun k hk => absurd hk (by simp)) (fun k hk => absurd hk (by simp))⟩
    · obtain rfl : v = .slice (some a) len cap := by simpa using hcs
      have hone : ∀ i, i < len → ∃ (cs : List Value) (e : Ex) (u : Value), w.cells? base (a.add (i * 5)) 5 = some cs ∧ ExAt w cs e u := by
        intro i hi
        have h1 := hel i hi
        have hie : i < elems.length := by omega
        rw [List.getElem?_eq_getElem hie] at h1
        rw [show Tryz.prog.cellsOf 24 = 5 from by kernel_rfl] at h1
        obtain ⟨cs, h2, h3⟩ := Option.bind_eq_some_iff.1 h1
        refine ⟨cs, ?_⟩
        have hcl := cells_get h2
        obtain ⟨x0, x1, x2, x3, x4, m, hm, hx1, hl, f0, f1, f2, f3, f4⟩ := trod_struct_5 Tryz.underlying24 h3
        rw [show Tryz.prog.cellsOf 24 = 5 from by kernel_rfl] at hl
        obtain ⟨c0, c1, c2, c3, c4, rfl⟩ : ∃ x0 x1 x2 x3 x4, cs = [x0, x1, x2, x3, x4] := by
          match cs, hl with
          | [x0, x1, x2, x3, x4], _ => exact ⟨x0, x1, x2, x3, x4, rfl⟩
        simp only [show Tryz.prog.cellsOf 3 = 1 from by kernel_rfl, show Tryz.prog.cellsOf 9 = 1 from by kernel_rfl, show Tryz.prog.cellsOf 22 = 1 from by kernel_rfl, List.drop_zero, List.drop_succ_cons, List.take_succ_cons, List.take_zero] at f0 f1 f2 f3 f4
        obtain ⟨k0, hk0, -, -⟩ := DataW.trod_int Tryz.underlying3 f0
        obtain ⟨k1, hk1, -, -⟩ := DataW.trod_int Tryz.underlying3 f1
        obtain ⟨k2, hk2, -, -⟩ := DataW.trod_int Tryz.underlying3 f2
        obtain ⟨s3, hk3, hx3, -⟩ := DataW.trod_string Tryz.underlying9 f3
        obtain rfl : c0 = .int .i64 k0 := by simpa using hk0
        obtain rfl : c1 = .int .i64 k1 := by simpa using hk1
        obtain rfl : c2 = .int .i64 k2 := by simpa using hk2
        obtain rfl : c3 = .string s3 := by simpa using hk3
        have hw1 : ∀ y ∈ DataW.weights Tryz.prog 24 elems[i].1, y ≤ 140737488355328 := fun y hy => by
          refine hwt y ?_
          rw [hx]
          simp only [DataW.weights, Tryz.underlying22]
          exact List.mem_cons_of_mem _ (List.mem_append_left _ (weightsAll_mem (List.mem_map_of_mem (List.getElem_mem hie)) hy))
        rw [hx1] at hw1
        simp only [DataW.weights, Tryz.underlying24, List.map_cons, List.map_nil, DataW.weightsEach, List.append_nil] at hw1
        have hw3 : s3.data.toList.length ≤ 140737488355328 := hw1 _ (by simp [hx3, DataW.weights])
        obtain ⟨es, hes⟩ := ih m (by omega) c4 x4 f4 (fun y hy => hw1 y (by simp [hy]))
        exact ⟨.mk k0 k1 k2 s3.data.toList es, c4, h2, by simp [exCells, Ex.kind, Ex.pl, Ex.num, Ex.name, strOf_back], hw3, hes⟩
      have htot : ∀ i, ∃ p : Ex × Value, i < len → ∃ cs, w.cells? base (a.add (i * 5)) 5 = some cs ∧ ExAt w cs p.1 p.2 := fun i => by
        by_cases hi : i < len
        · obtain ⟨cs, e, u, h1, h2⟩ := hone i hi
          exact ⟨(e, u), fun _ => ⟨cs, h1, h2⟩⟩
        · exact ⟨(.mk 0 0 0 [] [], undef), fun h => absurd h hi⟩
      obtain ⟨F, hF⟩ := Classical.axiomOfChoice htot
      have hl : ((List.range len).map fun i => (F i).1).length = len := by simp
      have hget : ∀ (k : Nat) (hk : k < ((List.range len).map fun i => (F i).1).length), ((List.range len).map fun i => (F i).1)[k] = (F k).1 := fun k hk => by simp
      refine ⟨(List.range len).map fun i => (F i).1, ?_⟩
      have hmk := IsExs.mk (w := w) (S := (· < w.heap.size)) ((List.range len).map fun i => (F i).1) (some a) cap (fun i => (F i).2) (by rw [hl]; exact hlc) (by unfold maxLen at hcap; omega) (fun k hk => ?_) (fun k hk => ?_)
      · rw [hl] at hmk
        exact hmk
      · rw [hget k hk]
        obtain ⟨cs, h1, h2, h3, h4⟩ := hF k (by rw [hl] at hk; exact hk)
        have hc := (cells_get h1).2
        rw [h2] at hc
        have hc0 := hc 0 (by omega)
        have hc1 := hc 1 (by omega)
        have hc2 := hc 2 (by omega)
        have hc3 := hc 3 (by omega)
        have hc4 := hc 4 (by omega)
        have hsp : a.spot = none := by
          obtain ⟨cs0, g1, g2, _⟩ := hF 0 (by rw [hl] at hk; omega)
          have := (cell_lt (((cells_get g1).2 0 (by omega)).trans (show cs0[0]? = some (.int .i64 (F 0).1.kind) from by rw [g2]; rfl))).2
          simpa [Addr.add] using this
        obtain ⟨b, off, rfl⟩ : ∃ b off, a = ⟨b, off, none⟩ := ⟨a.block, a.off, by cases a; simp at hsp; rw [hsp]⟩
        simp only [add_pl] at hc0 hc1 hc2 hc3 hc4
        have hb := (cell_lt (hc0.trans (show (exCells (F k).1 (F k).2)[0]? = some (.int .i64 (F k).1.kind) from rfl))).1
        exact ⟨b, off, rfl, hb, h3, hc0, hc1, hc2, hc3, hc4⟩
      · rw [hget k hk]
        obtain ⟨cs, h1, h2, h3, h4⟩ := hF k (by rw [hl] at hk; exact hk)
        exact h4

end Go.Proofs.YtadkimnpeachpaaGreatDoor
