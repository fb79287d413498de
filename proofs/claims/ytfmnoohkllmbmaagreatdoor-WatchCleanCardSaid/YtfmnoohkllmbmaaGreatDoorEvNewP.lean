/- The evaluator: EvNewP. -/
import Derived.Test.YtfmnoohkllmbmaaGreatDoorEvPureP
set_option linter.unusedVariables false
set_option linter.unusedSimpArgs false
namespace Go.Proofs.YtfmnoohkllmbmaaGreatDoor
namespace Ev
open Go.RowKit

section
variable {P : Program} {E : Env} (HE : EnvOk P E) {c : Cx} {B : Nat} {w : World}

theorem BR_cells {c : Cx} {κ B b e sz : Nat} {cs : List AV} {arr : Array Value} (hl : LR c cs arr.toList) (hB : B ≤ b) : BR c κ B b (.cells e sz false false cs) (.cells arr e) := by
  have hlen := hl.len
  simp at hlen
  refine ⟨rfl, by omega, fun k a ha => ?_, fun _ => ⟨rfl, hB⟩, fun _ => hlen.symm, fun h => by cases h⟩
  obtain ⟨v, hv, hr⟩ := hl.get ha
  rw [Array.getElem?_toList] at hv
  exact ⟨v, hv, hr⟩

theorem rep_get (zs : List AV) : ∀ (n k : Nat), (rep zs n)[k]? = if k < n * zs.length then zs[k % zs.length]? else none
  | 0, k => by simp [rep]
  | n + 1, k => by
    simp only [rep]
    by_cases hk : k < zs.length
    · rw [List.getElem?_append_left hk, if_pos (by rw [Nat.add_mul]; omega), Nat.mod_eq_of_lt hk]
    · rw [List.getElem?_append_right (by omega), rep_get zs n]
      have hm : (k - zs.length) % zs.length = k % zs.length := by
        rw [Nat.mod_eq_sub_mod (by omega : zs.length ≤ k)]
      rw [hm]
      by_cases h2 : k - zs.length < n * zs.length
      · rw [if_pos h2, if_pos (by rw [Nat.add_mul]; omega)]
      · rw [if_neg h2, if_neg (by rw [Nat.add_mul]; omega)]

theorem rep_ok {zs : List AV} {z : Array Value} {size n : Nat} (hl : LR c zs z.toList) (hs : zs.length = size) :
    LR c (rep zs n) ((Array.range (n * size)).map (fun k => z[k % z.size]!)).toList := by
  have hzl := hl.len
  simp at hzl
  refine ⟨by simp [rep_length, hs], fun k a v ha hv => ?_⟩
  rw [rep_get] at ha
  split at ha
  · rename_i hk
    rw [hs] at hk
    simp [hk] at hv
    subst hv
    have hpos : 0 < z.size := by
      rcases Nat.eq_zero_or_pos z.size with h0 | h0
      · rw [← hs, hzl, h0] at hk; simp at hk
      · exact h0
    have hlt := Nat.mod_lt k hpos
    have : z[k % z.size]! = z[k % z.size] := by simp [getElem!_pos, hlt]
    rw [this]
    refine hl.at_ (k % zs.length) a _ ha ?_
    rw [hzl]
    simp [hlt]
  · cases ha

theorem freeze_new (w : World) (arr : Array Value) (e k : Nat) : (w.alloc (.cells arr e)).freeze ⟨w.heap.size, k, none⟩ 1 = w.alloc (.cells arr e (k, k + 1)) := by
  unfold World.freeze World.alloc
  simp only [Nat.one_ne_zero, if_false]
  congr 1
  apply Array.ext_getElem?
  intro j
  rw [Array.getElem?_modify]
  by_cases hj : j = w.heap.size
  · subst hj; simp
  · rw [if_neg (Ne.symm hj)]
    rw [Array.getElem?_push, Array.getElem?_push, if_neg hj, if_neg hj]

def bytesArr (s : ByteArray) (k : Nat) : Array Value := (s.data.map fun (b : UInt8) => Value.int .u8 b.toNat) ++ Array.replicate (k - s.size) (Value.int .u8 0)

/-- an operation that makes a block -/
def NewOk (P : Program) (c : Cx) (B : Nat) (w : World) (s : Sem Next) (blk : ABk) (f : Nat → AV) : Prop :=
  ∃ obj v w1 κ, s.run P w = .ok (.value v) (w1.alloc obj) ∧ (w1 = w ∨ w1 = w.drew) ∧
    ∀ i, c.ρ i = none → BR (c.add i w.heap.size κ) κ B w.heap.size blk obj ∧ VR (c.add i w.heap.size κ) (f i) v

include HE in
theorem evNew_ok (hB : B ≤ w.heap.size) {r : Operand → Option AV} {ρ : Operand → Value} (o : Oper) (hr : OpsR c r ρ o.op) {blk : ABk} {f : Nat → AV} (he : evNew E r o = some (blk, f)) :
    NewOk P c B w (execOp ρ o) blk f := by
  obtain ⟨dst, op, type, pos, after, guard⟩ := o
  cases op <;> simp only [evNew] at he <;> try (cases he; done)
  case alloc t =>
    split at he
    · rename_i ti hti
      cases he
      obtain ⟨z, az, hz, hzr, hzc, hzv⟩ := (HE.ty _ _ hti).zeroValue w c
      have hs : (zeroValue t).run P w = .ok z w := hz
      refine ⟨.cells z.cells t, .pointer (some ⟨w.heap.size, 0, none⟩), w, 0, ?_, .inl rfl, fun i hi => ⟨?_, .ptr (Cx.add_ρ ..)⟩⟩
      · simp [execOp, Instr.alloc, hs, newVar, newRow]
      · rw [← hzc]
        exact BR_cells (hzr.mono (Cx.le_add _ _ hi)).cells hB
    · cases he
  case box t x =>
    split at he
    · rename_i va hx
      cases he
      have h0 := hr x (by simp [Op.operands]) _ hx
      refine ⟨.cells (ρ x).cells t, .pointer (some ⟨w.heap.size, 0, none⟩), w, 0, ?_, .inl rfl, fun i hi => ⟨?_, .ptr (Cx.add_ρ ..)⟩⟩
      · simp [execOp, Instr.box, newVar, newRow]
      · exact BR_cells (h0.mono (Cx.le_add _ _ hi)).cells hB
    · cases he
  case buildSlice t n ps =>
    split at he
    · rename_i l ti hl hti
      obtain ⟨D, hD, hk⟩ := (HE.ty _ _ hti).desc
      split at he
      · rename_i e hd
        rw [hd] at hk
        cases D <;> simp only [TDok] at hk
        subst hk
        rename_i e
        split at he
        · rename_i ei hei
          have hE := HE.ty _ _ hei
          split at he
          · rename_i hle
            have hle := Nat.le_of_ble_eq_true hle
            split at he
            · rename_i cs hf
              cases he
              have hps := evParts_ok ps.toList l (fun x hx => hr x (by simpa [Op.operands] using hx)) hl
              have hpe : (ps.map fun (i, x) => (i, ρ x)).toList = ps.toList.map fun (i, x) => (i, ρ x) := by simp
              obtain ⟨i0, z, az, hi0, hs0, _, hz0, hcv, hzc, _⟩ := hE.info
              have hzr : LR c ei.zero z.cells.toList := by rw [← hzc]; exact (cvt_ok c z az hcv).cells
              rw [fillR_eq] at hf
              have hbase := rep_ok (n := n) hzr (HE.ty _ _ hei).zlen
              obtain ⟨rarr, hrr, hlr⟩ := fillG_ok (place := fun i => some (i * ei.size, ei.size)) (fun i x hx => hx) l _ _ cs _ hps hbase hf
              have hU := run_underlying hD w
              have hrun : (Instr.buildSlice t n (ps.map fun (i, x) => (i, ρ x))).run P w = .ok (.slice (some ⟨w.heap.size, 0, none⟩) n n) (w.alloc (.cells rarr e)) := by
                by_cases hz : n * ei.size = 0
                · rw [hz] at hrr
                  have h0 : (Array.range 0).map (fun k => z.cells[k % z.cells.size]!) = #[] := by simp
                  rw [h0] at hrr
                  have hrr' : Instr.fill (fun i => some (i * ei.size, ei.size)) #[] (ps.map fun (i, x) => (i, ρ x)).toList = some rarr := by rw [hpe]; exact hrr
                  have h0' : ∀ g : Nat → Value, (Array.range 0).map g = #[] := by simp
                  have hz' : ¬ (0 > 2 ^ 24) := by omega
                  simp only [Instr.buildSlice, Sem.run_bind, hU, Result.andThen_ok, (HE.ty _ _ hei).size w, hz, Sem.run_ite, Sem.run_pure, hz', if_false, if_true, h0', hrr', newRow, run_newObj]
                  rfl
                · refine run_buildSlice w t e n _ rarr i0 z hD hi0 hz0 ?_ ?_ ?_
                  · rw [hs0]; omega
                  · rw [hs0]; exact hz
                  · rw [hs0, hpe]; exact hrr
              refine ⟨.cells rarr e, .slice (some ⟨w.heap.size, 0, none⟩) n n, w, 0, ?_, .inl rfl, fun i hi => ⟨BR_cells (hlr.mono (Cx.le_add _ _ hi)) hB, .sl (Cx.add_ρ ..)⟩⟩
              simp only [execOp, Sem.run_bind, hrun, Result.andThen_ok, Sem.run_pure]
            · cases he
          · cases he
        · cases he
      · cases he
    · cases he
  case convert sT d x =>
    split at he
    · rename_i l si di hx hsi hdi
      have h0 := hr x (by simp [Op.operands]) _ hx
      obtain ⟨s, h1, rfl⟩ := h0.strE
      obtain ⟨Ds, hDs, hks⟩ := (HE.ty _ _ hsi).desc
      obtain ⟨Dd, hDd, hkd⟩ := (HE.ty _ _ hdi).desc
      have hUs := run_underlying hDs w
      have hUd := run_underlying hDd w
      split at he
      · rename_i e hd
        rw [hd] at hkd
        cases Dd <;> simp only [TDok] at hkd
        subst hkd
        rename_i e
        split at he
        · rename_i ei hei
          obtain ⟨De, hDe, hke⟩ := (HE.ty _ _ hei).desc
          have hUe := run_underlying hDe w
          split at he
          · rename_i hde
            rw [hde] at hke
            cases De <;> simp only [TDok] at hke
            subst hke
            cases he
            have hgc := grownCap_ge w s.size 0 e
            have hrun : (Conv.stringToBytes e s).run P w = .ok (.slice (some ⟨w.heap.size, 0, none⟩) s.size (grownCap w s.size 0 e))
                (w.drew.alloc (.cells (bytesArr s (grownCap w s.size 0 e)) e ((bytesArr s (grownCap w s.size 0 e)).size, (bytesArr s (grownCap w s.size 0 e)).size + 1))) := by
              have hq : (Question.appendCap s.size 0 e).forced = false := rfl
              have hch : (choose (.appendCap s.size 0 e)).run P w = .ok (grownCap w s.size 0 e) w.drew := by
                rw [run_choose, hq]
                rfl
              simp only [Conv.stringToBytes, Sem.run_bind, hch, Result.andThen_ok]
              rw [show ((s.data.map fun (b : UInt8) => Value.int .u8 b.toNat) ++ Array.replicate (grownCap w s.size 0 e - s.size) (Value.int .u8 0)) = bytesArr s (grownCap w s.size 0 e) from rfl]
              generalize bytesArr s (grownCap w s.size 0 e) = arr
              simp only [newRow, Sem.run_bind, run_newObj, Result.andThen_ok, Sem.run_pure, markStringish, run_shape]
              have hsh : World.shape? { w.drew with heap := w.drew.heap.push (.cells arr e) } w.drew.heap.size = some (e, arr.size) := by
                show World.shape? (w.drew.alloc (.cells arr e)) w.drew.heap.size = _
                unfold World.shape?
                rw [heap_alloc_new]
              rw [hsh]
              simp only [run_freeze]
              rw [show ({ w.drew with heap := w.drew.heap.push (.cells arr e) } : World) = w.drew.alloc (.cells arr e) from rfl, freeze_new]
              rfl
            refine ⟨.cells (bytesArr s (grownCap w s.size 0 e)) e ((bytesArr s (grownCap w s.size 0 e)).size, (bytesArr s (grownCap w s.size 0 e)).size + 1), .slice (some ⟨w.heap.size, 0, none⟩) s.size (grownCap w s.size 0 e), w.drew, grownCap w s.size 0 e,
              by simp only [execOp, convert, h1, Sem.run_bind, hUs, hUd, hUe, Result.andThen_ok, hrun, Sem.run_pure], .inr rfl, fun i hi => ⟨?_, ?_⟩⟩
            · have hsz : s.data.size = s.size := rfl
              refine ⟨rfl, by simp [bytesOfArray, bytesArr], fun k a ha => ?_, fun h => (by cases h), fun h => (by cases h), fun _ => (by simp [bytesArr, hsz]; omega)⟩
              simp only [List.getElem?_map] at ha
              cases hk : (bytesOfArray s)[k]? with
              | none => rw [hk] at ha; cases ha
              | some b =>
                rw [hk] at ha
                cases ha
                unfold bytesOfArray at hk
                rw [List.getElem?_map] at hk
                cases hk2 : s.data.toList[k]? with
                | none => rw [hk2] at hk; cases hk
                | some u =>
                  rw [hk2] at hk
                  cases hk
                  have hlt : k < s.data.size := by
                    have := (List.getElem?_eq_some_iff.1 hk2).1
                    simpa using this
                  rw [Array.getElem?_toList] at hk2
                  refine ⟨.int .u8 (u.toNat : Int), ?_, .int _ _⟩
                  unfold bytesArr
                  rw [Array.getElem?_append_left (by simpa using hlt), Array.getElem?_map, hk2]
                  rfl
            · rw [bytesOfArray_length]
              have := @VR.gsl (c.add i w.heap.size (grownCap w s.size 0 e)) i 0 s.size 1 w.heap.size (Cx.add_ρ ..) (by rw [Cx.add_κ]; omega)
              rw [Cx.add_κ] at this
              simpa using this
          · cases he
        · cases he
      · cases he
    · cases he
  case makeMap t o =>
    cases o with
    | some x => cases he
    | none =>
      cases he
      refine ⟨.map #[] 0, .map (some w.heap.size), w, 0, ?_, .inl rfl, fun i hi => ⟨⟨rfl, hB, [], .nil, LR.nil _, LR.nil _⟩, .map (Cx.add_ρ ..)⟩⟩
      simp [execOp, Instr.makeMap]
  case makeChan t x =>
    split at he
    · rename_i va ti hx hti
      have h0 := hr x (by simp [Op.operands]) _ hx
      obtain ⟨D, hD, hk⟩ := (HE.ty _ _ hti).desc
      have hU := run_underlying hD w
      split at he
      · rename_i n e hn hd
        rw [hd] at hk
        cases D <;> simp only [TDok] at hk
        subst hk
        obtain ⟨k, h1⟩ := natOf_ok hn h0
        split at he
        · rename_i ei hei
          obtain ⟨i0, hi0, _, hb0⟩ := (HE.ty _ _ hei).typeInfo w
          split at he
          · rename_i hn1 hn2
            cases he
            have hn1 := Nat.le_of_ble_eq_true hn1
            have hn2 := Nat.le_of_ble_eq_true hn2
            refine ⟨.chan n #[] false 0 0 false, .chan (some w.heap.size), w, 0, ?_, .inl rfl, fun i hi => ⟨⟨hB, rfl, rfl, rfl, rfl, rfl, LR.nil _⟩, .chan (Cx.add_ρ ..)⟩⟩
            have hc : ¬ ((n : Int) < 0 ∨ (n : Int) > IntKind.i64.max ∨ ((i0.bytes : Int)) * n > 2 ^ 48 - 112) := by
              rw [hb0]
              have : ((ei.bytes * n : Nat) : Int) ≤ 100000 := by omega
              rw [Int.natCast_mul] at this
              simp
              omega
            simp only [execOp, Instr.makeChan, h1, asInt, asIntOf, Sem.run_bind, Sem.run_pure, Result.andThen_ok, hU, hi0, hc, Sem.run_ite, if_false, run_newObj]
            simp
          · cases he
        · cases he
      · cases he
    · cases he
  case makeSlice t l cp =>
    split at he
    · rename_i lv cv ti hl hc hti
      have h0 := hr l (by simp [Op.operands]) _ hl
      have h0' := hr cp (by simp [Op.operands]) _ hc
      obtain ⟨D, hD, hk⟩ := (HE.ty _ _ hti).desc
      have hU := run_underlying hD w
      split at he
      · rename_i n m e hn hm hd
        rw [hd] at hk
        cases D <;> simp only [TDok] at hk
        subst hk
        rename_i e
        obtain ⟨k, h1⟩ := natOf_ok hn h0
        obtain ⟨k', h1'⟩ := natOf_ok hm h0'
        split at he
        · rename_i ei hei
          have hE := HE.ty _ _ hei
          obtain ⟨i0, hi0, _, hb0⟩ := hE.typeInfo w
          split at he
          · rename_i hn1 hn2
            cases he
            have hn1 := Nat.le_of_ble_eq_true hn1
            have hn2 := Nat.le_of_ble_eq_true hn2
            have hm1 : m ≤ 1000000 := by
              have : m * 1 ≤ m * (ei.size + ei.bytes + 1) := Nat.mul_le_mul_left m (by omega)
              omega
            have hmb : ei.bytes * m ≤ 1000000 := by
              have : m * ei.bytes ≤ m * (ei.size + ei.bytes + 1) := Nat.mul_le_mul_left m (by omega)
              rw [Nat.mul_comm]; omega
            have hwn : IntKind.i64.wrap (n : Int) = (n : Int) := wrap_small .i64 rfl n (by omega)
            have hwm : IntKind.i64.wrap (m : Int) = (m : Int) := wrap_small .i64 rfl m (by omega)
            obtain ⟨z, az, hz, hzr, hzc, _⟩ := hE.zeroValue w c
            have hzr' : LR c ei.zero z.cells.toList := by rw [← hzc]; exact hzr.cells
            have hbase := rep_ok (n := m) hzr' hE.zlen
            have hno : ((decide ((m : Int) < 0) || decide ((i0.bytes : Int) * m > 2 ^ 48)) || decide ((n : Int) < 0) || decide ((n : Int) > m)) = false := by
              have : ((ei.bytes * m : Nat) : Int) ≤ 1000000 := by omega
              rw [Int.natCast_mul] at this
              rw [hb0]
              simp
              omega
            refine ⟨.cells ((Array.range (m * ei.size)).map (fun k => z.cells[k % z.cells.size]!)) e, .slice (some ⟨w.heap.size, 0, none⟩) n m, w, 0, ?_, .inl rfl, fun i hi => ⟨BR_cells (hbase.mono (Cx.le_add _ _ hi)) hB, .sl (Cx.add_ρ ..)⟩⟩
            by_cases hz0 : m * ei.size = 0
            · have h0' : ∀ g : Nat → Value, (Array.range 0).map g = #[] := by simp
              simp only [execOp, Instr.makeSlice, h1, h1', asInt, asIntOf, Sem.run_bind, Sem.run_pure, Result.andThen_ok, hU, hi0, hwn, hwm, hno, Sem.run_ite, Bool.false_eq_true, if_false, run_askRoom, Int.toNat_natCast, hE.size w, hz0, if_true, h0', newRow, run_newObj]
              rfl
            · simp only [execOp, Instr.makeSlice, h1, h1', asInt, asIntOf, Sem.run_bind, Sem.run_pure, Result.andThen_ok, hU, hi0, hwn, hwm, hno, Sem.run_ite, Bool.false_eq_true, if_false, run_askRoom, Int.toNat_natCast, hE.size w, hz0, hz, newRow, run_newObj]
              rfl
          · cases he
        · cases he
      · cases he
    · cases he

end
end Ev
end Go.Proofs.YtfmnoohkllmbmaaGreatDoor
