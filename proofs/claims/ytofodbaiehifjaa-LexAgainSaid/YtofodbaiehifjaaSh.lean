/- The walk of LexAgain. -/
import Derived.Test.YtofodbaiehifjaaSg
import Derived.Lib.AppendStr
import Derived.Lib.BufferRead
set_option linter.unusedVariables false
namespace Go.Proofs.Ytofodbaiehifjaa
open Go.RowKit

def byV (l : List UInt8) : List Value := l.map fun b => Value.int .u8 (b.toNat : Nat)
/-- the slice v of the bytes l lies in the call's own memory from base on -/
def OwnBytes (w : World) (base : Nat) (v : Value) (l : List UInt8) : Prop := w.ownsRow base 5 1 v l.length (byV l)
theorem byV_app (a b : List UInt8) : byV (a ++ b) = byV a ++ byV b := by simp [byV]
theorem info_u8 : (Try.prog.info? 5).map (fun i => (i.zero, i.size, i.bytes)) = some (some (.int .u8 0), 1, 1) := by kernel_rfl
theorem OwnBytes.below {w w' : World} {base : Nat} {v : Value} {l : List UInt8} (h : OwnBytes w base v l) (hb : Below w.heap.size w w') : OwnBytes w' base v l := by
  unfold OwnBytes at h ⊢
  rcases h with ⟨h1, h2 | ⟨g, cap, cur, hv, hbg, hg, h3⟩⟩
  · exact ⟨h1, .inl h2⟩
  · refine ⟨h1, .inr ⟨g, cap, cur, hv, hbg, ?_, h3⟩⟩
    have hlt : g < w.heap.size := by
      rcases Nat.lt_or_ge g w.heap.size with hlt | hge
      · exact hlt
      · rw [Array.getElem?_eq_none hge] at hg; cases hg
    exact (hb.block g hlt).trans hg
theorem OwnBytes.alloc {w : World} {base : Nat} {v : Value} {l : List UInt8} (h : OwnBytes w base v l) (o : Obj) : OwnBytes (w.alloc o) base v l := World.ownsRow.alloc h o
theorem OwnBytes.conv {w : World} {base : Nat} {v : Value} {l : List UInt8} (h : OwnBytes w base v l) :
    (convert 29 9 v).run Try.prog w = .ok (.string (strOf l)) w := by
  rcases h with ⟨h1, ⟨rfl, h2⟩ | ⟨g, cap, cur, rfl, hbg, hg, h3, h4, h5, h6⟩⟩
  · obtain rfl : l = [] := List.eq_nil_of_length_eq_zero h2
    exact Lib.run_convert_nil_bytes w 29 9 5 0 Try.underlying29 Try.underlying5 Try.underlying9
  · refine run_convert_bytes_back w 29 9 5 ⟨g, 0, none⟩ cap l Try.underlying29 Try.underlying5 Try.underlying9 (Lib.bytes_of_row hg ?_)
    rw [Nat.mul_one] at h6
    exact h6
theorem OwnBytes.form {w : World} {base : Nat} {v : Value} {l : List UInt8} (h : OwnBytes w base v l) : ∃ A c, v = .slice A l.length c := by
  rcases h with ⟨h1, ⟨rfl, h2⟩ | ⟨g, cap, cur, rfl, hbg, hg, h3⟩⟩
  · exact ⟨none, 0, by rw [h2]⟩
  · exact ⟨some ⟨g, 0, none⟩, cap, rfl⟩

/-- append of a text's bytes -/
theorem wpList_append_text {ops : Array Oper} {rest : List Oper} {o : Oper} {a : Act} {w : World} {Q : Exit → Act → World → Prop} (hgd : o.guard = none) (sl x : Operand)
    (ho : o.op = .call { callee := .builtin .append, args := #[sl, x], argTypes := #[29, 9] })
    (base : Nat) (v : Value) (l : List UInt8) (hs : a.eval sl = v) (hown : OwnBytes w base v l) (t : List UInt8) (hx : a.eval x = .string (strOf t)) (hb : l.length + t.length ≤ 100000) (hbase : base ≤ w.heap.size)
    (h : ∀ v' w', OwnBytes w' base v' (l ++ t) → w.grownBy w' v.ownBlock → wpList Try.prog ops Q rest (a.put o.dst v') w') : wpList Try.prog ops Q (o :: rest) a w := by
  obtain ⟨i0, hi, hz0, hz1, hz2⟩ := info_parts info_u8
  have hsz : (strOf t).size = t.length := by rw [Lib.size_eq, strOf_data]
  refine Lib.wpList_append_own_string _ hgd sl x 29 9 ho base 5 i0 Try.underlying29 Try.underlying9 hi hz0 hz1 hz2 v l.length (byV l) hs hown (strOf t) hx (by unfold maxLen; omega) (by omega) hbase fun v' w' hown' hgr _ => h v' w' ?_ hgr
  unfold OwnBytes
  rw [List.length_append, byV_app]
  rw [hsz] at hown'
  exact hown'
/-- append of a blank -/
theorem wpList_append_blank {ops : Array Oper} {rest : List Oper} {o : Oper} {a : Act} {w : World} {Q : Exit → Act → World → Prop} (hgd : o.guard = none) (sl x : Operand)
    (ho : o.op = .call { callee := .builtin .append, args := #[sl, x], argTypes := #[29, 29] })
    (base : Nat) (v : Value) (l : List UInt8) (hs : a.eval sl = v) (hown : OwnBytes w base v l) (g c : Nat) (hx : a.eval x = .slice (some ⟨g, 0, none⟩) 1 c) (hg : w.cell? ⟨g, 0, none⟩ = some (.int .u8 32)) (hb : l.length ≤ 100000) (hbase : base ≤ w.heap.size)
    (h : ∀ v' w', OwnBytes w' base v' (l ++ [32]) → w.grownBy w' v.ownBlock → wpList Try.prog ops Q rest (a.put o.dst v') w') : wpList Try.prog ops Q (o :: rest) a w := by
  obtain ⟨i0, hi, hz0, hz1, hz2⟩ := info_parts info_u8
  refine wpList_append_own _ hgd sl x 29 ho base 5 i0 (.int .u8 0) 1 1 Try.underlying29 hi hz0 hz1 hz2 rfl (by decide) v l.length (byV l) hs hown ⟨g, 0, none⟩ 1 c [.int .u8 32] hx rfl (fun j u hu => ?_) (by simp [Value.oneCell']) (by unfold maxLen; omega) (by omega) hbase fun v' w' hown' hgr _ => h v' w' ?_ hgr
  · match j, hu with
    | 0, hu =>
      have e : Value.int .u8 32 = u := by simpa using hu
      rw [add_pl, ← e]; exact hg
    | j + 1, hu => simp at hu
  · unfold OwnBytes
    rw [List.length_append, byV_app]
    exact hown'

end Go.Proofs.Ytofodbaiehifjaa
