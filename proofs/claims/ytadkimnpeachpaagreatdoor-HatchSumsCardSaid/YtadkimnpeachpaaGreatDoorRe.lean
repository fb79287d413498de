/- Lists of tokens in memory. -/
import Derived.Test.YtadkimnpeachpaaGreatDoorRd
import Derived.OwnWalk
import Derived.Deep.AppendLies
import Derived.Laws.AppendOwnNone
set_option linter.unusedVariables false
namespace Go.Proofs.YtadkimnpeachpaaGreatDoor
open Go.RowKit

theorem add_pl (b off i : Nat) : (⟨b, off, none⟩ : Addr).add i = ⟨b, off + i, none⟩ := by unfold Addr.add; split <;> simp_all
/-- the text of a token as a string -/
def strOf (t : List UInt8) : ByteArray := ⟨t.toArray⟩
theorem strOf_data (t : List UInt8) : (strOf t).data.toList = t := rfl
theorem extract_str (s : ByteArray) (a b : Nat) : s.extract a b = strOf ((s.data.toList.drop a).take (b - a)) := Lib.extract_eq s a b
def tokV (t : Tok) : List Value := [.int .i64 (t.kind : Nat), .string (strOf t.text), .int .i64 (t.pl : Nat)]
def toksV (l : List Tok) : List Value := l.flatMap tokV
theorem toksV_len (l : List Tok) : (toksV l).length = l.length * 3 := by
  induction l with
  | nil => rfl
  | cons t l ih => show (tokV t ++ toksV l).length = _; rw [List.length_append, ih]; simp [tokV]; omega
theorem toksV_app (l m : List Tok) : toksV (l ++ m) = toksV l ++ toksV m := by simp [toksV]
theorem toksV_get : ∀ (l : List Tok) (k : Nat) (h : k < l.length), (toksV l)[k * 3]? = some (.int .i64 (l[k].kind : Nat)) ∧ (toksV l)[k * 3 + 1]? = some (.string (strOf l[k].text)) ∧ (toksV l)[k * 3 + 2]? = some (.int .i64 (l[k].pl : Nat))
  | [], k, h => absurd h (by simp)
  | t :: l, 0, _ => ⟨rfl, rfl, rfl⟩
  | t :: l, k + 1, h => by
    have ih := toksV_get l k (by simpa using h)
    have e2 : toksV (t :: l) = .int .i64 (t.kind : Nat) :: .string (strOf t.text) :: .int .i64 (t.pl : Nat) :: toksV l := rfl
    rw [e2, show (k + 1) * 3 = k * 3 + 3 from by omega, show k * 3 + 3 + 1 = (k * 3 + 1) + 3 from by omega, show k * 3 + 3 + 2 = (k * 3 + 2) + 3 from by omega]
    simpa using ih
theorem toksV_cell (l : List Tok) : ∀ u ∈ toksV l, u.oneCell' = true := by
  intro u hu
  simp only [toksV, List.mem_flatMap] at hu
  obtain ⟨t, _, hu⟩ := hu
  simp [tokV] at hu
  rcases hu with rfl | rfl | rfl <;> rfl

/-- the tokens l lie at A, in blocks below B -/
def Toks (w : World) (B : Nat) (A : Option Addr) (l : List Tok) : Prop :=
  ∀ (k : Nat) (h : k < l.length), ∃ b, A = some ⟨b, 0, none⟩ ∧ b < B ∧ w.cell? ⟨b, k * 3, none⟩ = some (.int .i64 (l[k].kind : Nat)) ∧ w.cell? ⟨b, k * 3 + 1, none⟩ = some (.string (strOf l[k].text)) ∧ w.cell? ⟨b, k * 3 + 2, none⟩ = some (.int .i64 (l[k].pl : Nat))
theorem Toks.below {w w' : World} {B : Nat} {A : Option Addr} {l : List Tok} (h : Toks w B A l) (hb : Below B w w') : Toks w' B A l := by
  intro k hk
  obtain ⟨b, hA, hlt, h0, h1, h2⟩ := h k hk
  exact ⟨b, hA, hlt, (hb.cell (p := ⟨b, k * 3, none⟩) hlt).trans h0, (hb.cell (p := ⟨b, k * 3 + 1, none⟩) hlt).trans h1, (hb.cell (p := ⟨b, k * 3 + 2, none⟩) hlt).trans h2⟩
theorem Toks.mono {w : World} {B B' : Nat} {A : Option Addr} {l : List Tok} (h : Toks w B A l) (hB : B ≤ B') : Toks w B' A l := by
  intro k hk
  obtain ⟨b, hA, hlt, h0⟩ := h k hk
  exact ⟨b, hA, by omega, h0⟩

/-- the slice v of the tokens l lies in the call's own memory from base on -/
def OwnToks (w : World) (base : Nat) (v : Value) (l : List Tok) : Prop := w.ownsRow base 107 3 v l.length (toksV l)
theorem OwnToks.nil (w : World) (base : Nat) : OwnToks w base (.slice none 0 0) [] := ⟨rfl, .inl ⟨rfl, rfl⟩⟩
theorem OwnToks.toks {w : World} {base : Nat} {v : Value} {l : List Tok} (h : OwnToks w base v l) : ∃ A c, v = .slice A l.length c ∧ l.length ≤ c ∧ c ≤ maxLen ∧ Toks w w.heap.size A l := by
  have hlt := h.lt
  unfold OwnToks at h
  rcases h.2 with ⟨rfl, h2⟩ | ⟨g, cap, cur, rfl, _, hg, hc1, hc2, _⟩
  · exact ⟨none, 0, by rw [h2], by omega, Nat.zero_le _, fun k hk => absurd hk (by omega)⟩
  · refine ⟨some ⟨g, 0, none⟩, cap, rfl, hc1, hc2, fun k hk => ⟨g, rfl, (hlt g rfl).2, ?_, ?_, ?_⟩⟩
    · have := h.cells (g := g) rfl _ _ (toksV_get l k hk).1
      rw [add_pl] at this
      simpa using this
    · have := h.cells (g := g) rfl _ _ (toksV_get l k hk).2.1
      rw [add_pl] at this
      simpa using this
    · have := h.cells (g := g) rfl _ _ (toksV_get l k hk).2.2
      rw [add_pl] at this
      simpa using this
theorem OwnToks.alloc {w : World} {base : Nat} {v : Value} {l : List Tok} (h : OwnToks w base v l) (o : Obj) : OwnToks (w.alloc o) base v l := World.ownsRow.alloc h o
theorem OwnToks.below {w w' : World} {base : Nat} {v : Value} {l : List Tok} (h : OwnToks w base v l) (hb : Below w.heap.size w w') : OwnToks w' base v l := by
  unfold OwnToks at h ⊢
  rcases h with ⟨h1, h2 | ⟨g, cap, cur, hv, hbg, hg, h3⟩⟩
  · exact ⟨h1, .inl h2⟩
  · refine ⟨h1, .inr ⟨g, cap, cur, hv, hbg, ?_, h3⟩⟩
    have hlt : g < w.heap.size := by
      rcases Nat.lt_or_ge g w.heap.size with hlt | hge
      · exact hlt
      · rw [Array.getElem?_eq_none hge] at hg; cases hg
    exact (hb.block g hlt).trans hg
theorem OwnToks.mono {w : World} {base base' : Nat} {v : Value} {l : List Tok} (h : OwnToks w base v l) (hb : base' ≤ base) : OwnToks w base' v l := by
  rcases h with ⟨h1, h2 | ⟨g, cap, cur, hv, hbg, h3⟩⟩
  · exact ⟨h1, .inl h2⟩
  · exact ⟨h1, .inr ⟨g, cap, cur, hv, by omega, h3⟩⟩

theorem info_tok : (Tryz.prog.info? 107).map (fun i => (i.zero, i.size, i.bytes)) = some (some (.agg #[.int .i64 0, .string ⟨#[]⟩, .int .i64 0]), 3, 32) := by kernel_rfl

/-- append of one token -/
theorem wpList_append_tok {ops : Array Oper} {rest : List Oper} {o : Oper} {a : Act} {w : World} {Q : Exit → Act → World → Prop} (hgd : o.guard = none) (s x : Operand)
    (ho : o.op = .call { callee := .builtin .append, args := #[s, x], argTypes := #[100, 100] })
    (base : Nat) (v : Value) (l : List Tok) (hs : a.eval s = v) (hown : OwnToks w base v l) (ad : Addr) (c : Nat) (t : Tok) (hx : a.eval x = .slice (some ad) 1 c)
    (hnews : ∀ j u, (tokV t)[j]? = some u → w.cell? (ad.add j) = some u) (hb : l.length ≤ 100000) (hbase : base ≤ w.heap.size)
    (h : ∀ v' w', OwnToks w' base v' (l ++ [t]) → w.grownBy w' v.ownBlock → wpList Tryz.prog ops Q rest (a.put o.dst v') w') : wpList Tryz.prog ops Q (o :: rest) a w := by
  obtain ⟨i0, hi, hz0, hz1, hz2⟩ := info_parts info_tok
  refine wpList_append_own _ hgd s x 100 ho base 107 i0 (.agg #[.int .i64 0, .string ⟨#[]⟩, .int .i64 0]) 3 32 Tryz.underlying100 hi hz0 hz1 hz2 rfl (by decide) v l.length (toksV l) hs hown ad 1 c (toksV [t]) hx rfl
    (by simpa [toksV] using hnews) (toksV_cell _) (by unfold maxLen; omega) (by omega) hbase fun v' w' hown' hgr _ => h v' w' ?_ hgr
  unfold OwnToks
  rw [List.length_append, toksV_app]
  exact hown'
theorem one_tok {w : World} {t : Tok} {g : Nat} (hg : g = w.heap.size) : ∀ j u, (tokV t)[j]? = some u → (w.alloc (.cells #[.int .i64 (t.kind : Nat), .string (strOf t.text), .int .i64 (t.pl : Nat)] 107)).cell? ((⟨g, 0, none⟩ : Addr).add j) = some u := by
  subst hg
  intro j u hu
  have hr := heap_alloc_new w (.cells #[.int .i64 (t.kind : Nat), .string (strOf t.text), .int .i64 (t.pl : Nat)] 107)
  rw [add_pl, Nat.zero_add, cell_of_row _ _ j _ _ (0, 0) hr]
  simpa [tokV] using hu

theorem wrong_any (k : Nat) (t : ByteArray) (n : Nat) (w : World) (hk : k ≤ 4) (hn : n ≤ 5000) (ht : t.size ≤ 40000) :
    Calls Tryz.prog 86 #[.int .i64 (k : Nat), .string t, .int .i64 n] w fun e w' => e = .returned (.int .i64 (wrongOf k t.data.toList n : Nat)) ∧ w = w' :=
  match k, hk with
  | 0, _ => wrong_0 t n w hn ht
  | 1, _ => wrong_1 t n w hn ht
  | 2, _ => wrong_2 t n w hn ht
  | 3, _ => wrong_3 t n w hn ht
  | 4, _ => wrong_4 t n w hn ht
  | k + 5, h => absurd h (by omega)
theorem firstOf_kind (l : List UInt8) : (firstOf l).1 ≤ 4 := by
  unfold firstOf
  split
  · show (if _ then 4 else 1) ≤ 4
    split <;> omega
  · split
    · show 2 ≤ 4; omega
    · split
      · show 3 ≤ 4; omega
      · show 0 ≤ 4; omega
theorem clone_any (s : ByteArray) (w : World) (hs : s.size ≤ 40000) :
    Calls Tryz.prog 87 #[.string s] w fun e w' => e = .returned (.string s) ∧ Below w.heap.size w w' := by
  go_enter Tryz.func87, Tryz.ntmps87
  go_wp2_with (go_at_call 129; refine (stringslite_Clone _ _ (by omega)).mono ?_; rintro e w' ⟨rfl, hb⟩)
  go_ret
  exact ⟨rfl, hb⟩

end Go.Proofs.YtadkimnpeachpaaGreatDoor
