/- Uj Uk Um Rf Rg Va Aa Vc Vd Ve Vs Vg Ab Vh Ac -/
import Derived.Test.YtkmpnlbppdekaaaDoorZa0
import Derived.StillTailTactics
import Derived.IntWalk
import Derived.Lib.ItoaNum
import Derived.Recover
import Derived.Lib.AppendStr
import Derived.Lib.BufferRead
import Derived.Deep.AppendLies
import Derived.Shelf.Small.Strs
import Derived.Shelf.Small.Wraps
import Derived.Shelf.Strconv.Itoa0
import Derived.Shelf.Strconv.Itoa1
import Derived.Shelf.LaysM
import Derived.Shelf.Strconv.Itoa2
import Derived.Shelf.Strconv.Itoa3
import Derived.Shelf.Strconv.Clone
import Derived.Shelf.Strings.Search1
import Derived.Shelf.Strings.Prefix
import Derived.Shelf.Slices.Turned
import Derived.Test.YtkmpnlbppdekaaaDoorRows
import Derived.Lib.AppendIntMem
section
set_option linter.unusedVariables false
namespace Go.Proofs.YtkmpnlbppdekaaaDoor
open Go.RowKit
structure Vs where
  e : Value
  b : Value
  l : Value
def smCells (s : Sm) (f : Vs) : List Value := [.int .i64 s.kind, .int .i64 s.pl, .string (strOf s.name), .string (strOf s.type), f.e, f.b, f.l]
def smsV : List Sm → List Vs → List Value
  | s :: ss, f :: fs => smCells s f ++ smsV ss fs
  | _, _ => []
theorem smsV_app : ∀ {ss : List Sm} {fs : List Vs} (s : Sm) (u : Vs), ss.length = fs.length → smsV (ss ++ [s]) (fs ++ [u]) = smsV ss fs ++ smCells s u
  | [], [], s, u, _ => by simp [smsV]
  | d :: ss, f :: fs, s, u, h => by
    show smCells d f ++ smsV (ss ++ [s]) (fs ++ [u]) = _
    rw [smsV_app s u (by simpa using h)]
    simp [smsV]
theorem smsV_get : ∀ {ss : List Sm} {fs : List Vs} (h : ss.length = fs.length) (k : Nat) (hk : k < ss.length) (i : Nat) (hi : i < 7), (smsV ss fs)[k * 7 + i]? = (smCells ss[k] (fs[k]'(by omega)))[i]?
  | s :: ss, f :: fs, h, 0, hk, i, hi => by
    show (smCells s f ++ smsV ss fs)[0 * 7 + i]? = _
    rw [Nat.zero_mul, Nat.zero_add, List.getElem?_append_left (by simpa [smCells] using hi)]
    rfl
  | s :: ss, f :: fs, h, k + 1, hk, i, hi => by
    show (smCells s f ++ smsV ss fs)[(k + 1) * 7 + i]? = _
    rw [show (k + 1) * 7 + i = 7 + (k * 7 + i) from by omega, List.getElem?_append_right (by simp [smCells])]
    rw [show 7 + (k * 7 + i) - (smCells s f).length = k * 7 + i from by simp [smCells]]
    exact smsV_get (by simpa using h) k (by simpa using hk) i hi
theorem smCells_one (s : Sm) (u : Vs) (h1 : u.e.oneCell' = true) (h2 : u.b.oneCell' = true) (h3 : u.l.oneCell' = true) : ∀ x ∈ smCells s u, x.oneCell' = true := by
  intro x hx
  simp [smCells] at hx
  rcases hx with rfl | rfl | rfl | rfl | rfl | rfl | rfl
  · rfl
  · rfl
  · rfl
  · rfl
  · exact h1
  · exact h2
  · exact h3
theorem IsSms.one {w : World} {S : Nat → Prop} {ss : List Sm} {v : Value} (h : IsSms w S ss v) : v.oneCell' = true := by
  cases h; rfl
def SmIn (w : World) (S : Nat → Prop) (s : Sm) (f : Vs) : Prop := s.name.length ≤ 140737488355328 ∧ s.type.length ≤ 140737488355328 ∧ IsExs w S s.exprs f.e ∧ IsSms w S s.body f.b ∧ IsSms w S s.els f.l
theorem SmIn.keep {w w' : World} {S S' : Nat → Prop} {s : Sm} {f : Vs} (h : SmIn w S s f) (hw : ∀ b, S b → w'.heap[b]? = w.heap[b]?) (hS : ∀ b, S b → S' b) : SmIn w' S' s f :=
  ⟨h.1, h.2.1, h.2.2.1.keep hw hS, h.2.2.2.1.keep hw hS, h.2.2.2.2.keep hw hS⟩
def OwnSm (w : World) (base : Nat) (v : Value) (ss : List Sm) : Prop :=
  ∃ fs : List Vs, ss.length = fs.length ∧ w.ownsRow base 40 7 v ss.length (smsV ss fs) ∧
    ∀ (k : Nat) (hk : k < ss.length) (hk' : k < fs.length), SmIn w (fun b => base ≤ b ∧ b < w.heap.size ∧ v.ownBlock ≠ some b) ss[k] fs[k]
theorem OwnSm.lt {w : World} {base : Nat} {v : Value} {ss : List Sm} (h : OwnSm w base v ss) {b : Nat} (hb : v.ownBlock = some b) : base ≤ b ∧ b < w.heap.size := by
  obtain ⟨fs, _, hown, _⟩ := h
  exact hown.lt b hb
theorem OwnSm.sms {w : World} {base : Nat} {v : Value} {ss : List Sm} (h : OwnSm w base v ss) : IsSms w (fun b => base ≤ b ∧ b < w.heap.size) ss v := by
  obtain ⟨fs, hl, hown, hin⟩ := h
  have hlt := hown.lt
  have hcell : ∀ (g : Nat), v.ownBlock = some g → ∀ (j : Nat) (u : Value), (smsV ss fs)[j]? = some u → w.cell? ⟨g, 0 + j, none⟩ = some u := fun g hg j u hu => by
    have := hown.cells hg j u hu
    rw [add_pl] at this
    exact this
  rcases hown.2 with ⟨rfl, h2⟩ | ⟨g, cap, cur, rfl, hbg, hg, hc1, hc2, _⟩
  · have he : ss = [] := List.eq_nil_of_length_eq_zero h2
    subst he
    exact .mk [] none 0 (fun _ => undef) (fun _ => undef) (fun _ => undef) (Nat.le_refl _) (by omega) (fun k hk => absurd hk (by simp)) (fun k hk => absurd hk (by simp)) (fun k hk => absurd hk (by simp)) (fun k hk => absurd hk (by simp))
  · have hgd : ∀ (k : Nat) (hk' : k < fs.length), (fs[k]?.getD ⟨undef, undef, undef⟩) = fs[k] := fun k hk' => by rw [List.getElem?_eq_getElem hk']; rfl
    refine .mk ss _ cap (fun k => (fs[k]?.getD ⟨undef, undef, undef⟩).e) (fun k => (fs[k]?.getD ⟨undef, undef, undef⟩).b) (fun k => (fs[k]?.getD ⟨undef, undef, undef⟩).l) hc1 (by unfold maxLen at hc2; omega) (fun k hk => ?_) (fun k hk => ?_) (fun k hk => ?_) (fun k hk => ?_)
    · have hk' : k < fs.length := by omega
      obtain ⟨a1, a2, _⟩ := hin k hk hk'
      refine ⟨g, 0, rfl, ⟨hbg, (hlt g rfl).2⟩, a1, a2, ?_, ?_, ?_, ?_, ?_, ?_, ?_⟩
      · exact hcell g rfl (k * 7) _ (by have := smsV_get hl k hk 0 (by omega); rw [Nat.add_zero] at this; rw [this]; rfl)
      · exact hcell g rfl (k * 7 + 1) _ (by rw [smsV_get hl k hk 1 (by omega)]; rfl)
      · exact hcell g rfl (k * 7 + 2) _ (by rw [smsV_get hl k hk 2 (by omega)]; rfl)
      · exact hcell g rfl (k * 7 + 3) _ (by rw [smsV_get hl k hk 3 (by omega)]; rfl)
      · rw [hgd k hk']; exact hcell g rfl (k * 7 + 4) _ (by rw [smsV_get hl k hk 4 (by omega)]; rfl)
      · rw [hgd k hk']; exact hcell g rfl (k * 7 + 5) _ (by rw [smsV_get hl k hk 5 (by omega)]; rfl)
      · rw [hgd k hk']; exact hcell g rfl (k * 7 + 6) _ (by rw [smsV_get hl k hk 6 (by omega)]; rfl)
    · have hk' : k < fs.length := by omega
      show IsExs w _ ss[k].exprs (fs[k]?.getD ⟨undef, undef, undef⟩).e
      rw [hgd k hk']
      exact (hin k hk hk').2.2.1.keep (fun _ _ => rfl) (fun b hb => ⟨hb.1, hb.2.1⟩)
    · have hk' : k < fs.length := by omega
      show IsSms w _ ss[k].body (fs[k]?.getD ⟨undef, undef, undef⟩).b
      rw [hgd k hk']
      exact (hin k hk hk').2.2.2.1.keep (fun _ _ => rfl) (fun b hb => ⟨hb.1, hb.2.1⟩)
    · have hk' : k < fs.length := by omega
      show IsSms w _ ss[k].els (fs[k]?.getD ⟨undef, undef, undef⟩).l
      rw [hgd k hk']
      exact (hin k hk hk').2.2.2.2.keep (fun _ _ => rfl) (fun b hb => ⟨hb.1, hb.2.1⟩)
theorem OwnSm.below {w w' : World} {base : Nat} {v : Value} {ss : List Sm} (h : OwnSm w base v ss) (hb : Below w.heap.size w w') : OwnSm w' base v ss := by
  obtain ⟨fs, hl, hown, hin⟩ := h
  refine ⟨fs, hl, ?_, fun k hk hk' => (hin k hk hk').keep (fun b hb2 => hb.block b hb2.2.1) (fun b hb2 => ⟨hb2.1, Nat.lt_of_lt_of_le hb2.2.1 hb.size, hb2.2.2⟩)⟩
  rcases hown with ⟨h1, h2 | ⟨g, cap, cur, hv, hbg, hg, h3⟩⟩
  · exact ⟨h1, .inl h2⟩
  · refine ⟨h1, .inr ⟨g, cap, cur, hv, hbg, ?_, h3⟩⟩
    have hlt : g < w.heap.size := by
      rcases Nat.lt_or_ge g w.heap.size with hlt | hge
      · exact hlt
      · rw [Array.getElem?_eq_none hge] at hg; cases hg
    exact (hb.block g hlt).trans hg
theorem OwnSm.nil (w : World) : OwnSm (w.alloc (.cells #[] 40)) w.heap.size (.slice (some ⟨w.heap.size, 0, none⟩) 0 0) [] :=
  ⟨[], rfl, World.ownsRow_lit (e := 40) (size := 7) w #[] 0 (Nat.le_refl _) (by unfold maxLen; omega) rfl, fun k hk => absurd hk (by simp)⟩
theorem info_sm : (Tryd.prog.info? 40).map (fun i => (i.zero, i.size, i.bytes)) = some (some (.agg #[.int .i64 0, .int .i64 0, .string ⟨#[]⟩, .string ⟨#[]⟩, .slice none 0 0, .slice none 0 0, .slice none 0 0]), 7, 120) := by kernel_rfl
end Go.Proofs.YtkmpnlbppdekaaaDoor
end
section
set_option linter.unusedVariables false
namespace Go.Proofs.YtkmpnlbppdekaaaDoor
open Go.RowKit
def SmBlk (w : World) (g : Nat) (k p : Int) (n t : ByteArray) (a b c : Value) : Prop := w.heap[g]? = some (.cells #[.int .i64 k, .int .i64 p, .string n, .string t, a, b, c] 40 (0, 0))
section
variable {w w' : World} {g B : Nat} {k p : Int} {n t : ByteArray} {a b c : Value}
theorem SmBlk.below (h : SmBlk w g k p n t a b c) (hb : Below B w w') (hg : g < B) : SmBlk w' g k p n t a b c := (hb.block g hg).trans h
theorem SmBlk.c0 (h : SmBlk w g k p n t a b c) : w.cell? ⟨g, 0, none⟩ = some (.int .i64 k) := by rw [cell_of_row w g 0 _ _ (0, 0) h]; rfl
theorem SmBlk.c1 (h : SmBlk w g k p n t a b c) : w.cell? ⟨g, 1, none⟩ = some (.int .i64 p) := by rw [cell_of_row w g 1 _ _ (0, 0) h]; rfl
theorem SmBlk.c2 (h : SmBlk w g k p n t a b c) : w.cell? ⟨g, 2, none⟩ = some (.string n) := by rw [cell_of_row w g 2 _ _ (0, 0) h]; rfl
theorem SmBlk.c3 (h : SmBlk w g k p n t a b c) : w.cell? ⟨g, 3, none⟩ = some (.string t) := by rw [cell_of_row w g 3 _ _ (0, 0) h]; rfl
theorem SmBlk.c4 (h : SmBlk w g k p n t a b c) : w.cell? ⟨g, 4, none⟩ = some a := by rw [cell_of_row w g 4 _ _ (0, 0) h]; rfl
theorem SmBlk.c5 (h : SmBlk w g k p n t a b c) : w.cell? ⟨g, 5, none⟩ = some b := by rw [cell_of_row w g 5 _ _ (0, 0) h]; rfl
theorem SmBlk.c6 (h : SmBlk w g k p n t a b c) : w.cell? ⟨g, 6, none⟩ = some c := by rw [cell_of_row w g 6 _ _ (0, 0) h]; rfl
end
end Go.Proofs.YtkmpnlbppdekaaaDoor
end
section
set_option linter.unusedVariables false
namespace Go.Proofs.YtkmpnlbppdekaaaDoor
open Go.RowKit
structure Pr where
  name : List UInt8
  type : List UInt8
structure Dc where
  kind : Int
  pl : Int
  num : Int
  name : List UInt8
  type : List UInt8
  pairs : List Pr
  body : List Sm
def PrsIn (w : World) (S : Nat → Prop) (ps : List Pr) (v : Value) : Prop :=
  ∃ A c, v = .slice A ps.length c ∧ ps.length ≤ c ∧ c ≤ 9223372036854775807 ∧
    ∀ (k : Nat) (hk : k < ps.length), ∃ b off, A = some ⟨b, off, none⟩ ∧ S b ∧ ps[k].name.length ≤ 140737488355328 ∧ ps[k].type.length ≤ 140737488355328 ∧
      w.cell? ⟨b, off + k * 2, none⟩ = some (.string (strOf ps[k].name)) ∧ w.cell? ⟨b, off + k * 2 + 1, none⟩ = some (.string (strOf ps[k].type))
theorem PrsIn.keep {w w' : World} {S S' : Nat → Prop} {ps : List Pr} {v : Value} (h : PrsIn w S ps v) (hw : ∀ b, S b → w'.heap[b]? = w.heap[b]?) (hS : ∀ b, S b → S' b) : PrsIn w' S' ps v := by
  obtain ⟨A, c, rfl, hc, hM, hA⟩ := h
  refine ⟨A, c, rfl, hc, hM, fun k hk => ?_⟩
  obtain ⟨b, off, h1, h2, h3, h4, c0, c1⟩ := hA k hk
  have hcell : ∀ i, w'.cell? ⟨b, i, none⟩ = w.cell? ⟨b, i, none⟩ := fun i => World.cell?_of_block (hw b h2)
  exact ⟨b, off, h1, hS b h2, h3, h4, by rw [hcell]; exact c0, by rw [hcell]; exact c1⟩
def DcsIn (w : World) (S : Nat → Prop) (ds : List Dc) (v : Value) : Prop :=
  ∃ A c, ∃ fp fb : Nat → Value, v = .slice A ds.length c ∧ ds.length ≤ c ∧ c ≤ 9223372036854775807 ∧
    (∀ (k : Nat) (hk : k < ds.length), ∃ b off, A = some ⟨b, off, none⟩ ∧ S b ∧ ds[k].name.length ≤ 140737488355328 ∧ ds[k].type.length ≤ 140737488355328 ∧
      w.cell? ⟨b, off + k * 7, none⟩ = some (.int .i64 ds[k].kind) ∧ w.cell? ⟨b, off + k * 7 + 1, none⟩ = some (.int .i64 ds[k].pl) ∧ w.cell? ⟨b, off + k * 7 + 2, none⟩ = some (.int .i64 ds[k].num) ∧
      w.cell? ⟨b, off + k * 7 + 3, none⟩ = some (.string (strOf ds[k].name)) ∧ w.cell? ⟨b, off + k * 7 + 4, none⟩ = some (.string (strOf ds[k].type)) ∧
      w.cell? ⟨b, off + k * 7 + 5, none⟩ = some (fp k) ∧ w.cell? ⟨b, off + k * 7 + 6, none⟩ = some (fb k)) ∧
    (∀ (k : Nat) (hk : k < ds.length), PrsIn w S ds[k].pairs (fp k)) ∧ (∀ (k : Nat) (hk : k < ds.length), IsSms w S ds[k].body (fb k))
theorem DcsIn.keep {w w' : World} {S S' : Nat → Prop} {ds : List Dc} {v : Value} (h : DcsIn w S ds v) (hw : ∀ b, S b → w'.heap[b]? = w.heap[b]?) (hS : ∀ b, S b → S' b) : DcsIn w' S' ds v := by
  obtain ⟨A, c, fp, fb, rfl, hc, hM, hA, hp, hb⟩ := h
  refine ⟨A, c, fp, fb, rfl, hc, hM, fun k hk => ?_, fun k hk => (hp k hk).keep hw hS, fun k hk => (hb k hk).keep hw hS⟩
  obtain ⟨b, off, h1, h2, h3, h4, c0, c1, c2, c3, c4, c5, c6⟩ := hA k hk
  have hcell : ∀ i, w'.cell? ⟨b, i, none⟩ = w.cell? ⟨b, i, none⟩ := fun i => World.cell?_of_block (hw b h2)
  exact ⟨b, off, h1, hS b h2, h3, h4, by rw [hcell]; exact c0, by rw [hcell]; exact c1, by rw [hcell]; exact c2, by rw [hcell]; exact c3, by rw [hcell]; exact c4, by rw [hcell]; exact c5, by rw [hcell]; exact c6⟩
def DcBlk (w : World) (g : Nat) (k p u : Int) (n t : ByteArray) (a b : Value) : Prop := w.heap[g]? = some (.cells #[.int .i64 k, .int .i64 p, .int .i64 u, .string n, .string t, a, b] 38 (0, 0))
section
variable {w w' : World} {g B : Nat} {k p u : Int} {n t : ByteArray} {a b : Value}
theorem DcBlk.below (h : DcBlk w g k p u n t a b) (hb : Below B w w') (hg : g < B) : DcBlk w' g k p u n t a b := (hb.block g hg).trans h
theorem DcBlk.c0 (h : DcBlk w g k p u n t a b) : w.cell? ⟨g, 0, none⟩ = some (.int .i64 k) := by rw [cell_of_row w g 0 _ _ (0, 0) h]; rfl
theorem DcBlk.c1 (h : DcBlk w g k p u n t a b) : w.cell? ⟨g, 1, none⟩ = some (.int .i64 p) := by rw [cell_of_row w g 1 _ _ (0, 0) h]; rfl
theorem DcBlk.c2 (h : DcBlk w g k p u n t a b) : w.cell? ⟨g, 2, none⟩ = some (.int .i64 u) := by rw [cell_of_row w g 2 _ _ (0, 0) h]; rfl
theorem DcBlk.c3 (h : DcBlk w g k p u n t a b) : w.cell? ⟨g, 3, none⟩ = some (.string n) := by rw [cell_of_row w g 3 _ _ (0, 0) h]; rfl
theorem DcBlk.c4 (h : DcBlk w g k p u n t a b) : w.cell? ⟨g, 4, none⟩ = some (.string t) := by rw [cell_of_row w g 4 _ _ (0, 0) h]; rfl
theorem DcBlk.c5 (h : DcBlk w g k p u n t a b) : w.cell? ⟨g, 5, none⟩ = some a := by rw [cell_of_row w g 5 _ _ (0, 0) h]; rfl
theorem DcBlk.c6 (h : DcBlk w g k p u n t a b) : w.cell? ⟨g, 6, none⟩ = some b := by rw [cell_of_row w g 6 _ _ (0, 0) h]; rfl
end
end Go.Proofs.YtkmpnlbppdekaaaDoor
end
section
set_option linter.unusedVariables false
namespace Go.Proofs.YtkmpnlbppdekaaaDoor
open Go.RowKit
def TokPost (w : World) (r : Res) (e : Ending) (w' : World) : Prop := Below w.heap.size w w' ∧ match r with
  | .ok l => l.length ≤ 4096 ∧ ∃ v, e = .returned (.tuple #[v, .int .i64 0, .int .i64 0]) ∧ OwnToks w' w.heap.size v l
  | .err p c => e = .returned (.tuple #[.slice none 0 0, .int .i64 (p : Nat), .int .i64 (c : Nat)])
theorem toks_long {l : List UInt8} (h : 16384 < l.length) : toks l = .err 0 12 := if_pos h
theorem toks_fit {l : List UInt8} (h : ¬ 16384 < l.length) : toks l = sc l 0 0 0 := if_neg h
set_option maxHeartbeats 1000000 in
set_option maxRecDepth 100000 in
theorem tokens_any (s : ByteArray) (w : World) (hs : s.size ≤ 40000) : Calls Tryd.prog 20 #[.string s] w (TokPost w (toks s.data.toList)) := by
  have HS := Lib.hid (size_len s)
  by_cases hlong : 16384 < s.size
  · go_enter Tryd.func20, Tryd.ntmps20
    go_wp2
    go_ret3
    rw [toks_long (by rw [← HS.out]; exact hlong)]
    exact ⟨Below.refl _ _, rfl⟩
  · obtain ⟨B, hB⟩ : ∃ B, B = w.heap.size := ⟨_, rfl⟩
    have HT := Lib.hid (toks_fit (by rw [← HS.out]; exact hlong))
    have HB := Lib.hid hB
    clear hB
    go_enter Tryd.func20, Tryd.ntmps20
    go_wp2
    go_loopw [6, 5] (fun i v wr => ∃ (a : Nat) (acc : List Tok), a ≤ s.size ∧ acc.length ≤ 4096 ∧ i = .int .i64 a ∧ Hid (OwnToks wr B v acc) ∧ Hid (Below B w wr) ∧ B ≤ wr.heap.size ∧ Hid (St s.data.toList a acc)) (fun i _ _ => s.size - (intOf i).toNat)
    case atStart => exact ⟨0, [], Nat.zero_le _, Nat.zero_le _, rfl, Lib.hid (OwnToks.nil _ _), Lib.hid (Below.refl _ _), by have := HB.out; omega, Lib.hid (St.start _)⟩
    case round =>
      obtain ⟨wo, rfl⟩ : ∃ wo : World, wo = wr := ⟨_, rfl⟩
      obtain ⟨a, acc, ha, hacc, rfl, HO, HBel, hsr, HSt⟩ := hrel
      by_cases hlt : a < s.size
      · have hl : a < s.data.toList.length := by rw [← HS.out]; exact hlt
        have hg : s.data.toList[a] = s[a] := rfl
        by_cases hb : blankB s[a] = true
        · have HN := Lib.hid (HSt.out.blank hl (hg ▸ hb))
          clear hg
          go_wp2_with (first | (go_at_call 34; refine (isBlank_any _ _).mono ?_; rintro e w' ⟨rfl, rfl⟩))
          go_roundw
          case rel => exact ⟨a + 1, acc, by omega, hacc, by go_num, HO, HBel, hsr, HN⟩
          case measure => simp [intOf]; omega
        · have hb' : blankB s[a] = false := by simpa using hb
          clear hb
          obtain ⟨k, hk⟩ : ∃ k, k = (firstOf (s.data.toList.drop a)).1 := ⟨_, rfl⟩
          obtain ⟨z, hz⟩ : ∃ z, z = (firstOf (s.data.toList.drop a)).2 := ⟨_, rfl⟩
          have hzl : a + z ≤ s.size := by
            have := firstOf_le (s.data.toList.drop a)
            rw [List.length_drop, ← HS.out, ← hz] at this
            omega
          have hk4 : k ≤ 4 := by rw [hk]; exact firstOf_kind _
          have c1 : ∀ w, Calls Tryd.prog 35 #[.string (s.extract a s.size)] w fun e w' => e = .returned (.tuple #[.int .i64 (k : Nat), .int .i64 (z : Nat)]) ∧ Below w.heap.size w w' := fun w => by
            have h := first_any (s.extract a s.size) w (by have := Lib.size_eq (s.extract a s.size); rw [Lib.extract_data] at this; rw [this]; simp; omega)
            rw [Lib.extract_data, List.take_of_length_le (by rw [List.length_drop, ← HS.out]; exact Nat.le_refl _)] at h
            unfold firstV at h
            rw [← hk, ← hz] at h
            exact h
          obtain ⟨tx, htx⟩ : ∃ tx, tx = (s.data.toList.drop a).take z := ⟨_, rfl⟩
          obtain ⟨er, her⟩ : ∃ er, er = wrongOf k tx acc.length := ⟨_, rfl⟩
          have hsz : (strOf tx).size = z := by rw [Lib.size_eq, strOf_data, htx, List.length_take, List.length_drop, ← HS.out]; omega
          have c2 : ∀ w, Calls Tryd.prog 36 #[.int .i64 (k : Nat), .string (strOf tx), .int .i64 acc.length] w fun e w' => e = .returned (.int .i64 (er : Nat)) ∧ w = w' := fun w => by
            have h := wrong_any k (strOf tx) acc.length w hk4 (by omega) (by omega)
            rw [strOf_data, ← her] at h
            exact h
          have hex : s.extract a (a + z) = strOf tx := by rw [extract_str, htx]; congr 2; omega
          obtain ⟨A, c, rfl, hc1, hc2, hT⟩ := HO.out.toks
          unfold maxLen at hc2
          have HG := Lib.hid hg
          have HK := Lib.hid hk
          have HZ := Lib.hid hz
          have HTX := Lib.hid htx
          have HER := Lib.hid her
          have HSZ := Lib.hid hsz
          clear hg hk hz htx her hsz hT
          by_cases he : er = 0
          · have he' : ((er : Int) == 0) = true := by simp [he]
            have he2 : ((er : Int) != 0) = false := by simp [he]
            have HN : Hid (St s.data.toList (a + z) (acc ++ [⟨k, tx, a⟩]) ∧ 0 < z) := Lib.hid (by
              have h := HSt.out.tok hl (HG.out ▸ hb') (by rw [← HK.out, ← HZ.out, ← HTX.out, ← HER.out]; exact he)
              rw [← HK.out, ← HZ.out, ← HTX.out] at h
              exact h)
            have HE := Lib.hid he
            clear he
            go_wp2_with (first
              | (go_at_call 34; refine (isBlank_any _ _).mono ?_; rintro e w' ⟨rfl, rfl⟩)
              | (go_at_call 35; refine (c1 _).mono ?_; rintro e w1 ⟨rfl, hb1⟩)
              | (go_at_call 36; refine (c2 _).mono ?_; rintro e w' ⟨rfl, rfl⟩)
              | (go_at_call 37; refine (clone_any _ _ (by have := HSZ.out; omega)).mono ?_; rintro e w2 ⟨rfl, hb2⟩; have hs1 : wo.heap.size ≤ w1.heap.size := hb1.size; have hs2 : w1.heap.size ≤ w2.heap.size := hb2.size; have HO2 := Lib.hid ((HO.out.below hb1).below hb2); have hb12 := hb1.trans (hb2.mono hs1); have HB2 := Lib.hid (HBel.out.trans (hb12.mono hsr)); clear hb1 hb2 hb12)
              | (at_builtin; refine wpList_append_tok rfl _ _ rfl B _ acc rfl (HO2.out.alloc _) ⟨w2.heap.size, 0, none⟩ 1 ⟨k, tx, a⟩ rfl (one_tok rfl) (by omega) (by simp; omega) ?_; intro v' w3 hown3 hgr))
            have hn4 := wrongOf_n (k := k) (t := tx) (n := acc.length) (by rw [← HER.out]; exact HE.out)
            have hz0 := HN.out.2
            go_roundw
            case rel =>
              have hb3 : Below B w2 w3 := ((Below.refl B w2).alloc (by omega) _).grown hgr (by simp; omega) (fun g hg => (HO2.out.lt g hg).1)
              exact ⟨a + z, acc ++ [⟨k, tx, a⟩], by omega, by simp; omega, by go_num, Lib.hid hown3, Lib.hid (HB2.out.trans hb3), by have := hb3.size; omega, Lib.hid HN.out.1⟩
            case measure => simp [intOf]; omega
          · have he' : ((er : Int) == 0) = false := by simpa using he
            have he2 : ((er : Int) != 0) = true := by simpa using he
            go_wp2_with (first
              | (go_at_call 34; refine (isBlank_any _ _).mono ?_; rintro e w' ⟨rfl, rfl⟩)
              | (go_at_call 35; refine (c1 _).mono ?_; rintro e w1 ⟨rfl, hb1⟩)
              | (go_at_call 36; refine (c2 _).mono ?_; rintro e w' ⟨rfl, rfl⟩))
            go_ret3
            rw [HT.out, HSt.out.err hl (HG.out ▸ hb') (by rw [← HK.out, ← HZ.out, ← HTX.out, ← HER.out]; exact he), ← HK.out, ← HZ.out, ← HTX.out, ← HER.out]
            exact ⟨by rw [← HB.out]; exact HBel.out.trans (hb1.mono hsr), rfl⟩
      · go_wp2
        go_ret3
        rw [HT.out, HSt.out.stop (by rw [← HS.out]; exact hlt)]
        exact ⟨by rw [← HB.out]; exact HBel.out, hacc, _, rfl, by rw [← HB.out]; exact HO.out⟩
end Go.Proofs.YtkmpnlbppdekaaaDoor
end
section
set_option linter.unusedVariables false
namespace Go.Proofs.YtkmpnlbppdekaaaDoor
open Go.RowKit
def nameB (l : List UInt8) : Bool := decide ((firstOf l).1 = 1 ∧ (firstOf l).2 = l.length ∧ l.length ≤ 16)
end Go.Proofs.YtkmpnlbppdekaaaDoor
end
section
set_option linter.unusedVariables false
namespace Go.Proofs.YtkmpnlbppdekaaaDoor
open Go.RowKit
abbrev Ts := Option (List (List UInt8))
def joinT : List (List UInt8) → List UInt8
  | [] => []
  | [t] => t
  | t :: u :: r => t ++ 32 :: joinT (u :: r)
def fits (T : List (List UInt8)) : Prop := (joinT T).length ≤ 16384 ∧ T.length ≤ 4096
instance (T : List (List UInt8)) : Decidable (fits T) := by unfold fits; infer_instance
def lim : Ts → Ts
  | none => none
  | some T => if fits T then some T else none
def fin (C : Ts) : List UInt8 × Int := match lim C with
  | none => ([], 23)
  | some T => (joinT T, 0)
def opsL : List (List UInt8) := [[43], [45], [42], [47], [37], [38], [124], [60], [60, 61], [61, 61], [33, 61]]
end Go.Proofs.YtkmpnlbppdekaaaDoor
end
section
set_option linter.unusedVariables false
namespace Go.Proofs.YtkmpnlbppdekaaaDoor
open Go.RowKit
inductive Rd (α : Type) where
  | bad (pl code : Nat)
  | ok (a : α) (rest : List Tok)
namespace Rd
def bind {α β : Type} (x : Rd α) (f : α → List Tok → Rd β) : Rd β := match x with
  | .bad p c => .bad p c
  | .ok a r => f a r
def map {α β : Type} (f : α → β) (x : Rd α) : Rd β := match x with
  | .bad p c => .bad p c
  | .ok a r => .ok (f a) r
end Rd
def tx : List Tok → List UInt8 | [] => [] | t :: _ => t.text
def kd : List Tok → Nat | [] => 0 | t :: _ => t.kind
def plc (L : Nat) : List Tok → Nat | [] => L | t :: _ => t.pl
section
variable (L : Nat)
def takeM (texts : List (List UInt8)) : List Tok → Rd Tok
  | [] => .bad L 20
  | t :: r => if t.text ∈ texts then .ok t r else .bad t.pl 20
def nameM : List Tok → Rd (List UInt8)
  | [] => .bad L 20
  | t :: r => if t.kind = 1 then .ok t.text r else .bad t.pl 20
def typesM (us : List Tok) : Rd (List UInt8) :=
  (takeM L [[105, 110, 116], [98, 111, 111, 108], [91], [42]] us).bind fun t r =>
    if t.text = [91] then (takeM L [[93]] r).bind fun _ r2 => (takeM L [[105, 110, 116]] r2).map fun _ => [91, 93, 105, 110, 116]
    else if t.text = [42] then (nameM L r).map fun s => 42 :: s
    else .ok t.text r
def numOf (l : List UInt8) : Nat := l.foldl (fun n c => n * 10 + (c.toNat - 48)) 0
def placesM (us : List Tok) : Rd Int :=
  if kd us = 2 then (if 1 ≤ numOf (tx us) ∧ numOf (tx us) ≤ 4 then .ok (numOf (tx us) : Nat) us.tail else .bad (plc L us) 11) else .bad (plc L us) 20
def roomM (begins : Bool) (ahead most : Nat) (us : List Tok) : Rd Unit :=
  if begins = true then (if ahead < most then .ok () us else .bad (plc L us) 22) else .bad (plc L us) 20
def pairM (most ahead : Nat) (us : List Tok) : Rd Pr :=
  (roomM L (decide (kd us = 1)) ahead most us).bind fun _ r => (nameM L r).bind fun s r2 => (typesM L r2).map fun t => ⟨s, t⟩
def untilM {α : Type} (shut : List UInt8) (least : Nat) (P : Nat → List Tok → Rd α) : Nat → Nat → List Tok → Rd (List α)
  | 0, _, _ => .bad 0 0
  | m + 1, ahead, us => if ahead < least ∨ tx us ≠ shut then (P ahead us).bind fun a r => (untilM shut least P m (ahead + 1) r).map (a :: ·)
      else (match us with | [] => .ok [] [] | _ :: r => .ok [] r)
def commaM (ahead : Nat) (us : List Tok) : Rd Unit := if 0 < ahead then (takeM L [[44]] us).map fun _ => () else .ok () us
def fieldM (ahead : Nat) (us : List Tok) : Rd Pr := (pairM L 8 ahead us).bind fun p r => (takeM L [[59]] r).map fun _ => p
def fieldsM (us : List Tok) : Rd (List Pr) := (takeM L [[123]] us).bind fun _ r => untilM [125] 0 (fieldM L) (r.length + 1) 0 r
def paramM (ahead : Nat) (us : List Tok) : Rd Pr := (commaM L ahead us).bind fun _ r => pairM L 4 ahead r
def paramsM (us : List Tok) : Rd (List Pr) := (takeM L [[40]] us).bind fun _ r => untilM [41] 0 (paramM L) (r.length + 1) 0 r
def opensB (us : List Tok) : Bool := decide (tx us ∈ [[116, 114, 117, 101], [102, 97, 108, 115, 101], [110, 105, 108], [108, 101, 110], [40], [110, 101, 119], [109, 97, 107, 101], [114, 101, 108, 101, 97, 115, 101]] ∨ kd us = 1 ∨ kd us = 2)
variable (E : List Tok → Rd Ex)
def brM (us : List Tok) : Rd Ex := (takeM L [[40]] us).bind fun _ r => (E r).bind fun a r2 => (takeM L [[41]] r2).map fun _ => a
def firstM (us : List Tok) : Rd Ex := match us with
  | [] => .bad L 20
  | t :: r =>
    if t.text = [116, 114, 117, 101] then .ok (.mk 2 t.pl 1 [] []) r
    else if t.text = [102, 97, 108, 115, 101] then .ok (.mk 2 t.pl 0 [] []) r
    else if t.text = [110, 105, 108] then .ok (.mk 3 t.pl 0 [] []) r
    else if t.text = [108, 101, 110] then (brM L E r).map fun a => .mk 8 t.pl 0 [] [a]
    else if t.text = [109, 97, 107, 101] then (brM L E r).map fun a => .mk 12 t.pl 0 [] [a]
    else if t.text = [110, 101, 119] then (nameM L r).map fun s => .mk 11 t.pl 0 s []
    else if t.text = [114, 101, 108, 101, 97, 115, 101] then (nameM L r).map fun s => .mk 13 t.pl 0 s []
    else if t.text = [40] then (if tx r = [45] ∨ tx r = [33] then (E r.tail).bind fun a r2 => (takeM L [[41]] r2).map fun _ => .mk 9 t.pl 0 (tx r) [a]
      else (E r).bind fun a r2 => (takeM L opsL r2).bind fun o r3 => (E r3).bind fun b r4 => (takeM L [[41]] r4).map fun _ => .mk 10 t.pl 0 o.text [a, b])
    else if t.kind = 2 then .ok (.mk 1 t.pl (numOf t.text : Nat) [] []) r
    else .ok (.mk 4 t.pl 0 t.text []) r
def linkM (o : Ex) (us : List Tok) : Rd Ex := match us with
  | [] => .bad L 20
  | t :: r =>
    if t.text = [46] then (nameM L r).map fun s => .mk 5 t.pl 0 s [o]
    else (E r).bind fun a r2 => if tx r2 = [58] then (E r2.tail).bind fun b r3 => (takeM L [[93]] r3).map fun _ => .mk 7 t.pl 0 [] [o, a, b]
      else (takeM L [[93]] r2).map fun _ => .mk 6 t.pl 0 [] [o, a]
def chainM : Nat → Ex → List Tok → Rd Ex
  | n, e, us => if tx us = [46] ∨ tx us = [91] then (match n with
      | 0 => .bad (plc L us) 21
      | n + 1 => (linkM L E e us).bind fun e2 r => chainM n e2 r) else .ok e us
end
def exprM (L : Nat) : Nat → List Tok → Rd Ex
  | 0, us => if opensB us = true then .bad (plc L us) 21 else .bad (plc L us) 20
  | n + 1, us => if opensB us = true then (firstM L (exprM L n) us).bind fun e r => chainM L (exprM L n) 8 e r else .bad (plc L us) 20
section
variable (L : Nat)
def argM (E : List Tok → Rd Ex) (ahead : Nat) (us : List Tok) : Rd Ex :=
  (commaM L ahead us).bind fun _ r => (roomM L (opensB r) ahead 4 r).bind fun _ r2 => E r2
def argsM (E : List Tok → Rd Ex) (us : List Tok) : Rd (List Ex) := (takeM L [[40]] us).bind fun _ r => untilM [41] 0 (argM L E) (r.length + 1) 0 r
def blockM (S : List Tok → Rd Sm) (least : Nat) (us : List Tok) : Rd (List Sm) := (takeM L [[123]] us).bind fun _ r => untilM [125] least (fun _ => S) (r.length + 1) 0 r
def stWords : List (List UInt8) := [[118, 97, 114], [115, 101, 116], [105, 102], [119, 104, 105, 108, 101], [108, 111, 99, 107], [117, 110, 108, 111, 99, 107], [115, 101, 110, 100], [114, 101, 99, 118], [111, 117, 116], [99, 97, 108, 108], [114, 101, 116, 117, 114, 110]]
def setB (e : Ex) : Bool := decide (e.kind = 4 ∨ e.kind = 5 ∨ e.kind = 6)
def endM (s : Sm) (us : List Tok) : Rd Sm := (takeM L [[59]] us).map fun _ => s
variable (E : List Tok → Rd Ex) (S : List Tok → Rd Sm)
def stmtM1 (t : Tok) (r : List Tok) : Rd Sm :=
  if t.text = [105, 102] then (E r).bind fun c r2 => (blockM L S 0 r2).bind fun b r3 =>
    if tx r3 = [101, 108, 115, 101] then (blockM L S 1 r3.tail).map fun l => .mk 3 t.pl [] [] [c] b l else .ok (.mk 3 t.pl [] [] [c] b []) r3
  else if t.text = [119, 104, 105, 108, 101] then (E r).bind fun c r2 => (blockM L S 0 r2).map fun b => .mk 4 t.pl [] [] [c] b []
  else if t.text = [118, 97, 114] then (nameM L r).bind fun n r2 => (typesM L r2).bind fun y r3 => (takeM L [[61]] r3).bind fun _ r4 => (E r4).bind fun v r5 => endM L (.mk 1 t.pl n y [v] [] []) r5
  else if t.text = [115, 101, 116] then (E r).bind fun p r2 => if setB p = true then (takeM L [[61]] r2).bind fun _ r3 => (E r3).bind fun v r4 => endM L (.mk 2 t.pl [] [] [p, v] [] []) r4 else .bad (plc L r2) 20
  else if t.text = [108, 111, 99, 107] then (nameM L r).bind fun n r2 => endM L (.mk 5 t.pl n [] [] [] []) r2
  else if t.text = [117, 110, 108, 111, 99, 107] then (nameM L r).bind fun n r2 => endM L (.mk 6 t.pl n [] [] [] []) r2
  else if t.text = [115, 101, 110, 100] then (nameM L r).bind fun n r2 => (E r2).bind fun v r3 => endM L (.mk 7 t.pl n [] [v] [] []) r3
  else if t.text = [114, 101, 99, 118] then (nameM L r).bind fun n r2 => (nameM L r2).bind fun y r3 => endM L (.mk 8 t.pl n y [] [] []) r3
  else if t.text = [111, 117, 116] then (nameM L r).bind fun n r2 => (E r2).bind fun v r3 => endM L (.mk 9 t.pl n [] [v] [] []) r3
  else if t.text = [99, 97, 108, 108] then (nameM L r).bind fun n r2 =>
    if tx r2 = [61] then (nameM L r2.tail).bind fun f r3 => (argsM L E r3).bind fun xs r4 => endM L (.mk 10 t.pl f n xs [] []) r4
    else (argsM L E r2).bind fun xs r3 => endM L (.mk 10 t.pl n [] xs [] []) r3
  else if tx r = [59] then endM L (.mk 11 t.pl [] [] [] [] []) r
  else (E r).bind fun v r2 => endM L (.mk 11 t.pl [] [] [v] [] []) r2
end
def stmtM (L : Nat) : Nat → List Tok → Rd Sm
  | 0, us => .bad 0 0
  | n + 1, us => (takeM L stWords us).bind fun t r => stmtM1 L (exprM L n) (stmtM L n) t r
def bodyM (L : Nat) (us : List Tok) : Rd (List Sm) := blockM L (stmtM L 24) 0 us
section
variable (L : Nat)
def dcWords : List (List UInt8) := [[108, 111, 99, 107], [99, 104, 97, 110], [115, 116, 114, 117, 99, 116], [118, 97, 114], [105, 110, 112, 117, 116], [115, 105, 110, 107], [102, 117, 110, 99], [116, 104, 114, 101, 97, 100]]
def shutM (d : Dc) (us : List Tok) : Rd Dc := (takeM L [[59]] us).map fun _ => d
def declM1 (w : List UInt8) (p : Nat) (s : List UInt8) (r : List Tok) : Rd Dc :=
  if w = [115, 116, 114, 117, 99, 116] then (fieldsM L r).map fun ps => ⟨3, p, 0, s, [], ps, []⟩
  else if w = [102, 117, 110, 99] then (paramsM L r).bind fun ps r2 =>
    if tx r2 = [123] then (bodyM L r2).map fun b => ⟨7, p, 0, s, [], ps, b⟩
    else (typesM L r2).bind fun y r3 => (bodyM L r3).map fun b => ⟨7, p, 0, s, y, ps, b⟩
  else if w = [116, 104, 114, 101, 97, 100] then (bodyM L r).map fun b => ⟨8, p, 0, s, [], [], b⟩
  else if w = [108, 111, 99, 107] then shutM L ⟨1, p, 0, s, [], [], []⟩ r
  else if w = [99, 104, 97, 110] then (placesM L r).bind fun n r2 => shutM L ⟨2, p, n, s, [], [], []⟩ r2
  else if w = [118, 97, 114] then (typesM L r).bind fun y r2 => shutM L ⟨4, p, 0, s, y, [], []⟩ r2
  else if w = [105, 110, 112, 117, 116] then shutM L ⟨5, p, 0, s, [], [], []⟩ r
  else shutM L ⟨6, p, 0, s, [], [], []⟩ r
def declM (ahead : Nat) (us : List Tok) : Rd Dc :=
  (takeM L dcWords us).bind fun t r => (roomM L (decide (kd r = 1)) ahead 64 r).bind fun _ r2 => declM1 L t.text (plc L r2) (tx r2) r2.tail
def programM (us : List Tok) : Rd (List Dc) := untilM [] 0 (declM L) (us.length + 1) 0 us
end
def progM (s : List UInt8) : List Dc × Nat × Nat := match toks s with
  | .err p e => ([], p, e)
  | .ok us => match programM s.length us with
    | .bad p c => ([], p, c)
    | .ok ds _ => (ds, 0, 0)
def noEx : Ex := .mk 0 0 0 [] []
def exprP (s : List UInt8) : Ex × Nat × Nat := match toks s with
  | .err p e => (noEx, p, e)
  | .ok us => match exprM s.length 23 us with
    | .bad p c => (noEx, p, c)
    | .ok x r => match r with
      | [] => (x, 0, 0)
      | t :: _ => (noEx, t.pl, 20)
end Go.Proofs.YtkmpnlbppdekaaaDoor
end
section
set_option linter.unusedVariables false
namespace Go.Proofs.YtkmpnlbppdekaaaDoor
open Go.RowKit
theorem lt_of_cell {w : World} {p : Addr} {v : Value} (h : w.cell? p = some v) : p.block < w.heap.size := by
  rcases Nat.lt_or_ge p.block w.heap.size with hlt | hge
  · exact hlt
  · simp [World.cell?, Array.getElem?_eq_none hge] at h
end Go.Proofs.YtkmpnlbppdekaaaDoor
end
section
set_option linter.unusedVariables false
namespace Go.Proofs.YtkmpnlbppdekaaaDoor
open Go.RowKit
def byV (l : List UInt8) : List Value := l.map fun b => Value.int .u8 (b.toNat : Nat)
def OwnBytes (w : World) (base : Nat) (v : Value) (l : List UInt8) : Prop := w.ownsRow base 5 1 v l.length (byV l)
theorem OwnBytes.nil (w : World) (base : Nat) : OwnBytes w base (.slice none 0 0) [] := ⟨rfl, .inl ⟨rfl, rfl⟩⟩
theorem OwnBytes.keep {w w' : World} {base : Nat} {v : Value} {l : List UInt8} (h : OwnBytes w base v l) (hb : ∀ g, v.ownBlock = some g → w'.heap[g]? = w.heap[g]?) : OwnBytes w' base v l := by
  unfold OwnBytes at h ⊢
  rcases h with ⟨h1, h2 | ⟨g, cap, cur, hv, hbg, hg, h3⟩⟩
  · exact ⟨h1, .inl h2⟩
  · exact ⟨h1, .inr ⟨g, cap, cur, hv, hbg, (hb g (by rw [hv]; rfl)).trans hg, h3⟩⟩
theorem OwnBytes.alloc {w : World} {base : Nat} {v : Value} {l : List UInt8} (h : OwnBytes w base v l) (o : Obj) : OwnBytes (w.alloc o) base v l := World.ownsRow.alloc h o
theorem OwnBytes.conv {w : World} {base : Nat} {v : Value} {l : List UInt8} (h : OwnBytes w base v l) :
    (convert 96 9 v).run Tryd.prog w = .ok (.string (strOf l)) w := by
  rcases h with ⟨h1, ⟨rfl, h2⟩ | ⟨g, cap, cur, rfl, hbg, hg, h3, h4, h5, h6⟩⟩
  · obtain rfl : l = [] := List.eq_nil_of_length_eq_zero h2
    exact Lib.run_convert_nil_bytes w 96 9 5 0 Tryd.underlying96 Tryd.underlying5 Tryd.underlying9
  · refine run_convert_bytes_back w 96 9 5 ⟨g, 0, none⟩ cap l Tryd.underlying96 Tryd.underlying5 Tryd.underlying9 (Lib.bytes_of_row hg ?_)
    rw [Nat.mul_one] at h6
    exact h6
theorem OwnBytes.form {w : World} {base : Nat} {v : Value} {l : List UInt8} (h : OwnBytes w base v l) : ∃ A c, v = .slice A l.length c := by
  rcases h with ⟨h1, ⟨rfl, h2⟩ | ⟨g, cap, cur, rfl, hbg, hg, h3⟩⟩
  · exact ⟨none, 0, by rw [h2]⟩
  · exact ⟨some ⟨g, 0, none⟩, cap, rfl⟩
theorem OwnBytes.blk {w : World} {base : Nat} {v : Value} {l : List UInt8} (h : OwnBytes w base v l) {g : Nat} (hg : v.ownBlock = some g) : base ≤ g ∧ ∃ cur, w.heap[g]? = some (.cells cur 5 (0, 0)) := by
  rcases h with ⟨h1, ⟨rfl, h2⟩ | ⟨g', cap, cur, rfl, hbg, hg', h3⟩⟩
  · cases hg
  · have e : g' = g := by simpa [Value.ownBlock] using hg
    subst e
    exact ⟨hbg, cur, hg'⟩
structure Chg (P : Nat → Prop) (w w' : World) : Prop where
  os : w'.os = w.os
  tape : w'.tape = w.tape
  output : w'.output = w.output
  size : w.heap.size ≤ w'.heap.size
  block : ∀ k, k < w.heap.size → ¬ P k → w'.heap[k]? = w.heap[k]?
theorem Chg.refl (P : Nat → Prop) (w : World) : Chg P w w := ⟨rfl, rfl, rfl, Nat.le_refl _, fun _ _ _ => rfl⟩
theorem Chg.trans {P P' : Nat → Prop} {a b c : World} (h : Chg P a b) (k : Chg P' b c) (hp : ∀ x, x < a.heap.size → P' x → P x) : Chg P a c :=
  ⟨k.os.trans h.os, k.tape.trans h.tape, k.output.trans h.output, Nat.le_trans h.size k.size, fun i hi hn => (k.block i (Nat.lt_of_lt_of_le hi h.size) (fun e => hn (hp i hi e))).trans (h.block i hi hn)⟩
theorem Chg.of_below {P : Nat → Prop} {w w' : World} (h : Below w.heap.size w w') : Chg P w w' := ⟨h.os, h.tape, h.output, h.size, fun k hk _ => h.block k hk⟩
theorem Chg.alloc {P : Nat → Prop} {a w : World} (h : Chg P a w) (o : Obj) : Chg P a (w.alloc o) :=
  h.trans (P' := fun _ => False) ⟨rfl, rfl, rfl, by simp, fun k hk _ => Below.heap_alloc _ _ _ hk⟩ (fun _ _ e => e.elim)
theorem Chg.setCell {P : Nat → Prop} {a w : World} (h : Chg P a w) (p : Addr) (u : Value) (hp : p.block < a.heap.size → P p.block) : Chg P a (w.setCell p u) :=
  h.trans (P' := fun x => x = p.block) ⟨rfl, rfl, rfl, by simp [World.setCell], fun k hk hn => Below.heap_setCell _ _ _ _ hn⟩ (fun x hx e => by rw [e]; exact hp (by rw [← e]; exact hx))
theorem Chg.grown {P : Nat → Prop} {a w w' : World} {row : Option Nat} (h : Chg P a w) (hg : w.grownBy w' row) (hr : ∀ k, k < a.heap.size → row = some k → P k) : Chg P a w' :=
  h.trans (P' := fun x => row = some x) ⟨hg.os, hg.tape, hg.output, hg.size, fun k hk hn => hg.block k hk (fun e => hn e.symm)⟩ hr
theorem Chg.below {P : Nat → Prop} {w w' : World} {B : Nat} (h : Chg P w w') (hB : B ≤ w.heap.size) (hp : ∀ x, P x → B ≤ x) : Below B w w' :=
  ⟨h.os, h.tape, h.output, h.size, fun k hk => h.block k (by omega) (fun e => by have := hp k e; omega)⟩
theorem Chg.cell {P : Nat → Prop} {w w' : World} (h : Chg P w w') {p : Addr} {v : Value} (hc : w.cell? p = some v) (hn : ¬ P p.block) : w'.cell? p = some v :=
  (World.cell?_of_block (w := w) (h.block p.block (lt_of_cell hc) hn)).trans hc
theorem Chg.drew {P : Nat → Prop} {a w : World} (h : Chg P a w) : Chg P a w.drew := ⟨h.os, h.tape, h.output, h.size, h.block⟩
structure PenAt (w : World) (Bc Ba base : Nat) (v : Value) (T : List (List UInt8)) : Prop where
  cnt : w.heap[Bc]? = some (.cells #[.int .i64 T.length] 3 (0, 0))
  buf : w.heap[Ba]? = some (.cells #[v] 96 (0, 0))
  own : OwnBytes w base v (joinT T)
  fit : fits T
  bc : base ≤ Bc
  ba : base ≤ Ba
def Mine (Bc Ba : Nat) (v : Value) (b : Nat) : Prop := b = Bc ∨ b = Ba ∨ v.ownBlock = some b
theorem lt_of_heap {w : World} {g : Nat} {o : Obj} (h : w.heap[g]? = some o) : g < w.heap.size := by
  rcases Nat.lt_or_ge g w.heap.size with hlt | hge
  · exact hlt
  · rw [Array.getElem?_eq_none hge] at h; cases h
section
variable {w w' w1 w2 : World} {Bc Ba base : Nat} {v v' v1 v2 : Value} {T T' T1 T2 : List (List UInt8)}
theorem PenAt.nec (h : PenAt w Bc Ba base v T) : v.ownBlock ≠ some Bc := fun e => by
  obtain ⟨_, cur, hg⟩ := h.own.blk e
  rw [h.cnt] at hg
  simp at hg
theorem PenAt.nea (h : PenAt w Bc Ba base v T) : v.ownBlock ≠ some Ba := fun e => by
  obtain ⟨_, cur, hg⟩ := h.own.blk e
  rw [h.buf] at hg
  simp at hg
theorem PenAt.mine (h : PenAt w Bc Ba base v T) {b : Nat} (hb : Mine Bc Ba v b) : base ≤ b ∧ b < w.heap.size := by
  rcases hb with rfl | rfl | hb
  · exact ⟨h.bc, lt_of_heap h.cnt⟩
  · exact ⟨h.ba, lt_of_heap h.buf⟩
  · obtain ⟨h1, cur, hg⟩ := h.own.blk hb
    exact ⟨h1, lt_of_heap hg⟩
theorem PenAt.keep (h : PenAt w Bc Ba base v T) (hk : ∀ b, Mine Bc Ba v b → w'.heap[b]? = w.heap[b]?) : PenAt w' Bc Ba base v T :=
  ⟨(hk Bc (.inl rfl)).trans h.cnt, (hk Ba (.inr (.inl rfl))).trans h.buf, h.own.keep fun g hg => hk g (.inr (.inr hg)), h.fit, h.bc, h.ba⟩
theorem PenAt.alloc (h : PenAt w Bc Ba base v T) (o : Obj) : PenAt (w.alloc o) Bc Ba base v T := h.keep fun b hb => Below.heap_alloc _ _ _ (h.mine hb).2
theorem PenAt.below (h : PenAt w Bc Ba base v T) (hb : Below w.heap.size w w') : PenAt w' Bc Ba base v T := h.keep fun b hm => hb.block b (h.mine hm).2
theorem PenAt.setCell (h : PenAt w Bc Ba base v T) (p : Addr) (u : Value) (hp : ¬ Mine Bc Ba v p.block) : PenAt (w.setCell p u) Bc Ba base v T :=
  h.keep fun b hb => Below.heap_setCell _ _ _ _ (fun e => hp (by rw [← e]; exact hb))
theorem PenAt.drew (h : PenAt w Bc Ba base v T) : PenAt w.drew Bc Ba base v T := h.keep fun b hb => rfl
def Went (w : World) (Bc Ba base : Nat) (v : Value) (w' : World) (v' : Value) (T' : List (List UInt8)) : Prop :=
  PenAt w' Bc Ba base v' T' ∧ (∀ b, v'.ownBlock = some b → v.ownBlock = some b ∨ w.heap.size ≤ b) ∧ Chg (Mine Bc Ba v) w w'
theorem Went.mine (h : Went w Bc Ba base v w' v' T') {b : Nat} (hb : Mine Bc Ba v' b) (hlt : b < w.heap.size) : Mine Bc Ba v b := by
  rcases hb with rfl | rfl | hb
  · exact .inl rfl
  · exact .inr (.inl rfl)
  · rcases h.2.1 b hb with h1 | h1
    · exact .inr (.inr h1)
    · omega
theorem Went.refl (h : PenAt w Bc Ba base v T) : Went w Bc Ba base v w v T := ⟨h, fun b hb => .inl hb, Chg.refl _ _⟩
theorem Went.trans (h : Went w Bc Ba base v w1 v1 T1) (k : Went w1 Bc Ba base v1 w2 v2 T2) : Went w Bc Ba base v w2 v2 T2 := by
  refine ⟨k.1, fun b hb => ?_, h.2.2.trans k.2.2 fun x hx hm => h.mine hm hx⟩
  rcases k.2.1 b hb with h1 | h1
  · exact h.2.1 b h1
  · have := h.2.2.size; exact .inr (by omega)
theorem Went.alloc (h : Went w Bc Ba base v w1 v1 T1) (o : Obj) : Went w Bc Ba base v (w1.alloc o) v1 T1 := ⟨h.1.alloc o, h.2.1, h.2.2.alloc o⟩
theorem Went.below (h : Went w Bc Ba base v w1 v1 T1) (hb : Below w1.heap.size w1 w2) : Went w Bc Ba base v w2 v1 T1 := ⟨h.1.below hb, h.2.1, h.2.2.trans (Chg.of_below (P := fun _ => False) hb) fun _ _ e => e.elim⟩
theorem Went.setCell (h : Went w Bc Ba base v w1 v1 T1) (p : Addr) (u : Value) (hp : w.heap.size ≤ p.block) (hm : ¬ Mine Bc Ba v1 p.block) : Went w Bc Ba base v (w1.setCell p u) v1 T1 :=
  ⟨h.1.setCell p u hm, h.2.1, h.2.2.setCell p u fun e => by omega⟩
theorem Went.drew (h : Went w Bc Ba base v w1 v1 T1) : Went w Bc Ba base v w1.drew v1 T1 := ⟨h.1.drew, h.2.1, h.2.2.drew⟩
end
end Go.Proofs.YtkmpnlbppdekaaaDoor
end
section
set_option linter.unusedVariables false
namespace Go.Proofs.YtkmpnlbppdekaaaDoor
open Go.RowKit
theorem set_one {w : World} {g : Nat} {x : Value} {t : TypeId} (h : w.heap[g]? = some (.cells #[x] t (0, 0))) (u : Value) : (w.setCell ⟨g, 0, none⟩ u).heap[g]? = some (.cells #[u] t (0, 0)) := by
  simp [World.setCell, Array.getElem?_modify, h]
theorem PenAt.grown {w w' : World} {Bc Ba base : Nat} {v : Value} {T : List (List UInt8)} (h : PenAt w Bc Ba base v T) (hg : w.grownBy w' v.ownBlock) : w'.heap[Bc]? = w.heap[Bc]? ∧ w'.heap[Ba]? = w.heap[Ba]? :=
  ⟨hg.block Bc (lt_of_heap h.cnt) (fun e => h.nec e.symm), hg.block Ba (lt_of_heap h.buf) (fun e => h.nea e.symm)⟩
structure Cells (w : World) (Bc Ba : Nat) (k : Nat) (v : Value) : Prop where
  c : w.heap[Bc]? = some (.cells #[.int .i64 k] 3 (0, 0))
  a : w.heap[Ba]? = some (.cells #[v] 96 (0, 0))
section
variable {w : World} {Bc Ba k : Nat} {v : Value}
theorem Cells.alloc (h : Cells w Bc Ba k v) (o : Obj) : Cells (w.alloc o) Bc Ba k v := ⟨(Below.heap_alloc _ _ _ (lt_of_heap h.c)).trans h.c, (Below.heap_alloc _ _ _ (lt_of_heap h.a)).trans h.a⟩
theorem Cells.grown (h : Cells w Bc Ba k v) {w' : World} {row : Option Nat} (hg : w.grownBy w' row) (h1 : row ≠ some Bc) (h2 : row ≠ some Ba) : Cells w' Bc Ba k v :=
  ⟨(hg.block Bc (lt_of_heap h.c) (fun e => h1 e.symm)).trans h.c, (hg.block Ba (lt_of_heap h.a) (fun e => h2 e.symm)).trans h.a⟩
end
end Go.Proofs.YtkmpnlbppdekaaaDoor
end
section
namespace Go.Proofs.YtkmpnlbppdekaaaDoor
open Go.Shelf
def lays110_con_ren : Go.Shelf.Ren := ⟨fun | 110 => 31 | 109 => 50 | n => n, fun | 31 => 70 | 9 => 9 | 4 => 4 | 3 => 3 | 0 => 0 | n => n, fun | n => n⟩
theorem lays110_con : Go.Proofs.Lays.n110 Tryd.prog lays110_con_ren := {
  mixed := by kernel_rfl
  f109 := Tryd.func50.trans (congrArg some (by kernel_rfl))
  f110 := Tryd.func31.trans (congrArg some (by kernel_rfl))
  t0 := Tryd.underlying0
  a0 := Tryd.isAgg0
  z0 := Tryd.sizeOf0
  v0 := Tryd.zeroValue0
  t3 := Tryd.underlying3
  a3 := Tryd.isAgg3
  z3 := Tryd.sizeOf3
  v3 := Tryd.zeroValue3
  t4 := Tryd.underlying4
  a4 := Tryd.isAgg4
  z4 := Tryd.sizeOf4
  v4 := Tryd.zeroValue4
  t9 := Tryd.underlying9
  a9 := Tryd.isAgg9
  z9 := Tryd.sizeOf9
  v9 := Tryd.zeroValue9
  t31 := Tryd.underlying70
  a31 := Tryd.isAgg70
  z31 := Tryd.sizeOf70
  v31 := Tryd.zeroValue70 }
open Go.Lib in
theorem slices_Contains_string (b off n c : Nat) (zs : List ByteArray) (x : ByteArray) (w : World) (hz : n ≤ zs.length) (hbig : n ≤ 9223372036854775807) (hc : ∀ j, j < zs.length → w.cell? ⟨b, off + j, none⟩ = some (.string (zs.getD j ByteArray.empty))) :
    Calls Tryd.prog 31 #[.slice (some ⟨b, off, none⟩) n c, .string x] w fun e w' => e = .returned (.bool (Lib.containsS (zs.take n) x)) ∧ w' = w := Any.slices_Contains_string lays110_con b off n c zs x w hz hbig hc
end Go.Proofs.YtkmpnlbppdekaaaDoor
end
section
set_option linter.unusedVariables false
namespace Go.Proofs.YtkmpnlbppdekaaaDoor
open Go.RowKit
theorem strOf_toList (t : List UInt8) : (strOf t).toList = t := by
  rw [ByteArray.toList_eq]; rfl
def strCells (ts : List (List UInt8)) : Array Value := (ts.map fun t => Value.string (strOf t)).toArray
end Go.Proofs.YtkmpnlbppdekaaaDoor
end
section
set_option linter.unusedVariables false
namespace Go.Proofs.YtkmpnlbppdekaaaDoor
open Go.RowKit
def thrown (p c : Nat) : Ending := .panicked [{ v := .iface 60 (.agg #[.int .i64 (p : Nat), .int .i64 (c : Nat)]), recovered := false }]
def endT (L : Nat) : Tok := ⟨0, [], L⟩
def TokOk (t : Tok) : Prop := t.text ≠ [] ∧ t.text.length ≤ 16384 ∧ (t.kind = 1 → nameB t.text = true) ∧ (t.kind = 2 → (∀ c ∈ t.text, digit c = true) ∧ t.text.length ≤ 18)
def RdAt (w : World) (B R L : Nat) (us : List Tok) : Prop :=
  ∃ tb off c, w.heap[R]? = some (.cells #[.slice (some ⟨tb, off, none⟩) (us.length + 1) c] 63 (0, 0)) ∧ R < B ∧ tb < B ∧ tb ≠ R ∧ us.length + 1 ≤ c ∧ c ≤ 9223372036854775807 ∧
    (∀ (k : Nat) (h : k < (us ++ [endT L]).length), w.cell? ⟨tb, off + k * 3, none⟩ = some (.int .i64 ((us ++ [endT L])[k].kind : Nat)) ∧ w.cell? ⟨tb, off + k * 3 + 1, none⟩ = some (.string (strOf (us ++ [endT L])[k].text)) ∧ w.cell? ⟨tb, off + k * 3 + 2, none⟩ = some (.int .i64 ((us ++ [endT L])[k].pl : Nat))) ∧
    us.length ≤ 5000 ∧ ∀ t ∈ us, TokOk t
section
variable {w w' : World} {B R L : Nat} {us : List Tok}
theorem RdAt.keep (h : RdAt w B R L us) (hk : ∀ b, b < B → w'.heap[b]? = w.heap[b]?) : RdAt w' B R L us := by
  obtain ⟨tb, off, c, h1, h2, h3, h4, h5, h6, h7, h8, h9⟩ := h
  have hc : ∀ i, w'.cell? ⟨tb, i, none⟩ = w.cell? ⟨tb, i, none⟩ := fun i => World.cell?_of_block (hk tb h3)
  exact ⟨tb, off, c, (hk R h2).trans h1, h2, h3, h4, h5, h6, fun k hk => by rw [hc, hc, hc]; exact h7 k hk, h8, h9⟩
theorem RdAt.below (h : RdAt w B R L us) (hb : Below B w w') : RdAt w' B R L us := h.keep fun b hlt => hb.block b hlt
theorem RdAt.below' (h : RdAt w B R L us) (hB : B ≤ w.heap.size) (hb : Below w.heap.size w w') : RdAt w' B R L us := h.keep fun b hlt => hb.block b (by omega)
theorem RdAt.alloc (h : RdAt w B R L us) (hB : B ≤ w.heap.size) (o : Obj) : RdAt (w.alloc o) B R L us := h.keep fun b hlt => Below.heap_alloc _ _ _ (by omega)
theorem RdAt.drew (h : RdAt w B R L us) : RdAt w.drew B R L us := h.keep fun b hlt => rfl
theorem RdAt.setCell (h : RdAt w B R L us) (p : Addr) (u : Value) (hp : B ≤ p.block) : RdAt (w.setCell p u) B R L us := h.keep fun b hlt => Below.heap_setCell _ _ _ _ (by omega)
theorem RdAt.lt (h : RdAt w B R L us) : R < B := by obtain ⟨_, _, _, _, h, _⟩ := h; exact h
theorem RdAt.ok (h : RdAt w B R L us) : ∀ t ∈ us, TokOk t := by obtain ⟨_, _, _, _, _, _, _, _, _, _, _, h⟩ := h; exact h
theorem RdAt.len (h : RdAt w B R L us) : us.length ≤ 5000 := by obtain ⟨_, _, _, _, _, _, _, _, _, _, h, _⟩ := h; exact h
theorem head_end (L : Nat) (us : List Tok) (h : 0 < (us ++ [endT L]).length) : (us ++ [endT L])[0].kind = kd us ∧ (us ++ [endT L])[0].text = tx us ∧ (us ++ [endT L])[0].pl = plc L us := by
  cases us with
  | nil => exact ⟨rfl, rfl, rfl⟩
  | cons t r => exact ⟨rfl, rfl, rfl⟩
theorem RdAt.head (h : RdAt w B R L us) : ∃ tb off c n, n = us.length ∧ w.heap[R]? = some (.cells #[.slice (some ⟨tb, off, none⟩) (n + 1) c] 63 (0, 0)) ∧ n + 1 ≤ c ∧ c ≤ 9223372036854775807 ∧ R < B ∧ tb < B ∧ tb ≠ R ∧
    w.cell? ⟨tb, off, none⟩ = some (.int .i64 (kd us : Nat)) ∧ w.cell? ⟨tb, off + 1, none⟩ = some (.string (strOf (tx us))) ∧ w.cell? ⟨tb, off + 2, none⟩ = some (.int .i64 (plc L us : Nat)) := by
  obtain ⟨tb, off, c, h1, h2, h3, h4, h5, h6, h7, h8, h9⟩ := h
  have h0 : 0 < (us ++ [endT L]).length := by simp
  obtain ⟨k0, k1, k2⟩ := h7 0 h0
  obtain ⟨e0, e1, e2⟩ := head_end L us h0
  rw [e0, Nat.zero_mul, Nat.add_zero] at k0
  rw [e1, Nat.zero_mul, Nat.add_zero] at k1
  rw [e2, Nat.zero_mul, Nat.add_zero] at k2
  exact ⟨tb, off, c, us.length, rfl, h1, h5, h6, h2, h3, h4, k0, k1, k2⟩
theorem RdAt.popped {t : Tok} {tb off c n : Nat} {r : List Tok} (h : RdAt w B R L (t :: r)) (hc : w.heap[R]? = some (.cells #[.slice (some ⟨tb, off, none⟩) n c] 63 (0, 0)))
    (h' : w'.heap[R]? = some (.cells #[.slice (some ⟨tb, off + 3, none⟩) (r.length + 1) (c - 1)] 63 (0, 0))) (hk : ∀ b, b < B → b ≠ R → w'.heap[b]? = w.heap[b]?) : RdAt w' B R L r := by
  obtain ⟨tb', off', c', h1, h2, h3, h4, h5, h6, h7, h8, h9⟩ := h
  rw [h1] at hc
  simp only [Option.some.injEq, Obj.cells.injEq, Array.mk.injEq, List.cons.injEq, Value.slice.injEq, Addr.mk.injEq, and_true] at hc
  obtain ⟨⟨rfl, rfl⟩, rfl, rfl⟩ := hc
  simp only [List.length_cons] at h5 h8
  have hce : ∀ i, w'.cell? ⟨tb', i, none⟩ = w.cell? ⟨tb', i, none⟩ := fun i => World.cell?_of_block (hk tb' h3 h4)
  refine ⟨tb', off' + 3, c' - 1, h', h2, h3, h4, by omega, by omega, fun k hk => ?_, by omega, fun u hu => h9 u (by simp [hu])⟩
  have h10 := h7 (k + 1) (by simp at hk ⊢; omega)
  have e : (t :: r ++ [endT L])[k + 1]'(by simp at hk ⊢; omega) = (r ++ [endT L])[k] := rfl
  rw [e, show off' + (k + 1) * 3 = off' + 3 + k * 3 from by omega] at h10
  rw [hce, hce, hce]; exact h10
end
def RdPost {α : Type} (V : World → α → Value → Prop) (w : World) (B R L : Nat) (x : Rd α) (e : Ending) (w' : World) : Prop := match x with
  | .bad p c => e = thrown p c ∧ Chg (fun b => b = R) w w'
  | .ok a r => (∃ v, e = .returned v ∧ V w' a v) ∧ RdAt w' B R L r ∧ Chg (fun b => b = R) w w'
def UnV (_ : World) (_ : Unit) (v : Value) : Prop := v = .tuple #[]
def StrV (_ : World) (s : List UInt8) (v : Value) : Prop := v = .string (strOf s) ∧ s.length ≤ 16384
def TokV (_ : World) (t : Tok) (v : Value) : Prop := v = .agg #[.int .i64 (t.kind : Nat), .string (strOf t.text), .int .i64 (t.pl : Nat)] ∧ TokOk t
def IntV (_ : World) (n : Int) (v : Value) : Prop := v = .int .i64 n
end Go.Proofs.YtkmpnlbppdekaaaDoor
end
section
set_option linter.unusedVariables false
namespace Go.Proofs.YtkmpnlbppdekaaaDoor
open Go.RowKit
theorem alloc_cell {w : World} {p : Addr} {v : Value} (h : w.cell? p = some v) : ∀ o, (w.alloc o).cell? p = some v := fun o => (World.cell?_of_block (w := w) (Below.heap_alloc w o p.block (lt_of_cell h))).trans h
theorem alloc_frozen {w : World} {p : Addr} {v : Value} (h : w.cell? p = some v) (hz : w.frozen? p = false) : ∀ o, (w.alloc o).frozen? p = false := fun o => (World.frozen?_of_block (w := w) (Below.heap_alloc w o p.block (lt_of_cell h))).trans hz
end Go.Proofs.YtkmpnlbppdekaaaDoor
end
section
set_option linter.unusedVariables false
set_option linter.unusedSimpArgs false
namespace Go.Proofs.YtkmpnlbppdekaaaDoor
open Go.RowKit
section
variable (w : World) (a b c : Value)
theorem tok_row : (w.alloc (.cells #[a, b, c] 51)).heap[w.heap.size]? = some (.cells #[a, b, c] 51 (0, 0)) := heap_alloc_new _ _
theorem tok_c0 : (w.alloc (.cells #[a, b, c] 51)).cell? ⟨w.heap.size, 0, none⟩ = some a := by rw [cell_of_row _ _ 0 _ _ (0, 0) (tok_row w a b c)]; rfl
theorem tok_c1 : (w.alloc (.cells #[a, b, c] 51)).cell? ⟨w.heap.size, 1, none⟩ = some b := by rw [cell_of_row _ _ 1 _ _ (0, 0) (tok_row w a b c)]; rfl
theorem tok_c2 : (w.alloc (.cells #[a, b, c] 51)).cell? ⟨w.heap.size, 2, none⟩ = some c := by rw [cell_of_row _ _ 2 _ _ (0, 0) (tok_row w a b c)]; rfl
end
theorem tokF0 (a b c : Value) (w : World) : (Instr.field 51 (.agg #[a, b, c]) 0).run Tryd.prog w = .ok a w := by kernel_rfl
theorem tokF1 (a b c : Value) (w : World) : (Instr.field 51 (.agg #[a, b, c]) 1).run Tryd.prog w = .ok b w := by kernel_rfl
theorem tokF2 (a b c : Value) (w : World) : (Instr.field 51 (.agg #[a, b, c]) 2).run Tryd.prog w = .ok c w := by kernel_rfl
theorem below_new (w : World) (o : Obj) : Below w.heap.size w (w.alloc o) := (Below.refl _ w).alloc (Nat.le_refl _) _
theorem next_any {w : World} {B R L : Nat} {us : List Tok} (h : RdAt w B R L us) :
    Calls Tryd.prog 29 #[.pointer (some ⟨R, 0, none⟩)] w fun e w' => e = .returned (.agg #[.int .i64 (kd us : Nat), .string (strOf (tx us)), .int .i64 (plc L us : Nat)]) ∧ Below w.heap.size w w' := by
  obtain ⟨tb, off, c, n, hn, h1, h2, h3, h4, h5, h6, k0, k1, k2⟩ := h.head
  have c0 := cell_of_row w R 0 _ _ (0, 0) h1
  simp at c0
  have a0 := alloc_cell c0
  have a1 := alloc_cell k0
  have a2 := alloc_cell k1
  have a3 := alloc_cell k2
  clear h1 h hn c0 k0 k1 k2
  go_enter Tryd.func29, Tryd.ntmps29
  go_wp2
  refine bodyPost_ret (v := .agg #[.int .i64 (kd us : Nat), .string (strOf (tx us)), .int .i64 (plc L us : Nat)]) ?_ rfl ⟨rfl, below_new _ _⟩
  simp [results, Tryd.results29, go_sem, tok_c0, tok_c1, tok_c2]
theorem mustP_yes (w : World) (R : Nat) (c : Int) : Calls Tryd.prog 26 #[.pointer (some ⟨R, 0, none⟩), .bool true, .int .i64 c] w fun e w' => e = .returned (.tuple #[]) ∧ w = w' := by
  go_enter Tryd.func26, Tryd.ntmps26
  go_wp2
  go_end0
  exact ⟨rfl, rfl⟩
set_option maxRecDepth 100000 in
theorem mustP_no {w : World} {B R L : Nat} {us : List Tok} (h : RdAt w B R L us) (c : Nat) : Calls Tryd.prog 26 #[.pointer (some ⟨R, 0, none⟩), .bool false, .int .i64 (c : Nat)] w fun e w' => e = thrown (plc L us) c ∧ Below w.heap.size w w' := by
  have HN := Lib.hid (next_any h)
  have hf := tokF2
  clear h
  obtain ⟨K, hK⟩ : ∃ K : Int, K = (kd us : Nat) := ⟨_, rfl⟩
  obtain ⟨P, hP⟩ : ∃ P : Int, P = (plc L us : Nat) := ⟨_, rfl⟩
  obtain ⟨C, hC⟩ : ∃ C : Int, C = (c : Nat) := ⟨_, rfl⟩
  unfold thrown
  rw [← hK, ← hP] at HN
  rw [← hC, ← hP]
  clear hK hP hC
  go_enter Tryd.func26, Tryd.ntmps26
  go_wp2_with fail
  refine HN.out.mono ?_
  rintro e w1 ⟨rfl, hb⟩
  have HB := Lib.hid hb
  clear hb
  go_wp2
  exact ⟨rfl, rfl, HB.out⟩
end Go.Proofs.YtkmpnlbppdekaaaDoor
end
