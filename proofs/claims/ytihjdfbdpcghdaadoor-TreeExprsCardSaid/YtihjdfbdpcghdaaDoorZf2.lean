/- Xl Uo Up Ur Ya Ro Uu Yd Ye -/
import Derived.Test.YtihjdfbdpcghdaaDoorZe8
import Derived.IntWalk
import Derived.Maps.AppendAt
import Derived.Test.YtihjdfbdpcghdaaDoorTie
import Derived.Test.YtihjdfbdpcghdaaDoorCards
import Derived.LaidMore
import Derived.LaidOnce
import Derived.Handed
import Derived.Stop.LaidErr
import Derived.Lib.LaidTab
import Derived.SevenTiedAt
import Derived.JoinedOf
import Derived.Test.YtihjdfbdpcghdaaDoorRows
import Derived.ProofKit
import Derived.Deep.Slices
import Derived.OpenShut
import Derived.ChangeMaps5
import Derived.ChangeArms
import Derived.SizedLaws
import Derived.WideShapes
section
set_option linter.unusedVariables false
namespace Go.Proofs.YtihjdfbdpcghdaaDoor
open Go.RowKit
def aE : Ex := .mk 10 0 0 [43] [.mk 4 0 0 [97] [], .mk 1 0 1 [] []]
def aS : Sm := .mk 9 0 [115] [] [aE] [] []
def aD : Dc := ⟨8, 0, 0, [116], [], [], [aS]⟩
def zD : Dc := ⟨0, 0, 0, [], [], [], []⟩
theorem fin_a : fin (penP [aD]) = ([116, 104, 114, 101, 97, 100, 32, 116, 32, 123, 32, 111, 117, 116, 32, 115, 32, 40, 32, 97, 32, 43, 32, 49, 32, 41, 32, 59, 32, 125], 0) := by decide +kernel
theorem fin_z : fin (penP [zD]) = ([], 23) := by decide +kernel
theorem fin_i : fin (tyT [91, 93, 105, 110, 116]) = ([91, 32, 93, 32, 105, 110, 116], 0) := by decide +kernel
theorem fin_x : fin (tyT [120]) = ([], 23) := by decide +kernel
theorem small_a : ∀ (k : Nat) (hk : k < [aD].length), smallDN [aD][k] := by
  intro k hk
  obtain rfl : k = 0 := by simp at hk; omega
  show smallDN aD
  unfold smallDN
  simp [aD, aS, aE, smallSs, smallS, smallEs, smallE]
theorem small_z : ∀ (k : Nat) (hk : k < [zD].length), smallDN [zD][k] := by
  intro k hk
  obtain rfl : k = 0 := by simp at hk; omega
  show smallDN zD
  unfold smallDN
  simp [zD, smallSs]
theorem exs_nil (w : World) (S : Nat → Prop) : IsExs w S [] (.slice none 0 0) :=
  .mk [] none 0 (fun _ => .bool false) (by simp) (by simp) (fun k hk => absurd hk (by simp)) (fun k hk => absurd hk (by simp))
theorem sms_nil (w : World) (S : Nat → Prop) : IsSms w S [] (.slice none 0 0) :=
  .mk [] none 0 (fun _ => .bool false) (fun _ => .bool false) (fun _ => .bool false) (by simp) (by simp) (fun k hk => absurd hk (by simp)) (fun k hk => absurd hk (by simp)) (fun k hk => absurd hk (by simp)) (fun k hk => absurd hk (by simp))
theorem prs_nil (w : World) (S : Nat → Prop) : PrsIn w S [] (.slice none 0 0) := ⟨none, 0, rfl, by simp, by simp, fun k hk => absurd hk (by simp)⟩
theorem exs_one {w : World} {S : Nat → Prop} {b : Nat} {e : Ex} {v : Value} (hS : S b) (hl : e.name.length ≤ 140737488355328)
    (h : w.heap[b]? = some (.cells #[.int .i64 e.kind, .int .i64 e.pl, .int .i64 e.num, .string (strOf e.name), v] 24 (0, 0))) (hv : IsExs w S e.args v) : IsExs w S [e] (.slice (some ⟨b, 0, none⟩) 1 1) := by
  refine .mk [e] (some ⟨b, 0, none⟩) 1 (fun _ => v) (by simp) (by simp) (fun k hk => ?_) (fun k hk => ?_)
  · obtain rfl : k = 0 := by simp at hk; omega
    refine ⟨b, 0, rfl, hS, hl, ?_, ?_, ?_, ?_, ?_⟩
    · rw [cell_of_row w b _ _ _ (0, 0) h]; rfl
    · rw [cell_of_row w b _ _ _ (0, 0) h]; rfl
    · rw [cell_of_row w b _ _ _ (0, 0) h]; rfl
    · rw [cell_of_row w b _ _ _ (0, 0) h]; rfl
    · rw [cell_of_row w b _ _ _ (0, 0) h]; rfl
  · obtain rfl : k = 0 := by simp at hk; omega
    exact hv
theorem exs_two {w : World} {S : Nat → Prop} {b : Nat} {k1 p1 n1 k2 p2 n2 : Int} {s1 s2 : List UInt8} (hS : S b) (hl1 : s1.length ≤ 140737488355328) (hl2 : s2.length ≤ 140737488355328)
    (h : w.heap[b]? = some (.cells #[.int .i64 k1, .int .i64 p1, .int .i64 n1, .string (strOf s1), .slice none 0 0, .int .i64 k2, .int .i64 p2, .int .i64 n2, .string (strOf s2), .slice none 0 0] 24 (0, 0))) :
    IsExs w S [.mk k1 p1 n1 s1 [], .mk k2 p2 n2 s2 []] (.slice (some ⟨b, 0, none⟩) 2 2) := by
  refine .mk [.mk k1 p1 n1 s1 [], .mk k2 p2 n2 s2 []] (some ⟨b, 0, none⟩) 2 (fun _ => .slice none 0 0) (by simp) (by simp) (fun k hk => ?_) (fun k hk => ?_)
  · obtain rfl | rfl : k = 0 ∨ k = 1 := by simp at hk; omega
    · refine ⟨b, 0, rfl, hS, hl1, ?_, ?_, ?_, ?_, ?_⟩
      all_goals rw [cell_of_row w b _ _ _ (0, 0) h]; rfl
    · refine ⟨b, 0, rfl, hS, hl2, ?_, ?_, ?_, ?_, ?_⟩
      all_goals rw [cell_of_row w b _ _ _ (0, 0) h]; rfl
  · obtain rfl | rfl : k = 0 ∨ k = 1 := by simp at hk; omega
    · exact exs_nil _ _
    · exact exs_nil _ _
theorem sms_one {w : World} {S : Nat → Prop} {b : Nat} {e : Sm} {v1 v2 v3 : Value} (hS : S b) (hl : e.name.length ≤ 140737488355328) (ht : e.type.length ≤ 140737488355328)
    (h : w.heap[b]? = some (.cells #[.int .i64 e.kind, .int .i64 e.pl, .string (strOf e.name), .string (strOf e.type), v1, v2, v3] 39 (0, 0))) (h1 : IsExs w S e.exprs v1) (h2 : IsSms w S e.body v2) (h3 : IsSms w S e.els v3) : IsSms w S [e] (.slice (some ⟨b, 0, none⟩) 1 1) := by
  refine .mk [e] (some ⟨b, 0, none⟩) 1 (fun _ => v1) (fun _ => v2) (fun _ => v3) (by simp) (by simp) (fun k hk => ?_) (fun k hk => ?_) (fun k hk => ?_) (fun k hk => ?_)
  · obtain rfl : k = 0 := by simp at hk; omega
    refine ⟨b, 0, rfl, hS, hl, ht, ?_, ?_, ?_, ?_, ?_, ?_, ?_⟩
    all_goals rw [cell_of_row w b _ _ _ (0, 0) h]; rfl
  · obtain rfl : k = 0 := by simp at hk; omega
    exact h1
  · obtain rfl : k = 0 := by simp at hk; omega
    exact h2
  · obtain rfl : k = 0 := by simp at hk; omega
    exact h3
theorem dcs_one {w : World} {S : Nat → Prop} {b : Nat} {e : Dc} {v1 v2 : Value} (hS : S b) (hl : e.name.length ≤ 140737488355328) (ht : e.type.length ≤ 140737488355328)
    (h : w.heap[b]? = some (.cells #[.int .i64 e.kind, .int .i64 e.pl, .int .i64 e.num, .string (strOf e.name), .string (strOf e.type), v1, v2] 42 (0, 0))) (h1 : PrsIn w S e.pairs v1) (h2 : IsSms w S e.body v2) : DcsIn w S [e] (.slice (some ⟨b, 0, none⟩) 1 1) := by
  refine ⟨some ⟨b, 0, none⟩, 1, fun _ => v1, fun _ => v2, rfl, by simp, by simp, fun k hk => ?_, fun k hk => ?_, fun k hk => ?_⟩
  · obtain rfl : k = 0 := by simp at hk; omega
    refine ⟨b, 0, rfl, hS, hl, ht, ?_, ?_, ?_, ?_, ?_, ?_, ?_⟩
    all_goals rw [cell_of_row w b _ _ _ (0, 0) h]; rfl
  · obtain rfl : k = 0 := by simp at hk; omega
    exact h1
  · obtain rfl : k = 0 := by simp at hk; omega
    exact h2
end Go.Proofs.YtihjdfbdpcghdaaDoor
end
section
set_option linter.unusedVariables false
namespace Go.Proofs.YtihjdfbdpcghdaaDoor
open Go.RowKit
structure Vd where
  p : Value
  b : Value
def dcCells (s : Dc) (f : Vd) : List Value := [.int .i64 s.kind, .int .i64 s.pl, .int .i64 s.num, .string (strOf s.name), .string (strOf s.type), f.p, f.b]
def dcsV : List Dc → List Vd → List Value
  | s :: ss, f :: fs => dcCells s f ++ dcsV ss fs
  | _, _ => []
theorem PrsIn.one {w : World} {S : Nat → Prop} {ps : List Pr} {v : Value} (h : PrsIn w S ps v) : v.oneCell' = true := by
  obtain ⟨A, c, rfl, _⟩ := h; rfl
def DcIn (w : World) (S : Nat → Prop) (s : Dc) (f : Vd) : Prop := s.name.length ≤ 140737488355328 ∧ s.type.length ≤ 140737488355328 ∧ PrsIn w S s.pairs f.p ∧ IsSms w S s.body f.b
theorem DcIn.keep {w w' : World} {S S' : Nat → Prop} {s : Dc} {f : Vd} (h : DcIn w S s f) (hw : ∀ b, S b → w'.heap[b]? = w.heap[b]?) (hS : ∀ b, S b → S' b) : DcIn w' S' s f :=
  ⟨h.1, h.2.1, h.2.2.1.keep hw hS, h.2.2.2.keep hw hS⟩
def OwnDc (w : World) (base : Nat) (v : Value) (ss : List Dc) : Prop :=
  ∃ fs : List Vd, ss.length = fs.length ∧ w.ownsRow base 42 7 v ss.length (dcsV ss fs) ∧
    ∀ (k : Nat) (hk : k < ss.length) (hk' : k < fs.length), DcIn w (fun b => base ≤ b ∧ b < w.heap.size ∧ v.ownBlock ≠ some b) ss[k] fs[k]
theorem OwnDc.lt {w : World} {base : Nat} {v : Value} {ss : List Dc} (h : OwnDc w base v ss) {b : Nat} (hb : v.ownBlock = some b) : base ≤ b ∧ b < w.heap.size := by
  obtain ⟨fs, _, hown, _⟩ := h
  exact hown.lt b hb
theorem OwnDc.below {w w' : World} {base : Nat} {v : Value} {ss : List Dc} (h : OwnDc w base v ss) (hb : Below w.heap.size w w') : OwnDc w' base v ss := by
  obtain ⟨fs, hl, hown, hin⟩ := h
  refine ⟨fs, hl, ?_, fun k hk hk' => (hin k hk hk').keep (fun b hb2 => hb.block b hb2.2.1) (fun b hb2 => ⟨hb2.1, Nat.lt_of_lt_of_le hb2.2.1 hb.size, hb2.2.2⟩)⟩
  rcases hown with ⟨h1, h2 | ⟨g, cap, cur, hv, hbg, hg, h3⟩⟩
  · exact ⟨h1, .inl h2⟩
  · refine ⟨h1, .inr ⟨g, cap, cur, hv, hbg, ?_, h3⟩⟩
    have hlt : g < w.heap.size := by
      rcases Nat.lt_or_ge g w.heap.size with hlt | hge
      · exact hlt
      · rw [Array.getElem?_eq_none hge] at hg; cases hg
    exact (hb.block g hlt).trans hg
theorem OwnDc.none (w : World) (base : Nat) : OwnDc w base (.slice none 0 0) [] :=
  ⟨[], rfl, World.ownsRow_nil _ _ _ _, fun k hk => absurd hk (by simp)⟩
end Go.Proofs.YtihjdfbdpcghdaaDoor
end
section
set_option linter.unusedVariables false
namespace Go.Proofs.YtihjdfbdpcghdaaDoor
open Go.RowKit
def OneBlk (w : World) (g : Nat) (u : Value) : Prop := w.heap[g]? = some (.cells #[u] 45 (0, 0))
section
variable {w w' : World} {g B : Nat} {u : Value}
theorem OneBlk.new (w : World) (u : Value) : OneBlk (w.alloc (.cells #[u] 45)) w.heap.size u := heap_alloc_new w _
theorem OneBlk.below (h : OneBlk w g u) (hb : Below B w w') (hg : g < B) : OneBlk w' g u := (hb.block g hg).trans h
theorem OneBlk.c0 (h : OneBlk w g u) : w.cell? ⟨g, 0, none⟩ = some u := by rw [cell_of_row w g 0 _ _ (0, 0) h]; rfl
theorem OneBlk.fr (h : OneBlk w g u) (j : Nat) : w.frozen? ⟨g, j, none⟩ = false := frozen_of_row w g j _ _ h
end
end Go.Proofs.YtihjdfbdpcghdaaDoor
end
section
set_option linter.unusedVariables false
namespace Go.Proofs.YtihjdfbdpcghdaaDoor
open Go.RowKit
mutual
theorem weigh_pos : ∀ (e : Ex) (m d : Int), 0 ≤ m → 1 ≤ weigh e m d
  | .mk k p n s xs, m, d, h => by
    rw [weigh]
    split
    · omega
    · have := weighs_mono xs (1 + (s.length : Int)) m d
      omega
theorem weighs_mono : ∀ (es : List Ex) (n m d : Int), n ≤ weighs es n m d
  | [], n, m, d => by rw [weighs]; exact Int.le_refl _
  | e :: es, n, m, d => by
    rw [weighs]
    split
    · rename_i hle
      have h1 := weigh_pos e (m - n) (d - 1) (by omega)
      have h2 := weighs_mono es (n + weigh e (m - n) (d - 1)) m d
      omega
    · exact Int.le_refl _
end
mutual
theorem weigh_light : ∀ (e : Ex) (m d cd : Int) (N : Nat), weigh e m d ≤ m → 0 ≤ d → d ≤ cd → m ≤ (N : Int) → smallE N e ∧ copyE e cd = e
  | .mk k p n s xs, m, d, cd, N, h, h0, h1, h2 => by
    rw [weigh] at h
    rw [smallE, copyE]
    split at h
    · omega
    · rename_i hne
      have hm := weighs_mono xs (1 + (s.length : Int)) m d
      cases xs with
      | nil => exact ⟨⟨by omega, by simp, by rw [smallEs]; trivial⟩, by rw [copyEs]⟩
      | cons x xs =>
        have hd : 0 < d := by
          rcases Int.lt_or_le 0 d with h3 | h3
          · exact h3
          · exact absurd ⟨by omega, by simp⟩ hne
        obtain ⟨a1, a2, a3⟩ := weighs_light (x :: xs) (1 + (s.length : Int)) m d cd N h (by omega) hd h1 h2
        exact ⟨⟨by omega, by omega, a2⟩, by rw [a3]⟩
theorem weighs_light : ∀ (es : List Ex) (n m d cd : Int) (N : Nat), weighs es n m d ≤ m → 0 ≤ n → 0 < d → d ≤ cd → m ≤ (N : Int) → n + (es.length : Int) ≤ m ∧ smallEs N es ∧ copyEs es cd = es
  | [], n, m, d, cd, N, h, h0, h1, h2, h3 => by
    rw [weighs] at h
    exact ⟨by simpa using h, by rw [smallEs]; trivial, by rw [copyEs]⟩
  | e :: es, n, m, d, cd, N, h, h0, h1, h2, h3 => by
    rw [weighs] at h
    split at h
    · rename_i hle
      have p1 := weigh_pos e (m - n) (d - 1) (by omega)
      have p2 := weighs_mono es (n + weigh e (m - n) (d - 1)) m d
      obtain ⟨a1, a2⟩ := weigh_light e (m - n) (d - 1) (cd - 1) N (by omega) (by omega) (by omega) (by omega)
      obtain ⟨b1, b2, b3⟩ := weighs_light es _ m d cd N h (by omega) h1 h2 h3
      refine ⟨by simp; omega, by rw [smallEs]; exact ⟨a1, b2⟩, by rw [copyEs, if_pos (by omega), a2, b3]⟩
    · omega
end
end Go.Proofs.YtihjdfbdpcghdaaDoor
end
section
set_option linter.unusedVariables false
set_option maxRecDepth 100000
namespace Go.Proofs.YtihjdfbdpcghdaaDoor
open Go Go.RowKit
def laidL : List (String × DataW Unit) := [("math/bits.deBruijn32tab", Rows.laid_math_bits_deBruijn32tab), ("math/bits.deBruijn64tab", Rows.laid_math_bits_deBruijn64tab), ("internal/strconv.uint64pow10", Rows.laid_internal_strconv_uint64pow10)]
theorem ownKnob_none : ownKnob Tryd.prog.godebug = none := by kernel_rfl
theorem laid_is : (Rows.laid_internal_strconv_uint64pow10 : DataW Unit) = Lib.tabData .u64 Lib.pow10Tab := by kernel_rfl
theorem tabW_of_laid {W : World} (h : laidMetH Tryd.prog laidL W) : TabW W := by
  have h1 : laidMet Tryd.prog laidL W := h
  have h2 : laidMet Tryd.prog [("internal/strconv.uint64pow10", Lib.tabData .u64 Lib.pow10Tab)] W := by
    rw [← laid_is]; exact h1.tail.tail
  exact Lib.tabIs_of_head (g := 0) (t := 113) (e := 106) (n := 20) (by kernel_rfl) (by kernel_rfl) (by kernel_rfl) (by kernel_rfl) (by kernel_rfl) (by kernel_rfl) h2
theorem door_met (os : Os) (args : Array Value) : laidMetH Tryd.prog laidL ((World.doorLaid Tryd.prog 200 os).forCall (fun _ _ => 0) ⟨#[], args, []⟩).memory :=
  laidMetH_of_parts3 (fuel := 8) (laidMet_of_run' 8 (by kernel_rfl) (by kernel_rfl)) (by kernel_rfl) (by kernel_rfl)
end Go.Proofs.YtihjdfbdpcghdaaDoor
end
section
namespace Go.Proofs.YtihjdfbdpcghdaaDoor
open Go.ChangeShapes Go.WideShapes Go.ChangeAt Go.RowKit
theorem Tryd.own : ownKnob Tryd.prog.godebug = none := by kernel_rfl
theorem Tryd.laidOut : laidOutB Tryd.prog = true := by kernel_rfl
theorem shut_true {H : Type} {enc : TypeId × Value → H} {W : World} {base : Nat} {sp : Nat → Bool} {held : Bool} (b : Bool) : DataW.Trod enc Tryd.prog W base sp held 4 (.bool b) (.lit (.bool b)) [] :=
  ⟨1, by simp [DataW.trod, Value.cells, Tryd.underlying4]⟩
end Go.Proofs.YtihjdfbdpcghdaaDoor
end
section
set_option linter.unusedVariables false
set_option maxRecDepth 100000
namespace Go.Proofs.YtihjdfbdpcghdaaDoor
open Go.RowKit
theorem cells_get {w : World} {base : Nat} {a : Addr} {n : Nat} {cs : List Value} (h : w.cells? base a n = some cs) : cs.length = n ∧ ∀ i, i < n → w.cell? (a.add i) = cs[i]? := by
  unfold World.cells? at h
  split at h
  · have h1 := mapM_some_length h
    refine ⟨by simpa using h1, fun i hi => ?_⟩
    have := mapM_some_get h i i (by simp [hi])
    exact this
  · cases h
theorem cell_lt {w : World} {a : Addr} {v : Value} (h : w.cell? a = some v) : a.block < w.heap.size ∧ a.spot = none := by
  unfold World.cell? at h
  split at h
  · rename_i c e z hc
    refine ⟨?_, ?_⟩
    · rcases Nat.lt_or_ge a.block w.heap.size with h1 | h1
      · exact h1
      · rw [Array.getElem?_eq_none h1] at hc; cases hc
    · split at h
      · cases h
      · rename_i hs
        cases hsp : a.spot with
        | none => rfl
        | some q => rw [hsp] at hs; simp at hs
  · cases h
theorem weightsAll_mem {H : Type} {P : Program} {e : TypeId} : ∀ {ds : List (DataW H)} {d : DataW H} {x : Nat}, d ∈ ds → x ∈ DataW.weights P e d → x ∈ DataW.weightsAll P e ds
  | d0 :: ds, d, x, hd, hx => by
    rw [DataW.weightsAll]
    rcases List.mem_cons.1 hd with rfl | hd
    · exact List.mem_append_left _ hx
    · exact List.mem_append_right _ (weightsAll_mem hd hx)
theorem strOf_back (s : ByteArray) : strOf s.data.toList = s := by
  cases s
  simp [strOf]
theorem trod_struct_5 {H : Type} {enc : TypeId × Value → H} {P : Program} {w : World} {base : Nat} {spare : Nat → Bool} {held : Bool} {t : TypeId} {f0 f1 f2 f3 f4 : Field} {fuel : Nat} {cs : List Value} {x : DataW H × List MemPlace}
    (ht : P.underlying t = some (.struct #[f0, f1, f2, f3, f4])) (h : DataW.trod enc P w base spare held fuel t cs = some x) :
    ∃ (x0 x1 x2 x3 x4 : DataW H × List MemPlace) (n : Nat), fuel = n + 1 ∧ x.1 = .agg [x0.1, x1.1, x2.1, x3.1, x4.1] ∧ cs.length = P.cellsOf t ∧ DataW.trod enc P w base spare held n f0.type ((cs.drop f0.offset).take (P.cellsOf f0.type)) = some x0 ∧ DataW.trod enc P w base spare held n f1.type ((cs.drop f1.offset).take (P.cellsOf f1.type)) = some x1 ∧ DataW.trod enc P w base spare held n f2.type ((cs.drop f2.offset).take (P.cellsOf f2.type)) = some x2 ∧ DataW.trod enc P w base spare held n f3.type ((cs.drop f3.offset).take (P.cellsOf f3.type)) = some x3 ∧ DataW.trod enc P w base spare held n f4.type ((cs.drop f4.offset).take (P.cellsOf f4.type)) = some x4 := by
  obtain ⟨xs, n, hn, rfl, hl, hlen, hf⟩ := DataW.trod_struct ht h
  match xs, hlen with
  | [x0, x1, x2, x3, x4], _ => exact ⟨x0, x1, x2, x3, x4, n, hn, rfl, hl, hf 0 f0 rfl, hf 1 f1 rfl, hf 2 f2 rfl, hf 3 f3 rfl, hf 4 f4 rfl⟩
def ExAt (w : World) (cs : List Value) (e : Ex) (v : Value) : Prop := cs = exCells e v ∧ e.name.length ≤ 140737488355328 ∧ IsExs w (· < w.heap.size) e.args v
theorem opens_ex {H : Type} {enc : TypeId × Value → H} {w : World} {base : Nat} {spare : Nat → Bool} {held : Bool} : ∀ (fuel : Nat) (v : Value) (x : DataW H × List MemPlace),
    DataW.trod enc Tryd.prog w base spare held fuel 22 [v] = some x → (∀ y ∈ DataW.weights Tryd.prog 22 x.1, y ≤ 140737488355328) → ∃ es, IsExs w (· < w.heap.size) es v := by
  intro fuel
  induction fuel using Nat.strongRecOn with
  | _ fuel ih =>
    intro v x h hwt
    rcases DataW.trod_slice Tryd.underlying22 h with ⟨hcs, hx⟩ | ⟨a, len, cap, elems, rest, n, hfu, hcs, hx, hbase, hlc, hcap, hlen, hel, -, -⟩
    · obtain rfl : v = .slice none 0 0 := by simpa using hcs
      exact ⟨[], .mk [] none 0 (fun _ => undef) (Nat.le_refl _) (by omega) (fun k hk => absurd hk (by simp)) (fun k hk => absurd hk (by simp))⟩
    · obtain rfl : v = .slice (some a) len cap := by simpa using hcs
      have hone : ∀ i, i < len → ∃ (cs : List Value) (e : Ex) (u : Value), w.cells? base (a.add (i * 5)) 5 = some cs ∧ ExAt w cs e u := by
        intro i hi
        have h1 := hel i hi
        have hie : i < elems.length := by omega
        rw [List.getElem?_eq_getElem hie] at h1
        rw [show Tryd.prog.cellsOf 24 = 5 from by kernel_rfl] at h1
        obtain ⟨cs, h2, h3⟩ := Option.bind_eq_some_iff.1 h1
        refine ⟨cs, ?_⟩
        have hcl := cells_get h2
        obtain ⟨x0, x1, x2, x3, x4, m, hm, hx1, hl, f0, f1, f2, f3, f4⟩ := trod_struct_5 Tryd.underlying24 h3
        rw [show Tryd.prog.cellsOf 24 = 5 from by kernel_rfl] at hl
        obtain ⟨c0, c1, c2, c3, c4, rfl⟩ : ∃ x0 x1 x2 x3 x4, cs = [x0, x1, x2, x3, x4] := by
          match cs, hl with
          | [x0, x1, x2, x3, x4], _ => exact ⟨x0, x1, x2, x3, x4, rfl⟩
        simp only [show Tryd.prog.cellsOf 3 = 1 from by kernel_rfl, show Tryd.prog.cellsOf 9 = 1 from by kernel_rfl, show Tryd.prog.cellsOf 22 = 1 from by kernel_rfl, List.drop_zero, List.drop_succ_cons, List.take_succ_cons, List.take_zero] at f0 f1 f2 f3 f4
        obtain ⟨k0, hk0, -, -⟩ := DataW.trod_int Tryd.underlying3 f0
        obtain ⟨k1, hk1, -, -⟩ := DataW.trod_int Tryd.underlying3 f1
        obtain ⟨k2, hk2, -, -⟩ := DataW.trod_int Tryd.underlying3 f2
        obtain ⟨s3, hk3, hx3, -⟩ := DataW.trod_string Tryd.underlying9 f3
        obtain rfl : c0 = .int .i64 k0 := by simpa using hk0
        obtain rfl : c1 = .int .i64 k1 := by simpa using hk1
        obtain rfl : c2 = .int .i64 k2 := by simpa using hk2
        obtain rfl : c3 = .string s3 := by simpa using hk3
        have hw1 : ∀ y ∈ DataW.weights Tryd.prog 24 elems[i].1, y ≤ 140737488355328 := fun y hy => by
          refine hwt y ?_
          rw [hx]
          simp only [DataW.weights, Tryd.underlying22]
          exact List.mem_cons_of_mem _ (List.mem_append_left _ (weightsAll_mem (List.mem_map_of_mem (List.getElem_mem hie)) hy))
        rw [hx1] at hw1
        simp only [DataW.weights, Tryd.underlying24, List.map_cons, List.map_nil, DataW.weightsEach, List.append_nil] at hw1
        have hw3 : s3.data.toList.length ≤ 140737488355328 := hw1 _ (by simp [hx3, DataW.weights])
        obtain ⟨es, hes⟩ := ih m (by omega) c4 x4 f4 (fun y hy => hw1 y (by simp [hy]))
        exact ⟨.mk k0 k1 k2 s3.data.toList es, c4, h2, by simp [exCells, Ex.kind, Ex.pl, Ex.num, Ex.name, strOf_back], hw3, hes⟩
      have htot : ∀ i, ∃ p : Ex × Value, i < len → ∃ cs, w.cells? base (a.add (i * 5)) 5 = some cs ∧ ExAt w cs p.1 p.2 := fun i => by
        by_cases hi : i < len
        · obtain ⟨cs, e, u, h1, h2⟩ := hone i hi
          exact ⟨(e, u), fun _ => ⟨cs, h1, h2⟩⟩
        · exact ⟨(.mk 0 0 0 [] [], undef), fun h => absurd h hi⟩
      obtain ⟨F, hF⟩ := Classical.axiomOfChoice htot
      have hl : ((List.range len).map fun i => (F i).1).length = len := by simp
      have hget : ∀ (k : Nat) (hk : k < ((List.range len).map fun i => (F i).1).length), ((List.range len).map fun i => (F i).1)[k] = (F k).1 := fun k hk => by simp
      refine ⟨(List.range len).map fun i => (F i).1, ?_⟩
      have hmk := IsExs.mk (w := w) (S := (· < w.heap.size)) ((List.range len).map fun i => (F i).1) (some a) cap (fun i => (F i).2) (by rw [hl]; exact hlc) (by unfold maxLen at hcap; omega) (fun k hk => ?_) (fun k hk => ?_)
      · rw [hl] at hmk
        exact hmk
      · rw [hget k hk]
        obtain ⟨cs, h1, h2, h3, h4⟩ := hF k (by rw [hl] at hk; exact hk)
        have hc := (cells_get h1).2
        rw [h2] at hc
        have hc0 := hc 0 (by omega)
        have hc1 := hc 1 (by omega)
        have hc2 := hc 2 (by omega)
        have hc3 := hc 3 (by omega)
        have hc4 := hc 4 (by omega)
        have hsp : a.spot = none := by
          obtain ⟨cs0, g1, g2, _⟩ := hF 0 (by rw [hl] at hk; omega)
          have := (cell_lt (((cells_get g1).2 0 (by omega)).trans (show cs0[0]? = some (.int .i64 (F 0).1.kind) from by rw [g2]; rfl))).2
          simpa [Addr.add] using this
        obtain ⟨b, off, rfl⟩ : ∃ b off, a = ⟨b, off, none⟩ := ⟨a.block, a.off, by cases a; simp at hsp; rw [hsp]⟩
        simp only [add_pl] at hc0 hc1 hc2 hc3 hc4
        have hb := (cell_lt (hc0.trans (show (exCells (F k).1 (F k).2)[0]? = some (.int .i64 (F k).1.kind) from rfl))).1
        exact ⟨b, off, rfl, hb, h3, hc0, hc1, hc2, hc3, hc4⟩
      · rw [hget k hk]
        obtain ⟨cs, h1, h2, h3, h4⟩ := hF k (by rw [hl] at hk; exact hk)
        exact h4
end Go.Proofs.YtihjdfbdpcghdaaDoor
end
section
set_option linter.unusedVariables false
set_option maxRecDepth 100000
namespace Go.Proofs.YtihjdfbdpcghdaaDoor
open Go Go.ChangeShapes Go.WideShapes Go.ChangeAt Go.ChangeMaps Go.RowKit
theorem expr_agg {W : World} {r : Reach} {base : Nat} {v : Value} (h : Value.okWide Tryd.prog W r base 24 v) : ∃ a b c d e, v = .agg #[a, b, c, d, e] := by
  obtain ⟨cs, rfl, hs⟩ := okWide_struct Tryd.underlying24 h
  rw [show Tryd.prog.cellsOf 24 = 5 from by kernel_rfl] at hs
  match cs, hs with
  | ⟨[a, b, c, d, e]⟩, _ => exact ⟨a, b, c, d, e, rfl⟩
theorem weights_two {H : Type} {P : Program} {t t1 : TypeId} {d d1 : DataW H} {ts : List TypeId} {l : List (DataW H)} {y : Nat} (hts : ts = [t, t1]) (hl : l = [d, d1]) (hy : y ∈ DataW.weights P t d) : y ∈ DataW.weightsEach P ts l := by
  subst hts hl
  simp [DataW.weightsEach, hy]
theorem weight_le {x : Nat} (h : x ≤ reachBytes) : x ≤ 140737488355328 := by unfold reachBytes at h; omega
end Go.Proofs.YtihjdfbdpcghdaaDoor
end
section
set_option linter.unusedVariables false
set_option maxRecDepth 100000
namespace Go.Proofs.YtihjdfbdpcghdaaDoor
open Go Go.ChangeShapes Go.WideShapes Go.ChangeAt Go.ChangeMaps Go.RowKit
theorem opens_expr {H : Type} {enc : TypeId × Value → H} {w : World} {base : Nat} {spare : Nat → Bool} {held : Bool} {v : Value} {d : DataW H} {ps : List MemPlace}
    (h : DataW.Trod enc Tryd.prog w base spare held 24 v d ps) (hv : ∃ a b c d e, v = .agg #[a, b, c, d, e]) (hwt : ∀ y ∈ DataW.weights Tryd.prog 24 d, y ≤ 140737488355328) :
    ∃ (x : Ex) (u : Value), v = .agg #[.int .i64 x.kind, .int .i64 x.pl, .int .i64 x.num, .string (strOf x.name), u] ∧ x.name.length ≤ 140737488355328 ∧ IsExs w (· < w.heap.size) x.args u := by
  obtain ⟨a, b, c, e, f, rfl⟩ := hv
  obtain ⟨fuel, h⟩ := h
  obtain ⟨x0, x1, x2, x3, x4, m, hm, hx1, hl, f0, f1, f2, f3, f4⟩ := trod_struct_5 Tryd.underlying24 h
  have hx' : d = .agg [x0.1, x1.1, x2.1, x3.1, x4.1] := hx1
  rw [hx'] at hwt
  simp only [DataW.weights, Tryd.underlying24, List.map_cons, List.map_nil, DataW.weightsEach, List.append_nil] at hwt
  rw [show Tryd.prog.cellsOf 24 = 5 from by kernel_rfl] at hl
  have hc : (Value.agg #[a, b, c, e, f]).cells.toList = [a, b, c, e, f] := by simp [Value.cells]
  rw [hc] at f0 f1 f2 f3 f4
  simp only [show Tryd.prog.cellsOf 3 = 1 from by kernel_rfl, show Tryd.prog.cellsOf 9 = 1 from by kernel_rfl, show Tryd.prog.cellsOf 22 = 1 from by kernel_rfl, List.drop_zero, List.drop_succ_cons, List.take_succ_cons, List.take_zero] at f0 f1 f2 f3 f4
  obtain ⟨k0, hk0, -, -⟩ := DataW.trod_int Tryd.underlying3 f0
  obtain ⟨k1, hk1, -, -⟩ := DataW.trod_int Tryd.underlying3 f1
  obtain ⟨k2, hk2, -, -⟩ := DataW.trod_int Tryd.underlying3 f2
  obtain ⟨s3, hk3, hx3, -⟩ := DataW.trod_string Tryd.underlying9 f3
  obtain rfl : a = .int .i64 k0 := by simpa using hk0
  obtain rfl : b = .int .i64 k1 := by simpa using hk1
  obtain rfl : c = .int .i64 k2 := by simpa using hk2
  obtain rfl : e = .string s3 := by simpa using hk3
  have hw3 : s3.data.toList.length ≤ 140737488355328 := hwt _ (by simp [hx3, DataW.weights])
  obtain ⟨es, hes⟩ := opens_ex m f x4 f4 (fun y hy => hwt y (by simp [hy]))
  exact ⟨.mk k0 k1 k2 s3.data.toList es, f, by simp [Ex.kind, Ex.pl, Ex.num, Ex.name, strOf_back], hw3, hes⟩
end Go.Proofs.YtihjdfbdpcghdaaDoor
end
