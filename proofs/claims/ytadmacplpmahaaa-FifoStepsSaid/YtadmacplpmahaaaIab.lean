/- A queue of the program: Put, Get. -/
import Derived.Test.YtadmacplpmahaaaIaa
set_option linter.unusedVariables false
set_option linter.unusedSimpArgs false
namespace Go.Proofs.Ytadmacplpmahaaa
open Go.RowKit Go.Conc

theorem push_rows (xs : List Int) (v : Int) : (xs.map vI).toArray.push (.int .i64 v) = ((xs ++ [v]).map vI).toArray := by simp [vI]
theorem rows_size (xs : List Int) : (xs.map vI).toArray.size = xs.length := by simp
theorem rest_rows (x : Int) (xs : List Int) : ((x :: xs).map vI).toArray.extract 1 ((x :: xs).map vI).toArray.size = (xs.map vI).toArray := by
  simp
  rw [List.take_of_length_le (by simp)]

set_option maxRecDepth 100000 in
theorem put_room_ {w : World} {B h c cap : Nat} {xs : List Int} (X : QAt w B h c cap xs) (v : Int) (hr : xs.length < cap) (V : Array Value) (hV : (xs.map vI).toArray.push (.int .i64 v) = V) :
    Calls Try.prog 10 #[.pointer (some ⟨h, 0, none⟩), .int .i64 v] w fun e w' => e = .returned (.bool true) ∧ ∃ s r, w' = w.setChan c cap V false s r false := by
  obtain ⟨s, r, hc⟩ := X.chan
  have hcell := X.cell
  have hlt := X.hlt
  refine calls_of_loneTo fun cs => ?_
  have e : Frame.enter Try.prog 10 #[.pointer (some ⟨h, 0, none⟩), .int .i64 v] .normal = (base 10).at ⟨#[.pointer (some ⟨h, 0, none⟩), .int .i64 v, undef, undef, undef, undef, undef, undef, undef, undef, undef, undef, undef], []⟩ [.code (Try.f10.body.getD .skip)] := by
    simp [Frame.enter, Frame.at, Try.func10, base, Try.f10]
  rw [e]
  refine LoneTo.goes (n := 40) ?_
  simp only [Try.f10, Option.getD_some]
  s_c stepG_seq
  s_reg
  s_op
  s_c stepG_region_end
  s_c stepG_seq
  s_c stepG_seq
  s_reg
  s_op
  s_op
  s_op
  s_op
  s_c stepG_region_end
  s_reg
  s_op
  s_c stepG_region_end
  s_c stepG_seq
  s_reg
  s_stop
  refine LoneTo.step (step_lone_select_send_room (c := c) (cap := cap) (buf := (xs.map vI).toArray) (s := s) (r := r) (tm := false) (v := .int .i64 v) (z' := .int .i64 0)
    (stepG_comm (cases := #[scase c (.int .i64 v) (.int .i64 0)]) (blocking := false) (shape := .select) (w' := w) rfl rfl (by decide) (by simp [go_sem, execOp, scase, Act.eval])) hc (by rw [rows_size]; exact hr)) ?_
  rw [Frame.finish_at, hV]
  walk_nrm
  refine LoneTo.goes (n := 40) ?_
  s_op
  s_op
  s_c stepG_region_end
  s_c stepG_block
  s_cond true
  s_c stepG_seq
  s_reg
  s_op
  s_c stepG_region_end
  s_c stepG_ret'
  s_stop
  refine LoneTo.done ⟨.returned (.bool true), _, rfl, ⟨rfl, _, _, rfl⟩, rfl, rfl, rfl, rfl, _, Try.func10, by simp [results, Try.f10, Frame.at]⟩

set_option maxRecDepth 100000 in
theorem put_full_ {w : World} {B h c cap : Nat} {xs : List Int} (X : QAt w B h c cap xs) (v : Int) (hr : cap ≤ xs.length) :
    Calls Try.prog 10 #[.pointer (some ⟨h, 0, none⟩), .int .i64 v] w fun e w' => e = .returned (.bool false) ∧ w = w' := by
  obtain ⟨s, r, hc⟩ := X.chan
  have hcell := X.cell
  have hlt := X.hlt
  refine calls_of_loneTo fun cs => ?_
  have e : Frame.enter Try.prog 10 #[.pointer (some ⟨h, 0, none⟩), .int .i64 v] .normal = (base 10).at ⟨#[.pointer (some ⟨h, 0, none⟩), .int .i64 v, undef, undef, undef, undef, undef, undef, undef, undef, undef, undef, undef], []⟩ [.code (Try.f10.body.getD .skip)] := by
    simp [Frame.enter, Frame.at, Try.func10, base, Try.f10]
  rw [e]
  refine LoneTo.goes (n := 40) ?_
  simp only [Try.f10, Option.getD_some]
  s_c stepG_seq
  s_reg
  s_op
  s_c stepG_region_end
  s_c stepG_seq
  s_c stepG_seq
  s_reg
  s_op
  s_op
  s_op
  s_op
  s_c stepG_region_end
  s_reg
  s_op
  s_c stepG_region_end
  s_c stepG_seq
  s_reg
  s_stop
  refine LoneTo.step (step_lone_select_send_full (c := c) (cap := cap) (buf := (xs.map vI).toArray) (s := s) (r := r) (tm := false) (v := .int .i64 v) (z' := .int .i64 0)
    (stepG_comm (cases := #[scase c (.int .i64 v) (.int .i64 0)]) (blocking := false) (shape := .select) (w' := w) rfl rfl (by decide) (by simp [go_sem, execOp, scase, Act.eval])) hc (by rw [rows_size]; exact hr)) ?_
  rw [Frame.finish_at]
  walk_nrm
  refine LoneTo.goes (n := 40) ?_
  s_op
  s_op
  s_c stepG_region_end
  s_c stepG_block
  s_cond false
  s_c stepG_seq
  s_reg
  s_op
  s_c stepG_region_end
  s_c stepG_ret'
  s_stop
  refine LoneTo.done ⟨.returned (.bool false), _, rfl, ⟨rfl, rfl⟩, rfl, rfl, rfl, rfl, _, Try.func10, by simp [results, Try.f10, Frame.at]⟩

set_option maxRecDepth 100000 in
theorem get_some_ {w : World} {B h c cap : Nat} {x : Int} {xs : List Int} (X : QAt w B h c cap (x :: xs)) (V : Array Value) (hV : ((x :: xs).map vI).toArray.extract 1 ((x :: xs).map vI).toArray.size = V) :
    Calls Try.prog 12 #[.pointer (some ⟨h, 0, none⟩)] w fun e w' => e = .returned (.tuple #[.int .i64 x, .bool true]) ∧ ∃ s r, w' = w.setChan c cap V false s r false := by
  obtain ⟨s, r, hc⟩ := X.chan
  have hcell := X.cell
  have hlt := X.hlt
  refine calls_of_loneTo fun cs => ?_
  have e : Frame.enter Try.prog 12 #[.pointer (some ⟨h, 0, none⟩)] .normal = (base 12).at ⟨#[.pointer (some ⟨h, 0, none⟩), undef, undef, undef, undef, undef, undef, undef, undef, undef, undef, undef, undef, undef], []⟩ [.code (Try.f12.body.getD .skip)] := by
    simp [Frame.enter, Frame.at, Try.func12, base, Try.f12]
  rw [e]
  refine LoneTo.goes (n := 40) ?_
  simp only [Try.f12, Option.getD_some]
  s_c stepG_seq
  s_reg
  s_op
  s_op
  s_c stepG_region_end
  s_c stepG_seq
  s_reg
  s_op
  s_op
  s_op
  s_op
  s_c stepG_region_end
  s_c stepG_seq
  s_reg
  s_stop
  refine LoneTo.step (step_lone_select_recv_buf (c := c) (cap := cap) (buf := ((x :: xs).map vI).toArray) (s := s) (r := r) (tm := false) (closed := false) (z := .int .i64 0)
    (stepG_comm (cases := #[rcase c (.int .i64 0)]) (blocking := false) (shape := .select) (w' := w) rfl rfl (by decide) (by simp [go_sem, execOp, rcase, Act.eval])) hc (by rw [rows_size]; simp)) ?_
  rw [Frame.finish_at, hV, show ((x :: xs).map vI).toArray.getD 0 undef = .int .i64 x from rfl]
  walk_nrm
  refine LoneTo.goes (n := 40) ?_
  s_op
  s_op
  s_c stepG_region_end
  s_c stepG_block
  s_cond true
  s_c stepG_seq
  s_reg
  s_op
  s_op
  s_c stepG_region_end
  s_c stepG_seq
  s_reg
  s_op
  s_op
  s_op
  s_c stepG_region_end
  s_c stepG_ret'
  s_stop
  refine LoneTo.done ⟨.returned (.tuple #[.int .i64 x, .bool true]), _, rfl, ⟨rfl, _, _, rfl⟩, rfl, rfl, rfl, rfl, _, Try.func12, by simp [results, Try.f12, Frame.at]⟩

set_option maxRecDepth 100000 in
theorem get_none_ {w : World} {B h c cap : Nat} (X : QAt w B h c cap []) :
    Calls Try.prog 12 #[.pointer (some ⟨h, 0, none⟩)] w fun e w' => e = .returned (.tuple #[.int .i64 0, .bool false]) ∧ w = w' := by
  obtain ⟨s, r, hc⟩ := X.chan
  have hcell := X.cell
  have hlt := X.hlt
  rw [show (([] : List Int).map vI).toArray = #[] from rfl] at hc
  refine calls_of_loneTo fun cs => ?_
  have e : Frame.enter Try.prog 12 #[.pointer (some ⟨h, 0, none⟩)] .normal = (base 12).at ⟨#[.pointer (some ⟨h, 0, none⟩), undef, undef, undef, undef, undef, undef, undef, undef, undef, undef, undef, undef, undef], []⟩ [.code (Try.f12.body.getD .skip)] := by
    simp [Frame.enter, Frame.at, Try.func12, base, Try.f12]
  rw [e]
  refine LoneTo.goes (n := 40) ?_
  simp only [Try.f12, Option.getD_some]
  s_c stepG_seq
  s_reg
  s_op
  s_op
  s_c stepG_region_end
  s_c stepG_seq
  s_reg
  s_op
  s_op
  s_op
  s_op
  s_c stepG_region_end
  s_c stepG_seq
  s_reg
  s_stop
  refine LoneTo.step (step_lone_select_default (c := c) (cap := cap) (s := s) (r := r) (tm := false) (z := .int .i64 0)
    (stepG_comm (cases := #[rcase c (.int .i64 0)]) (blocking := false) (shape := .select) (w' := w) rfl rfl (by decide) (by simp [go_sem, execOp, rcase, Act.eval])) hc) ?_
  rw [Frame.finish_at]
  walk_nrm
  refine LoneTo.goes (n := 40) ?_
  s_op
  s_op
  s_c stepG_region_end
  s_c stepG_block
  s_cond false
  s_c stepG_seq
  s_reg
  s_op
  s_op
  s_c stepG_region_end
  s_c stepG_ret'
  s_stop
  refine LoneTo.done ⟨.returned (.tuple #[.int .i64 0, .bool false]), _, rfl, ⟨rfl, rfl⟩, rfl, rfl, rfl, rfl, _, Try.func12, by simp [results, Try.f12, Frame.at]⟩

/-- all blocks but o stay -/
structure Chg (o : Option Nat) (B : Nat) (w w' : World) : Prop where
  size : w.heap.size ≤ w'.heap.size
  blk : ∀ b, b < w.heap.size → o ≠ some b → w'.heap[b]? = w.heap[b]?
  bel : Below B w w'
abbrev Only (c B : Nat) (w w' : World) : Prop := Chg (some c) B w w'
theorem only_refl (o : Option Nat) (B : Nat) (w : World) : Chg o B w w := ⟨Nat.le_refl _, fun _ _ _ => rfl, Below.refl _ w⟩
theorem Chg.trans {o : Option Nat} {B : Nat} {w w' w'' : World} (h : Chg o B w w') (h' : Chg o B w' w'') : Chg o B w w'' :=
  ⟨Nat.le_trans h.size h'.size, fun b hb hn => (h'.blk b (Nat.lt_of_lt_of_le hb h.size) hn).trans (h.blk b hb hn), h.bel.trans h'.bel⟩
theorem Chg.of_below {B : Nat} {w w' : World} (h : Below w.heap.size w w') (hB : B ≤ w.heap.size) (o : Option Nat) : Chg o B w w' := ⟨h.size, fun b hb _ => h.block b hb, h.mono hB⟩
theorem Chg.drawn (o : Option Nat) (B : Nat) (w : World) (n : Nat) : Chg o B w (w.drewN n) := ⟨Nat.le_refl _, fun _ _ _ => rfl, ⟨rfl, rfl, rfl, Nat.le_refl _, fun _ _ => rfl⟩⟩
theorem QAt.drewN {w : World} {B h c cap : Nat} {xs : List Int} (X : QAt w B h c cap xs) (n : Nat) : QAt (w.drewN n) B h c cap xs := X.keep rfl rfl
theorem QAt.chg {w w' : World} {B B' h c cap : Nat} {xs : List Int} {o : Option Nat} (X : QAt w B h c cap xs) (H : Chg o B' w w') (h1 : o ≠ some h) (h2 : o ≠ some c) : QAt w' B h c cap xs := X.keep (H.blk h X.hlt h1) (H.blk c X.clt h2)
theorem only_turn {w : World} {B c : Nat} (h : B ≤ c) (cap : Nat) (V : Array Value) (s r : Nat) : Only c B w (w.setChan c cap V false s r false) :=
  ⟨Nat.le_of_eq (size_setChan _ _ _ _ _ _ _ _).symm, fun b _ hb => by simp [World.setChan, Array.getElem?_setIfInBounds_ne (show c ≠ b from fun e => hb (congrArg some e))], below_setChan (Below.refl _ w) h _ _ _ _ _ _⟩
def putM (cap : Nat) (xs : List Int) (v : Int) : List Int × Bool := if xs.length < cap then (xs ++ [v], true) else (xs, false)
def getM (xs : List Int) : List Int × Int × Bool := match xs with | [] => ([], 0, false) | x :: r => (r, x, true)
def PutQ (w : World) (B h c cap : Nat) (xs : List Int) (v : Int) (e : Ending) (w' : World) : Prop :=
  e = .returned (.bool (putM cap xs v).2) ∧ QAt w' B h c cap (putM cap xs v).1 ∧ Only c B w w'
theorem put_any {w : World} {B h c cap : Nat} {xs : List Int} (X : QAt w B h c cap xs) (v : Int) : Calls Try.prog 10 #[.pointer (some ⟨h, 0, none⟩), .int .i64 v] w (PutQ w B h c cap xs v) := by
  unfold PutQ putM
  by_cases hr : xs.length < cap
  · rw [if_pos hr]
    refine (put_room_ X v hr _ (push_rows xs v)).mono ?_
    rintro e w' ⟨rfl, s, r, rfl⟩
    exact ⟨rfl, X.turn s r (by simp; omega), only_turn X.hc _ _ _ _⟩
  · rw [if_neg hr]
    refine (put_full_ X v (by omega)).mono ?_
    rintro e w' ⟨rfl, rfl⟩
    exact ⟨rfl, X, only_refl (some c) _ _⟩
def GetQ (w : World) (B h c cap : Nat) (xs : List Int) (e : Ending) (w' : World) : Prop :=
  e = .returned (.tuple #[.int .i64 (getM xs).2.1, .bool (getM xs).2.2]) ∧ QAt w' B h c cap (getM xs).1 ∧ Only c B w w'
theorem get_any {w : World} {B h c cap : Nat} {xs : List Int} (X : QAt w B h c cap xs) : Calls Try.prog 12 #[.pointer (some ⟨h, 0, none⟩)] w (GetQ w B h c cap xs) := by
  unfold GetQ
  match xs, X with
  | [], X =>
    refine (get_none_ X).mono ?_
    rintro e w' ⟨rfl, rfl⟩
    exact ⟨rfl, X, only_refl (some c) _ _⟩
  | x :: xs, X =>
    refine (get_some_ X _ (rest_rows x xs)).mono ?_
    rintro e w' ⟨rfl, s, r, rfl⟩
    have := X.fit
    simp at this
    exact ⟨rfl, X.turn s r (by omega), only_turn X.hc _ _ _ _⟩

set_option maxRecDepth 100000 in
theorem len_any {w : World} {B h c cap : Nat} {xs : List Int} (X : QAt w B h c cap xs) : Calls Try.prog 15 #[.pointer (some ⟨h, 0, none⟩)] w fun e w' => e = .returned (.int .i64 (xs.length : Nat)) ∧ w = w' := by
  obtain ⟨s, r, hc⟩ := X.chan
  have hcell := X.cell
  have hlt := X.hlt
  have hl := fun ty => run_len_chan (P := Try.prog) 40 ty Try.underlying40 hc
  rw [rows_size] at hl
  go_enter Try.func15, Try.ntmps15
  go_wp2
  go_ret
  exact ⟨rfl, rfl⟩
set_option maxRecDepth 100000 in
theorem room_any {w : World} {B h c cap : Nat} {xs : List Int} (X : QAt w B h c cap xs) : Calls Try.prog 16 #[.pointer (some ⟨h, 0, none⟩)] w fun e w' => e = .returned (.int .i64 ((cap : Int) - (xs.length : Nat))) ∧ ∃ m, w' = w.drewN m := by
  obtain ⟨s, r, hc⟩ := X.chan
  have hcell := X.cell
  have hlt := X.hlt
  have hl : ∀ n ty, (Builtin.len_ #[40] ty #[.chan (some c)]).run Try.prog (w.drewN n) = .ok (.int .i64 (xs.length : Nat)) (w.drewN n) := fun n ty => by
    have := run_len_chan (P := Try.prog) (w := w.drewN n) 40 ty Try.underlying40 (show (w.drewN n).heap[c]? = _ from hc)
    rw [rows_size] at this
    exact this
  have hk : ∀ n ty, (Builtin.cap_ #[40] ty #[.chan (some c)]).run Try.prog (w.drewN n) = .ok (.int .i64 (cap : Nat)) (w.drewN n) := fun n ty =>
    run_cap_chan (P := Try.prog) (w := w.drewN n) 40 ty Try.underlying40 (show (w.drewN n).heap[c]? = _ from hc)
  have h1 := X.fit
  have h2 := X.hi
  go_enter Try.func16, Try.ntmps16
  go_wp2
  go_quiet (fail)
  go_wp2
  go_ret
  exact ⟨rfl, _, rfl⟩

end Go.Proofs.Ytadmacplpmahaaa
