/- Gs Ro Ra Rs Rb Rc Rd Re Dn Ua Uc Ue Uh -/
import Derived.Test.YtkmpnlbppdekaaaDoorTie
import Derived.Test.YtkmpnlbppdekaaaDoorCards
import Derived.LaidMore
import Derived.LaidOnce
import Derived.Handed
import Derived.Stop.LaidErr
import Derived.Lib.LaidTab
import Derived.SevenTiedAt
import Derived.JoinedOf
import Derived.Test.YtkmpnlbppdekaaaDoorRows
import Derived.ProofKit
import Derived.Deep.Slices
import Derived.OpenShut
import Derived.ChangeMaps5
import Derived.Shelf.Small.Strs
import Derived.Shelf.LaysM
import Derived.Shelf.Strconv.Clone
import Derived.Shelf.Strings.Search1
import Derived.Shelf.Strings.Prefix
import Derived.WalkKit
import Derived.WalkSpells
import Derived.WalkLawsBesides
import Derived.Lib.Hide
import Derived.Lib.IndexAny
import Derived.OwnWalk
import Derived.Deep.AppendLies
import Derived.Laws.AppendOwnNone
import Derived.Deep.QuietTactic
import Derived.BigQuiet
import Derived.StillTailTactics
import Derived.IntWalk
section
set_option linter.unusedVariables false
set_option maxRecDepth 100000
namespace Go.Proofs.YtkmpnlbppdekaaaDoor
open Go Go.RowKit
def laidL : List (String × DataW Unit) := [("math/bits.deBruijn32tab", Rows.laid_math_bits_deBruijn32tab), ("math/bits.deBruijn64tab", Rows.laid_math_bits_deBruijn64tab), ("internal/strconv.uint64pow10", Rows.laid_internal_strconv_uint64pow10), ("strconv.ErrRange", Rows.laid_strconv_ErrRange), ("strconv.ErrSyntax", Rows.laid_strconv_ErrSyntax)]
theorem ownKnob_none : ownKnob Tryd.prog.godebug = none := by kernel_rfl
theorem door_met (os : Os) (args : Array Value) : laidMetH Tryd.prog laidL ((World.doorLaid Tryd.prog 200 os).forCall (fun _ _ => 0) ⟨#[], args, []⟩).memory :=
  laidMetH_of_parts3 (fuel := 8) (laidMet_of_run' 8 (by kernel_rfl) (by kernel_rfl)) (by kernel_rfl) (by kernel_rfl)
end Go.Proofs.YtkmpnlbppdekaaaDoor
end
section
namespace Go.Proofs.YtkmpnlbppdekaaaDoor
open Go.ChangeShapes Go.WideShapes Go.ChangeAt Go.RowKit
theorem Tryd.own : ownKnob Tryd.prog.godebug = none := by kernel_rfl
end Go.Proofs.YtkmpnlbppdekaaaDoor
end
section
namespace Go.Proofs.YtkmpnlbppdekaaaDoor
structure Tok where
  kind : Nat
  text : List UInt8
  pl : Nat
inductive Res where
  | ok (l : List Tok)
  | err (pl e : Nat)
def Res.pre (acc : List Tok) : Res → Res
  | .ok l => .ok (acc ++ l)
  | .err p e => .err p e
theorem Res.pre_nil (x : Res) : x.pre [] = x := by cases x <;> rfl
theorem Res.pre_pre (a b : List Tok) (x : Res) : (x.pre b).pre a = x.pre (a ++ b) := by cases x <;> simp [Res.pre]
def small (c : UInt8) : Bool := decide (97 ≤ c.toNat) && decide (c.toNat ≤ 122)
def digit (c : UInt8) : Bool := decide (48 ≤ c.toNat) && decide (c.toNat ≤ 57)
def tailB (c : UInt8) : Bool := small c || digit c || c.toNat == 95
def blankB (c : UInt8) : Bool := c.toNat == 32 || c.toNat == 10
def wordsL : List (List UInt8) := [[98, 111, 111, 108], [99, 97, 108, 108], [99, 104, 97, 110], [101, 108, 115, 101], [102, 97, 108, 115, 101], [102, 117, 110, 99], [105, 102], [105, 110, 112, 117, 116], [105, 110, 116], [108, 101, 110], [108, 111, 99, 107], [109, 97, 107, 101], [110, 101, 119], [110, 105, 108], [111, 117, 116], [114, 101, 99, 118], [114, 101, 108, 101, 97, 115, 101], [114, 101, 116, 117, 114, 110], [115, 101, 110, 100], [115, 101, 116], [115, 105, 110, 107], [115, 116, 114, 117, 99, 116], [116, 104, 114, 101, 97, 100], [116, 114, 117, 101], [117, 110, 108, 111, 99, 107], [118, 97, 114], [119, 104, 105, 108, 101]]
def signsL : List UInt8 := [123, 125, 40, 41, 91, 93, 44, 59, 46, 58, 61, 43, 45, 42, 47, 37, 60, 33, 38, 124]
def isWord (t : List UInt8) : Bool := wordsL.contains t
def runOf (p : UInt8 → Bool) (l : List UInt8) : Nat := (l.takeWhile p).length
def nameLen : List UInt8 → Nat
  | [] => 0
  | c :: r => if small c then runOf tailB (c :: r) else 0
theorem nameLen_cons (c : UInt8) (r : List UInt8) : nameLen (c :: r) = if small c then runOf tailB (c :: r) else 0 := rfl
def twoB (l : List UInt8) : Bool := List.isPrefixOf [60, 61] l || List.isPrefixOf [61, 61] l || List.isPrefixOf [33, 61] l
def signLen (l : List UInt8) : Nat := if twoB l then 2 else match l with
  | [] => 0
  | c :: _ => if signsL.contains c then 1 else 0
def firstOf (l : List UInt8) : Nat × Nat :=
  if 0 < nameLen l then (if isWord (l.take (nameLen l)) then 4 else 1, nameLen l)
  else if 0 < runOf digit l then (2, runOf digit l)
  else if 0 < signLen l then (3, signLen l) else (0, 0)
def wrongOf (k : Nat) (t : List UInt8) (n : Nat) : Nat :=
  if k = 0 then 10 else if (k = 1 ∧ 16 < t.length) ∨ 4096 ≤ n then 12
  else if k = 2 ∧ (18 < t.length ∨ (1 < t.length ∧ t.head? = some 48)) then 11 else 0
def sc : List UInt8 → Nat → Nat → Nat → Res
  | [], _, _, _ => .ok []
  | _ :: r, k + 1, at_, n => sc r k (at_ + 1) n
  | c :: r, 0, at_, n =>
    if blankB c then sc r 0 (at_ + 1) n
    else if wrongOf (firstOf (c :: r)).1 ((c :: r).take (firstOf (c :: r)).2) n ≠ 0 then .err at_ (wrongOf (firstOf (c :: r)).1 ((c :: r).take (firstOf (c :: r)).2) n)
    else (sc r ((firstOf (c :: r)).2 - 1) (at_ + 1) (n + 1)).pre [⟨(firstOf (c :: r)).1, (c :: r).take (firstOf (c :: r)).2, at_⟩]
def toks (l : List UInt8) : Res := if 16384 < l.length then .err 0 12 else sc l 0 0 0
theorem sc_skip : ∀ (k : Nat) (l : List UInt8) (a n : Nat), k ≤ l.length → sc l k a n = sc (l.drop k) 0 (a + k) n
  | 0, _, _, _, _ => rfl
  | k + 1, [], _, _, h => absurd h (by simp)
  | k + 1, _ :: r, a, n, h => by
    have ih := sc_skip k r (a + 1) n (by simpa using h)
    show sc r k (a + 1) n = sc (r.drop k) 0 (a + (k + 1)) n
    rw [ih, show a + 1 + k = a + (k + 1) from by omega]
theorem sc_blank {c : UInt8} {r : List UInt8} {a n : Nat} (h : blankB c = true) : sc (c :: r) 0 a n = sc r 0 (a + 1) n := by
  rw [sc, if_pos h]
theorem sc_err {c : UInt8} {r : List UInt8} {a n : Nat} (h : blankB c = false) (he : wrongOf (firstOf (c :: r)).1 ((c :: r).take (firstOf (c :: r)).2) n ≠ 0) :
    sc (c :: r) 0 a n = .err a (wrongOf (firstOf (c :: r)).1 ((c :: r).take (firstOf (c :: r)).2) n) := by
  rw [sc, if_neg (by simp [h]), if_pos he]
theorem runOf_le (p : UInt8 → Bool) (l : List UInt8) : runOf p l ≤ l.length := by
  unfold runOf
  induction l with
  | nil => simp
  | cons c r ih =>
    rw [List.takeWhile_cons]
    split
    · simpa using ih
    · simp
theorem nameLen_le (l : List UInt8) : nameLen l ≤ l.length := by
  cases l with
  | nil => simp [nameLen]
  | cons c r =>
    show (if small c = true then runOf tailB (c :: r) else 0) ≤ _
    split
    · exact runOf_le _ _
    · simp
theorem signLen_le (l : List UInt8) : signLen l ≤ l.length := by
  unfold signLen
  split
  · rename_i h
    match l, h with
    | [], h => simp [twoB] at h
    | [c], h => simp [twoB, List.isPrefixOf] at h
    | c :: d :: r, _ => simp
  · cases l with
    | nil => simp
    | cons c r => simp only [List.length_cons]; split <;> omega
theorem firstOf_le (l : List UInt8) : (firstOf l).2 ≤ l.length := by
  unfold firstOf
  split
  · exact nameLen_le l
  · split
    · exact runOf_le _ l
    · split
      · exact signLen_le l
      · simp
theorem firstOf_zero (l : List UInt8) : (firstOf l).1 = 0 ↔ (firstOf l).2 = 0 := by
  unfold firstOf
  split
  · constructor
    · intro h; split at h <;> simp at h
    · intro h; have h' : nameLen l = 0 := h; omega
  · split
    · constructor
      · intro h; simp at h
      · intro h; have h' : runOf digit l = 0 := h; omega
    · split
      · constructor
        · intro h; simp at h
        · intro h; have h' : signLen l = 0 := h; omega
      · simp
theorem wrongOf_kind {k : Nat} {t : List UInt8} {n : Nat} (h : wrongOf k t n = 0) : k ≠ 0 := by
  intro e
  unfold wrongOf at h
  rw [if_pos e] at h
  cases h
theorem wrongOf_n {k : Nat} {t : List UInt8} {n : Nat} (h : wrongOf k t n = 0) : n < 4096 := by
  have hk := wrongOf_kind h
  unfold wrongOf at h
  rw [if_neg hk] at h
  split at h
  · cases h
  · omega
theorem sc_tok {c : UInt8} {r : List UInt8} {a n : Nat} (h : blankB c = false) (he : wrongOf (firstOf (c :: r)).1 ((c :: r).take (firstOf (c :: r)).2) n = 0) :
    sc (c :: r) 0 a n = (sc ((c :: r).drop (firstOf (c :: r)).2) 0 (a + (firstOf (c :: r)).2) (n + 1)).pre [⟨(firstOf (c :: r)).1, (c :: r).take (firstOf (c :: r)).2, a⟩] := by
  have hk := wrongOf_kind he
  have hs : (firstOf (c :: r)).2 ≠ 0 := fun e => hk ((firstOf_zero _).2 e)
  have hle := firstOf_le (c :: r)
  rw [sc, if_neg (by simp [h]), if_neg (by simp [he]), sc_skip _ _ _ _ (by simp at hle; omega)]
  generalize firstOf (c :: r) = p at hs
  obtain ⟨k, sz⟩ := p
  cases sz with
  | zero => exact absurd rfl hs
  | succ m =>
    show (sc (r.drop m) 0 (a + 1 + m) (n + 1)).pre _ = (sc (r.drop m) 0 (a + (m + 1)) (n + 1)).pre _
    rw [show a + 1 + m = a + (m + 1) from by omega]
def St (s : List UInt8) (a : Nat) (acc : List Tok) : Prop := a ≤ s.length ∧ acc.length ≤ 4096 ∧ sc s 0 0 0 = (sc (s.drop a) 0 a acc.length).pre acc
theorem St.start (s : List UInt8) : St s 0 [] := ⟨Nat.zero_le _, by simp, by rw [Res.pre_nil]; rfl⟩
theorem drop_at {s : List UInt8} {a : Nat} (h : a < s.length) : s.drop a = s[a] :: s.drop (a + 1) := List.drop_eq_getElem_cons h
theorem St.blank {s : List UInt8} {a : Nat} {acc : List Tok} (h : St s a acc) (ha : a < s.length) (hb : blankB s[a] = true) : St s (a + 1) acc := by
  refine ⟨by omega, h.2.1, h.2.2.trans ?_⟩
  rw [drop_at ha, sc_blank hb]
theorem St.err {s : List UInt8} {a : Nat} {acc : List Tok} (h : St s a acc) (ha : a < s.length) (hb : blankB s[a] = false)
    (he : wrongOf (firstOf (s.drop a)).1 ((s.drop a).take (firstOf (s.drop a)).2) acc.length ≠ 0) : sc s 0 0 0 = .err a (wrongOf (firstOf (s.drop a)).1 ((s.drop a).take (firstOf (s.drop a)).2) acc.length) := by
  rw [h.2.2]
  rw [drop_at ha] at he ⊢
  rw [sc_err hb he]
  rfl
theorem St.tok {s : List UInt8} {a : Nat} {acc : List Tok} (h : St s a acc) (ha : a < s.length) (hb : blankB s[a] = false)
    (he : wrongOf (firstOf (s.drop a)).1 ((s.drop a).take (firstOf (s.drop a)).2) acc.length = 0) :
    St s (a + (firstOf (s.drop a)).2) (acc ++ [⟨(firstOf (s.drop a)).1, (s.drop a).take (firstOf (s.drop a)).2, a⟩]) ∧ 0 < (firstOf (s.drop a)).2 := by
  have hk := wrongOf_kind he
  have hs : (firstOf (s.drop a)).2 ≠ 0 := fun e => hk ((firstOf_zero _).2 e)
  have hle := firstOf_le (s.drop a)
  have hn := wrongOf_n he
  rw [List.length_drop] at hle
  refine ⟨⟨by omega, by simp; omega, h.2.2.trans ?_⟩, by omega⟩
  rw [← List.drop_drop]
  rw [drop_at ha] at he ⊢
  rw [sc_tok hb he, Res.pre_pre]
  simp
theorem St.stop {s : List UInt8} {a : Nat} {acc : List Tok} (h : St s a acc) (ha : ¬ a < s.length) : sc s 0 0 0 = .ok acc := by
  have := h.1
  rw [h.2.2, List.drop_of_length_le (by omega)]
  simp [sc, Res.pre]
theorem runOf_go {p : UInt8 → Bool} {l : List UInt8} {k : Nat} (hk : k < l.length) (hp : p l[k] = true) : runOf p (l.drop k) = 1 + runOf p (l.drop (k + 1)) := by
  rw [List.drop_eq_getElem_cons hk]
  unfold runOf
  rw [List.takeWhile_cons, if_pos hp]
  simp; omega
theorem runOf_no {p : UInt8 → Bool} {l : List UInt8} {k : Nat} (hk : k < l.length) (hp : p l[k] = false) : runOf p (l.drop k) = 0 := by
  rw [List.drop_eq_getElem_cons hk]
  unfold runOf
  rw [List.takeWhile_cons, if_neg (by simp [hp])]
  rfl
theorem runOf_end {p : UInt8 → Bool} {l : List UInt8} {k : Nat} (hk : ¬ k < l.length) : runOf p (l.drop k) = 0 := by
  rw [List.drop_of_length_le (by omega)]
  rfl
end Go.Proofs.YtkmpnlbppdekaaaDoor
end
section
namespace Go.Proofs.YtkmpnlbppdekaaaDoor
open Go.Shelf
def lays137_ren : Go.Shelf.Ren := ⟨fun | 137 => 68 | 217 => 75 | 266 => 82 | n => n, fun | 9 => 9 | 5 => 5 | 3 => 3 | n => n, fun | n => n⟩
theorem lays137 : Go.Proofs.Lays.n137 Tryd.prog lays137_ren := {
  mixed := by kernel_rfl
  f137 := Tryd.func68.trans (congrArg some (by kernel_rfl))
  f217 := Tryd.func75.trans (congrArg some (by kernel_rfl))
  f266 := Tryd.func82.trans (congrArg some (by kernel_rfl))
  t3 := Tryd.underlying3
  a3 := Tryd.isAgg3
  z3 := Tryd.sizeOf3
  v3 := Tryd.zeroValue3
  t5 := Tryd.underlying5
  a5 := Tryd.isAgg5
  z5 := Tryd.sizeOf5
  v5 := Tryd.zeroValue5
  t9 := Tryd.underlying9
  a9 := Tryd.isAgg9
  z9 := Tryd.sizeOf9
  v9 := Tryd.zeroValue9 }
open Go.RowKit in
theorem strings_IndexByte (s : ByteArray) (c : Int) (w : World) :
    Calls Tryd.prog 68 #[.string s, .int .u8 c] w fun e w' => e = .returned (.int .i64 (Lib.indexByte s.data.toList c.toNat.toUInt8)) ∧ w' = w := Any.strings_IndexByte lays137 s c w
def laysM316_ren : Go.Shelf.Ren := ⟨fun | 316 => 56 | n => n, fun | 9 => 9 | 3 => 3 | 4 => 4 | 37 => 96 | 0 => 0 | 127 => 97 | 5 => 5 | n => n, fun | n => n⟩
theorem laysM316 : Go.Proofs.LaysM.n316 Tryd.prog laysM316_ren := {
  mixed := by kernel_rfl
  f316 := Tryd.func56.trans (congrArg some (by kernel_rfl))
  t0 := Tryd.underlying0
  a0 := Tryd.isAgg0
  z0 := Tryd.sizeOf0
  v0 := Tryd.zeroValue0
  t3 := Tryd.underlying3
  a3 := Tryd.isAgg3
  z3 := Tryd.sizeOf3
  v3 := Tryd.zeroValue3
  t4 := Tryd.underlying4
  a4 := Tryd.isAgg4
  z4 := Tryd.sizeOf4
  v4 := Tryd.zeroValue4
  t9 := Tryd.underlying9
  a9 := Tryd.isAgg9
  z9 := Tryd.sizeOf9
  v9 := Tryd.zeroValue9
  t37 := Tryd.underlying96
  a37 := Tryd.isAgg96
  z37 := Tryd.sizeOf96
  v37 := Tryd.zeroValue96
  t127 := Tryd.underlying97
  a127 := Tryd.isAgg97
  z127 := Tryd.sizeOf97
  v127 := Tryd.zeroValue97
  t5 := Tryd.underlying5
  a5 := Tryd.isAgg5
  z5 := Tryd.sizeOf5
  v5 := Tryd.zeroValue5
  i0 := by kernel_rfl
  i3 := by kernel_rfl
  i4 := by kernel_rfl
  i5 := by kernel_rfl
  i9 := by kernel_rfl
  i37 := by kernel_rfl
  i127 := by kernel_rfl }
open Go.RowKit in
theorem stringslite_Clone (s : ByteArray) (w : World) (hlim : s.size ≤ 281474976710656) :
    Calls Tryd.prog 56 #[.string s] w fun e w' => e = .returned (.string s) ∧ Below w.heap.size w w' := Any.stringslite_Clone laysM316 s w hlim
def lays99_ren : Go.Shelf.Ren := ⟨fun | 99 => 67 | 206 => 74 | n => n, fun | 9 => 9 | 4 => 4 | 3 => 3 | n => n, fun | n => n⟩
theorem lays99 : Go.Proofs.Lays.n99 Tryd.prog lays99_ren := {
  mixed := by kernel_rfl
  f99 := Tryd.func67.trans (congrArg some (by kernel_rfl))
  f206 := Tryd.func74.trans (congrArg some (by kernel_rfl))
  t3 := Tryd.underlying3
  a3 := Tryd.isAgg3
  z3 := Tryd.sizeOf3
  v3 := Tryd.zeroValue3
  t4 := Tryd.underlying4
  a4 := Tryd.isAgg4
  z4 := Tryd.sizeOf4
  v4 := Tryd.zeroValue4
  t9 := Tryd.underlying9
  a9 := Tryd.isAgg9
  z9 := Tryd.sizeOf9
  v9 := Tryd.zeroValue9 }
open Go.RowKit Go.Lib in
theorem strings_HasPrefix (s p : ByteArray) (w : World) :
    Calls Tryd.prog 67 #[.string s, .string p] w fun e w' => e = .returned (.bool (Lib.hasPrefix s.data.toList p.data.toList)) ∧ w' = w := Any.strings_HasPrefix lays99 s p w
end Go.Proofs.YtkmpnlbppdekaaaDoor
end
section
namespace Go.Proofs.YtkmpnlbppdekaaaDoor
open Go.RowKit
theorem ret_bool {a b : Bool} (h : a = b) : Ending.returned (.bool a) = .returned (.bool b) := by rw [h]
theorem ret_int {k : IntKind} {a b : Int} (h : a = b) : Ending.returned (.int k a) = .returned (.int k b) := by rw [h]
theorem isBlank_any (c : UInt8) (w : World) : Calls Tryd.prog 34 #[.int .u8 c.toNat] w fun e w' => e = .returned (.bool (blankB c)) ∧ w = w' := by
  go_enter Tryd.func34, Tryd.ntmps34
  go_wp2
  all_goals
    go_ret
    exact ⟨ret_bool (by rw [Bool.eq_iff_iff]; simp [blankB]; omega), rfl⟩
theorem isLetter_any (c : UInt8) (w : World) : Calls Tryd.prog 64 #[.int .u8 c.toNat] w fun e w' => e = .returned (.bool (small c)) ∧ w = w' := by
  go_enter Tryd.func64, Tryd.ntmps64
  go_wp2
  all_goals
    go_ret
    exact ⟨ret_bool (by rw [Bool.eq_iff_iff]; simp [small]; omega), rfl⟩
theorem isDigit_any (c : UInt8) (w : World) : Calls Tryd.prog 54 #[.int .u8 c.toNat] w fun e w' => e = .returned (.bool (digit c)) ∧ w = w' := by
  go_enter Tryd.func54, Tryd.ntmps54
  go_wp2
  all_goals
    go_ret
    exact ⟨ret_bool (by rw [Bool.eq_iff_iff]; simp [digit]; omega), rfl⟩
theorem isTail_any (c : UInt8) (w : World) : Calls Tryd.prog 65 #[.int .u8 c.toNat] w fun e w' => e = .returned (.bool (tailB c)) ∧ w = w' := by
  go_enter Tryd.func65, Tryd.ntmps65
  go_wp2_with (first
    | (go_at_call 64; refine (isLetter_any _ _).mono ?_; rintro e w' ⟨rfl, rfl⟩)
    | (go_at_call 54; refine (isDigit_any _ _).mono ?_; rintro e w' ⟨rfl, rfl⟩))
  all_goals
    go_ret
    exact ⟨ret_bool (by rw [Bool.eq_iff_iff]; simp [tailB, *]; try omega), rfl⟩
set_option maxHeartbeats 400000 in
theorem run_digit (s : ByteArray) (w : World) (hs : s.size ≤ 40000) : Calls Tryd.prog 53 #[.string s, .func (.func 54) #[] #[]] w fun e w' => e = .returned (.int .i64 (runOf digit s.data.toList)) ∧ w = w' := by
  go_enter Tryd.func53, Tryd.ntmps53
  go_wp2
  go_loop [5] (fun x => ∃ k : Nat, k ≤ s.size ∧ x = .int .i64 k ∧ Hid (k + runOf digit (s.data.toList.drop k) = runOf digit s.data.toList)) (fun x => s.size - (intOf x).toNat)
  case atStart => exact ⟨0, Nat.zero_le _, rfl, Lib.hid (by simp)⟩
  case round =>
    obtain ⟨k, hk, rfl, HR⟩ := hrel
    by_cases hlt : k < s.size
    · have hl : k < s.data.toList.length := by simpa using hlt
      have hg : s.data.toList[k] = s[k] := rfl
      by_cases hp : digit s[k] = true
      · have HN := Lib.hid (runOf_go hl (hg ▸ hp))
        go_wp2_with (first | (go_at_call 54; refine (isDigit_any _ _).mono ?_; rintro e w' ⟨rfl, rfl⟩))
        go_round
        case rel => exact ⟨k + 1, by omega, by go_num, Lib.hid (by have := HR.out; have := HN.out; omega)⟩
        case measure => simp [intOf]; omega
      · have hp' : digit s[k] = false := by simpa using hp
        clear hp
        have HN := Lib.hid (runOf_no hl (hg ▸ hp'))
        go_wp2_with (first | (go_at_call 54; refine (isDigit_any _ _).mono ?_; rintro e w' ⟨rfl, rfl⟩))
        go_ret
        exact ⟨ret_int (by have := HR.out; have := HN.out; omega), rfl⟩
    · have HN := Lib.hid (runOf_end (p := digit) (l := s.data.toList) (k := k) (by simpa using hlt))
      go_wp2
      go_ret
      exact ⟨ret_int (by have := HR.out; have := HN.out; omega), rfl⟩
set_option maxHeartbeats 400000 in
theorem run_tail (s : ByteArray) (w : World) (hs : s.size ≤ 40000) : Calls Tryd.prog 53 #[.string s, .func (.func 65) #[] #[]] w fun e w' => e = .returned (.int .i64 (runOf tailB s.data.toList)) ∧ w = w' := by
  go_enter Tryd.func53, Tryd.ntmps53
  go_wp2
  go_loop [5] (fun x => ∃ k : Nat, k ≤ s.size ∧ x = .int .i64 k ∧ Hid (k + runOf tailB (s.data.toList.drop k) = runOf tailB s.data.toList)) (fun x => s.size - (intOf x).toNat)
  case atStart => exact ⟨0, Nat.zero_le _, rfl, Lib.hid (by simp)⟩
  case round =>
    obtain ⟨k, hk, rfl, HR⟩ := hrel
    by_cases hlt : k < s.size
    · have hl : k < s.data.toList.length := by simpa using hlt
      have hg : s.data.toList[k] = s[k] := rfl
      by_cases hp : tailB s[k] = true
      · have HN := Lib.hid (runOf_go hl (hg ▸ hp))
        go_wp2_with (first | (go_at_call 65; refine (isTail_any _ _).mono ?_; rintro e w' ⟨rfl, rfl⟩))
        go_round
        case rel => exact ⟨k + 1, by omega, by go_num, Lib.hid (by have := HR.out; have := HN.out; omega)⟩
        case measure => simp [intOf]; omega
      · have hp' : tailB s[k] = false := by simpa using hp
        clear hp
        have HN := Lib.hid (runOf_no hl (hg ▸ hp'))
        go_wp2_with (first | (go_at_call 65; refine (isTail_any _ _).mono ?_; rintro e w' ⟨rfl, rfl⟩))
        go_ret
        exact ⟨ret_int (by have := HR.out; have := HN.out; omega), rfl⟩
    · have HN := Lib.hid (runOf_end (p := tailB) (l := s.data.toList) (k := k) (by simpa using hlt))
      go_wp2
      go_ret
      exact ⟨ret_int (by have := HR.out; have := HN.out; omega), rfl⟩
theorem bytes_nil {s : ByteArray} (h : s.data.toList = []) : s = ⟨#[]⟩ := by
  obtain ⟨⟨l⟩⟩ := s
  simp at h
  rw [h]
theorem bytes_cons {s : ByteArray} (h : s.data.toList ≠ []) : ∃ h0 : 0 < s.size, ∃ r, s.data.toList = s[0] :: r := by
  obtain ⟨⟨l⟩⟩ := s
  cases l with
  | nil => exact absurd rfl h
  | cons c r => exact ⟨Nat.zero_lt_succ _, r, rfl⟩
theorem nameSize_any (s : ByteArray) (w : World) (hs : s.size ≤ 40000) : Calls Tryd.prog 51 #[.string s] w fun e w' => e = .returned (.int .i64 (nameLen s.data.toList)) ∧ w = w' := by
  by_cases hn : s.data.toList = []
  · obtain rfl := bytes_nil hn
    go_enter Tryd.func51, Tryd.ntmps51
    go_wp2
    go_ret
    exact ⟨rfl, rfl⟩
  · obtain ⟨h0, r, hr⟩ := bytes_cons hn
    have hne : s.toList ≠ [] := by rw [Lib.toList_data]; exact hn
    have hne2 : (!s.toList.isEmpty) = true := by simpa using hne
    have hne3 : s.toList.isEmpty = false := by simpa using hne
    have HR := Lib.hid hr
    clear hr hn
    by_cases hp : small s[0] = true
    · go_enter Tryd.func51, Tryd.ntmps51
      go_wp2_with (first
        | (go_at_call 64; refine (isLetter_any _ _).mono ?_; rintro e w' ⟨rfl, rfl⟩)
        | (go_at_call 53; refine (run_tail _ _ hs).mono ?_; rintro e w' ⟨rfl, rfl⟩))
      go_ret
      exact ⟨ret_int (by rw [HR.out]; rw [nameLen_cons, if_pos hp]), rfl⟩
    · have hp' : small s[0] = false := by simpa using hp
      clear hp
      go_enter Tryd.func51, Tryd.ntmps51
      go_wp2_with (first
        | (go_at_call 64; refine (isLetter_any _ _).mono ?_; rintro e w' ⟨rfl, rfl⟩)
        | (go_at_call 53; refine (run_tail _ _ hs).mono ?_; rintro e w' ⟨rfl, rfl⟩))
      go_ret
      exact ⟨ret_int (by rw [HR.out]; rw [nameLen_cons, if_neg (by simp [hp'])]; rfl), rfl⟩
theorem word_any (s : ByteArray) (w : World) : Calls Tryd.prog 52 #[.string s] w fun e w' => e = .returned (.bool (isWord s.data.toList)) ∧ w = w' := by
  have HT := Lib.hid (Lib.toList_data s)
  go_enter Tryd.func52, Tryd.ntmps52
  go_wp2
  all_goals
    go_ret
    refine ⟨ret_bool ?_, rfl⟩
    rw [← HT.out]
    simp_all [isWord, wordsL]
end Go.Proofs.YtkmpnlbppdekaaaDoor
end
section
namespace Go.Proofs.YtkmpnlbppdekaaaDoor
open Go.RowKit
theorem twoB_eq (l : List UInt8) : twoB l = (Lib.hasPrefix l [60, 61] || Lib.hasPrefix l [61, 61] || Lib.hasPrefix l [33, 61]) := rfl
theorem signLen_cons (c : UInt8) (r : List UInt8) : signLen (c :: r) = if twoB (c :: r) then 2 else if signsL.contains c then 1 else 0 := rfl
theorem byte_back (c : UInt8) : ((c.toNat : Int)).toNat.toUInt8 = c := by simp
theorem signSize_any (s : ByteArray) (w : World) : Calls Tryd.prog 55 #[.string s] w fun e w' => e = .returned (.int .i64 (signLen s.data.toList)) ∧ Below w.heap.size w w' := by
  have hmf : ∀ (fn : Fn) (first cap : Array Value) (w : World), (Instr.makeFunc fn first cap).run Tryd.prog w = .ok (.func fn first cap) w := fun _ _ _ _ => rfl
  by_cases hn : s.data.toList = []
  · obtain rfl := bytes_nil hn
    have h1 : Lib.hasPrefix (⟨#[]⟩ : ByteArray).data.toList [60, 61] = false := rfl
    have h2 : Lib.hasPrefix (⟨#[]⟩ : ByteArray).data.toList [61, 61] = false := rfl
    have h3 : Lib.hasPrefix (⟨#[]⟩ : ByteArray).data.toList [33, 61] = false := rfl
    go_enter Tryd.func55, Tryd.ntmps55
    go_wp2_with (first
      | (go_at_call 67; refine (strings_HasPrefix _ _ _).mono ?_; rintro e w' ⟨rfl, rfl⟩)
      | (go_at_call 68; refine (strings_IndexByte _ _ _).mono ?_; rintro e w' ⟨rfl, rfl⟩)
      | go_in)
    all_goals
      go_ret
      exact ⟨rfl, (Below.refl _ _).alloc (Nat.le_refl _) _⟩
  · obtain ⟨h0, r, hr⟩ := bytes_cons hn
    have hne : s.toList ≠ [] := by rw [Lib.toList_data]; exact hn
    have hne2 : (!s.toList.isEmpty) = true := by simpa using hne
    have hne3 : s.toList.isEmpty = false := by simpa using hne
    have HR := Lib.hid hr
    have hcb := byte_back s[0]
    have hci : signsL.contains s[0] = decide (0 ≤ Lib.indexByte signsL s[0]) := Lib.contains_iff_indexByte _ _
    unfold signsL at hci
    have HI := Lib.hid hci
    clear hr hn hci
    obtain ⟨b1, h1⟩ : ∃ b, b = Lib.hasPrefix s.data.toList [60, 61] := ⟨_, rfl⟩
    obtain ⟨b2, h2⟩ : ∃ b, b = Lib.hasPrefix s.data.toList [61, 61] := ⟨_, rfl⟩
    obtain ⟨b3, h3⟩ : ∃ b, b = Lib.hasPrefix s.data.toList [33, 61] := ⟨_, rfl⟩
    have HT : Hid (twoB s.data.toList = (b1 || b2 || b3)) := Lib.hid (by rw [twoB_eq, h1, h2, h3])
    have h1' := h1.symm
    have h2' := h2.symm
    have h3' := h3.symm
    clear h1 h2 h3
    go_enter Tryd.func55, Tryd.ntmps55
    go_wp2_with (first
      | (go_at_call 67; refine (strings_HasPrefix _ _ _).mono ?_; rintro e w' ⟨rfl, rfl⟩)
      | (go_at_call 68; refine (strings_IndexByte _ _ _).mono ?_; rintro e w' ⟨rfl, rfl⟩)
      | go_in)
    all_goals
      go_ret
      refine ⟨ret_int ?_, (Below.refl _ _).alloc (Nat.le_refl _) _⟩
      have HT' := HT.out
      rw [HR.out] at HT' ⊢
      rw [signLen_cons, HT']
      have HI' := HI.out
      unfold signsL
      rw [HI']
      first
        | (simp_all; done)
        | (simp_all; rw [if_neg (by omega)]; rfl)
def firstV (l : List UInt8) : Value := .tuple #[.int .i64 ((firstOf l).1 : Nat), .int .i64 ((firstOf l).2 : Nat)]
theorem first_name {l : List UInt8} (h : 0 < nameLen l) : firstOf l = (if isWord (l.take (nameLen l)) then 4 else 1, nameLen l) := by
  unfold firstOf; rw [if_pos h]
theorem first_digit {l : List UInt8} (h : nameLen l = 0) (h1 : 0 < runOf digit l) : firstOf l = (2, runOf digit l) := by
  unfold firstOf; rw [if_neg (by omega), if_pos h1]
theorem first_sign {l : List UInt8} (h : nameLen l = 0) (h1 : runOf digit l = 0) (h2 : 0 < signLen l) : firstOf l = (3, signLen l) := by
  unfold firstOf; rw [if_neg (by omega), if_neg (by omega), if_pos h2]
theorem first_no {l : List UInt8} (h : nameLen l = 0) (h1 : runOf digit l = 0) (h2 : signLen l = 0) : firstOf l = (0, 0) := by
  unfold firstOf; rw [if_neg (by omega), if_neg (by omega), if_neg (by omega)]
theorem take_word (s : ByteArray) (n : Nat) : (s.extract 0 n).data.toList = s.data.toList.take n := by
  rw [Lib.extract_data]; simp
theorem ret_tup {a b : Value} (h : a = b) : Ending.returned a = .returned b := by rw [h]
theorem first_any (s : ByteArray) (w : World) (hs : s.size ≤ 40000) : Calls Tryd.prog 35 #[.string s] w fun e w' => e = .returned (firstV s.data.toList) ∧ Below w.heap.size w w' := by
  obtain ⟨n, hn⟩ : ∃ n, n = nameLen s.data.toList := ⟨_, rfl⟩
  obtain ⟨d, hd⟩ : ∃ d, d = runOf digit s.data.toList := ⟨_, rfl⟩
  obtain ⟨g, hg⟩ : ∃ g, g = signLen s.data.toList := ⟨_, rfl⟩
  have hnl := nameLen_le s.data.toList
  rw [← hn] at hnl
  have hnl' : n ≤ s.size := by simpa using hnl
  obtain ⟨wd, hwd⟩ : ∃ b, b = isWord (s.data.toList.take n) := ⟨_, rfl⟩
  have HN := Lib.hid hn
  have HD := Lib.hid hd
  have HG := Lib.hid hg
  have HW := Lib.hid hwd
  have c1 : ∀ w, Calls Tryd.prog 51 #[.string s] w fun e w' => e = .returned (.int .i64 (n : Nat)) ∧ w = w' := fun w => by rw [hn]; exact nameSize_any s w hs
  have c2 : ∀ w, Calls Tryd.prog 53 #[.string s, .func (.func 54) #[] #[]] w fun e w' => e = .returned (.int .i64 (d : Nat)) ∧ w = w' := fun w => by rw [hd]; exact run_digit s w hs
  have c3 : ∀ w, Calls Tryd.prog 55 #[.string s] w fun e w' => e = .returned (.int .i64 (g : Nat)) ∧ Below w.heap.size w w' := fun w => by rw [hg]; exact signSize_any s w
  have c4 : ∀ w, Calls Tryd.prog 52 #[.string (s.extract 0 n)] w fun e w' => e = .returned (.bool wd) ∧ w = w' := fun w => by
    have := word_any (s.extract 0 n) w
    rw [take_word] at this
    rw [hwd]; exact this
  clear hn hd hg hwd hnl
  go_enter Tryd.func35, Tryd.ntmps35
  go_wp2_with (first
    | (go_at_call 51; refine (c1 _).mono ?_; rintro e w' ⟨rfl, rfl⟩)
    | (go_at_call 52; refine (c4 _).mono ?_; rintro e w' ⟨rfl, rfl⟩)
    | (go_at_call 53; refine (c2 _).mono ?_; rintro e w' ⟨rfl, rfl⟩)
    | (go_at_call 55; refine (c3 _).mono ?_; rintro e w' ⟨rfl, hb⟩))
  all_goals go_ret2
  all_goals (refine ⟨ret_tup ?_, (by first | exact Below.refl _ _ | assumption)⟩)
  all_goals
    unfold firstV
    first
    | (rw [first_name (by rw [← HN.out]; omega), ← HN.out, ← HW.out, ‹wd = true›]; rfl)
    | (rw [first_name (by rw [← HN.out]; omega), ← HN.out, ← HW.out, ‹wd = false›]; rfl)
    | (rw [first_digit (by rw [← HN.out]; omega) (by rw [← HD.out]; omega), ← HD.out]; rfl)
    | (rw [first_sign (by rw [← HN.out]; omega) (by rw [← HD.out]; omega) (by rw [← HG.out]; omega), ← HG.out]; rfl)
    | (rw [first_no (by rw [← HN.out]; omega) (by rw [← HD.out]; omega) (by rw [← HG.out]; omega)]; rfl)
end Go.Proofs.YtkmpnlbppdekaaaDoor
end
section
set_option linter.unusedVariables false
namespace Go.Proofs.YtkmpnlbppdekaaaDoor
open Go.RowKit
theorem size_len (t : ByteArray) : t.size = t.data.toList.length := by simp
theorem head_48 (t : ByteArray) (h : 0 < t.size) : t.data.toList.head? = some 48 ↔ t[0].toNat = 48 := by
  obtain ⟨h0, r, hr⟩ := bytes_cons (s := t) (by intro e; have := size_len t; rw [e, List.length_nil] at this; omega)
  rw [hr, List.head?_cons]
  constructor
  · intro e; rw [Option.some.inj e]; rfl
  · intro e; congr 1; exact UInt8.toNat_inj.1 e
theorem wrong_of2 (t : List UInt8) (n : Nat) : wrongOf 2 t n = if 4096 ≤ n then 12 else if 18 < t.length ∨ (1 < t.length ∧ t.head? = some 48) then 11 else 0 := by
  simp [wrongOf]
theorem wrong_of1 (t : List UInt8) (n : Nat) : wrongOf 1 t n = if 16 < t.length ∨ 4096 ≤ n then 12 else 0 := by
  simp [wrongOf]
theorem wrong_of3 (t : List UInt8) (n : Nat) : wrongOf 3 t n = if 4096 ≤ n then 12 else 0 := by
  simp [wrongOf]
theorem wrong_of4 (t : List UInt8) (n : Nat) : wrongOf 4 t n = if 4096 ≤ n then 12 else 0 := by
  simp [wrongOf]
theorem wrong_of0 (t : List UInt8) (n : Nat) : wrongOf 0 t n = 10 := rfl
set_option maxRecDepth 100000 in
set_option maxHeartbeats 1000000 in
theorem wrong_0 (t : ByteArray) (n : Nat) (w : World) (hn : n ≤ 5000) (ht : t.size ≤ 40000) :
    Calls Tryd.prog 36 #[.int .i64 0, .string t, .int .i64 n] w fun e w' => e = .returned (.int .i64 (wrongOf 0 t.data.toList n : Nat)) ∧ w = w' := by
  have HS := Lib.hid (size_len t)
  go_enter Tryd.func36, Tryd.ntmps36
  go_wp2
  all_goals go_ret
  all_goals (refine ⟨ret_int ?_, rfl⟩)
  all_goals rw [wrong_of0]
  all_goals rfl
set_option maxRecDepth 100000 in
set_option maxHeartbeats 1000000 in
theorem wrong_1 (t : ByteArray) (n : Nat) (w : World) (hn : n ≤ 5000) (ht : t.size ≤ 40000) :
    Calls Tryd.prog 36 #[.int .i64 1, .string t, .int .i64 n] w fun e w' => e = .returned (.int .i64 (wrongOf 1 t.data.toList n : Nat)) ∧ w = w' := by
  have HS := Lib.hid (size_len t)
  go_enter Tryd.func36, Tryd.ntmps36
  go_wp2
  all_goals go_ret
  all_goals (refine ⟨ret_int ?_, rfl⟩)
  all_goals rw [wrong_of1]
  all_goals rw [← HS.out]
  all_goals first
    | (rw [if_pos (by omega)]; rfl)
    | (rw [if_neg (by omega)]; rfl)
set_option maxRecDepth 100000 in
set_option maxHeartbeats 1000000 in
theorem wrong_2 (t : ByteArray) (n : Nat) (w : World) (hn : n ≤ 5000) (ht : t.size ≤ 40000) :
    Calls Tryd.prog 36 #[.int .i64 2, .string t, .int .i64 n] w fun e w' => e = .returned (.int .i64 (wrongOf 2 t.data.toList n : Nat)) ∧ w = w' := by
  have HS := Lib.hid (size_len t)
  go_enter Tryd.func36, Tryd.ntmps36
  go_wp2
  all_goals go_ret
  all_goals (refine ⟨ret_int ?_, rfl⟩)
  all_goals rw [wrong_of2]
  all_goals rw [← HS.out]
  all_goals first
    | (rw [if_pos (by omega)]; rfl)
    | (rw [if_neg (by omega), if_pos (Or.inl (by omega))]; rfl)
    | (rw [if_neg (by omega), if_neg (by omega)]; rfl)
    | (have h0 : 0 < t.size := by omega
       have hh := head_48 t h0
       rw [if_neg (by omega)]
       first
       | (rw [if_pos (Or.inr ⟨by omega, hh.2 (by rename_i h; rcases h with h | h <;> (try simp at h) <;> omega)⟩)]; rfl)
       | (rw [if_neg (by rw [hh]; rename_i h; obtain ⟨h, h'⟩ := h; simp at h'; omega)]; rfl))
set_option maxRecDepth 100000 in
set_option maxHeartbeats 1000000 in
theorem wrong_3 (t : ByteArray) (n : Nat) (w : World) (hn : n ≤ 5000) (ht : t.size ≤ 40000) :
    Calls Tryd.prog 36 #[.int .i64 3, .string t, .int .i64 n] w fun e w' => e = .returned (.int .i64 (wrongOf 3 t.data.toList n : Nat)) ∧ w = w' := by
  have HS := Lib.hid (size_len t)
  go_enter Tryd.func36, Tryd.ntmps36
  go_wp2
  all_goals go_ret
  all_goals (refine ⟨ret_int ?_, rfl⟩)
  all_goals rw [wrong_of3]
  all_goals first
    | (rw [if_pos (by omega)]; rfl)
    | (rw [if_neg (by omega)]; rfl)
set_option maxRecDepth 100000 in
set_option maxHeartbeats 1000000 in
theorem wrong_4 (t : ByteArray) (n : Nat) (w : World) (hn : n ≤ 5000) (ht : t.size ≤ 40000) :
    Calls Tryd.prog 36 #[.int .i64 4, .string t, .int .i64 n] w fun e w' => e = .returned (.int .i64 (wrongOf 4 t.data.toList n : Nat)) ∧ w = w' := by
  have HS := Lib.hid (size_len t)
  go_enter Tryd.func36, Tryd.ntmps36
  go_wp2
  all_goals go_ret
  all_goals (refine ⟨ret_int ?_, rfl⟩)
  all_goals rw [wrong_of4]
  all_goals first
    | (rw [if_pos (by omega)]; rfl)
    | (rw [if_neg (by omega)]; rfl)
end Go.Proofs.YtkmpnlbppdekaaaDoor
end
section
set_option linter.unusedVariables false
namespace Go.Proofs.YtkmpnlbppdekaaaDoor
open Go.RowKit
theorem add_pl (b off i : Nat) : (⟨b, off, none⟩ : Addr).add i = ⟨b, off + i, none⟩ := by unfold Addr.add; split <;> simp_all
def strOf (t : List UInt8) : ByteArray := ⟨t.toArray⟩
theorem strOf_data (t : List UInt8) : (strOf t).data.toList = t := rfl
theorem extract_str (s : ByteArray) (a b : Nat) : s.extract a b = strOf ((s.data.toList.drop a).take (b - a)) := Lib.extract_eq s a b
def tokV (t : Tok) : List Value := [.int .i64 (t.kind : Nat), .string (strOf t.text), .int .i64 (t.pl : Nat)]
def toksV (l : List Tok) : List Value := l.flatMap tokV
theorem toksV_app (l m : List Tok) : toksV (l ++ m) = toksV l ++ toksV m := by simp [toksV]
theorem toksV_get : ∀ (l : List Tok) (k : Nat) (h : k < l.length), (toksV l)[k * 3]? = some (.int .i64 (l[k].kind : Nat)) ∧ (toksV l)[k * 3 + 1]? = some (.string (strOf l[k].text)) ∧ (toksV l)[k * 3 + 2]? = some (.int .i64 (l[k].pl : Nat))
  | [], k, h => absurd h (by simp)
  | t :: l, 0, _ => ⟨rfl, rfl, rfl⟩
  | t :: l, k + 1, h => by
    have ih := toksV_get l k (by simpa using h)
    have e2 : toksV (t :: l) = .int .i64 (t.kind : Nat) :: .string (strOf t.text) :: .int .i64 (t.pl : Nat) :: toksV l := rfl
    rw [e2, show (k + 1) * 3 = k * 3 + 3 from by omega, show k * 3 + 3 + 1 = (k * 3 + 1) + 3 from by omega, show k * 3 + 3 + 2 = (k * 3 + 2) + 3 from by omega]
    simpa using ih
theorem toksV_cell (l : List Tok) : ∀ u ∈ toksV l, u.oneCell' = true := by
  intro u hu
  simp only [toksV, List.mem_flatMap] at hu
  obtain ⟨t, _, hu⟩ := hu
  simp [tokV] at hu
  rcases hu with rfl | rfl | rfl <;> rfl
def Toks (w : World) (B : Nat) (A : Option Addr) (l : List Tok) : Prop :=
  ∀ (k : Nat) (h : k < l.length), ∃ b, A = some ⟨b, 0, none⟩ ∧ b < B ∧ w.cell? ⟨b, k * 3, none⟩ = some (.int .i64 (l[k].kind : Nat)) ∧ w.cell? ⟨b, k * 3 + 1, none⟩ = some (.string (strOf l[k].text)) ∧ w.cell? ⟨b, k * 3 + 2, none⟩ = some (.int .i64 (l[k].pl : Nat))
theorem Toks.below {w w' : World} {B : Nat} {A : Option Addr} {l : List Tok} (h : Toks w B A l) (hb : Below B w w') : Toks w' B A l := by
  intro k hk
  obtain ⟨b, hA, hlt, h0, h1, h2⟩ := h k hk
  exact ⟨b, hA, hlt, (hb.cell (p := ⟨b, k * 3, none⟩) hlt).trans h0, (hb.cell (p := ⟨b, k * 3 + 1, none⟩) hlt).trans h1, (hb.cell (p := ⟨b, k * 3 + 2, none⟩) hlt).trans h2⟩
theorem Toks.mono {w : World} {B B' : Nat} {A : Option Addr} {l : List Tok} (h : Toks w B A l) (hB : B ≤ B') : Toks w B' A l := by
  intro k hk
  obtain ⟨b, hA, hlt, h0⟩ := h k hk
  exact ⟨b, hA, by omega, h0⟩
def OwnToks (w : World) (base : Nat) (v : Value) (l : List Tok) : Prop := w.ownsRow base 51 3 v l.length (toksV l)
theorem OwnToks.nil (w : World) (base : Nat) : OwnToks w base (.slice none 0 0) [] := ⟨rfl, .inl ⟨rfl, rfl⟩⟩
theorem OwnToks.toks {w : World} {base : Nat} {v : Value} {l : List Tok} (h : OwnToks w base v l) : ∃ A c, v = .slice A l.length c ∧ l.length ≤ c ∧ c ≤ maxLen ∧ Toks w w.heap.size A l := by
  have hlt := h.lt
  unfold OwnToks at h
  rcases h.2 with ⟨rfl, h2⟩ | ⟨g, cap, cur, rfl, _, hg, hc1, hc2, _⟩
  · exact ⟨none, 0, by rw [h2], by omega, Nat.zero_le _, fun k hk => absurd hk (by omega)⟩
  · refine ⟨some ⟨g, 0, none⟩, cap, rfl, hc1, hc2, fun k hk => ⟨g, rfl, (hlt g rfl).2, ?_, ?_, ?_⟩⟩
    · have := h.cells (g := g) rfl _ _ (toksV_get l k hk).1
      rw [add_pl] at this
      simpa using this
    · have := h.cells (g := g) rfl _ _ (toksV_get l k hk).2.1
      rw [add_pl] at this
      simpa using this
    · have := h.cells (g := g) rfl _ _ (toksV_get l k hk).2.2
      rw [add_pl] at this
      simpa using this
theorem OwnToks.alloc {w : World} {base : Nat} {v : Value} {l : List Tok} (h : OwnToks w base v l) (o : Obj) : OwnToks (w.alloc o) base v l := World.ownsRow.alloc h o
theorem OwnToks.below {w w' : World} {base : Nat} {v : Value} {l : List Tok} (h : OwnToks w base v l) (hb : Below w.heap.size w w') : OwnToks w' base v l := by
  unfold OwnToks at h ⊢
  rcases h with ⟨h1, h2 | ⟨g, cap, cur, hv, hbg, hg, h3⟩⟩
  · exact ⟨h1, .inl h2⟩
  · refine ⟨h1, .inr ⟨g, cap, cur, hv, hbg, ?_, h3⟩⟩
    have hlt : g < w.heap.size := by
      rcases Nat.lt_or_ge g w.heap.size with hlt | hge
      · exact hlt
      · rw [Array.getElem?_eq_none hge] at hg; cases hg
    exact (hb.block g hlt).trans hg
theorem OwnToks.mono {w : World} {base base' : Nat} {v : Value} {l : List Tok} (h : OwnToks w base v l) (hb : base' ≤ base) : OwnToks w base' v l := by
  rcases h with ⟨h1, h2 | ⟨g, cap, cur, hv, hbg, h3⟩⟩
  · exact ⟨h1, .inl h2⟩
  · exact ⟨h1, .inr ⟨g, cap, cur, hv, by omega, h3⟩⟩
theorem info_tok : (Tryd.prog.info? 51).map (fun i => (i.zero, i.size, i.bytes)) = some (some (.agg #[.int .i64 0, .string ⟨#[]⟩, .int .i64 0]), 3, 32) := by kernel_rfl
theorem wpList_append_tok {ops : Array Oper} {rest : List Oper} {o : Oper} {a : Act} {w : World} {Q : Exit → Act → World → Prop} (hgd : o.guard = none) (s x : Operand)
    (ho : o.op = .call { callee := .builtin .append, args := #[s, x], argTypes := #[56, 56] })
    (base : Nat) (v : Value) (l : List Tok) (hs : a.eval s = v) (hown : OwnToks w base v l) (ad : Addr) (c : Nat) (t : Tok) (hx : a.eval x = .slice (some ad) 1 c)
    (hnews : ∀ j u, (tokV t)[j]? = some u → w.cell? (ad.add j) = some u) (hb : l.length ≤ 100000) (hbase : base ≤ w.heap.size)
    (h : ∀ v' w', OwnToks w' base v' (l ++ [t]) → w.grownBy w' v.ownBlock → wpList Tryd.prog ops Q rest (a.put o.dst v') w') : wpList Tryd.prog ops Q (o :: rest) a w := by
  obtain ⟨i0, hi, hz0, hz1, hz2⟩ := info_parts info_tok
  refine wpList_append_own _ hgd s x 56 ho base 51 i0 (.agg #[.int .i64 0, .string ⟨#[]⟩, .int .i64 0]) 3 32 Tryd.underlying56 hi hz0 hz1 hz2 rfl (by decide) v l.length (toksV l) hs hown ad 1 c (toksV [t]) hx rfl
    (by simpa [toksV] using hnews) (toksV_cell _) (by unfold maxLen; omega) (by omega) hbase fun v' w' hown' hgr _ => h v' w' ?_ hgr
  unfold OwnToks
  rw [List.length_append, toksV_app]
  exact hown'
theorem one_tok {w : World} {t : Tok} {g : Nat} (hg : g = w.heap.size) : ∀ j u, (tokV t)[j]? = some u → (w.alloc (.cells #[.int .i64 (t.kind : Nat), .string (strOf t.text), .int .i64 (t.pl : Nat)] 51)).cell? ((⟨g, 0, none⟩ : Addr).add j) = some u := by
  subst hg
  intro j u hu
  have hr := heap_alloc_new w (.cells #[.int .i64 (t.kind : Nat), .string (strOf t.text), .int .i64 (t.pl : Nat)] 51)
  rw [add_pl, Nat.zero_add, cell_of_row _ _ j _ _ (0, 0) hr]
  simpa [tokV] using hu
theorem wrong_any (k : Nat) (t : ByteArray) (n : Nat) (w : World) (hk : k ≤ 4) (hn : n ≤ 5000) (ht : t.size ≤ 40000) :
    Calls Tryd.prog 36 #[.int .i64 (k : Nat), .string t, .int .i64 n] w fun e w' => e = .returned (.int .i64 (wrongOf k t.data.toList n : Nat)) ∧ w = w' :=
  match k, hk with
  | 0, _ => wrong_0 t n w hn ht
  | 1, _ => wrong_1 t n w hn ht
  | 2, _ => wrong_2 t n w hn ht
  | 3, _ => wrong_3 t n w hn ht
  | 4, _ => wrong_4 t n w hn ht
  | k + 5, h => absurd h (by omega)
theorem firstOf_kind (l : List UInt8) : (firstOf l).1 ≤ 4 := by
  unfold firstOf
  split
  · show (if _ then 4 else 1) ≤ 4
    split <;> omega
  · split
    · show 2 ≤ 4; omega
    · split
      · show 3 ≤ 4; omega
      · show 0 ≤ 4; omega
theorem clone_any (s : ByteArray) (w : World) (hs : s.size ≤ 40000) :
    Calls Tryd.prog 37 #[.string s] w fun e w' => e = .returned (.string s) ∧ Below w.heap.size w w' := by
  go_enter Tryd.func37, Tryd.ntmps37
  go_wp2_with (go_at_call 56; refine (stringslite_Clone _ _ (by omega)).mono ?_; rintro e w' ⟨rfl, hb⟩)
  go_ret
  exact ⟨rfl, hb⟩
end Go.Proofs.YtkmpnlbppdekaaaDoor
end
section
namespace Go.Proofs.YtkmpnlbppdekaaaDoor
open Go.RowKit
def Drawn (w w' : World) : Prop := ∃ n, w' = w.drewN n
theorem Drawn.refl (w : World) : Drawn w w := ⟨0, rfl⟩
theorem Drawn.drew {w w' : World} (h : Drawn w w') : Drawn w w'.drew := by
  obtain ⟨n, rfl⟩ := h
  exact ⟨n + 1, rfl⟩
theorem Drawn.more {w w' : World} (h : Drawn w w') (n : Nat) : Drawn w (w'.drewN n) := by
  obtain ⟨m, rfl⟩ := h
  exact ⟨m + n, by simp [World.drewN, Nat.add_assoc]⟩
theorem Drawn.cell {w w' : World} (h : Drawn w w') (p : Addr) : w'.cell? p = w.cell? p := by
  obtain ⟨n, rfl⟩ := h; rfl
theorem Drawn.heap {w w' : World} (h : Drawn w w') : w'.heap = w.heap := by
  obtain ⟨n, rfl⟩ := h; rfl
theorem Drawn.below {w w' : World} {B : Nat} (h : Drawn w w') : Below B w w' := by
  obtain ⟨n, rfl⟩ := h
  exact ⟨rfl, rfl, rfl, Nat.le_refl _, fun _ _ => rfl⟩
end Go.Proofs.YtkmpnlbppdekaaaDoor
end
section
set_option linter.unusedVariables false
namespace Go.Proofs.YtkmpnlbppdekaaaDoor
open Go.RowKit
inductive Ex where
  | mk (kind pl num : Int) (name : List UInt8) (args : List Ex)
def Ex.kind : Ex → Int | .mk k _ _ _ _ => k
def Ex.pl : Ex → Int | .mk _ p _ _ _ => p
def Ex.num : Ex → Int | .mk _ _ n _ _ => n
def Ex.name : Ex → List UInt8 | .mk _ _ _ s _ => s
def Ex.args : Ex → List Ex | .mk _ _ _ _ a => a
def exCells (e : Ex) (v : Value) : List Value := [.int .i64 e.kind, .int .i64 e.pl, .int .i64 e.num, .string (strOf e.name), v]
inductive IsExs (w : World) (S : Nat → Prop) : List Ex → Value → Prop
  | mk (es : List Ex) (A : Option Addr) (c : Nat) (f : Nat → Value) (hc : es.length ≤ c) (hM : c ≤ 9223372036854775807)
    (hA : ∀ (k : Nat) (hk : k < es.length), ∃ b off, A = some ⟨b, off, none⟩ ∧ S b ∧ es[k].name.length ≤ 140737488355328 ∧
      w.cell? ⟨b, off + k * 5, none⟩ = some (.int .i64 es[k].kind) ∧ w.cell? ⟨b, off + k * 5 + 1, none⟩ = some (.int .i64 es[k].pl) ∧ w.cell? ⟨b, off + k * 5 + 2, none⟩ = some (.int .i64 es[k].num) ∧
      w.cell? ⟨b, off + k * 5 + 3, none⟩ = some (.string (strOf es[k].name)) ∧ w.cell? ⟨b, off + k * 5 + 4, none⟩ = some (f k))
    (hr : ∀ (k : Nat) (hk : k < es.length), IsExs w S es[k].args (f k)) : IsExs w S es (.slice A es.length c)
theorem IsExs.keep {w w' : World} {S S' : Nat → Prop} {es : List Ex} {v : Value} (h : IsExs w S es v) (hw : ∀ b, S b → w'.heap[b]? = w.heap[b]?) (hS : ∀ b, S b → S' b) : IsExs w' S' es v := by
  induction h with
  | mk es A c f hc hM hA hr ih =>
    refine .mk es A c f hc hM (fun k hk => ?_) (fun k hk => ih k hk)
    obtain ⟨b, off, h1, h2, h3, h4, h5, h6, h7, h8⟩ := hA k hk
    have hcell : ∀ i, w'.cell? ⟨b, i, none⟩ = w.cell? ⟨b, i, none⟩ := fun i => World.cell?_of_block (hw b h2)
    exact ⟨b, off, h1, hS b h2, h3, by rw [hcell]; exact h4, by rw [hcell]; exact h5, by rw [hcell]; exact h6, by rw [hcell]; exact h7, by rw [hcell]; exact h8⟩
end Go.Proofs.YtkmpnlbppdekaaaDoor
end
section
set_option linter.unusedVariables false
namespace Go.Proofs.YtkmpnlbppdekaaaDoor
open Go.RowKit
def exsV : List Ex → List Value → List Value
  | e :: es, f :: fs => exCells e f ++ exsV es fs
  | _, _ => []
theorem exsV_len : ∀ {es : List Ex} {fs : List Value}, es.length = fs.length → (exsV es fs).length = es.length * 5
  | [], [], _ => rfl
  | e :: es, f :: fs, h => by
    show (exCells e f ++ exsV es fs).length = _
    rw [List.length_append, exsV_len (by simpa using h)]
    simp [exCells]; omega
theorem exsV_app : ∀ {es : List Ex} {fs : List Value} (e : Ex) (u : Value), es.length = fs.length → exsV (es ++ [e]) (fs ++ [u]) = exsV es fs ++ exCells e u
  | [], [], e, u, _ => by simp [exsV]
  | d :: es, f :: fs, e, u, h => by
    show exCells d f ++ exsV (es ++ [e]) (fs ++ [u]) = _
    rw [exsV_app e u (by simpa using h)]
    simp [exsV]
theorem exsV_get : ∀ {es : List Ex} {fs : List Value} (h : es.length = fs.length) (k : Nat) (hk : k < es.length) (i : Nat) (hi : i < 5), (exsV es fs)[k * 5 + i]? = (exCells es[k] (fs[k]'(by omega)))[i]?
  | e :: es, f :: fs, h, 0, hk, i, hi => by
    show (exCells e f ++ exsV es fs)[0 * 5 + i]? = _
    rw [Nat.zero_mul, Nat.zero_add, List.getElem?_append_left (by simpa [exCells] using hi)]
    rfl
  | e :: es, f :: fs, h, k + 1, hk, i, hi => by
    show (exCells e f ++ exsV es fs)[(k + 1) * 5 + i]? = _
    rw [show (k + 1) * 5 + i = 5 + (k * 5 + i) from by omega, List.getElem?_append_right (by simp [exCells])]
    rw [show 5 + (k * 5 + i) - (exCells e f).length = k * 5 + i from by simp [exCells]]
    exact exsV_get (by simpa using h) k (by simpa using hk) i hi
theorem exCells_one (e : Ex) (u : Value) (hu : u.oneCell' = true) : ∀ x ∈ exCells e u, x.oneCell' = true := by
  intro x hx
  simp [exCells] at hx
  rcases hx with rfl | rfl | rfl | rfl | rfl
  · rfl
  · rfl
  · rfl
  · rfl
  · exact hu
theorem IsExs.one {w : World} {S : Nat → Prop} {es : List Ex} {v : Value} (h : IsExs w S es v) : v.oneCell' = true := by
  cases h; rfl
def OwnEx (w : World) (base : Nat) (v : Value) (es : List Ex) : Prop :=
  ∃ fs : List Value, es.length = fs.length ∧ w.ownsRow base 32 5 v es.length (exsV es fs) ∧
    ∀ (k : Nat) (hk : k < es.length) (hk' : k < fs.length), es[k].name.length ≤ 140737488355328 ∧ IsExs w (fun b => base ≤ b ∧ b < w.heap.size ∧ v.ownBlock ≠ some b) es[k].args fs[k]
theorem OwnEx.exs {w : World} {base : Nat} {v : Value} {es : List Ex} (h : OwnEx w base v es) : IsExs w (fun b => base ≤ b ∧ b < w.heap.size) es v := by
  obtain ⟨fs, hl, hown, hin⟩ := h
  have hlt := hown.lt
  have hcell : ∀ (g : Nat), v.ownBlock = some g → ∀ (j : Nat) (u : Value), (exsV es fs)[j]? = some u → w.cell? ⟨g, 0 + j, none⟩ = some u := fun g hg j u hu => by
    have := hown.cells hg j u hu
    rw [add_pl] at this
    exact this
  rcases hown.2 with ⟨rfl, h2⟩ | ⟨g, cap, cur, rfl, hbg, hg, hc1, hc2, _⟩
  · have he : es = [] := List.eq_nil_of_length_eq_zero h2
    subst he
    exact .mk [] none 0 (fun _ => undef) (Nat.le_refl _) (by omega) (fun k hk => absurd hk (by simp)) (fun k hk => absurd hk (by simp))
  · refine .mk es _ cap (fun k => fs.getD k undef) hc1 (by unfold maxLen at hc2; omega) (fun k hk => ?_) (fun k hk => ?_)
    · have hk' : k < fs.length := by omega
      have hgd : fs.getD k undef = fs[k] := by rw [List.getD_eq_getElem?_getD, List.getElem?_eq_getElem hk']; rfl
      refine ⟨g, 0, rfl, ⟨hbg, (hlt g rfl).2⟩, (hin k hk hk').1, ?_, ?_, ?_, ?_, ?_⟩
      · exact hcell g rfl (k * 5) _ (by have := exsV_get hl k hk 0 (by omega); rw [Nat.add_zero] at this; rw [this]; rfl)
      · exact hcell g rfl (k * 5 + 1) _ (by rw [exsV_get hl k hk 1 (by omega)]; rfl)
      · exact hcell g rfl (k * 5 + 2) _ (by rw [exsV_get hl k hk 2 (by omega)]; rfl)
      · exact hcell g rfl (k * 5 + 3) _ (by rw [exsV_get hl k hk 3 (by omega)]; rfl)
      · rw [hgd]
        exact hcell g rfl (k * 5 + 4) _ (by rw [exsV_get hl k hk 4 (by omega)]; rfl)
    · have hk' : k < fs.length := by omega
      have hgd : fs.getD k undef = fs[k] := by rw [List.getD_eq_getElem?_getD, List.getElem?_eq_getElem hk']; rfl
      show IsExs w _ es[k].args (fs.getD k undef)
      rw [hgd]
      exact (hin k hk hk').2.keep (fun _ _ => rfl) (fun b hb => ⟨hb.1, hb.2.1⟩)
theorem OwnEx.below {w w' : World} {base : Nat} {v : Value} {es : List Ex} (h : OwnEx w base v es) (hb : Below w.heap.size w w') : OwnEx w' base v es := by
  obtain ⟨fs, hl, hown, hin⟩ := h
  refine ⟨fs, hl, ?_, fun k hk hk' => ⟨(hin k hk hk').1, (hin k hk hk').2.keep (fun b hb2 => hb.block b hb2.2.1) (fun b hb2 => ⟨hb2.1, Nat.lt_of_lt_of_le hb2.2.1 hb.size, hb2.2.2⟩)⟩⟩
  rcases hown with ⟨h1, h2 | ⟨g, cap, cur, hv, hbg, hg, h3⟩⟩
  · exact ⟨h1, .inl h2⟩
  · refine ⟨h1, .inr ⟨g, cap, cur, hv, hbg, ?_, h3⟩⟩
    have hlt : g < w.heap.size := by
      rcases Nat.lt_or_ge g w.heap.size with hlt | hge
      · exact hlt
      · rw [Array.getElem?_eq_none hge] at hg; cases hg
    exact (hb.block g hlt).trans hg
theorem OwnEx.nil (w : World) : OwnEx (w.alloc (.cells #[] 32)) w.heap.size (.slice (some ⟨w.heap.size, 0, none⟩) 0 0) [] :=
  ⟨[], rfl, World.ownsRow_lit (e := 32) (size := 5) w #[] 0 (Nat.le_refl _) (by unfold maxLen; omega) rfl, fun k hk => absurd hk (by simp)⟩
theorem info_ex : (Tryd.prog.info? 32).map (fun i => (i.zero, i.size, i.bytes)) = some (some (.agg #[.int .i64 0, .int .i64 0, .int .i64 0, .string ⟨#[]⟩, .slice none 0 0]), 5, 64) := by kernel_rfl
end Go.Proofs.YtkmpnlbppdekaaaDoor
end
section
set_option linter.unusedVariables false
namespace Go.Proofs.YtkmpnlbppdekaaaDoor
open Go.RowKit
def ExBlk (w : World) (g : Nat) (k p n : Int) (s : ByteArray) (v : Value) : Prop := w.heap[g]? = some (.cells #[.int .i64 k, .int .i64 p, .int .i64 n, .string s, v] 32 (0, 0))
section
variable {w w' : World} {g B : Nat} {k p n : Int} {s : ByteArray} {v : Value}
theorem ExBlk.below (h : ExBlk w g k p n s v) (hb : Below B w w') (hg : g < B) : ExBlk w' g k p n s v := (hb.block g hg).trans h
theorem ExBlk.alloc (h : ExBlk w g k p n s v) (hg : g < w.heap.size) (o : Obj) : ExBlk (w.alloc o) g k p n s v := ((Below.refl _ w).alloc (Nat.le_refl _) o |>.block g hg).trans h
theorem ExBlk.c0 (h : ExBlk w g k p n s v) : w.cell? ⟨g, 0, none⟩ = some (.int .i64 k) := by rw [cell_of_row w g 0 _ _ (0, 0) h]; rfl
theorem ExBlk.c1 (h : ExBlk w g k p n s v) : w.cell? ⟨g, 1, none⟩ = some (.int .i64 p) := by rw [cell_of_row w g 1 _ _ (0, 0) h]; rfl
theorem ExBlk.c2 (h : ExBlk w g k p n s v) : w.cell? ⟨g, 2, none⟩ = some (.int .i64 n) := by rw [cell_of_row w g 2 _ _ (0, 0) h]; rfl
theorem ExBlk.c3 (h : ExBlk w g k p n s v) : w.cell? ⟨g, 3, none⟩ = some (.string s) := by rw [cell_of_row w g 3 _ _ (0, 0) h]; rfl
theorem ExBlk.c4 (h : ExBlk w g k p n s v) : w.cell? ⟨g, 4, none⟩ = some v := by rw [cell_of_row w g 4 _ _ (0, 0) h]; rfl
end
end Go.Proofs.YtkmpnlbppdekaaaDoor
end
section
set_option linter.unusedVariables false
namespace Go.Proofs.YtkmpnlbppdekaaaDoor
open Go.RowKit
inductive Sm where
  | mk (kind pl : Int) (name type : List UInt8) (exprs : List Ex) (body els : List Sm)
def Sm.kind : Sm → Int | .mk k _ _ _ _ _ _ => k
def Sm.pl : Sm → Int | .mk _ p _ _ _ _ _ => p
def Sm.name : Sm → List UInt8 | .mk _ _ n _ _ _ _ => n
def Sm.type : Sm → List UInt8 | .mk _ _ _ t _ _ _ => t
def Sm.exprs : Sm → List Ex | .mk _ _ _ _ e _ _ => e
def Sm.body : Sm → List Sm | .mk _ _ _ _ _ b _ => b
def Sm.els : Sm → List Sm | .mk _ _ _ _ _ _ l => l
inductive IsSms (w : World) (S : Nat → Prop) : List Sm → Value → Prop
  | mk (ss : List Sm) (A : Option Addr) (c : Nat) (fe fb fl : Nat → Value) (hc : ss.length ≤ c) (hM : c ≤ 9223372036854775807)
    (hA : ∀ (k : Nat) (hk : k < ss.length), ∃ b off, A = some ⟨b, off, none⟩ ∧ S b ∧ ss[k].name.length ≤ 140737488355328 ∧ ss[k].type.length ≤ 140737488355328 ∧
      w.cell? ⟨b, off + k * 7, none⟩ = some (.int .i64 ss[k].kind) ∧ w.cell? ⟨b, off + k * 7 + 1, none⟩ = some (.int .i64 ss[k].pl) ∧
      w.cell? ⟨b, off + k * 7 + 2, none⟩ = some (.string (strOf ss[k].name)) ∧ w.cell? ⟨b, off + k * 7 + 3, none⟩ = some (.string (strOf ss[k].type)) ∧
      w.cell? ⟨b, off + k * 7 + 4, none⟩ = some (fe k) ∧ w.cell? ⟨b, off + k * 7 + 5, none⟩ = some (fb k) ∧ w.cell? ⟨b, off + k * 7 + 6, none⟩ = some (fl k))
    (he : ∀ (k : Nat) (hk : k < ss.length), IsExs w S ss[k].exprs (fe k)) (hb : ∀ (k : Nat) (hk : k < ss.length), IsSms w S ss[k].body (fb k)) (hl : ∀ (k : Nat) (hk : k < ss.length), IsSms w S ss[k].els (fl k)) :
    IsSms w S ss (.slice A ss.length c)
theorem IsSms.keep {w w' : World} {S S' : Nat → Prop} {ss : List Sm} {v : Value} (h : IsSms w S ss v) (hw : ∀ b, S b → w'.heap[b]? = w.heap[b]?) (hS : ∀ b, S b → S' b) : IsSms w' S' ss v := by
  induction h with
  | mk ss A c fe fb fl hc hM hA he hb hl ihb ihl =>
    refine .mk ss A c fe fb fl hc hM (fun k hk => ?_) (fun k hk => (he k hk).keep hw hS) (fun k hk => ihb k hk) (fun k hk => ihl k hk)
    obtain ⟨b, off, h1, h2, h3, h4, c0, c1, c2, c3, c4, c5, c6⟩ := hA k hk
    have hcell : ∀ i, w'.cell? ⟨b, i, none⟩ = w.cell? ⟨b, i, none⟩ := fun i => World.cell?_of_block (hw b h2)
    exact ⟨b, off, h1, hS b h2, h3, h4, by rw [hcell]; exact c0, by rw [hcell]; exact c1, by rw [hcell]; exact c2, by rw [hcell]; exact c3, by rw [hcell]; exact c4, by rw [hcell]; exact c5, by rw [hcell]; exact c6⟩
theorem IsSms.slice {w : World} {S : Nat → Prop} {ss : List Sm} {v : Value} (h : IsSms w S ss v) : ∃ A c, v = .slice A ss.length c ∧ ss.length ≤ c ∧ c ≤ 9223372036854775807 := by
  cases h with
  | mk ss A c fe fb fl hc hM => exact ⟨A, c, rfl, hc, hM⟩
theorem IsExs.slice {w : World} {S : Nat → Prop} {es : List Ex} {v : Value} (h : IsExs w S es v) : ∃ A c, v = .slice A es.length c ∧ es.length ≤ c ∧ c ≤ 9223372036854775807 := by
  cases h with
  | mk es A c f hc hM => exact ⟨A, c, rfl, hc, hM⟩
end Go.Proofs.YtkmpnlbppdekaaaDoor
end
