/- Ra Rs Rb Rc Rd Re Rg Dn Vc Ua -/
import Derived.Shelf.Small.Strs
import Derived.Shelf.LaysM
import Derived.Shelf.Strconv.Clone
import Derived.Shelf.Strings.Search1
import Derived.Shelf.Strings.Prefix
import Derived.Test.YtihjdfbdpcghdaaDoorRows
import Derived.WalkKit
import Derived.WalkSpells
import Derived.WalkLawsBesides
import Derived.Lib.Hide
import Derived.Lib.IndexAny
import Derived.OwnWalk
import Derived.Deep.AppendLies
import Derived.Laws.AppendOwnNone
import Derived.Deep.QuietTactic
import Derived.BigQuiet
import Derived.Recover
section
namespace Go.Proofs.YtihjdfbdpcghdaaDoor
structure Tok where
  kind : Nat
  text : List UInt8
  pl : Nat
inductive Res where
  | ok (l : List Tok)
  | err (pl e : Nat)
def Res.pre (acc : List Tok) : Res → Res
  | .ok l => .ok (acc ++ l)
  | .err p e => .err p e
def small (c : UInt8) : Bool := decide (97 ≤ c.toNat) && decide (c.toNat ≤ 122)
def digit (c : UInt8) : Bool := decide (48 ≤ c.toNat) && decide (c.toNat ≤ 57)
def tailB (c : UInt8) : Bool := small c || digit c || c.toNat == 95
def blankB (c : UInt8) : Bool := c.toNat == 32 || c.toNat == 10
def wordsL : List (List UInt8) := [[98, 111, 111, 108], [99, 97, 108, 108], [99, 104, 97, 110], [101, 108, 115, 101], [102, 97, 108, 115, 101], [102, 117, 110, 99], [105, 102], [105, 110, 112, 117, 116], [105, 110, 116], [108, 101, 110], [108, 111, 99, 107], [109, 97, 107, 101], [110, 101, 119], [110, 105, 108], [111, 117, 116], [114, 101, 99, 118], [114, 101, 108, 101, 97, 115, 101], [114, 101, 116, 117, 114, 110], [115, 101, 110, 100], [115, 101, 116], [115, 105, 110, 107], [115, 116, 114, 117, 99, 116], [116, 104, 114, 101, 97, 100], [116, 114, 117, 101], [117, 110, 108, 111, 99, 107], [118, 97, 114], [119, 104, 105, 108, 101]]
def signsL : List UInt8 := [123, 125, 40, 41, 91, 93, 44, 59, 46, 58, 61, 43, 45, 42, 47, 37, 60, 33, 38, 124]
def isWord (t : List UInt8) : Bool := wordsL.contains t
def runOf (p : UInt8 → Bool) (l : List UInt8) : Nat := (l.takeWhile p).length
def nameLen : List UInt8 → Nat
  | [] => 0
  | c :: r => if small c then runOf tailB (c :: r) else 0
theorem nameLen_cons (c : UInt8) (r : List UInt8) : nameLen (c :: r) = if small c then runOf tailB (c :: r) else 0 := rfl
def twoB (l : List UInt8) : Bool := List.isPrefixOf [60, 61] l || List.isPrefixOf [61, 61] l || List.isPrefixOf [33, 61] l
def signLen (l : List UInt8) : Nat := if twoB l then 2 else match l with
  | [] => 0
  | c :: _ => if signsL.contains c then 1 else 0
def firstOf (l : List UInt8) : Nat × Nat :=
  if 0 < nameLen l then (if isWord (l.take (nameLen l)) then 4 else 1, nameLen l)
  else if 0 < runOf digit l then (2, runOf digit l)
  else if 0 < signLen l then (3, signLen l) else (0, 0)
def wrongOf (k : Nat) (t : List UInt8) (n : Nat) : Nat :=
  if k = 0 then 10 else if (k = 1 ∧ 16 < t.length) ∨ 4096 ≤ n then 12
  else if k = 2 ∧ (18 < t.length ∨ (1 < t.length ∧ t.head? = some 48)) then 11 else 0
def sc : List UInt8 → Nat → Nat → Nat → Res
  | [], _, _, _ => .ok []
  | _ :: r, k + 1, at_, n => sc r k (at_ + 1) n
  | c :: r, 0, at_, n =>
    if blankB c then sc r 0 (at_ + 1) n
    else if wrongOf (firstOf (c :: r)).1 ((c :: r).take (firstOf (c :: r)).2) n ≠ 0 then .err at_ (wrongOf (firstOf (c :: r)).1 ((c :: r).take (firstOf (c :: r)).2) n)
    else (sc r ((firstOf (c :: r)).2 - 1) (at_ + 1) (n + 1)).pre [⟨(firstOf (c :: r)).1, (c :: r).take (firstOf (c :: r)).2, at_⟩]
theorem sc_err {c : UInt8} {r : List UInt8} {a n : Nat} (h : blankB c = false) (he : wrongOf (firstOf (c :: r)).1 ((c :: r).take (firstOf (c :: r)).2) n ≠ 0) :
    sc (c :: r) 0 a n = .err a (wrongOf (firstOf (c :: r)).1 ((c :: r).take (firstOf (c :: r)).2) n) := by
  rw [sc, if_neg (by simp [h]), if_pos he]
theorem runOf_le (p : UInt8 → Bool) (l : List UInt8) : runOf p l ≤ l.length := by
  unfold runOf
  induction l with
  | nil => simp
  | cons c r ih =>
    rw [List.takeWhile_cons]
    split
    · simpa using ih
    · simp
theorem nameLen_le (l : List UInt8) : nameLen l ≤ l.length := by
  cases l with
  | nil => simp [nameLen]
  | cons c r =>
    show (if small c = true then runOf tailB (c :: r) else 0) ≤ _
    split
    · exact runOf_le _ _
    · simp
def St (s : List UInt8) (a : Nat) (acc : List Tok) : Prop := a ≤ s.length ∧ acc.length ≤ 4096 ∧ sc s 0 0 0 = (sc (s.drop a) 0 a acc.length).pre acc
theorem drop_at {s : List UInt8} {a : Nat} (h : a < s.length) : s.drop a = s[a] :: s.drop (a + 1) := List.drop_eq_getElem_cons h
theorem St.err {s : List UInt8} {a : Nat} {acc : List Tok} (h : St s a acc) (ha : a < s.length) (hb : blankB s[a] = false)
    (he : wrongOf (firstOf (s.drop a)).1 ((s.drop a).take (firstOf (s.drop a)).2) acc.length ≠ 0) : sc s 0 0 0 = .err a (wrongOf (firstOf (s.drop a)).1 ((s.drop a).take (firstOf (s.drop a)).2) acc.length) := by
  rw [h.2.2]
  rw [drop_at ha] at he ⊢
  rw [sc_err hb he]
  rfl
theorem runOf_go {p : UInt8 → Bool} {l : List UInt8} {k : Nat} (hk : k < l.length) (hp : p l[k] = true) : runOf p (l.drop k) = 1 + runOf p (l.drop (k + 1)) := by
  rw [List.drop_eq_getElem_cons hk]
  unfold runOf
  rw [List.takeWhile_cons, if_pos hp]
  simp; omega
theorem runOf_no {p : UInt8 → Bool} {l : List UInt8} {k : Nat} (hk : k < l.length) (hp : p l[k] = false) : runOf p (l.drop k) = 0 := by
  rw [List.drop_eq_getElem_cons hk]
  unfold runOf
  rw [List.takeWhile_cons, if_neg (by simp [hp])]
  rfl
theorem runOf_end {p : UInt8 → Bool} {l : List UInt8} {k : Nat} (hk : ¬ k < l.length) : runOf p (l.drop k) = 0 := by
  rw [List.drop_of_length_le (by omega)]
  rfl
end Go.Proofs.YtihjdfbdpcghdaaDoor
end
section
namespace Go.Proofs.YtihjdfbdpcghdaaDoor
open Go.Shelf
def lays137_ren : Go.Shelf.Ren := ⟨fun | 137 => 79 | 217 => 85 | 266 => 91 | n => n, fun | 9 => 9 | 5 => 5 | 3 => 3 | n => n, fun | n => n⟩
theorem lays137 : Go.Proofs.Lays.n137 Tryd.prog lays137_ren := {
  mixed := by kernel_rfl
  f137 := Tryd.func79.trans (congrArg some (by kernel_rfl))
  f217 := Tryd.func85.trans (congrArg some (by kernel_rfl))
  f266 := Tryd.func91.trans (congrArg some (by kernel_rfl))
  t3 := Tryd.underlying3
  a3 := Tryd.isAgg3
  z3 := Tryd.sizeOf3
  v3 := Tryd.zeroValue3
  t5 := Tryd.underlying5
  a5 := Tryd.isAgg5
  z5 := Tryd.sizeOf5
  v5 := Tryd.zeroValue5
  t9 := Tryd.underlying9
  a9 := Tryd.isAgg9
  z9 := Tryd.sizeOf9
  v9 := Tryd.zeroValue9 }
open Go.RowKit in
theorem strings_IndexByte (s : ByteArray) (c : Int) (w : World) :
    Calls Tryd.prog 79 #[.string s, .int .u8 c] w fun e w' => e = .returned (.int .i64 (Lib.indexByte s.data.toList c.toNat.toUInt8)) ∧ w' = w := Any.strings_IndexByte lays137 s c w
def lays99_ren : Go.Shelf.Ren := ⟨fun | 99 => 78 | 206 => 59 | n => n, fun | 9 => 9 | 4 => 4 | 3 => 3 | n => n, fun | n => n⟩
theorem lays99 : Go.Proofs.Lays.n99 Tryd.prog lays99_ren := {
  mixed := by kernel_rfl
  f99 := Tryd.func78.trans (congrArg some (by kernel_rfl))
  f206 := Tryd.func59.trans (congrArg some (by kernel_rfl))
  t3 := Tryd.underlying3
  a3 := Tryd.isAgg3
  z3 := Tryd.sizeOf3
  v3 := Tryd.zeroValue3
  t4 := Tryd.underlying4
  a4 := Tryd.isAgg4
  z4 := Tryd.sizeOf4
  v4 := Tryd.zeroValue4
  t9 := Tryd.underlying9
  a9 := Tryd.isAgg9
  z9 := Tryd.sizeOf9
  v9 := Tryd.zeroValue9 }
open Go.RowKit Go.Lib in
theorem strings_HasPrefix (s p : ByteArray) (w : World) :
    Calls Tryd.prog 78 #[.string s, .string p] w fun e w' => e = .returned (.bool (Lib.hasPrefix s.data.toList p.data.toList)) ∧ w' = w := Any.strings_HasPrefix lays99 s p w
end Go.Proofs.YtihjdfbdpcghdaaDoor
end
section
namespace Go.Proofs.YtihjdfbdpcghdaaDoor
open Go.RowKit
theorem ret_bool {a b : Bool} (h : a = b) : Ending.returned (.bool a) = .returned (.bool b) := by rw [h]
theorem ret_int {k : IntKind} {a b : Int} (h : a = b) : Ending.returned (.int k a) = .returned (.int k b) := by rw [h]
theorem isLetter_any (c : UInt8) (w : World) : Calls Tryd.prog 75 #[.int .u8 c.toNat] w fun e w' => e = .returned (.bool (small c)) ∧ w = w' := by
  go_enter Tryd.func75, Tryd.ntmps75
  go_wp2
  all_goals
    go_ret
    exact ⟨ret_bool (by rw [Bool.eq_iff_iff]; simp [small]; omega), rfl⟩
theorem isDigit_any (c : UInt8) (w : World) : Calls Tryd.prog 66 #[.int .u8 c.toNat] w fun e w' => e = .returned (.bool (digit c)) ∧ w = w' := by
  go_enter Tryd.func66, Tryd.ntmps66
  go_wp2
  all_goals
    go_ret
    exact ⟨ret_bool (by rw [Bool.eq_iff_iff]; simp [digit]; omega), rfl⟩
theorem isTail_any (c : UInt8) (w : World) : Calls Tryd.prog 76 #[.int .u8 c.toNat] w fun e w' => e = .returned (.bool (tailB c)) ∧ w = w' := by
  go_enter Tryd.func76, Tryd.ntmps76
  go_wp2_with (first
    | (go_at_call 75; refine (isLetter_any _ _).mono ?_; rintro e w' ⟨rfl, rfl⟩)
    | (go_at_call 66; refine (isDigit_any _ _).mono ?_; rintro e w' ⟨rfl, rfl⟩))
  all_goals
    go_ret
    exact ⟨ret_bool (by rw [Bool.eq_iff_iff]; simp [tailB, *]; try omega), rfl⟩
set_option maxHeartbeats 400000 in
theorem run_digit (s : ByteArray) (w : World) (hs : s.size ≤ 40000) : Calls Tryd.prog 65 #[.string s, .func (.func 66) #[] #[]] w fun e w' => e = .returned (.int .i64 (runOf digit s.data.toList)) ∧ w = w' := by
  go_enter Tryd.func65, Tryd.ntmps65
  go_wp2
  go_loop [5] (fun x => ∃ k : Nat, k ≤ s.size ∧ x = .int .i64 k ∧ Hid (k + runOf digit (s.data.toList.drop k) = runOf digit s.data.toList)) (fun x => s.size - (intOf x).toNat)
  case atStart => exact ⟨0, Nat.zero_le _, rfl, Lib.hid (by simp)⟩
  case round =>
    obtain ⟨k, hk, rfl, HR⟩ := hrel
    by_cases hlt : k < s.size
    · have hl : k < s.data.toList.length := by simpa using hlt
      have hg : s.data.toList[k] = s[k] := rfl
      by_cases hp : digit s[k] = true
      · have HN := Lib.hid (runOf_go hl (hg ▸ hp))
        go_wp2_with (first | (go_at_call 66; refine (isDigit_any _ _).mono ?_; rintro e w' ⟨rfl, rfl⟩))
        go_round
        case rel => exact ⟨k + 1, by omega, by go_num, Lib.hid (by have := HR.out; have := HN.out; omega)⟩
        case measure => simp [intOf]; omega
      · have hp' : digit s[k] = false := by simpa using hp
        clear hp
        have HN := Lib.hid (runOf_no hl (hg ▸ hp'))
        go_wp2_with (first | (go_at_call 66; refine (isDigit_any _ _).mono ?_; rintro e w' ⟨rfl, rfl⟩))
        go_ret
        exact ⟨ret_int (by have := HR.out; have := HN.out; omega), rfl⟩
    · have HN := Lib.hid (runOf_end (p := digit) (l := s.data.toList) (k := k) (by simpa using hlt))
      go_wp2
      go_ret
      exact ⟨ret_int (by have := HR.out; have := HN.out; omega), rfl⟩
set_option maxHeartbeats 400000 in
theorem run_tail (s : ByteArray) (w : World) (hs : s.size ≤ 40000) : Calls Tryd.prog 65 #[.string s, .func (.func 76) #[] #[]] w fun e w' => e = .returned (.int .i64 (runOf tailB s.data.toList)) ∧ w = w' := by
  go_enter Tryd.func65, Tryd.ntmps65
  go_wp2
  go_loop [5] (fun x => ∃ k : Nat, k ≤ s.size ∧ x = .int .i64 k ∧ Hid (k + runOf tailB (s.data.toList.drop k) = runOf tailB s.data.toList)) (fun x => s.size - (intOf x).toNat)
  case atStart => exact ⟨0, Nat.zero_le _, rfl, Lib.hid (by simp)⟩
  case round =>
    obtain ⟨k, hk, rfl, HR⟩ := hrel
    by_cases hlt : k < s.size
    · have hl : k < s.data.toList.length := by simpa using hlt
      have hg : s.data.toList[k] = s[k] := rfl
      by_cases hp : tailB s[k] = true
      · have HN := Lib.hid (runOf_go hl (hg ▸ hp))
        go_wp2_with (first | (go_at_call 76; refine (isTail_any _ _).mono ?_; rintro e w' ⟨rfl, rfl⟩))
        go_round
        case rel => exact ⟨k + 1, by omega, by go_num, Lib.hid (by have := HR.out; have := HN.out; omega)⟩
        case measure => simp [intOf]; omega
      · have hp' : tailB s[k] = false := by simpa using hp
        clear hp
        have HN := Lib.hid (runOf_no hl (hg ▸ hp'))
        go_wp2_with (first | (go_at_call 76; refine (isTail_any _ _).mono ?_; rintro e w' ⟨rfl, rfl⟩))
        go_ret
        exact ⟨ret_int (by have := HR.out; have := HN.out; omega), rfl⟩
    · have HN := Lib.hid (runOf_end (p := tailB) (l := s.data.toList) (k := k) (by simpa using hlt))
      go_wp2
      go_ret
      exact ⟨ret_int (by have := HR.out; have := HN.out; omega), rfl⟩
theorem bytes_nil {s : ByteArray} (h : s.data.toList = []) : s = ⟨#[]⟩ := by
  obtain ⟨⟨l⟩⟩ := s
  simp at h
  rw [h]
theorem bytes_cons {s : ByteArray} (h : s.data.toList ≠ []) : ∃ h0 : 0 < s.size, ∃ r, s.data.toList = s[0] :: r := by
  obtain ⟨⟨l⟩⟩ := s
  cases l with
  | nil => exact absurd rfl h
  | cons c r => exact ⟨Nat.zero_lt_succ _, r, rfl⟩
theorem nameSize_any (s : ByteArray) (w : World) (hs : s.size ≤ 40000) : Calls Tryd.prog 63 #[.string s] w fun e w' => e = .returned (.int .i64 (nameLen s.data.toList)) ∧ w = w' := by
  by_cases hn : s.data.toList = []
  · obtain rfl := bytes_nil hn
    go_enter Tryd.func63, Tryd.ntmps63
    go_wp2
    go_ret
    exact ⟨rfl, rfl⟩
  · obtain ⟨h0, r, hr⟩ := bytes_cons hn
    have hne : s.toList ≠ [] := by rw [Lib.toList_data]; exact hn
    have hne2 : (!s.toList.isEmpty) = true := by simpa using hne
    have hne3 : s.toList.isEmpty = false := by simpa using hne
    have HR := Lib.hid hr
    clear hr hn
    by_cases hp : small s[0] = true
    · go_enter Tryd.func63, Tryd.ntmps63
      go_wp2_with (first
        | (go_at_call 75; refine (isLetter_any _ _).mono ?_; rintro e w' ⟨rfl, rfl⟩)
        | (go_at_call 65; refine (run_tail _ _ hs).mono ?_; rintro e w' ⟨rfl, rfl⟩))
      go_ret
      exact ⟨ret_int (by rw [HR.out]; rw [nameLen_cons, if_pos hp]), rfl⟩
    · have hp' : small s[0] = false := by simpa using hp
      clear hp
      go_enter Tryd.func63, Tryd.ntmps63
      go_wp2_with (first
        | (go_at_call 75; refine (isLetter_any _ _).mono ?_; rintro e w' ⟨rfl, rfl⟩)
        | (go_at_call 65; refine (run_tail _ _ hs).mono ?_; rintro e w' ⟨rfl, rfl⟩))
      go_ret
      exact ⟨ret_int (by rw [HR.out]; rw [nameLen_cons, if_neg (by simp [hp'])]; rfl), rfl⟩
theorem word_any (s : ByteArray) (w : World) : Calls Tryd.prog 64 #[.string s] w fun e w' => e = .returned (.bool (isWord s.data.toList)) ∧ w = w' := by
  have HT := Lib.hid (Lib.toList_data s)
  go_enter Tryd.func64, Tryd.ntmps64
  go_wp2
  all_goals
    go_ret
    refine ⟨ret_bool ?_, rfl⟩
    rw [← HT.out]
    simp_all [isWord, wordsL]
end Go.Proofs.YtihjdfbdpcghdaaDoor
end
section
namespace Go.Proofs.YtihjdfbdpcghdaaDoor
open Go.RowKit
theorem twoB_eq (l : List UInt8) : twoB l = (Lib.hasPrefix l [60, 61] || Lib.hasPrefix l [61, 61] || Lib.hasPrefix l [33, 61]) := rfl
theorem signLen_cons (c : UInt8) (r : List UInt8) : signLen (c :: r) = if twoB (c :: r) then 2 else if signsL.contains c then 1 else 0 := rfl
theorem byte_back (c : UInt8) : ((c.toNat : Int)).toNat.toUInt8 = c := by simp
theorem signSize_any (s : ByteArray) (w : World) : Calls Tryd.prog 67 #[.string s] w fun e w' => e = .returned (.int .i64 (signLen s.data.toList)) ∧ Below w.heap.size w w' := by
  have hmf : ∀ (fn : Fn) (first cap : Array Value) (w : World), (Instr.makeFunc fn first cap).run Tryd.prog w = .ok (.func fn first cap) w := fun _ _ _ _ => rfl
  by_cases hn : s.data.toList = []
  · obtain rfl := bytes_nil hn
    have h1 : Lib.hasPrefix (⟨#[]⟩ : ByteArray).data.toList [60, 61] = false := rfl
    have h2 : Lib.hasPrefix (⟨#[]⟩ : ByteArray).data.toList [61, 61] = false := rfl
    have h3 : Lib.hasPrefix (⟨#[]⟩ : ByteArray).data.toList [33, 61] = false := rfl
    go_enter Tryd.func67, Tryd.ntmps67
    go_wp2_with (first
      | (go_at_call 78; refine (strings_HasPrefix _ _ _).mono ?_; rintro e w' ⟨rfl, rfl⟩)
      | (go_at_call 79; refine (strings_IndexByte _ _ _).mono ?_; rintro e w' ⟨rfl, rfl⟩)
      | go_in)
    all_goals
      go_ret
      exact ⟨rfl, (Below.refl _ _).alloc (Nat.le_refl _) _⟩
  · obtain ⟨h0, r, hr⟩ := bytes_cons hn
    have hne : s.toList ≠ [] := by rw [Lib.toList_data]; exact hn
    have hne2 : (!s.toList.isEmpty) = true := by simpa using hne
    have hne3 : s.toList.isEmpty = false := by simpa using hne
    have HR := Lib.hid hr
    have hcb := byte_back s[0]
    have hci : signsL.contains s[0] = decide (0 ≤ Lib.indexByte signsL s[0]) := Lib.contains_iff_indexByte _ _
    unfold signsL at hci
    have HI := Lib.hid hci
    clear hr hn hci
    obtain ⟨b1, h1⟩ : ∃ b, b = Lib.hasPrefix s.data.toList [60, 61] := ⟨_, rfl⟩
    obtain ⟨b2, h2⟩ : ∃ b, b = Lib.hasPrefix s.data.toList [61, 61] := ⟨_, rfl⟩
    obtain ⟨b3, h3⟩ : ∃ b, b = Lib.hasPrefix s.data.toList [33, 61] := ⟨_, rfl⟩
    have HT : Hid (twoB s.data.toList = (b1 || b2 || b3)) := Lib.hid (by rw [twoB_eq, h1, h2, h3])
    have h1' := h1.symm
    have h2' := h2.symm
    have h3' := h3.symm
    clear h1 h2 h3
    go_enter Tryd.func67, Tryd.ntmps67
    go_wp2_with (first
      | (go_at_call 78; refine (strings_HasPrefix _ _ _).mono ?_; rintro e w' ⟨rfl, rfl⟩)
      | (go_at_call 79; refine (strings_IndexByte _ _ _).mono ?_; rintro e w' ⟨rfl, rfl⟩)
      | go_in)
    all_goals
      go_ret
      refine ⟨ret_int ?_, (Below.refl _ _).alloc (Nat.le_refl _) _⟩
      have HT' := HT.out
      rw [HR.out] at HT' ⊢
      rw [signLen_cons, HT']
      have HI' := HI.out
      unfold signsL
      rw [HI']
      first
        | (simp_all; done)
        | (simp_all; rw [if_neg (by omega)]; rfl)
def firstV (l : List UInt8) : Value := .tuple #[.int .i64 ((firstOf l).1 : Nat), .int .i64 ((firstOf l).2 : Nat)]
theorem first_name {l : List UInt8} (h : 0 < nameLen l) : firstOf l = (if isWord (l.take (nameLen l)) then 4 else 1, nameLen l) := by
  unfold firstOf; rw [if_pos h]
theorem first_digit {l : List UInt8} (h : nameLen l = 0) (h1 : 0 < runOf digit l) : firstOf l = (2, runOf digit l) := by
  unfold firstOf; rw [if_neg (by omega), if_pos h1]
theorem first_sign {l : List UInt8} (h : nameLen l = 0) (h1 : runOf digit l = 0) (h2 : 0 < signLen l) : firstOf l = (3, signLen l) := by
  unfold firstOf; rw [if_neg (by omega), if_neg (by omega), if_pos h2]
theorem first_no {l : List UInt8} (h : nameLen l = 0) (h1 : runOf digit l = 0) (h2 : signLen l = 0) : firstOf l = (0, 0) := by
  unfold firstOf; rw [if_neg (by omega), if_neg (by omega), if_neg (by omega)]
theorem take_word (s : ByteArray) (n : Nat) : (s.extract 0 n).data.toList = s.data.toList.take n := by
  rw [Lib.extract_data]; simp
theorem ret_tup {a b : Value} (h : a = b) : Ending.returned a = .returned b := by rw [h]
theorem first_any (s : ByteArray) (w : World) (hs : s.size ≤ 40000) : Calls Tryd.prog 56 #[.string s] w fun e w' => e = .returned (firstV s.data.toList) ∧ Below w.heap.size w w' := by
  obtain ⟨n, hn⟩ : ∃ n, n = nameLen s.data.toList := ⟨_, rfl⟩
  obtain ⟨d, hd⟩ : ∃ d, d = runOf digit s.data.toList := ⟨_, rfl⟩
  obtain ⟨g, hg⟩ : ∃ g, g = signLen s.data.toList := ⟨_, rfl⟩
  have hnl := nameLen_le s.data.toList
  rw [← hn] at hnl
  have hnl' : n ≤ s.size := by simpa using hnl
  obtain ⟨wd, hwd⟩ : ∃ b, b = isWord (s.data.toList.take n) := ⟨_, rfl⟩
  have HN := Lib.hid hn
  have HD := Lib.hid hd
  have HG := Lib.hid hg
  have HW := Lib.hid hwd
  have c1 : ∀ w, Calls Tryd.prog 63 #[.string s] w fun e w' => e = .returned (.int .i64 (n : Nat)) ∧ w = w' := fun w => by rw [hn]; exact nameSize_any s w hs
  have c2 : ∀ w, Calls Tryd.prog 65 #[.string s, .func (.func 66) #[] #[]] w fun e w' => e = .returned (.int .i64 (d : Nat)) ∧ w = w' := fun w => by rw [hd]; exact run_digit s w hs
  have c3 : ∀ w, Calls Tryd.prog 67 #[.string s] w fun e w' => e = .returned (.int .i64 (g : Nat)) ∧ Below w.heap.size w w' := fun w => by rw [hg]; exact signSize_any s w
  have c4 : ∀ w, Calls Tryd.prog 64 #[.string (s.extract 0 n)] w fun e w' => e = .returned (.bool wd) ∧ w = w' := fun w => by
    have := word_any (s.extract 0 n) w
    rw [take_word] at this
    rw [hwd]; exact this
  clear hn hd hg hwd hnl
  go_enter Tryd.func56, Tryd.ntmps56
  go_wp2_with (first
    | (go_at_call 63; refine (c1 _).mono ?_; rintro e w' ⟨rfl, rfl⟩)
    | (go_at_call 64; refine (c4 _).mono ?_; rintro e w' ⟨rfl, rfl⟩)
    | (go_at_call 65; refine (c2 _).mono ?_; rintro e w' ⟨rfl, rfl⟩)
    | (go_at_call 67; refine (c3 _).mono ?_; rintro e w' ⟨rfl, hb⟩))
  all_goals go_ret2
  all_goals (refine ⟨ret_tup ?_, (by first | exact Below.refl _ _ | assumption)⟩)
  all_goals
    unfold firstV
    first
    | (rw [first_name (by rw [← HN.out]; omega), ← HN.out, ← HW.out, ‹wd = true›]; rfl)
    | (rw [first_name (by rw [← HN.out]; omega), ← HN.out, ← HW.out, ‹wd = false›]; rfl)
    | (rw [first_digit (by rw [← HN.out]; omega) (by rw [← HD.out]; omega), ← HD.out]; rfl)
    | (rw [first_sign (by rw [← HN.out]; omega) (by rw [← HD.out]; omega) (by rw [← HG.out]; omega), ← HG.out]; rfl)
    | (rw [first_no (by rw [← HN.out]; omega) (by rw [← HD.out]; omega) (by rw [← HG.out]; omega)]; rfl)
end Go.Proofs.YtihjdfbdpcghdaaDoor
end
section
set_option linter.unusedVariables false
namespace Go.Proofs.YtihjdfbdpcghdaaDoor
open Go.RowKit
theorem size_len (t : ByteArray) : t.size = t.data.toList.length := by simp
end Go.Proofs.YtihjdfbdpcghdaaDoor
end
section
set_option linter.unusedVariables false
namespace Go.Proofs.YtihjdfbdpcghdaaDoor
open Go.RowKit
theorem add_pl (b off i : Nat) : (⟨b, off, none⟩ : Addr).add i = ⟨b, off + i, none⟩ := by unfold Addr.add; split <;> simp_all
def strOf (t : List UInt8) : ByteArray := ⟨t.toArray⟩
theorem strOf_data (t : List UInt8) : (strOf t).data.toList = t := rfl
def Toks (w : World) (B : Nat) (A : Option Addr) (l : List Tok) : Prop :=
  ∀ (k : Nat) (h : k < l.length), ∃ b, A = some ⟨b, 0, none⟩ ∧ b < B ∧ w.cell? ⟨b, k * 3, none⟩ = some (.int .i64 (l[k].kind : Nat)) ∧ w.cell? ⟨b, k * 3 + 1, none⟩ = some (.string (strOf l[k].text)) ∧ w.cell? ⟨b, k * 3 + 2, none⟩ = some (.int .i64 (l[k].pl : Nat))
theorem Toks.below {w w' : World} {B : Nat} {A : Option Addr} {l : List Tok} (h : Toks w B A l) (hb : Below B w w') : Toks w' B A l := by
  intro k hk
  obtain ⟨b, hA, hlt, h0, h1, h2⟩ := h k hk
  exact ⟨b, hA, hlt, (hb.cell (p := ⟨b, k * 3, none⟩) hlt).trans h0, (hb.cell (p := ⟨b, k * 3 + 1, none⟩) hlt).trans h1, (hb.cell (p := ⟨b, k * 3 + 2, none⟩) hlt).trans h2⟩
theorem Toks.mono {w : World} {B B' : Nat} {A : Option Addr} {l : List Tok} (h : Toks w B A l) (hB : B ≤ B') : Toks w B' A l := by
  intro k hk
  obtain ⟨b, hA, hlt, h0⟩ := h k hk
  exact ⟨b, hA, by omega, h0⟩
end Go.Proofs.YtihjdfbdpcghdaaDoor
end
section
set_option linter.unusedVariables false
namespace Go.Proofs.YtihjdfbdpcghdaaDoor
open Go.RowKit
def nameB (l : List UInt8) : Bool := decide ((firstOf l).1 = 1 ∧ (firstOf l).2 = l.length ∧ l.length ≤ 16)
def spelledB (l : List UInt8) : Bool := decide (0 < l.length ∧ nameLen l = l.length)
theorem run_all {p : UInt8 → Bool} {l : List UInt8} : runOf p l = l.length ↔ ∀ (j : Nat) (h : j < l.length), p l[j] = true := by
  unfold runOf
  induction l with
  | nil => simp
  | cons c r ih =>
    rw [List.takeWhile_cons]
    by_cases hc : p c = true
    · rw [if_pos hc]
      constructor
      · intro h j hj
        have h' : (r.takeWhile p).length = r.length := by simpa using h
        cases j with
        | zero => exact hc
        | succ j => exact (ih.1 h') j (by simpa using hj)
      · intro h
        have := ih.2 (fun j hj => h (j + 1) (by simpa using hj))
        simpa using this
    · rw [if_neg hc]
      constructor
      · intro h; simp at h
      · intro h; exact absurd (h 0 (by simp)) hc
def goodB (k : Nat) (c : UInt8) : Bool := small c || (decide (0 < k) && (digit c || c.toNat == 95))
theorem good_tail {k : Nat} {c : UInt8} (h : goodB k c = true) : tailB c = true := by
  unfold goodB at h; unfold tailB
  revert h
  cases small c <;> cases digit c <;> simp
theorem good_of_tail {k : Nat} {c : UInt8} (hk : 0 < k) (h : tailB c = true) : goodB k c = true := by
  unfold tailB at h; unfold goodB
  revert h
  cases small c <;> cases digit c <;> simp [hk]
theorem spelled_iff (l : List UInt8) : spelledB l = true ↔ 0 < l.length ∧ ∀ (j : Nat) (h : j < l.length), goodB j l[j] = true := by
  unfold spelledB
  rw [decide_eq_true_eq]
  constructor
  · rintro ⟨h0, h1⟩
    refine ⟨h0, ?_⟩
    cases l with
    | nil => simp at h0
    | cons c r =>
      rw [nameLen_cons] at h1
      by_cases hc : small c = true
      · rw [if_pos hc] at h1
        have ha := run_all.1 h1
        intro j hj
        cases j with
        | zero => simp [goodB, hc]
        | succ j => exact good_of_tail (by omega) (ha _ hj)
      · rw [if_neg hc] at h1; simp at h1
  · rintro ⟨h0, h1⟩
    refine ⟨h0, ?_⟩
    cases l with
    | nil => simp at h0
    | cons c r =>
      have hc : small c = true := by have := h1 0 h0; simpa [goodB] using this
      rw [nameLen_cons, if_pos hc]
      exact run_all.2 fun j hj => good_tail (h1 j hj)
theorem name_said (l : List UInt8) : nameB l = (decide (l.length ≤ 16) && spelledB l && !isWord l) := by
  rw [Bool.eq_iff_iff]
  simp only [nameB, spelledB, Bool.and_eq_true, decide_eq_true_eq, Bool.not_eq_true']
  by_cases hn : 0 < nameLen l
  · rw [first_name hn]
    simp only
    constructor
    · rintro ⟨h1, h2, h3⟩
      rw [h2, List.take_length] at h1
      refine ⟨⟨h3, by omega, h2⟩, ?_⟩
      cases hw : isWord l
      · rfl
      · rw [hw] at h1; simp at h1
    · rintro ⟨⟨h3, h4, h2⟩, h5⟩
      refine ⟨?_, h2, h3⟩
      rw [h2, List.take_length, h5]; rfl
  · constructor
    · rintro ⟨h1, h2, h3⟩
      unfold firstOf at h1
      rw [if_neg hn] at h1
      split at h1
      · simp at h1
      · split at h1 <;> simp at h1
    · rintro ⟨⟨h3, h4, h2⟩, h5⟩
      omega
theorem name_any (s : ByteArray) (w : World) (hs : s.size ≤ 40000) : Calls Tryd.prog 43 #[.string s] w fun e w' => e = .returned (.bool (nameB s.data.toList)) ∧ Below w.heap.size w w' := by
  obtain ⟨k, hk⟩ : ∃ k, k = (firstOf s.data.toList).1 := ⟨_, rfl⟩
  obtain ⟨z, hz⟩ : ∃ z, z = (firstOf s.data.toList).2 := ⟨_, rfl⟩
  have c1 : ∀ w, Calls Tryd.prog 56 #[.string s] w fun e w' => e = .returned (.tuple #[.int .i64 (k : Nat), .int .i64 (z : Nat)]) ∧ Below w.heap.size w w' := fun w => by
    have h := first_any s w hs
    unfold firstV at h
    rw [← hk, ← hz] at h
    exact h
  have hq : nameB s.data.toList = decide (k = 1 ∧ z = s.size ∧ s.size ≤ 16) := by unfold nameB; rw [← hk, ← hz, ← size_len]
  have HQ := Lib.hid hq
  clear hk hz hq
  by_cases h1 : k = 1
  · subst h1
    by_cases h2 : z = s.size
    · subst h2
      go_enter Tryd.func43, Tryd.ntmps43
      go_wp2_with (go_at_call 56; refine (c1 _).mono ?_; rintro e w1 ⟨rfl, hb1⟩)
      go_ret
      exact ⟨ret_bool (by rw [HQ.out]; simp; omega), hb1⟩
    · have h2' : ((z : Int) == (s.size : Int)) = false := by rw [beq_eq_false_iff_ne]; omega
      have H2 := Lib.hid h2
      clear h2
      go_enter Tryd.func43, Tryd.ntmps43
      go_wp2_with (go_at_call 56; refine (c1 _).mono ?_; rintro e w1 ⟨rfl, hb1⟩)
      go_ret
      exact ⟨ret_bool (by rw [HQ.out]; simp [H2.out]), hb1⟩
  · have h1' : ((k : Int) == 1) = false := by rw [beq_eq_false_iff_ne]; omega
    have H1 := Lib.hid h1
    clear h1
    go_enter Tryd.func43, Tryd.ntmps43
    go_wp2_with (go_at_call 56; refine (c1 _).mono ?_; rintro e w1 ⟨rfl, hb1⟩)
    go_ret
    exact ⟨ret_bool (by rw [HQ.out]; simp [H1.out]), hb1⟩
end Go.Proofs.YtihjdfbdpcghdaaDoor
end
section
namespace Go.Proofs.YtihjdfbdpcghdaaDoor
open Go.RowKit
def Drawn (w w' : World) : Prop := ∃ n, w' = w.drewN n
theorem Drawn.refl (w : World) : Drawn w w := ⟨0, rfl⟩
theorem Drawn.drew {w w' : World} (h : Drawn w w') : Drawn w w'.drew := by
  obtain ⟨n, rfl⟩ := h
  exact ⟨n + 1, rfl⟩
theorem Drawn.cell {w w' : World} (h : Drawn w w') (p : Addr) : w'.cell? p = w.cell? p := by
  obtain ⟨n, rfl⟩ := h; rfl
theorem Drawn.heap {w w' : World} (h : Drawn w w') : w'.heap = w.heap := by
  obtain ⟨n, rfl⟩ := h; rfl
theorem Drawn.below {w w' : World} {B : Nat} (h : Drawn w w') : Below B w w' := by
  obtain ⟨n, rfl⟩ := h
  exact ⟨rfl, rfl, rfl, Nat.le_refl _, fun _ _ => rfl⟩
end Go.Proofs.YtihjdfbdpcghdaaDoor
end
section
set_option linter.unusedVariables false
namespace Go.Proofs.YtihjdfbdpcghdaaDoor
open Go.RowKit
theorem lt_of_cell {w : World} {p : Addr} {v : Value} (h : w.cell? p = some v) : p.block < w.heap.size := by
  rcases Nat.lt_or_ge p.block w.heap.size with hlt | hge
  · exact hlt
  · simp [World.cell?, Array.getElem?_eq_none hge] at h
def boom : Ending := .panicked [{ v := .iface 28 (.int .i64 23), recovered := false }]
theorem must_yes (w : World) : Calls Tryd.prog 27 #[.bool true] w fun e w' => e = .returned (.tuple #[]) ∧ w = w' := by
  go_enter Tryd.func27, Tryd.ntmps27
  go_wp2
  go_end0
  exact ⟨rfl, rfl⟩
theorem must_no (w : World) : Calls Tryd.prog 27 #[.bool false] w fun e w' => e = boom ∧ w = w' := by
  go_enter Tryd.func27, Tryd.ntmps27
  go_wp2
  exact ⟨rfl, rfl, rfl⟩
theorem take_string (p : Addr) (s : ByteArray) (w : World) (hc : w.cell? p = some (.string s)) (hz : w.frozen? p = false) :
    Calls Tryd.prog 44 #[.pointer (some p)] w fun e w' => e = .returned (.string s) ∧ w' = w.setCell p (.string ⟨#[]⟩) := by
  go_enter Tryd.func44, Tryd.ntmps44
  go_wp2
  go_ret
  exact ⟨rfl, rfl⟩
theorem take_int (p : Addr) (n : Int) (w : World) (hc : w.cell? p = some (.int .i64 n)) (hz : w.frozen? p = false) :
    Calls Tryd.prog 46 #[.pointer (some p)] w fun e w' => e = .returned (.int .i64 n) ∧ w' = w.setCell p (.int .i64 0) := by
  go_enter Tryd.func46, Tryd.ntmps46
  go_wp2
  go_ret
  exact ⟨rfl, rfl⟩
theorem take_pairs (p : Addr) (A : Option Addr) (n c : Nat) (w : World) (hc : w.cell? p = some (.slice A n c)) (hz : w.frozen? p = false) :
    Calls Tryd.prog 52 #[.pointer (some p)] w fun e w' => e = .returned (.slice A n c) ∧ w' = w.setCell p (.slice none 0 0) := by
  go_enter Tryd.func52, Tryd.ntmps52
  go_wp2
  go_ret
  exact ⟨rfl, rfl⟩
theorem take_stmts (p : Addr) (A : Option Addr) (n c : Nat) (w : World) (hc : w.cell? p = some (.slice A n c)) (hz : w.frozen? p = false) :
    Calls Tryd.prog 55 #[.pointer (some p)] w fun e w' => e = .returned (.slice A n c) ∧ w' = w.setCell p (.slice none 0 0) := by
  go_enter Tryd.func55, Tryd.ntmps55
  go_wp2
  go_ret
  exact ⟨rfl, rfl⟩
theorem take_exprs (p : Addr) (A : Option Addr) (n c : Nat) (w : World) (hc : w.cell? p = some (.slice A n c)) (hz : w.frozen? p = false) :
    Calls Tryd.prog 74 #[.pointer (some p)] w fun e w' => e = .returned (.slice A n c) ∧ w' = w.setCell p (.slice none 0 0) := by
  go_enter Tryd.func74, Tryd.ntmps74
  go_wp2
  go_ret
  exact ⟨rfl, rfl⟩
theorem takeName_yes (p : Addr) (s : ByteArray) (w : World) (hc : w.cell? p = some (.string s)) (hz : w.frozen? p = false) (hs : s.size ≤ 40000) (hn : nameB s.data.toList = true) :
    Calls Tryd.prog 29 #[.pointer (some p)] w fun e w' => e = .returned (.string s) ∧ ∃ w1, Below w.heap.size w w1 ∧ w' = w1.setCell p (.string ⟨#[]⟩) := by
  have hlt := lt_of_cell hc
  have hfr : ∀ w1, Below w.heap.size w w1 → w1.frozen? p = false := fun w1 hb => (World.frozen?_of_block (w := w) (hb.block p.block hlt)).trans hz
  have hcl : ∀ w1, Below w.heap.size w w1 → w1.cell? p = some (.string s) := fun w1 hb => (World.cell?_of_block (w := w) (hb.block p.block hlt)).trans hc
  have HF := Lib.hid hfr
  have HC := Lib.hid hcl
  clear hfr hcl
  go_enter Tryd.func29, Tryd.ntmps29
  go_wp2_with fail
  refine (name_any s w hs).mono ?_
  rw [hn]
  rintro e w1 ⟨rfl, hb1⟩
  clear hc hz
  have hc := HC.out w1 hb1
  have hz := HF.out w1 hb1
  have HB := Lib.hid hb1
  clear hb1
  go_wp2_with fail
  refine (must_yes _).mono ?_
  rintro e w2 ⟨rfl, rfl⟩
  go_wp2_with fail
  refine (take_string p s _ hc hz).mono ?_
  rintro e w2 ⟨rfl, hw2⟩
  go_wp2_with fail
  go_ret
  exact ⟨rfl, _, HB.out, rfl⟩
theorem takeName_no (p : Addr) (s : ByteArray) (w : World) (hc : w.cell? p = some (.string s)) (hs : s.size ≤ 40000) (hn : nameB s.data.toList = false) :
    Calls Tryd.prog 29 #[.pointer (some p)] w fun e w' => e = boom ∧ Below w.heap.size w w' := by
  go_enter Tryd.func29, Tryd.ntmps29
  go_wp2_with fail
  refine (name_any s w hs).mono ?_
  rw [hn]
  rintro e w1 ⟨rfl, hb1⟩
  have HB := Lib.hid hb1
  clear hb1
  go_wp2_with fail
  refine (must_no _).mono ?_
  rintro e w2 ⟨rfl, rfl⟩
  unfold boom
  go_wp2
  exact ⟨rfl, rfl, HB.out⟩
end Go.Proofs.YtihjdfbdpcghdaaDoor
end
section
set_option linter.unusedVariables false
namespace Go.Proofs.YtihjdfbdpcghdaaDoor
open Go.RowKit
inductive Ex where
  | mk (kind pl num : Int) (name : List UInt8) (args : List Ex)
def Ex.kind : Ex → Int | .mk k _ _ _ _ => k
def Ex.pl : Ex → Int | .mk _ p _ _ _ => p
def Ex.num : Ex → Int | .mk _ _ n _ _ => n
def Ex.name : Ex → List UInt8 | .mk _ _ _ s _ => s
def Ex.args : Ex → List Ex | .mk _ _ _ _ a => a
theorem Ex.eta (e : Ex) : Ex.mk e.kind e.pl e.num e.name e.args = e := by cases e; rfl
def exCells (e : Ex) (v : Value) : List Value := [.int .i64 e.kind, .int .i64 e.pl, .int .i64 e.num, .string (strOf e.name), v]
inductive IsExs (w : World) (S : Nat → Prop) : List Ex → Value → Prop
  | mk (es : List Ex) (A : Option Addr) (c : Nat) (f : Nat → Value) (hc : es.length ≤ c) (hM : c ≤ 9223372036854775807)
    (hA : ∀ (k : Nat) (hk : k < es.length), ∃ b off, A = some ⟨b, off, none⟩ ∧ S b ∧ es[k].name.length ≤ 140737488355328 ∧
      w.cell? ⟨b, off + k * 5, none⟩ = some (.int .i64 es[k].kind) ∧ w.cell? ⟨b, off + k * 5 + 1, none⟩ = some (.int .i64 es[k].pl) ∧ w.cell? ⟨b, off + k * 5 + 2, none⟩ = some (.int .i64 es[k].num) ∧
      w.cell? ⟨b, off + k * 5 + 3, none⟩ = some (.string (strOf es[k].name)) ∧ w.cell? ⟨b, off + k * 5 + 4, none⟩ = some (f k))
    (hr : ∀ (k : Nat) (hk : k < es.length), IsExs w S es[k].args (f k)) : IsExs w S es (.slice A es.length c)
theorem IsExs.keep {w w' : World} {S S' : Nat → Prop} {es : List Ex} {v : Value} (h : IsExs w S es v) (hw : ∀ b, S b → w'.heap[b]? = w.heap[b]?) (hS : ∀ b, S b → S' b) : IsExs w' S' es v := by
  induction h with
  | mk es A c f hc hM hA hr ih =>
    refine .mk es A c f hc hM (fun k hk => ?_) (fun k hk => ih k hk)
    obtain ⟨b, off, h1, h2, h3, h4, h5, h6, h7, h8⟩ := hA k hk
    have hcell : ∀ i, w'.cell? ⟨b, i, none⟩ = w.cell? ⟨b, i, none⟩ := fun i => World.cell?_of_block (hw b h2)
    exact ⟨b, off, h1, hS b h2, h3, by rw [hcell]; exact h4, by rw [hcell]; exact h5, by rw [hcell]; exact h6, by rw [hcell]; exact h7, by rw [hcell]; exact h8⟩
mutual
def weigh : Ex → Int → Int → Int
  | .mk _ _ _ name args, most, deep => if deep = 0 ∧ 0 < args.length then most + 1 else weighs args (1 + (name.length : Int)) most deep
def weighs : List Ex → Int → Int → Int → Int
  | [], n, _, _ => n
  | e :: es, n, most, deep => if n ≤ most then weighs es (n + weigh e (most - n) (deep - 1)) most deep else n
end
theorem weighs_stop (es : List Ex) (n most deep : Int) (h : ¬ n ≤ most) : weighs es n most deep = n := by
  cases es with
  | nil => rw [weighs]
  | cons e es => rw [weighs, if_neg h]
end Go.Proofs.YtihjdfbdpcghdaaDoor
end
