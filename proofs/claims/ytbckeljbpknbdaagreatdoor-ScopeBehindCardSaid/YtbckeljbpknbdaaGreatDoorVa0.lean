/- Ra Rs Rb Rc Rd Re Dn Ua Uc Ue Uh Uj Uk Um Rf Rg Va Aa Vc Vd Ve Vs Vg Ab Vh Ac Ae -/
import Derived.Shelf.Small.Strs
import Derived.Shelf.LaysM
import Derived.Shelf.Strconv.Clone
import Derived.Shelf.Strings.Search1
import Derived.Shelf.Strings.Prefix
import Derived.Test.YtbckeljbpknbdaaGreatDoorRows
import Derived.WalkKit
import Derived.WalkSpells
import Derived.WalkLawsBesides
import Derived.Lib.Hide
import Derived.Lib.IndexAny
import Derived.OwnWalk
import Derived.Deep.AppendLies
import Derived.Laws.AppendOwnNone
import Derived.Deep.QuietTactic
import Derived.BigQuiet
import Derived.StillTailTactics
import Derived.IntWalk
import Derived.Lib.ItoaNum
import Derived.Recover
import Derived.Lib.AppendStr
import Derived.Lib.BufferRead
import Derived.Shelf.Small.Wraps
import Derived.Shelf.Strconv.Itoa0
import Derived.Shelf.Strconv.Itoa1
import Derived.Shelf.Strconv.Itoa2
import Derived.Shelf.Strconv.Itoa3
import Derived.Shelf.Slices.Turned
import Derived.Lib.AppendIntMem
set_option linter.unusedVariables false
set_option linter.unusedSimpArgs false
namespace Go.Proofs.YtbckeljbpknbdaaGreatDoor
open Go.RowKit
theorem lh {p : Prop} (h : p) : Hid p := h
structure Tok where
 kind : Nat
 text : List UInt8
 pl : Nat
inductive Res where
 | ok (l : List Tok)
 | err (pl e : Nat)
def Res.pre (acc : List Tok) : Res → Res
 | .ok l => .ok (acc ++ l)
 | .err p e => .err p e
theorem Res.pre_nil (x : Res) : x.pre [] = x := by cases x <;> rfl
theorem Res.pre_pre (a b : List Tok) (x : Res) : (x.pre b).pre a = x.pre (a ++ b) := by cases x <;> simp [Res.pre]
def Xfk (c : UInt8) : Bool := decide (97 ≤ c.toNat) && decide (c.toNat ≤ 122)
def Xcd (c : UInt8) : Bool := decide (48 ≤ c.toNat) && decide (c.toNat ≤ 57)
def Xgh (c : UInt8) : Bool := Xfk c || Xcd c || c.toNat == 95
def Xdk (c : UInt8) : Bool := c.toNat == 32 || c.toNat == 10
def wordsL : List (List UInt8) := [[98, 111, 111, 108], [99, 97, 108, 108], [99, 104, 97, 110], [101, 108, 115, 101], [102, 97, 108, 115, 101], [102, 117, 110, 99], [105, 102], [105, 110, 112, 117, 116], [105, 110, 116], [108, 101, 110], [108, 111, 99, 107], [109, 97, 107, 101], [110, 101, 119], [110, 105, 108], [111, 117, 116], [114, 101, 99, 118], [114, 101, 108, 101, 97, 115, 101], [114, 101, 116, 117, 114, 110], [115, 101, 110, 100], [115, 101, 116], [115, 105, 110, 107], [115, 116, 114, 117, 99, 116], [116, 104, 114, 101, 97, 100], [116, 114, 117, 101], [117, 110, 108, 111, 99, 107], [118, 97, 114], [119, 104, 105, 108, 101]]
def Xgf : List UInt8 := [123, 125, 40, 41, 91, 93, 44, 59, 46, 58, 61, 43, 45, 42, 47, 37, 60, 33, 38, 124]
def Xka (t : List UInt8) : Bool := wordsL.contains t
def Xcx (p : UInt8 → Bool) (l : List UInt8) : Nat := (l.takeWhile p).length
def Xbp : List UInt8 → Nat
 | [] => 0
 | c :: r => if Xfk c then Xcx Xgh (c :: r) else 0
theorem Xdd (c : UInt8) (r : List UInt8) : Xbp (c :: r) = if Xfk c then Xcx Xgh (c :: r) else 0 := rfl
def twoB (l : List UInt8) : Bool := List.isPrefixOf [60, 61] l || List.isPrefixOf [61, 61] l || List.isPrefixOf [33, 61] l
def Xdi (l : List UInt8) : Nat := if twoB l then 2 else match l with
 | [] => 0
 | c :: _ => if Xgf.contains c then 1 else 0
def Xao (l : List UInt8) : Nat × Nat :=
 if 0 < Xbp l then (if Xka (l.take (Xbp l)) then 4 else 1, Xbp l)
 else if 0 < Xcx Xcd l then (2, Xcx Xcd l)
 else if 0 < Xdi l then (3, Xdi l) else (0, 0)
def Xba (k : Nat) (t : List UInt8) (n : Nat) : Nat :=
 if k = 0 then 10 else if (k = 1 ∧ 16 < t.length) ∨ 4096 ≤ n then 12
 else if k = 2 ∧ (18 < t.length ∨ (1 < t.length ∧ t.head? = some 48)) then 11 else 0
def sc : List UInt8 → Nat → Nat → Nat → Res
 | [], _, _, _ => .ok []
 | _ :: r, k + 1, at_, n => sc r k (at_ + 1) n
 | c :: r, 0, at_, n =>
   if Xdk c then sc r 0 (at_ + 1) n
   else if Xba (Xao (c :: r)).1 ((c :: r).take (Xao (c :: r)).2) n ≠ 0 then .err at_ (Xba (Xao (c :: r)).1 ((c :: r).take (Xao (c :: r)).2) n)
   else (sc r ((Xao (c :: r)).2 - 1) (at_ + 1) (n + 1)).pre [⟨(Xao (c :: r)).1, (c :: r).take (Xao (c :: r)).2, at_⟩]
def toks (l : List UInt8) : Res := if 16384 < l.length then .err 0 12 else sc l 0 0 0
theorem Yfg : ∀ (k : Nat) (l : List UInt8) (a n : Nat), k ≤ l.length → sc l k a n = sc (l.drop k) 0 (a + k) n
 | 0, _, _, _, _ => rfl
 | k + 1, [], _, _, h => absurd h (by simp)
 | k + 1, _ :: r, a, n, h => by
   have ih := Yfg k r (a + 1) n (by simpa using h)
   show sc r k (a + 1) n = sc (r.drop k) 0 (a + (k + 1)) n
   rw [ih, show a + 1 + k = a + (k + 1) from by omega]
theorem Xcv {c : UInt8} {r : List UInt8} {a n : Nat} (h : Xdk c = true) : sc (c :: r) 0 a n = sc r 0 (a + 1) n := by
 rw [sc, if_pos h]
theorem Yfc {c : UInt8} {r : List UInt8} {a n : Nat} (h : Xdk c = false) (he : Xba (Xao (c :: r)).1 ((c :: r).take (Xao (c :: r)).2) n ≠ 0) :
  sc (c :: r) 0 a n = .err a (Xba (Xao (c :: r)).1 ((c :: r).take (Xao (c :: r)).2) n) := by
 rw [sc, if_neg (by simp [h]), if_pos he]
theorem Xyh (p : UInt8 → Bool) (l : List UInt8) : Xcx p l ≤ l.length := by
 unfold Xcx
 induction l with
 | nil => simp
 | cons c r ih =>
   rw [List.takeWhile_cons]
   split
   · simpa using ih
   · simp
theorem Xpu (l : List UInt8) : Xbp l ≤ l.length := by
 cases l with
 | nil => simp [Xbp]
 | cons c r =>
   show (if Xfk c = true then Xcx Xgh (c :: r) else 0) ≤ _
   split
   · exact Xyh _ _
   · simp
theorem Yas (l : List UInt8) : Xdi l ≤ l.length := by
 unfold Xdi
 split
 · rename_i h
   match l, h with
   | [], h => simp [twoB] at h
   | [c], h => simp [twoB, List.isPrefixOf] at h
   | c :: d :: r, _ => simp
 · cases l with
   | nil => simp
   | cons c r => simp only [List.length_cons]; split <;> omega
theorem Xle (l : List UInt8) : (Xao l).2 ≤ l.length := by
 unfold Xao
 split
 · exact Xpu l
 · split
   · exact Xyh _ l
   · split
     · exact Yas l
     · simp
theorem Xie (l : List UInt8) : (Xao l).1 = 0 ↔ (Xao l).2 = 0 := by
 unfold Xao
 split
 · constructor
   · intro h; split at h <;> simp at h
   · intro h; have h' : Xbp l = 0 := h; omega
 · split
   · constructor
     · intro h; simp at h
     · intro h; have h' : Xcx Xcd l = 0 := h; omega
   · split
     · constructor
       · intro h; simp at h
       · intro h; have h' : Xdi l = 0 := h; omega
     · simp
theorem Xfr {k : Nat} {t : List UInt8} {n : Nat} (h : Xba k t n = 0) : k ≠ 0 := by
 intro e
 unfold Xba at h
 rw [if_pos e] at h
 cases h
theorem Xis {k : Nat} {t : List UInt8} {n : Nat} (h : Xba k t n = 0) : n < 4096 := by
 have hk := Xfr h
 unfold Xba at h
 rw [if_neg hk] at h
 split at h
 · cases h
 · omega
theorem sc_tok {c : UInt8} {r : List UInt8} {a n : Nat} (h : Xdk c = false) (he : Xba (Xao (c :: r)).1 ((c :: r).take (Xao (c :: r)).2) n = 0) :
  sc (c :: r) 0 a n = (sc ((c :: r).drop (Xao (c :: r)).2) 0 (a + (Xao (c :: r)).2) (n + 1)).pre [⟨(Xao (c :: r)).1, (c :: r).take (Xao (c :: r)).2, a⟩] := by
 have hk := Xfr he
 have hs : (Xao (c :: r)).2 ≠ 0 := fun e => hk ((Xie _).2 e)
 have hle := Xle (c :: r)
 rw [sc, if_neg (by simp [h]), if_neg (by simp [he]), Yfg _ _ _ _ (by simp at hle; omega)]
 generalize Xao (c :: r) = p at hs
 obtain ⟨k, sz⟩ := p
 cases sz with
 | zero => exact absurd rfl hs
 | succ m =>
   show (sc (r.drop m) 0 (a + 1 + m) (n + 1)).pre _ = (sc (r.drop m) 0 (a + (m + 1)) (n + 1)).pre _
   rw [show a + 1 + m = a + (m + 1) from by omega]
def St (s : List UInt8) (a : Nat) (acc : List Tok) : Prop := a ≤ s.length ∧ acc.length ≤ 4096 ∧ sc s 0 0 0 = (sc (s.drop a) 0 a acc.length).pre acc
theorem St.start (s : List UInt8) : St s 0 [] := ⟨Nat.zero_le _, by simp, by rw [Res.pre_nil]; rfl⟩
theorem Xvb {s : List UInt8} {a : Nat} (h : a < s.length) : s.drop a = s[a] :: s.drop (a + 1) := List.drop_eq_getElem_cons h
theorem St.blank {s : List UInt8} {a : Nat} {acc : List Tok} (h : St s a acc) (ha : a < s.length) (hb : Xdk s[a] = true) : St s (a + 1) acc := by
 refine ⟨by omega, h.2.1, h.2.2.trans ?_⟩
 rw [Xvb ha, Xcv hb]
theorem St.err {s : List UInt8} {a : Nat} {acc : List Tok} (h : St s a acc) (ha : a < s.length) (hb : Xdk s[a] = false)
  (he : Xba (Xao (s.drop a)).1 ((s.drop a).take (Xao (s.drop a)).2) acc.length ≠ 0) : sc s 0 0 0 = .err a (Xba (Xao (s.drop a)).1 ((s.drop a).take (Xao (s.drop a)).2) acc.length) := by
 rw [h.2.2]
 rw [Xvb ha] at he ⊢
 rw [Yfc hb he]
 rfl
theorem St.tok {s : List UInt8} {a : Nat} {acc : List Tok} (h : St s a acc) (ha : a < s.length) (hb : Xdk s[a] = false)
  (he : Xba (Xao (s.drop a)).1 ((s.drop a).take (Xao (s.drop a)).2) acc.length = 0) :
  St s (a + (Xao (s.drop a)).2) (acc ++ [⟨(Xao (s.drop a)).1, (s.drop a).take (Xao (s.drop a)).2, a⟩]) ∧ 0 < (Xao (s.drop a)).2 := by
 have hk := Xfr he
 have hs : (Xao (s.drop a)).2 ≠ 0 := fun e => hk ((Xie _).2 e)
 have hle := Xle (s.drop a)
 have hn := Xis he
 rw [List.length_drop] at hle
 refine ⟨⟨by omega, by simp; omega, h.2.2.trans ?_⟩, by omega⟩
 rw [← List.drop_drop]
 rw [Xvb ha] at he ⊢
 rw [sc_tok hb he, Res.pre_pre]
 simp
theorem St.stop {s : List UInt8} {a : Nat} {acc : List Tok} (h : St s a acc) (ha : ¬ a < s.length) : sc s 0 0 0 = .ok acc := by
 have := h.1
 rw [h.2.2, List.drop_of_length_le (by omega)]
 simp [sc, Res.pre]
theorem Xyg {p : UInt8 → Bool} {l : List UInt8} {k : Nat} (hk : k < l.length) (hp : p l[k] = true) : Xcx p (l.drop k) = 1 + Xcx p (l.drop (k + 1)) := by
 rw [List.drop_eq_getElem_cons hk]
 unfold Xcx
 rw [List.takeWhile_cons, if_pos hp]
 simp; omega
theorem Xyi {p : UInt8 → Bool} {l : List UInt8} {k : Nat} (hk : k < l.length) (hp : p l[k] = false) : Xcx p (l.drop k) = 0 := by
 rw [List.drop_eq_getElem_cons hk]
 unfold Xcx
 rw [List.takeWhile_cons, if_neg (by simp [hp])]
 rfl
theorem Xtz {p : UInt8 → Bool} {l : List UInt8} {k : Nat} (hk : ¬ k < l.length) : Xcx p (l.drop k) = 0 := by
 rw [List.drop_of_length_le (by omega)]
 rfl
section
open Go.Shelf
def Xvv : Go.Shelf.Ren := ⟨fun | 137 => 107 | 217 => 123 | 266 => 131 | n => n, fun | 9 => 9 | 5 => 5 | 3 => 3 | n => n, fun | n => n⟩
theorem lays137 : Go.Proofs.Lays.n137 Tryz.prog Xvv := {
 mixed := by kernel_rfl
 f137 := Tryz.func107.trans (congrArg some (by kernel_rfl))
 f217 := Tryz.func123.trans (congrArg some (by kernel_rfl))
 f266 := Tryz.func131.trans (congrArg some (by kernel_rfl))
 t3 := Tryz.underlying3
 a3 := Tryz.isAgg3
 z3 := Tryz.sizeOf3
 v3 := Tryz.zeroValue3
 t5 := Tryz.underlying5
 a5 := Tryz.isAgg5
 z5 := Tryz.sizeOf5
 v5 := Tryz.zeroValue5
 t9 := Tryz.underlying9
 a9 := Tryz.isAgg9
 z9 := Tryz.sizeOf9
 v9 := Tryz.zeroValue9 }
open Go.RowKit in
theorem strings_IndexByte (s : ByteArray) (c : Int) (w : World) :
  Calls Tryz.prog 107 #[.string s, .int .u8 c] w fun e w' => e = .returned (.int .i64 (Lib.indexByte s.data.toList c.toNat.toUInt8)) ∧ w' = w := Any.strings_IndexByte lays137 s c w
def Xtl : Go.Shelf.Ren := ⟨fun | 316 => 75 | n => n, fun | 9 => 9 | 3 => 3 | 4 => 4 | 37 => 148 | 0 => 0 | 127 => 149 | 5 => 5 | n => n, fun | n => n⟩
theorem laysM316 : Go.Proofs.LaysM.n316 Tryz.prog Xtl := {
 mixed := by kernel_rfl
 f316 := Tryz.func75.trans (congrArg some (by kernel_rfl))
 t0 := Tryz.underlying0
 a0 := Tryz.isAgg0
 z0 := Tryz.sizeOf0
 v0 := Tryz.zeroValue0
 t3 := Tryz.underlying3
 a3 := Tryz.isAgg3
 z3 := Tryz.sizeOf3
 v3 := Tryz.zeroValue3
 t4 := Tryz.underlying4
 a4 := Tryz.isAgg4
 z4 := Tryz.sizeOf4
 v4 := Tryz.zeroValue4
 t9 := Tryz.underlying9
 a9 := Tryz.isAgg9
 z9 := Tryz.sizeOf9
 v9 := Tryz.zeroValue9
 t37 := Tryz.underlying148
 a37 := Tryz.isAgg148
 z37 := Tryz.sizeOf148
 v37 := Tryz.zeroValue148
 t127 := Tryz.underlying149
 a127 := Tryz.isAgg149
 z127 := Tryz.sizeOf149
 v127 := Tryz.zeroValue149
 t5 := Tryz.underlying5
 a5 := Tryz.isAgg5
 z5 := Tryz.sizeOf5
 v5 := Tryz.zeroValue5
 i0 := by kernel_rfl
 i3 := by kernel_rfl
 i4 := by kernel_rfl
 i5 := by kernel_rfl
 i9 := by kernel_rfl
 i37 := by kernel_rfl
 i127 := by kernel_rfl }
open Go.RowKit in
theorem stringslite_Clone (s : ByteArray) (w : World) (hlim : s.size ≤ 281474976710656) :
  Calls Tryz.prog 75 #[.string s] w fun e w' => e = .returned (.string s) ∧ Below w.heap.size w w' := Any.stringslite_Clone laysM316 s w hlim
def Xzu : Go.Shelf.Ren := ⟨fun | 99 => 106 | 206 => 115 | n => n, fun | 9 => 9 | 4 => 4 | 3 => 3 | n => n, fun | n => n⟩
theorem lays99 : Go.Proofs.Lays.n99 Tryz.prog Xzu := {
 mixed := by kernel_rfl
 f99 := Tryz.func106.trans (congrArg some (by kernel_rfl))
 f206 := Tryz.func115.trans (congrArg some (by kernel_rfl))
 t3 := Tryz.underlying3
 a3 := Tryz.isAgg3
 z3 := Tryz.sizeOf3
 v3 := Tryz.zeroValue3
 t4 := Tryz.underlying4
 a4 := Tryz.isAgg4
 z4 := Tryz.sizeOf4
 v4 := Tryz.zeroValue4
 t9 := Tryz.underlying9
 a9 := Tryz.isAgg9
 z9 := Tryz.sizeOf9
 v9 := Tryz.zeroValue9 }
open Go.RowKit Go.Lib in
theorem strings_HasPrefix (s p : ByteArray) (w : World) :
  Calls Tryz.prog 106 #[.string s, .string p] w fun e w' => e = .returned (.bool (Lib.hasPrefix s.data.toList p.data.toList)) ∧ w' = w := Any.strings_HasPrefix lays99 s p w
end
theorem Xfd {a b : Bool} (h : a = b) : Ending.returned (.bool a) = .returned (.bool b) := by rw [h]
theorem Xcz {k : IntKind} {a b : Int} (h : a = b) : Ending.returned (.int k a) = .returned (.int k b) := by rw [h]
theorem Xjj (c : UInt8) (w : World) : Calls Tryz.prog 45 #[.int .u8 c.toNat] w fun e w' => e = .returned (.bool (Xdk c)) ∧ w = w' := by
 go_enter Tryz.func45, Tryz.ntmps45
 go_wp2
 all_goals
  go_ret
  exact ⟨Xfd (by rw [Bool.eq_iff_iff]; simp [Xdk]; omega), rfl⟩
theorem Xig (c : UInt8) (w : World) : Calls Tryz.prog 103 #[.int .u8 c.toNat] w fun e w' => e = .returned (.bool (Xfk c)) ∧ w = w' := by
 go_enter Tryz.func103, Tryz.ntmps103
 go_wp2
 all_goals
  go_ret
  exact ⟨Xfd (by rw [Bool.eq_iff_iff]; simp [Xfk]; omega), rfl⟩
theorem Xjk (c : UInt8) (w : World) : Calls Tryz.prog 73 #[.int .u8 c.toNat] w fun e w' => e = .returned (.bool (Xcd c)) ∧ w = w' := by
 go_enter Tryz.func73, Tryz.ntmps73
 go_wp2
 all_goals
  go_ret
  exact ⟨Xfd (by rw [Bool.eq_iff_iff]; simp [Xcd]; omega), rfl⟩
theorem Xpp (c : UInt8) (w : World) : Calls Tryz.prog 104 #[.int .u8 c.toNat] w fun e w' => e = .returned (.bool (Xgh c)) ∧ w = w' := by
 go_enter Tryz.func104, Tryz.ntmps104
 go_wp2_with (first
  | (go_at_call 103; refine (Xig _ _).mono ?_; rintro e w' ⟨rfl, rfl⟩)
  | (go_at_call 73; refine (Xjk _ _).mono ?_; rintro e w' ⟨rfl, rfl⟩))
 all_goals
  go_ret
  exact ⟨Xfd (by rw [Bool.eq_iff_iff]; simp [Xgh, *]; try omega), rfl⟩
set_option maxHeartbeats 400000 in
theorem Yfb (s : ByteArray) (w : World) (hs : s.size ≤ 40000) : Calls Tryz.prog 72 #[.string s, .func (.func 73) #[] #[]] w fun e w' => e = .returned (.int .i64 (Xcx Xcd s.data.toList)) ∧ w = w' := by
 go_enter Tryz.func72, Tryz.ntmps72
 go_wp2
 go_loop [5] (fun x => ∃ k : Nat, k ≤ s.size ∧ x = .int .i64 k ∧ Hid (k + Xcx Xcd (s.data.toList.drop k) = Xcx Xcd s.data.toList)) (fun x => s.size - (intOf x).toNat)
 case atStart => exact ⟨0, Nat.zero_le _, rfl, lh (by simp)⟩
 case round =>
  obtain ⟨k, hk, rfl, HR⟩ := hrel
  by_cases hlt : k < s.size
  · have hl : k < s.data.toList.length := by simpa using hlt
    have hg : s.data.toList[k] = s[k] := rfl
    by_cases hp : Xcd s[k] = true
    · have HN := lh (Xyg hl (hg ▸ hp))
      go_wp2_with (first | (go_at_call 73; refine (Xjk _ _).mono ?_; rintro e w' ⟨rfl, rfl⟩))
      go_round
      case rel => exact ⟨k + 1, by omega, by go_num, lh (by have := HR.out; have := HN.out; omega)⟩
      case measure => simp [intOf]; omega
    · have hp' : Xcd s[k] = false := by simpa using hp
      clear hp
      have HN := lh (Xyi hl (hg ▸ hp'))
      go_wp2_with (first | (go_at_call 73; refine (Xjk _ _).mono ?_; rintro e w' ⟨rfl, rfl⟩))
      go_ret
      exact ⟨Xcz (by have := HR.out; have := HN.out; omega), rfl⟩
  · have HN := lh (Xtz (p := Xcd) (l := s.data.toList) (k := k) (by simpa using hlt))
    go_wp2
    go_ret
    exact ⟨Xcz (by have := HR.out; have := HN.out; omega), rfl⟩
set_option maxHeartbeats 400000 in
theorem Xyj (s : ByteArray) (w : World) (hs : s.size ≤ 40000) : Calls Tryz.prog 72 #[.string s, .func (.func 104) #[] #[]] w fun e w' => e = .returned (.int .i64 (Xcx Xgh s.data.toList)) ∧ w = w' := by
 go_enter Tryz.func72, Tryz.ntmps72
 go_wp2
 go_loop [5] (fun x => ∃ k : Nat, k ≤ s.size ∧ x = .int .i64 k ∧ Hid (k + Xcx Xgh (s.data.toList.drop k) = Xcx Xgh s.data.toList)) (fun x => s.size - (intOf x).toNat)
 case atStart => exact ⟨0, Nat.zero_le _, rfl, lh (by simp)⟩
 case round =>
  obtain ⟨k, hk, rfl, HR⟩ := hrel
  by_cases hlt : k < s.size
  · have hl : k < s.data.toList.length := by simpa using hlt
    have hg : s.data.toList[k] = s[k] := rfl
    by_cases hp : Xgh s[k] = true
    · have HN := lh (Xyg hl (hg ▸ hp))
      go_wp2_with (first | (go_at_call 104; refine (Xpp _ _).mono ?_; rintro e w' ⟨rfl, rfl⟩))
      go_round
      case rel => exact ⟨k + 1, by omega, by go_num, lh (by have := HR.out; have := HN.out; omega)⟩
      case measure => simp [intOf]; omega
    · have hp' : Xgh s[k] = false := by simpa using hp
      clear hp
      have HN := lh (Xyi hl (hg ▸ hp'))
      go_wp2_with (first | (go_at_call 104; refine (Xpp _ _).mono ?_; rintro e w' ⟨rfl, rfl⟩))
      go_ret
      exact ⟨Xcz (by have := HR.out; have := HN.out; omega), rfl⟩
  · have HN := lh (Xtz (p := Xgh) (l := s.data.toList) (k := k) (by simpa using hlt))
    go_wp2
    go_ret
    exact ⟨Xcz (by have := HR.out; have := HN.out; omega), rfl⟩
theorem Xsd {s : ByteArray} (h : s.data.toList = []) : s = ⟨#[]⟩ := by
 obtain ⟨⟨l⟩⟩ := s
 simp at h
 rw [h]
theorem Xlb {s : ByteArray} (h : s.data.toList ≠ []) : ∃ h0 : 0 < s.size, ∃ r, s.data.toList = s[0] :: r := by
 obtain ⟨⟨l⟩⟩ := s
 cases l with
 | nil => exact absurd rfl h
 | cons c r => exact ⟨Nat.zero_lt_succ _, r, rfl⟩
theorem Xtr (s : ByteArray) (w : World) (hs : s.size ≤ 40000) : Calls Tryz.prog 70 #[.string s] w fun e w' => e = .returned (.int .i64 (Xbp s.data.toList)) ∧ w = w' := by
 by_cases hn : s.data.toList = []
 · obtain rfl := Xsd hn
   go_enter Tryz.func70, Tryz.ntmps70
   go_wp2
   go_ret
   exact ⟨rfl, rfl⟩
 · obtain ⟨h0, r, hr⟩ := Xlb hn
   have hne : s.toList ≠ [] := by rw [Lib.toList_data]; exact hn
   have hne2 : (!s.toList.isEmpty) = true := by simpa using hne
   have hne3 : s.toList.isEmpty = false := by simpa using hne
   have HR := lh hr
   clear hr hn
   by_cases hp : Xfk s[0] = true
   · go_enter Tryz.func70, Tryz.ntmps70
     go_wp2_with (first
      | (go_at_call 103; refine (Xig _ _).mono ?_; rintro e w' ⟨rfl, rfl⟩)
      | (go_at_call 72; refine (Xyj _ _ hs).mono ?_; rintro e w' ⟨rfl, rfl⟩))
     go_ret
     exact ⟨Xcz (by rw [HR.out]; rw [Xdd, if_pos hp]), rfl⟩
   · have hp' : Xfk s[0] = false := by simpa using hp
     clear hp
     go_enter Tryz.func70, Tryz.ntmps70
     go_wp2_with (first
      | (go_at_call 103; refine (Xig _ _).mono ?_; rintro e w' ⟨rfl, rfl⟩)
      | (go_at_call 72; refine (Xyj _ _ hs).mono ?_; rintro e w' ⟨rfl, rfl⟩))
     go_ret
     exact ⟨Xcz (by rw [HR.out]; rw [Xdd, if_neg (by simp [hp'])]; rfl), rfl⟩
theorem word_any (s : ByteArray) (w : World) : Calls Tryz.prog 71 #[.string s] w fun e w' => e = .returned (.bool (Xka s.data.toList)) ∧ w = w' := by
 have HT := lh (Lib.toList_data s)
 go_enter Tryz.func71, Tryz.ntmps71
 go_wp2
 all_goals
  go_ret
  refine ⟨Xfd ?_, rfl⟩
  rw [← HT.out]
  simp_all [Xka, wordsL]
theorem twoB_eq (l : List UInt8) : twoB l = (Lib.hasPrefix l [60, 61] || Lib.hasPrefix l [61, 61] || Lib.hasPrefix l [33, 61]) := rfl
theorem Xue (c : UInt8) (r : List UInt8) : Xdi (c :: r) = if twoB (c :: r) then 2 else if Xgf.contains c then 1 else 0 := rfl
theorem Ybn (c : UInt8) : ((c.toNat : Int)).toNat.toUInt8 = c := by simp
theorem Xuf (s : ByteArray) (w : World) : Calls Tryz.prog 74 #[.string s] w fun e w' => e = .returned (.int .i64 (Xdi s.data.toList)) ∧ Below w.heap.size w w' := by
 have hmf : ∀ (fn : Fn) (first cap : Array Value) (w : World), (Instr.makeFunc fn first cap).run Tryz.prog w = .ok (.func fn first cap) w := fun _ _ _ _ => rfl
 by_cases hn : s.data.toList = []
 · obtain rfl := Xsd hn
   have h1 : Lib.hasPrefix (⟨#[]⟩ : ByteArray).data.toList [60, 61] = false := rfl
   have h2 : Lib.hasPrefix (⟨#[]⟩ : ByteArray).data.toList [61, 61] = false := rfl
   have h3 : Lib.hasPrefix (⟨#[]⟩ : ByteArray).data.toList [33, 61] = false := rfl
   go_enter Tryz.func74, Tryz.ntmps74
   go_wp2_with (first
    | (go_at_call 106; refine (strings_HasPrefix _ _ _).mono ?_; rintro e w' ⟨rfl, rfl⟩)
    | (go_at_call 107; refine (strings_IndexByte _ _ _).mono ?_; rintro e w' ⟨rfl, rfl⟩)
    | go_in)
   all_goals
    go_ret
    exact ⟨rfl, (Below.refl _ _).alloc (Nat.le_refl _) _⟩
 · obtain ⟨h0, r, hr⟩ := Xlb hn
   have hne : s.toList ≠ [] := by rw [Lib.toList_data]; exact hn
   have hne2 : (!s.toList.isEmpty) = true := by simpa using hne
   have hne3 : s.toList.isEmpty = false := by simpa using hne
   have HR := lh hr
   have hcb := Ybn s[0]
   have hci : Xgf.contains s[0] = decide (0 ≤ Lib.indexByte Xgf s[0]) := Lib.contains_iff_indexByte _ _
   unfold Xgf at hci
   have HI := lh hci
   clear hr hn hci
   obtain ⟨b1, h1⟩ : ∃ b, b = Lib.hasPrefix s.data.toList [60, 61] := ⟨_, rfl⟩
   obtain ⟨b2, h2⟩ : ∃ b, b = Lib.hasPrefix s.data.toList [61, 61] := ⟨_, rfl⟩
   obtain ⟨b3, h3⟩ : ∃ b, b = Lib.hasPrefix s.data.toList [33, 61] := ⟨_, rfl⟩
   have HT : Hid (twoB s.data.toList = (b1 || b2 || b3)) := lh (by rw [twoB_eq, h1, h2, h3])
   have h1' := h1.symm
   have h2' := h2.symm
   have h3' := h3.symm
   clear h1 h2 h3
   go_enter Tryz.func74, Tryz.ntmps74
   go_wp2_with (first
    | (go_at_call 106; refine (strings_HasPrefix _ _ _).mono ?_; rintro e w' ⟨rfl, rfl⟩)
    | (go_at_call 107; refine (strings_IndexByte _ _ _).mono ?_; rintro e w' ⟨rfl, rfl⟩)
    | go_in)
   all_goals
    go_ret
    refine ⟨Xcz ?_, (Below.refl _ _).alloc (Nat.le_refl _) _⟩
    have HT' := HT.out
    rw [HR.out] at HT' ⊢
    rw [Xue, HT']
    have HI' := HI.out
    unfold Xgf
    rw [HI']
    first
     | (simp_all; done)
     | (simp_all; rw [if_neg (by omega)]; rfl)
def Xxl (l : List UInt8) : Value := .tuple #[.int .i64 ((Xao l).1 : Nat), .int .i64 ((Xao l).2 : Nat)]
theorem Xlf {l : List UInt8} (h : 0 < Xbp l) : Xao l = (if Xka (l.take (Xbp l)) then 4 else 1, Xbp l) := by
 unfold Xao; rw [if_pos h]
theorem Xve {l : List UInt8} (h : Xbp l = 0) (h1 : 0 < Xcx Xcd l) : Xao l = (2, Xcx Xcd l) := by
 unfold Xao; rw [if_neg (by omega), if_pos h1]
theorem Xzq {l : List UInt8} (h : Xbp l = 0) (h1 : Xcx Xcd l = 0) (h2 : 0 < Xdi l) : Xao l = (3, Xdi l) := by
 unfold Xao; rw [if_neg (by omega), if_neg (by omega), if_pos h2]
theorem first_no {l : List UInt8} (h : Xbp l = 0) (h1 : Xcx Xcd l = 0) (h2 : Xdi l = 0) : Xao l = (0, 0) := by
 unfold Xao; rw [if_neg (by omega), if_neg (by omega), if_neg (by omega)]
theorem Ygf (s : ByteArray) (n : Nat) : (s.extract 0 n).data.toList = s.data.toList.take n := by
 rw [Lib.extract_data]; simp
theorem ret_tup {a b : Value} (h : a = b) : Ending.returned a = .returned b := by rw [h]
theorem Xsu (s : ByteArray) (w : World) (hs : s.size ≤ 40000) : Calls Tryz.prog 46 #[.string s] w fun e w' => e = .returned (Xxl s.data.toList) ∧ Below w.heap.size w w' := by
 obtain ⟨n, hn⟩ : ∃ n, n = Xbp s.data.toList := ⟨_, rfl⟩
 obtain ⟨d, hd⟩ : ∃ d, d = Xcx Xcd s.data.toList := ⟨_, rfl⟩
 obtain ⟨g, hg⟩ : ∃ g, g = Xdi s.data.toList := ⟨_, rfl⟩
 have hnl := Xpu s.data.toList
 rw [← hn] at hnl
 have hnl' : n ≤ s.size := by simpa using hnl
 obtain ⟨wd, hwd⟩ : ∃ b, b = Xka (s.data.toList.take n) := ⟨_, rfl⟩
 have HN := lh hn
 have HD := lh hd
 have HG := lh hg
 have HW := lh hwd
 have c1 : ∀ w, Calls Tryz.prog 70 #[.string s] w fun e w' => e = .returned (.int .i64 (n : Nat)) ∧ w = w' := fun w => by rw [hn]; exact Xtr s w hs
 have c2 : ∀ w, Calls Tryz.prog 72 #[.string s, .func (.func 73) #[] #[]] w fun e w' => e = .returned (.int .i64 (d : Nat)) ∧ w = w' := fun w => by rw [hd]; exact Yfb s w hs
 have c3 : ∀ w, Calls Tryz.prog 74 #[.string s] w fun e w' => e = .returned (.int .i64 (g : Nat)) ∧ Below w.heap.size w w' := fun w => by rw [hg]; exact Xuf s w
 have c4 : ∀ w, Calls Tryz.prog 71 #[.string (s.extract 0 n)] w fun e w' => e = .returned (.bool wd) ∧ w = w' := fun w => by
  have := word_any (s.extract 0 n) w
  rw [Ygf] at this
  rw [hwd]; exact this
 clear hn hd hg hwd hnl
 go_enter Tryz.func46, Tryz.ntmps46
 go_wp2_with (first
  | (go_at_call 70; refine (c1 _).mono ?_; rintro e w' ⟨rfl, rfl⟩)
  | (go_at_call 71; refine (c4 _).mono ?_; rintro e w' ⟨rfl, rfl⟩)
  | (go_at_call 72; refine (c2 _).mono ?_; rintro e w' ⟨rfl, rfl⟩)
  | (go_at_call 74; refine (c3 _).mono ?_; rintro e w' ⟨rfl, hb⟩))
 all_goals go_ret2
 all_goals (refine ⟨ret_tup ?_, (by first | exact Below.refl _ _ | assumption)⟩)
 all_goals
  unfold Xxl
  first
  | (rw [Xlf (by rw [← HN.out]; omega), ← HN.out, ← HW.out, ‹wd = true›]; rfl)
  | (rw [Xlf (by rw [← HN.out]; omega), ← HN.out, ← HW.out, ‹wd = false›]; rfl)
  | (rw [Xve (by rw [← HN.out]; omega) (by rw [← HD.out]; omega), ← HD.out]; rfl)
  | (rw [Xzq (by rw [← HN.out]; omega) (by rw [← HD.out]; omega) (by rw [← HG.out]; omega), ← HG.out]; rfl)
  | (rw [first_no (by rw [← HN.out]; omega) (by rw [← HD.out]; omega) (by rw [← HG.out]; omega)]; rfl)
theorem Xgq (t : ByteArray) : t.size = t.data.toList.length := by simp
theorem head_48 (t : ByteArray) (h : 0 < t.size) : t.data.toList.head? = some 48 ↔ t[0].toNat = 48 := by
 obtain ⟨h0, r, hr⟩ := Xlb (s := t) (by intro e; have := Xgq t; rw [e, List.length_nil] at this; omega)
 rw [hr, List.head?_cons]
 constructor
 · intro e; rw [Option.some.inj e]; rfl
 · intro e; congr 1; exact UInt8.toNat_inj.1 e
theorem Ygr (t : List UInt8) (n : Nat) : Xba 2 t n = if 4096 ≤ n then 12 else if 18 < t.length ∨ (1 < t.length ∧ t.head? = some 48) then 11 else 0 := by
 simp [Xba]
theorem Ygq (t : List UInt8) (n : Nat) : Xba 1 t n = if 16 < t.length ∨ 4096 ≤ n then 12 else 0 := by
 simp [Xba]
theorem Ygs (t : List UInt8) (n : Nat) : Xba 3 t n = if 4096 ≤ n then 12 else 0 := by
 simp [Xba]
theorem Ygt (t : List UInt8) (n : Nat) : Xba 4 t n = if 4096 ≤ n then 12 else 0 := by
 simp [Xba]
theorem Ygp (t : List UInt8) (n : Nat) : Xba 0 t n = 10 := rfl
set_option maxRecDepth 100000 in
set_option maxHeartbeats 1000000 in
theorem wrong_0 (t : ByteArray) (n : Nat) (w : World) (hn : n ≤ 5000) (ht : t.size ≤ 40000) :
  Calls Tryz.prog 47 #[.int .i64 0, .string t, .int .i64 n] w fun e w' => e = .returned (.int .i64 (Xba 0 t.data.toList n : Nat)) ∧ w = w' := by
 have HS := lh (Xgq t)
 go_enter Tryz.func47, Tryz.ntmps47
 go_wp2
 all_goals go_ret
 all_goals (refine ⟨Xcz ?_, rfl⟩)
 all_goals rw [Ygp]
 all_goals rfl
set_option maxRecDepth 100000 in
set_option maxHeartbeats 1000000 in
theorem wrong_1 (t : ByteArray) (n : Nat) (w : World) (hn : n ≤ 5000) (ht : t.size ≤ 40000) :
  Calls Tryz.prog 47 #[.int .i64 1, .string t, .int .i64 n] w fun e w' => e = .returned (.int .i64 (Xba 1 t.data.toList n : Nat)) ∧ w = w' := by
 have HS := lh (Xgq t)
 go_enter Tryz.func47, Tryz.ntmps47
 go_wp2
 all_goals go_ret
 all_goals (refine ⟨Xcz ?_, rfl⟩)
 all_goals rw [Ygq]
 all_goals rw [← HS.out]
 all_goals first
  | (rw [if_pos (by omega)]; rfl)
  | (rw [if_neg (by omega)]; rfl)
set_option maxRecDepth 100000 in
set_option maxHeartbeats 1000000 in
theorem wrong_2 (t : ByteArray) (n : Nat) (w : World) (hn : n ≤ 5000) (ht : t.size ≤ 40000) :
  Calls Tryz.prog 47 #[.int .i64 2, .string t, .int .i64 n] w fun e w' => e = .returned (.int .i64 (Xba 2 t.data.toList n : Nat)) ∧ w = w' := by
 have HS := lh (Xgq t)
 go_enter Tryz.func47, Tryz.ntmps47
 go_wp2
 all_goals go_ret
 all_goals (refine ⟨Xcz ?_, rfl⟩)
 all_goals rw [Ygr]
 all_goals rw [← HS.out]
 all_goals first
  | (rw [if_pos (by omega)]; rfl)
  | (rw [if_neg (by omega), if_pos (Or.inl (by omega))]; rfl)
  | (rw [if_neg (by omega), if_neg (by omega)]; rfl)
  | (have h0 : 0 < t.size := by omega
     have hh := head_48 t h0
     rw [if_neg (by omega)]
     first
     | (rw [if_pos (Or.inr ⟨by omega, hh.2 (by rename_i h; rcases h with h | h <;> (try simp at h) <;> omega)⟩)]; rfl)
     | (rw [if_neg (by rw [hh]; rename_i h; obtain ⟨h, h'⟩ := h; simp at h'; omega)]; rfl))
set_option maxRecDepth 100000 in
set_option maxHeartbeats 1000000 in
theorem wrong_3 (t : ByteArray) (n : Nat) (w : World) (hn : n ≤ 5000) (ht : t.size ≤ 40000) :
  Calls Tryz.prog 47 #[.int .i64 3, .string t, .int .i64 n] w fun e w' => e = .returned (.int .i64 (Xba 3 t.data.toList n : Nat)) ∧ w = w' := by
 have HS := lh (Xgq t)
 go_enter Tryz.func47, Tryz.ntmps47
 go_wp2
 all_goals go_ret
 all_goals (refine ⟨Xcz ?_, rfl⟩)
 all_goals rw [Ygs]
 all_goals first
  | (rw [if_pos (by omega)]; rfl)
  | (rw [if_neg (by omega)]; rfl)
set_option maxRecDepth 100000 in
set_option maxHeartbeats 1000000 in
theorem wrong_4 (t : ByteArray) (n : Nat) (w : World) (hn : n ≤ 5000) (ht : t.size ≤ 40000) :
  Calls Tryz.prog 47 #[.int .i64 4, .string t, .int .i64 n] w fun e w' => e = .returned (.int .i64 (Xba 4 t.data.toList n : Nat)) ∧ w = w' := by
 have HS := lh (Xgq t)
 go_enter Tryz.func47, Tryz.ntmps47
 go_wp2
 all_goals go_ret
 all_goals (refine ⟨Xcz ?_, rfl⟩)
 all_goals rw [Ygt]
 all_goals first
  | (rw [if_pos (by omega)]; rfl)
  | (rw [if_neg (by omega)]; rfl)
theorem Xdo (b off i : Nat) : (⟨b, off, none⟩ : Addr).add i = ⟨b, off + i, none⟩ := by unfold Addr.add; split <;> simp_all
def Xab (t : List UInt8) : ByteArray := ⟨t.toArray⟩
theorem Xbe (t : List UInt8) : (Xab t).data.toList = t := rfl
theorem Xnj (s : ByteArray) (a b : Nat) : s.extract a b = Xab ((s.data.toList.drop a).take (b - a)) := Lib.extract_eq s a b
def tokV (t : Tok) : List Value := [.int .i64 (t.kind : Nat), .string (Xab t.text), .int .i64 (t.pl : Nat)]
def Xin (l : List Tok) : List Value := l.flatMap tokV
theorem Ygh (l m : List Tok) : Xin (l ++ m) = Xin l ++ Xin m := by simp [Xin]
theorem Xkp : ∀ (l : List Tok) (k : Nat) (h : k < l.length), (Xin l)[k * 3]? = some (.int .i64 (l[k].kind : Nat)) ∧ (Xin l)[k * 3 + 1]? = some (.string (Xab l[k].text)) ∧ (Xin l)[k * 3 + 2]? = some (.int .i64 (l[k].pl : Nat))
 | [], k, h => absurd h (by simp)
 | t :: l, 0, _ => ⟨rfl, rfl, rfl⟩
 | t :: l, k + 1, h => by
   have ih := Xkp l k (by simpa using h)
   have e2 : Xin (t :: l) = .int .i64 (t.kind : Nat) :: .string (Xab t.text) :: .int .i64 (t.pl : Nat) :: Xin l := rfl
   rw [e2, show (k + 1) * 3 = k * 3 + 3 from by omega, show k * 3 + 3 + 1 = (k * 3 + 1) + 3 from by omega, show k * 3 + 3 + 2 = (k * 3 + 2) + 3 from by omega]
   simpa using ih
theorem Yax (l : List Tok) : ∀ u ∈ Xin l, u.oneCell' = true := by
 intro u hu
 simp only [Xin, List.mem_flatMap] at hu
 obtain ⟨t, _, hu⟩ := hu
 simp [tokV] at hu
 rcases hu with rfl | rfl | rfl <;> rfl
def Toks (w : World) (B : Nat) (A : Option Addr) (l : List Tok) : Prop :=
 ∀ (k : Nat) (h : k < l.length), ∃ b, A = some ⟨b, 0, none⟩ ∧ b < B ∧ w.cell? ⟨b, k * 3, none⟩ = some (.int .i64 (l[k].kind : Nat)) ∧ w.cell? ⟨b, k * 3 + 1, none⟩ = some (.string (Xab l[k].text)) ∧ w.cell? ⟨b, k * 3 + 2, none⟩ = some (.int .i64 (l[k].pl : Nat))
theorem Toks.below {w w' : World} {B : Nat} {A : Option Addr} {l : List Tok} (h : Toks w B A l) (hb : Below B w w') : Toks w' B A l := by
 intro k hk
 obtain ⟨b, hA, hlt, h0, h1, h2⟩ := h k hk
 exact ⟨b, hA, hlt, (hb.cell (p := ⟨b, k * 3, none⟩) hlt).trans h0, (hb.cell (p := ⟨b, k * 3 + 1, none⟩) hlt).trans h1, (hb.cell (p := ⟨b, k * 3 + 2, none⟩) hlt).trans h2⟩
theorem Toks.mono {w : World} {B B' : Nat} {A : Option Addr} {l : List Tok} (h : Toks w B A l) (hB : B ≤ B') : Toks w B' A l := by
 intro k hk
 obtain ⟨b, hA, hlt, h0⟩ := h k hk
 exact ⟨b, hA, by omega, h0⟩
def Xcg (w : World) (base : Nat) (v : Value) (l : List Tok) : Prop := w.ownsRow base 76 3 v l.length (Xin l)
theorem Xcg.nil (w : World) (base : Nat) : Xcg w base (.slice none 0 0) [] := ⟨rfl, .inl ⟨rfl, rfl⟩⟩
theorem Xcg.toks {w : World} {base : Nat} {v : Value} {l : List Tok} (h : Xcg w base v l) : ∃ A c, v = .slice A l.length c ∧ l.length ≤ c ∧ c ≤ maxLen ∧ Toks w w.heap.size A l := by
 have hlt := h.lt
 unfold Xcg at h
 rcases h.2 with ⟨rfl, h2⟩ | ⟨g, cap, cur, rfl, _, hg, hc1, hc2, _⟩
 · exact ⟨none, 0, by rw [h2], by omega, Nat.zero_le _, fun k hk => absurd hk (by omega)⟩
 · refine ⟨some ⟨g, 0, none⟩, cap, rfl, hc1, hc2, fun k hk => ⟨g, rfl, (hlt g rfl).2, ?_, ?_, ?_⟩⟩
   · have := h.cells (g := g) rfl _ _ (Xkp l k hk).1
     rw [Xdo] at this
     simpa using this
   · have := h.cells (g := g) rfl _ _ (Xkp l k hk).2.1
     rw [Xdo] at this
     simpa using this
   · have := h.cells (g := g) rfl _ _ (Xkp l k hk).2.2
     rw [Xdo] at this
     simpa using this
theorem Xcg.alloc {w : World} {base : Nat} {v : Value} {l : List Tok} (h : Xcg w base v l) (o : Obj) : Xcg (w.alloc o) base v l := World.ownsRow.alloc h o
theorem Xcg.below {w w' : World} {base : Nat} {v : Value} {l : List Tok} (h : Xcg w base v l) (hb : Below w.heap.size w w') : Xcg w' base v l := by
 unfold Xcg at h ⊢
 rcases h with ⟨h1, h2 | ⟨g, cap, cur, hv, hbg, hg, h3⟩⟩
 · exact ⟨h1, .inl h2⟩
 · refine ⟨h1, .inr ⟨g, cap, cur, hv, hbg, ?_, h3⟩⟩
   have hlt : g < w.heap.size := by
    rcases Nat.lt_or_ge g w.heap.size with hlt | hge
    · exact hlt
    · rw [Array.getElem?_eq_none hge] at hg; cases hg
   exact (hb.block g hlt).trans hg
theorem Xcg.mono {w : World} {base base' : Nat} {v : Value} {l : List Tok} (h : Xcg w base v l) (hb : base' ≤ base) : Xcg w base' v l := by
 rcases h with ⟨h1, h2 | ⟨g, cap, cur, hv, hbg, h3⟩⟩
 · exact ⟨h1, .inl h2⟩
 · exact ⟨h1, .inr ⟨g, cap, cur, hv, by omega, h3⟩⟩
theorem info_tok : (Tryz.prog.info? 76).map (fun i => (i.zero, i.size, i.bytes)) = some (some (.agg #[.int .i64 0, .string ⟨#[]⟩, .int .i64 0]), 3, 32) := by kernel_rfl
theorem Xhj {ops : Array Oper} {rest : List Oper} {o : Oper} {a : Act} {w : World} {Q : Exit → Act → World → Prop} (hgd : o.guard = none) (s x : Operand)
  (ho : o.op = .call { callee := .builtin .append, args := #[s, x], argTypes := #[69, 69] })
  (base : Nat) (v : Value) (l : List Tok) (hs : a.eval s = v) (hown : Xcg w base v l) (ad : Addr) (c : Nat) (t : Tok) (hx : a.eval x = .slice (some ad) 1 c)
  (hnews : ∀ j u, (tokV t)[j]? = some u → w.cell? (ad.add j) = some u) (hb : l.length ≤ 100000) (hbase : base ≤ w.heap.size)
  (h : ∀ v' w', Xcg w' base v' (l ++ [t]) → w.grownBy w' v.ownBlock → wpList Tryz.prog ops Q rest (a.put o.dst v') w') : wpList Tryz.prog ops Q (o :: rest) a w := by
 obtain ⟨i0, hi, hz0, hz1, hz2⟩ := info_parts info_tok
 refine wpList_append_own _ hgd s x 69 ho base 76 i0 (.agg #[.int .i64 0, .string ⟨#[]⟩, .int .i64 0]) 3 32 Tryz.underlying69 hi hz0 hz1 hz2 rfl (by decide) v l.length (Xin l) hs hown ad 1 c (Xin [t]) hx rfl
  (by simpa [Xin] using hnews) (Yax _) (by unfold maxLen; omega) (by omega) hbase fun v' w' hown' hgr _ => h v' w' ?_ hgr
 unfold Xcg
 rw [List.length_append, Ygh]
 exact hown'
theorem Yed {w : World} {t : Tok} {g : Nat} (hg : g = w.heap.size) : ∀ j u, (tokV t)[j]? = some u → (w.alloc (.cells #[.int .i64 (t.kind : Nat), .string (Xab t.text), .int .i64 (t.pl : Nat)] 76)).cell? ((⟨g, 0, none⟩ : Addr).add j) = some u := by
 subst hg
 intro j u hu
 have hr := heap_alloc_new w (.cells #[.int .i64 (t.kind : Nat), .string (Xab t.text), .int .i64 (t.pl : Nat)] 76)
 rw [Xdo, Nat.zero_add, cell_of_row _ _ j _ _ (0, 0) hr]
 simpa [tokV] using hu
theorem Ygo (k : Nat) (t : ByteArray) (n : Nat) (w : World) (hk : k ≤ 4) (hn : n ≤ 5000) (ht : t.size ≤ 40000) :
  Calls Tryz.prog 47 #[.int .i64 (k : Nat), .string t, .int .i64 n] w fun e w' => e = .returned (.int .i64 (Xba k t.data.toList n : Nat)) ∧ w = w' :=
 match k, hk with
 | 0, _ => wrong_0 t n w hn ht
 | 1, _ => wrong_1 t n w hn ht
 | 2, _ => wrong_2 t n w hn ht
 | 3, _ => wrong_3 t n w hn ht
 | 4, _ => wrong_4 t n w hn ht
 | k + 5, h => absurd h (by omega)
theorem Xst (l : List UInt8) : (Xao l).1 ≤ 4 := by
 unfold Xao
 split
 · show (if _ then 4 else 1) ≤ 4
   split <;> omega
 · split
   · show 2 ≤ 4; omega
   · split
     · show 3 ≤ 4; omega
     · show 0 ≤ 4; omega
theorem Xjw (s : ByteArray) (w : World) (hs : s.size ≤ 40000) :
  Calls Tryz.prog 48 #[.string s] w fun e w' => e = .returned (.string s) ∧ Below w.heap.size w w' := by
 go_enter Tryz.func48, Tryz.ntmps48
 go_wp2_with (go_at_call 75; refine (stringslite_Clone _ _ (by omega)).mono ?_; rintro e w' ⟨rfl, hb⟩)
 go_ret
 exact ⟨rfl, hb⟩
def Xjd (w w' : World) : Prop := ∃ n, w' = w.drewN n
theorem Xjd.refl (w : World) : Xjd w w := ⟨0, rfl⟩
theorem Xjd.drew {w w' : World} (h : Xjd w w') : Xjd w w'.drew := by
 obtain ⟨n, rfl⟩ := h
 exact ⟨n + 1, rfl⟩
theorem Xjd.more {w w' : World} (h : Xjd w w') (n : Nat) : Xjd w (w'.drewN n) := by
 obtain ⟨m, rfl⟩ := h
 exact ⟨m + n, by simp [World.drewN, Nat.add_assoc]⟩
theorem Xjd.cell {w w' : World} (h : Xjd w w') (p : Addr) : w'.cell? p = w.cell? p := by
 obtain ⟨n, rfl⟩ := h; rfl
theorem Xjd.heap {w w' : World} (h : Xjd w w') : w'.heap = w.heap := by
 obtain ⟨n, rfl⟩ := h; rfl
theorem Xjd.below {w w' : World} {B : Nat} (h : Xjd w w') : Below B w w' := by
 obtain ⟨n, rfl⟩ := h
 exact ⟨rfl, rfl, rfl, Nat.le_refl _, fun _ _ => rfl⟩
inductive Ex where
 | mk (kind pl num : Int) (name : List UInt8) (args : List Ex)
def Ex.kind : Ex → Int | .mk k _ _ _ _ => k
def Ex.pl : Ex → Int | .mk _ p _ _ _ => p
def Ex.num : Ex → Int | .mk _ _ n _ _ => n
def Ex.name : Ex → List UInt8 | .mk _ _ _ s _ => s
def Ex.args : Ex → List Ex | .mk _ _ _ _ a => a
def Xbd (e : Ex) (v : Value) : List Value := [.int .i64 e.kind, .int .i64 e.pl, .int .i64 e.num, .string (Xab e.name), v]
inductive Xbb (w : World) (S : Nat → Prop) : List Ex → Value → Prop
 | mk (es : List Ex) (A : Option Addr) (c : Nat) (f : Nat → Value) (hc : es.length ≤ c) (hM : c ≤ 9223372036854775807)
   (hA : ∀ (k : Nat) (hk : k < es.length), ∃ b off, A = some ⟨b, off, none⟩ ∧ S b ∧ es[k].name.length ≤ 140737488355328 ∧
     w.cell? ⟨b, off + k * 5, none⟩ = some (.int .i64 es[k].kind) ∧ w.cell? ⟨b, off + k * 5 + 1, none⟩ = some (.int .i64 es[k].pl) ∧ w.cell? ⟨b, off + k * 5 + 2, none⟩ = some (.int .i64 es[k].num) ∧
     w.cell? ⟨b, off + k * 5 + 3, none⟩ = some (.string (Xab es[k].name)) ∧ w.cell? ⟨b, off + k * 5 + 4, none⟩ = some (f k))
   (hr : ∀ (k : Nat) (hk : k < es.length), Xbb w S es[k].args (f k)) : Xbb w S es (.slice A es.length c)
theorem Xbb.keep {w w' : World} {S S' : Nat → Prop} {es : List Ex} {v : Value} (h : Xbb w S es v) (hw : ∀ b, S b → w'.heap[b]? = w.heap[b]?) (hS : ∀ b, S b → S' b) : Xbb w' S' es v := by
 induction h with
 | mk es A c f hc hM hA hr ih =>
   refine .mk es A c f hc hM (fun k hk => ?_) (fun k hk => ih k hk)
   obtain ⟨b, off, h1, h2, h3, h4, h5, h6, h7, h8⟩ := hA k hk
   have hcell : ∀ i, w'.cell? ⟨b, i, none⟩ = w.cell? ⟨b, i, none⟩ := fun i => World.cell?_of_block (hw b h2)
   exact ⟨b, off, h1, hS b h2, h3, by rw [hcell]; exact h4, by rw [hcell]; exact h5, by rw [hcell]; exact h6, by rw [hcell]; exact h7, by rw [hcell]; exact h8⟩
theorem Xbb.bel {w w' : World} {B : Nat} {es : List Ex} {v : Value} (h : Xbb w (· < B) es v) (hb : Below B w w') : Xbb w' (· < B) es v :=
 h.keep (fun b hlt => hb.block b hlt) (fun _ h => h)
def exsV : List Ex → List Value → List Value
 | e :: es, f :: fs => Xbd e f ++ exsV es fs
 | _, _ => []
theorem Xxi : ∀ {es : List Ex} {fs : List Value}, es.length = fs.length → (exsV es fs).length = es.length * 5
 | [], [], _ => rfl
 | e :: es, f :: fs, h => by
   show (Xbd e f ++ exsV es fs).length = _
   rw [List.length_append, Xxi (by simpa using h)]
   simp [Xbd]; omega
theorem Xmk : ∀ {es : List Ex} {fs : List Value} (e : Ex) (u : Value), es.length = fs.length → exsV (es ++ [e]) (fs ++ [u]) = exsV es fs ++ Xbd e u
 | [], [], e, u, _ => by simp [exsV]
 | d :: es, f :: fs, e, u, h => by
   show Xbd d f ++ exsV (es ++ [e]) (fs ++ [u]) = _
   rw [Xmk e u (by simpa using h)]
   simp [exsV]
theorem Xez : ∀ {es : List Ex} {fs : List Value} (h : es.length = fs.length) (k : Nat) (hk : k < es.length) (i : Nat) (hi : i < 5), (exsV es fs)[k * 5 + i]? = (Xbd es[k] (fs[k]'(by omega)))[i]?
 | e :: es, f :: fs, h, 0, hk, i, hi => by
   show (Xbd e f ++ exsV es fs)[0 * 5 + i]? = _
   rw [Nat.zero_mul, Nat.zero_add, List.getElem?_append_left (by simpa [Xbd] using hi)]
   rfl
 | e :: es, f :: fs, h, k + 1, hk, i, hi => by
   show (Xbd e f ++ exsV es fs)[(k + 1) * 5 + i]? = _
   rw [show (k + 1) * 5 + i = 5 + (k * 5 + i) from by omega, List.getElem?_append_right (by simp [Xbd])]
   rw [show 5 + (k * 5 + i) - (Xbd e f).length = k * 5 + i from by simp [Xbd]]
   exact Xez (by simpa using h) k (by simpa using hk) i hi
theorem Xni (e : Ex) (u : Value) (hu : u.oneCell' = true) : ∀ x ∈ Xbd e u, x.oneCell' = true := by
 intro x hx
 simp [Xbd] at hx
 rcases hx with rfl | rfl | rfl | rfl | rfl
 · rfl
 · rfl
 · rfl
 · rfl
 · exact hu
theorem Xbb.one {w : World} {S : Nat → Prop} {es : List Ex} {v : Value} (h : Xbb w S es v) : v.oneCell' = true := by
 cases h; rfl
def Xhc (w : World) (base : Nat) (v : Value) (es : List Ex) : Prop :=
 ∃ fs : List Value, es.length = fs.length ∧ w.ownsRow base 152 5 v es.length (exsV es fs) ∧
  ∀ (k : Nat) (hk : k < es.length) (hk' : k < fs.length), es[k].name.length ≤ 140737488355328 ∧ Xbb w (fun b => base ≤ b ∧ b < w.heap.size ∧ v.ownBlock ≠ some b) es[k].args fs[k]
theorem Xhc.exs {w : World} {base : Nat} {v : Value} {es : List Ex} (h : Xhc w base v es) : Xbb w (fun b => base ≤ b ∧ b < w.heap.size) es v := by
 obtain ⟨fs, hl, hown, hin⟩ := h
 have hlt := hown.lt
 have hcell : ∀ (g : Nat), v.ownBlock = some g → ∀ (j : Nat) (u : Value), (exsV es fs)[j]? = some u → w.cell? ⟨g, 0 + j, none⟩ = some u := fun g hg j u hu => by
  have := hown.cells hg j u hu
  rw [Xdo] at this
  exact this
 rcases hown.2 with ⟨rfl, h2⟩ | ⟨g, cap, cur, rfl, hbg, hg, hc1, hc2, _⟩
 · have he : es = [] := List.eq_nil_of_length_eq_zero h2
   subst he
   exact .mk [] none 0 (fun _ => undef) (Nat.le_refl _) (by omega) (fun k hk => absurd hk (by simp)) (fun k hk => absurd hk (by simp))
 · refine .mk es _ cap (fun k => fs.getD k undef) hc1 (by unfold maxLen at hc2; omega) (fun k hk => ?_) (fun k hk => ?_)
   · have hk' : k < fs.length := by omega
     have hgd : fs.getD k undef = fs[k] := by rw [List.getD_eq_getElem?_getD, List.getElem?_eq_getElem hk']; rfl
     refine ⟨g, 0, rfl, ⟨hbg, (hlt g rfl).2⟩, (hin k hk hk').1, ?_, ?_, ?_, ?_, ?_⟩
     · exact hcell g rfl (k * 5) _ (by have := Xez hl k hk 0 (by omega); rw [Nat.add_zero] at this; rw [this]; rfl)
     · exact hcell g rfl (k * 5 + 1) _ (by rw [Xez hl k hk 1 (by omega)]; rfl)
     · exact hcell g rfl (k * 5 + 2) _ (by rw [Xez hl k hk 2 (by omega)]; rfl)
     · exact hcell g rfl (k * 5 + 3) _ (by rw [Xez hl k hk 3 (by omega)]; rfl)
     · rw [hgd]
       exact hcell g rfl (k * 5 + 4) _ (by rw [Xez hl k hk 4 (by omega)]; rfl)
   · have hk' : k < fs.length := by omega
     have hgd : fs.getD k undef = fs[k] := by rw [List.getD_eq_getElem?_getD, List.getElem?_eq_getElem hk']; rfl
     show Xbb w _ es[k].args (fs.getD k undef)
     rw [hgd]
     exact (hin k hk hk').2.keep (fun _ _ => rfl) (fun b hb => ⟨hb.1, hb.2.1⟩)
theorem Xhc.below {w w' : World} {base : Nat} {v : Value} {es : List Ex} (h : Xhc w base v es) (hb : Below w.heap.size w w') : Xhc w' base v es := by
 obtain ⟨fs, hl, hown, hin⟩ := h
 refine ⟨fs, hl, ?_, fun k hk hk' => ⟨(hin k hk hk').1, (hin k hk hk').2.keep (fun b hb2 => hb.block b hb2.2.1) (fun b hb2 => ⟨hb2.1, Nat.lt_of_lt_of_le hb2.2.1 hb.size, hb2.2.2⟩)⟩⟩
 rcases hown with ⟨h1, h2 | ⟨g, cap, cur, hv, hbg, hg, h3⟩⟩
 · exact ⟨h1, .inl h2⟩
 · refine ⟨h1, .inr ⟨g, cap, cur, hv, hbg, ?_, h3⟩⟩
   have hlt : g < w.heap.size := by
    rcases Nat.lt_or_ge g w.heap.size with hlt | hge
    · exact hlt
    · rw [Array.getElem?_eq_none hge] at hg; cases hg
   exact (hb.block g hlt).trans hg
theorem Xhc.nil (w : World) : Xhc (w.alloc (.cells #[] 152)) w.heap.size (.slice (some ⟨w.heap.size, 0, none⟩) 0 0) [] :=
 ⟨[], rfl, World.ownsRow_lit (e := 152) (size := 5) w #[] 0 (Nat.le_refl _) (by unfold maxLen; omega) rfl, fun k hk => absurd hk (by simp)⟩
theorem Ydn : (Tryz.prog.info? 152).map (fun i => (i.zero, i.size, i.bytes)) = some (some (.agg #[.int .i64 0, .int .i64 0, .int .i64 0, .string ⟨#[]⟩, .slice none 0 0]), 5, 64) := by kernel_rfl
section
def Xeh (w : World) (g : Nat) (k p n : Int) (s : ByteArray) (v : Value) : Prop := w.heap[g]? = some (.cells #[.int .i64 k, .int .i64 p, .int .i64 n, .string s, v] 152 (0, 0))
section
variable {w w' : World} {g B : Nat} {k p n : Int} {s : ByteArray} {v : Value}
theorem Xeh.new (w : World) (k p n : Int) (s : ByteArray) (v : Value) : Xeh (w.alloc (.cells #[.int .i64 k, .int .i64 p, .int .i64 n, .string s, v] 152)) w.heap.size k p n s v := heap_alloc_new w _
theorem Xeh.below (h : Xeh w g k p n s v) (hb : Below B w w') (hg : g < B) : Xeh w' g k p n s v := (hb.block g hg).trans h
theorem Xeh.alloc (h : Xeh w g k p n s v) (hg : g < w.heap.size) (o : Obj) : Xeh (w.alloc o) g k p n s v := ((Below.refl _ w).alloc (Nat.le_refl _) o |>.block g hg).trans h
theorem Xeh.c0 (h : Xeh w g k p n s v) : w.cell? ⟨g, 0, none⟩ = some (.int .i64 k) := by rw [cell_of_row w g 0 _ _ (0, 0) h]; rfl
theorem Xeh.c1 (h : Xeh w g k p n s v) : w.cell? ⟨g, 1, none⟩ = some (.int .i64 p) := by rw [cell_of_row w g 1 _ _ (0, 0) h]; rfl
theorem Xeh.c2 (h : Xeh w g k p n s v) : w.cell? ⟨g, 2, none⟩ = some (.int .i64 n) := by rw [cell_of_row w g 2 _ _ (0, 0) h]; rfl
theorem Xeh.c3 (h : Xeh w g k p n s v) : w.cell? ⟨g, 3, none⟩ = some (.string s) := by rw [cell_of_row w g 3 _ _ (0, 0) h]; rfl
theorem Xeh.c4 (h : Xeh w g k p n s v) : w.cell? ⟨g, 4, none⟩ = some v := by rw [cell_of_row w g 4 _ _ (0, 0) h]; rfl
theorem Xeh.fr (h : Xeh w g k p n s v) (j : Nat) : w.frozen? ⟨g, j, none⟩ = false := frozen_of_row w g j _ _ h
end
end
inductive Sm where
 | mk (kind pl : Int) (name type : List UInt8) (exprs : List Ex) (body els : List Sm)
def Sm.kind : Sm → Int | .mk k _ _ _ _ _ _ => k
def Sm.pl : Sm → Int | .mk _ p _ _ _ _ _ => p
def Sm.name : Sm → List UInt8 | .mk _ _ n _ _ _ _ => n
def Sm.type : Sm → List UInt8 | .mk _ _ _ t _ _ _ => t
def Sm.exprs : Sm → List Ex | .mk _ _ _ _ e _ _ => e
def Sm.body : Sm → List Sm | .mk _ _ _ _ _ b _ => b
def Sm.els : Sm → List Sm | .mk _ _ _ _ _ _ l => l
inductive Xay (w : World) (S : Nat → Prop) : List Sm → Value → Prop
 | mk (ss : List Sm) (A : Option Addr) (c : Nat) (fe fb fl : Nat → Value) (hc : ss.length ≤ c) (hM : c ≤ 9223372036854775807)
   (hA : ∀ (k : Nat) (hk : k < ss.length), ∃ b off, A = some ⟨b, off, none⟩ ∧ S b ∧ ss[k].name.length ≤ 140737488355328 ∧ ss[k].type.length ≤ 140737488355328 ∧
     w.cell? ⟨b, off + k * 7, none⟩ = some (.int .i64 ss[k].kind) ∧ w.cell? ⟨b, off + k * 7 + 1, none⟩ = some (.int .i64 ss[k].pl) ∧
     w.cell? ⟨b, off + k * 7 + 2, none⟩ = some (.string (Xab ss[k].name)) ∧ w.cell? ⟨b, off + k * 7 + 3, none⟩ = some (.string (Xab ss[k].type)) ∧
     w.cell? ⟨b, off + k * 7 + 4, none⟩ = some (fe k) ∧ w.cell? ⟨b, off + k * 7 + 5, none⟩ = some (fb k) ∧ w.cell? ⟨b, off + k * 7 + 6, none⟩ = some (fl k))
   (he : ∀ (k : Nat) (hk : k < ss.length), Xbb w S ss[k].exprs (fe k)) (hb : ∀ (k : Nat) (hk : k < ss.length), Xay w S ss[k].body (fb k)) (hl : ∀ (k : Nat) (hk : k < ss.length), Xay w S ss[k].els (fl k)) :
   Xay w S ss (.slice A ss.length c)
theorem Xay.keep {w w' : World} {S S' : Nat → Prop} {ss : List Sm} {v : Value} (h : Xay w S ss v) (hw : ∀ b, S b → w'.heap[b]? = w.heap[b]?) (hS : ∀ b, S b → S' b) : Xay w' S' ss v := by
 induction h with
 | mk ss A c fe fb fl hc hM hA he hb hl ihb ihl =>
   refine .mk ss A c fe fb fl hc hM (fun k hk => ?_) (fun k hk => (he k hk).keep hw hS) (fun k hk => ihb k hk) (fun k hk => ihl k hk)
   obtain ⟨b, off, h1, h2, h3, h4, c0, c1, c2, c3, c4, c5, c6⟩ := hA k hk
   have hcell : ∀ i, w'.cell? ⟨b, i, none⟩ = w.cell? ⟨b, i, none⟩ := fun i => World.cell?_of_block (hw b h2)
   exact ⟨b, off, h1, hS b h2, h3, h4, by rw [hcell]; exact c0, by rw [hcell]; exact c1, by rw [hcell]; exact c2, by rw [hcell]; exact c3, by rw [hcell]; exact c4, by rw [hcell]; exact c5, by rw [hcell]; exact c6⟩
theorem Xay.slice {w : World} {S : Nat → Prop} {ss : List Sm} {v : Value} (h : Xay w S ss v) : ∃ A c, v = .slice A ss.length c ∧ ss.length ≤ c ∧ c ≤ 9223372036854775807 := by
 cases h with
 | mk ss A c fe fb fl hc hM => exact ⟨A, c, rfl, hc, hM⟩
theorem Xbb.slice {w : World} {S : Nat → Prop} {es : List Ex} {v : Value} (h : Xbb w S es v) : ∃ A c, v = .slice A es.length c ∧ es.length ≤ c ∧ c ≤ 9223372036854775807 := by
 cases h with
 | mk es A c f hc hM => exact ⟨A, c, rfl, hc, hM⟩
structure Vs where
 e : Value
 b : Value
 l : Value
def Xct (s : Sm) (f : Vs) : List Value := [.int .i64 s.kind, .int .i64 s.pl, .string (Xab s.name), .string (Xab s.type), f.e, f.b, f.l]
def smsV : List Sm → List Vs → List Value
 | s :: ss, f :: fs => Xct s f ++ smsV ss fs
 | _, _ => []
theorem Xkn : ∀ {ss : List Sm} {fs : List Vs} (s : Sm) (u : Vs), ss.length = fs.length → smsV (ss ++ [s]) (fs ++ [u]) = smsV ss fs ++ Xct s u
 | [], [], s, u, _ => by simp [smsV]
 | d :: ss, f :: fs, s, u, h => by
   show Xct d f ++ smsV (ss ++ [s]) (fs ++ [u]) = _
   rw [Xkn s u (by simpa using h)]
   simp [smsV]
theorem Xgr : ∀ {ss : List Sm} {fs : List Vs} (h : ss.length = fs.length) (k : Nat) (hk : k < ss.length) (i : Nat) (hi : i < 7), (smsV ss fs)[k * 7 + i]? = (Xct ss[k] (fs[k]'(by omega)))[i]?
 | s :: ss, f :: fs, h, 0, hk, i, hi => by
   show (Xct s f ++ smsV ss fs)[0 * 7 + i]? = _
   rw [Nat.zero_mul, Nat.zero_add, List.getElem?_append_left (by simpa [Xct] using hi)]
   rfl
 | s :: ss, f :: fs, h, k + 1, hk, i, hi => by
   show (Xct s f ++ smsV ss fs)[(k + 1) * 7 + i]? = _
   rw [show (k + 1) * 7 + i = 7 + (k * 7 + i) from by omega, List.getElem?_append_right (by simp [Xct])]
   rw [show 7 + (k * 7 + i) - (Xct s f).length = k * 7 + i from by simp [Xct]]
   exact Xgr (by simpa using h) k (by simpa using hk) i hi
theorem Xol (s : Sm) (u : Vs) (h1 : u.e.oneCell' = true) (h2 : u.b.oneCell' = true) (h3 : u.l.oneCell' = true) : ∀ x ∈ Xct s u, x.oneCell' = true := by
 intro x hx
 simp [Xct] at hx
 rcases hx with rfl | rfl | rfl | rfl | rfl | rfl | rfl
 · rfl
 · rfl
 · rfl
 · rfl
 · exact h1
 · exact h2
 · exact h3
theorem Xay.one {w : World} {S : Nat → Prop} {ss : List Sm} {v : Value} (h : Xay w S ss v) : v.oneCell' = true := by
 cases h; rfl
def SmIn (w : World) (S : Nat → Prop) (s : Sm) (f : Vs) : Prop := s.name.length ≤ 140737488355328 ∧ s.type.length ≤ 140737488355328 ∧ Xbb w S s.exprs f.e ∧ Xay w S s.body f.b ∧ Xay w S s.els f.l
theorem SmIn.keep {w w' : World} {S S' : Nat → Prop} {s : Sm} {f : Vs} (h : SmIn w S s f) (hw : ∀ b, S b → w'.heap[b]? = w.heap[b]?) (hS : ∀ b, S b → S' b) : SmIn w' S' s f :=
 ⟨h.1, h.2.1, h.2.2.1.keep hw hS, h.2.2.2.1.keep hw hS, h.2.2.2.2.keep hw hS⟩
def Xcn (w : World) (base : Nat) (v : Value) (ss : List Sm) : Prop :=
 ∃ fs : List Vs, ss.length = fs.length ∧ w.ownsRow base 68 7 v ss.length (smsV ss fs) ∧
  ∀ (k : Nat) (hk : k < ss.length) (hk' : k < fs.length), SmIn w (fun b => base ≤ b ∧ b < w.heap.size ∧ v.ownBlock ≠ some b) ss[k] fs[k]
theorem Xcn.lt {w : World} {base : Nat} {v : Value} {ss : List Sm} (h : Xcn w base v ss) {b : Nat} (hb : v.ownBlock = some b) : base ≤ b ∧ b < w.heap.size := by
 obtain ⟨fs, _, hown, _⟩ := h
 exact hown.lt b hb
theorem Xcn.sms {w : World} {base : Nat} {v : Value} {ss : List Sm} (h : Xcn w base v ss) : Xay w (fun b => base ≤ b ∧ b < w.heap.size) ss v := by
 obtain ⟨fs, hl, hown, hin⟩ := h
 have hlt := hown.lt
 have hcell : ∀ (g : Nat), v.ownBlock = some g → ∀ (j : Nat) (u : Value), (smsV ss fs)[j]? = some u → w.cell? ⟨g, 0 + j, none⟩ = some u := fun g hg j u hu => by
  have := hown.cells hg j u hu
  rw [Xdo] at this
  exact this
 rcases hown.2 with ⟨rfl, h2⟩ | ⟨g, cap, cur, rfl, hbg, hg, hc1, hc2, _⟩
 · have he : ss = [] := List.eq_nil_of_length_eq_zero h2
   subst he
   exact .mk [] none 0 (fun _ => undef) (fun _ => undef) (fun _ => undef) (Nat.le_refl _) (by omega) (fun k hk => absurd hk (by simp)) (fun k hk => absurd hk (by simp)) (fun k hk => absurd hk (by simp)) (fun k hk => absurd hk (by simp))
 · have hgd : ∀ (k : Nat) (hk' : k < fs.length), (fs[k]?.getD ⟨undef, undef, undef⟩) = fs[k] := fun k hk' => by rw [List.getElem?_eq_getElem hk']; rfl
   refine .mk ss _ cap (fun k => (fs[k]?.getD ⟨undef, undef, undef⟩).e) (fun k => (fs[k]?.getD ⟨undef, undef, undef⟩).b) (fun k => (fs[k]?.getD ⟨undef, undef, undef⟩).l) hc1 (by unfold maxLen at hc2; omega) (fun k hk => ?_) (fun k hk => ?_) (fun k hk => ?_) (fun k hk => ?_)
   · have hk' : k < fs.length := by omega
     obtain ⟨a1, a2, _⟩ := hin k hk hk'
     refine ⟨g, 0, rfl, ⟨hbg, (hlt g rfl).2⟩, a1, a2, ?_, ?_, ?_, ?_, ?_, ?_, ?_⟩
     · exact hcell g rfl (k * 7) _ (by have := Xgr hl k hk 0 (by omega); rw [Nat.add_zero] at this; rw [this]; rfl)
     · exact hcell g rfl (k * 7 + 1) _ (by rw [Xgr hl k hk 1 (by omega)]; rfl)
     · exact hcell g rfl (k * 7 + 2) _ (by rw [Xgr hl k hk 2 (by omega)]; rfl)
     · exact hcell g rfl (k * 7 + 3) _ (by rw [Xgr hl k hk 3 (by omega)]; rfl)
     · rw [hgd k hk']; exact hcell g rfl (k * 7 + 4) _ (by rw [Xgr hl k hk 4 (by omega)]; rfl)
     · rw [hgd k hk']; exact hcell g rfl (k * 7 + 5) _ (by rw [Xgr hl k hk 5 (by omega)]; rfl)
     · rw [hgd k hk']; exact hcell g rfl (k * 7 + 6) _ (by rw [Xgr hl k hk 6 (by omega)]; rfl)
   · have hk' : k < fs.length := by omega
     show Xbb w _ ss[k].exprs (fs[k]?.getD ⟨undef, undef, undef⟩).e
     rw [hgd k hk']
     exact (hin k hk hk').2.2.1.keep (fun _ _ => rfl) (fun b hb => ⟨hb.1, hb.2.1⟩)
   · have hk' : k < fs.length := by omega
     show Xay w _ ss[k].body (fs[k]?.getD ⟨undef, undef, undef⟩).b
     rw [hgd k hk']
     exact (hin k hk hk').2.2.2.1.keep (fun _ _ => rfl) (fun b hb => ⟨hb.1, hb.2.1⟩)
   · have hk' : k < fs.length := by omega
     show Xay w _ ss[k].els (fs[k]?.getD ⟨undef, undef, undef⟩).l
     rw [hgd k hk']
     exact (hin k hk hk').2.2.2.2.keep (fun _ _ => rfl) (fun b hb => ⟨hb.1, hb.2.1⟩)
theorem Xcn.below {w w' : World} {base : Nat} {v : Value} {ss : List Sm} (h : Xcn w base v ss) (hb : Below w.heap.size w w') : Xcn w' base v ss := by
 obtain ⟨fs, hl, hown, hin⟩ := h
 refine ⟨fs, hl, ?_, fun k hk hk' => (hin k hk hk').keep (fun b hb2 => hb.block b hb2.2.1) (fun b hb2 => ⟨hb2.1, Nat.lt_of_lt_of_le hb2.2.1 hb.size, hb2.2.2⟩)⟩
 rcases hown with ⟨h1, h2 | ⟨g, cap, cur, hv, hbg, hg, h3⟩⟩
 · exact ⟨h1, .inl h2⟩
 · refine ⟨h1, .inr ⟨g, cap, cur, hv, hbg, ?_, h3⟩⟩
   have hlt : g < w.heap.size := by
    rcases Nat.lt_or_ge g w.heap.size with hlt | hge
    · exact hlt
    · rw [Array.getElem?_eq_none hge] at hg; cases hg
   exact (hb.block g hlt).trans hg
theorem Xcn.nil (w : World) : Xcn (w.alloc (.cells #[] 68)) w.heap.size (.slice (some ⟨w.heap.size, 0, none⟩) 0 0) [] :=
 ⟨[], rfl, World.ownsRow_lit (e := 68) (size := 7) w #[] 0 (Nat.le_refl _) (by unfold maxLen; omega) rfl, fun k hk => absurd hk (by simp)⟩
theorem Ydo : (Tryz.prog.info? 68).map (fun i => (i.zero, i.size, i.bytes)) = some (some (.agg #[.int .i64 0, .int .i64 0, .string ⟨#[]⟩, .string ⟨#[]⟩, .slice none 0 0, .slice none 0 0, .slice none 0 0]), 7, 120) := by kernel_rfl
section
def Xea (w : World) (g : Nat) (k p : Int) (n t : ByteArray) (a b c : Value) : Prop := w.heap[g]? = some (.cells #[.int .i64 k, .int .i64 p, .string n, .string t, a, b, c] 68 (0, 0))
section
variable {w w' : World} {g B : Nat} {k p : Int} {n t : ByteArray} {a b c : Value}
theorem Xea.new (w : World) (k p : Int) (n t : ByteArray) (a b c : Value) : Xea (w.alloc (.cells #[.int .i64 k, .int .i64 p, .string n, .string t, a, b, c] 68)) w.heap.size k p n t a b c := heap_alloc_new w _
theorem Xea.below (h : Xea w g k p n t a b c) (hb : Below B w w') (hg : g < B) : Xea w' g k p n t a b c := (hb.block g hg).trans h
theorem Xea.c0 (h : Xea w g k p n t a b c) : w.cell? ⟨g, 0, none⟩ = some (.int .i64 k) := by rw [cell_of_row w g 0 _ _ (0, 0) h]; rfl
theorem Xea.c1 (h : Xea w g k p n t a b c) : w.cell? ⟨g, 1, none⟩ = some (.int .i64 p) := by rw [cell_of_row w g 1 _ _ (0, 0) h]; rfl
theorem Xea.c2 (h : Xea w g k p n t a b c) : w.cell? ⟨g, 2, none⟩ = some (.string n) := by rw [cell_of_row w g 2 _ _ (0, 0) h]; rfl
theorem Xea.c3 (h : Xea w g k p n t a b c) : w.cell? ⟨g, 3, none⟩ = some (.string t) := by rw [cell_of_row w g 3 _ _ (0, 0) h]; rfl
theorem Xea.c4 (h : Xea w g k p n t a b c) : w.cell? ⟨g, 4, none⟩ = some a := by rw [cell_of_row w g 4 _ _ (0, 0) h]; rfl
theorem Xea.c5 (h : Xea w g k p n t a b c) : w.cell? ⟨g, 5, none⟩ = some b := by rw [cell_of_row w g 5 _ _ (0, 0) h]; rfl
theorem Xea.c6 (h : Xea w g k p n t a b c) : w.cell? ⟨g, 6, none⟩ = some c := by rw [cell_of_row w g 6 _ _ (0, 0) h]; rfl
theorem Xea.fr (h : Xea w g k p n t a b c) (j : Nat) : w.frozen? ⟨g, j, none⟩ = false := frozen_of_row w g j _ _ h
end
end
section
structure Pr where
 name : List UInt8
 type : List UInt8
structure Dc where
 kind : Int
 pl : Int
 num : Int
 name : List UInt8
 type : List UInt8
 pairs : List Pr
 body : List Sm
def Xca (w : World) (S : Nat → Prop) (ps : List Pr) (v : Value) : Prop :=
 ∃ A c, v = .slice A ps.length c ∧ ps.length ≤ c ∧ c ≤ 9223372036854775807 ∧
  ∀ (k : Nat) (hk : k < ps.length), ∃ b off, A = some ⟨b, off, none⟩ ∧ S b ∧ ps[k].name.length ≤ 140737488355328 ∧ ps[k].type.length ≤ 140737488355328 ∧
   w.cell? ⟨b, off + k * 2, none⟩ = some (.string (Xab ps[k].name)) ∧ w.cell? ⟨b, off + k * 2 + 1, none⟩ = some (.string (Xab ps[k].type))
theorem Xca.keep {w w' : World} {S S' : Nat → Prop} {ps : List Pr} {v : Value} (h : Xca w S ps v) (hw : ∀ b, S b → w'.heap[b]? = w.heap[b]?) (hS : ∀ b, S b → S' b) : Xca w' S' ps v := by
 obtain ⟨A, c, rfl, hc, hM, hA⟩ := h
 refine ⟨A, c, rfl, hc, hM, fun k hk => ?_⟩
 obtain ⟨b, off, h1, h2, h3, h4, c0, c1⟩ := hA k hk
 have hcell : ∀ i, w'.cell? ⟨b, i, none⟩ = w.cell? ⟨b, i, none⟩ := fun i => World.cell?_of_block (hw b h2)
 exact ⟨b, off, h1, hS b h2, h3, h4, by rw [hcell]; exact c0, by rw [hcell]; exact c1⟩
def Xfs (w : World) (S : Nat → Prop) (ds : List Dc) (v : Value) : Prop :=
 ∃ A c, ∃ fp fb : Nat → Value, v = .slice A ds.length c ∧ ds.length ≤ c ∧ c ≤ 9223372036854775807 ∧
  (∀ (k : Nat) (hk : k < ds.length), ∃ b off, A = some ⟨b, off, none⟩ ∧ S b ∧ ds[k].name.length ≤ 140737488355328 ∧ ds[k].type.length ≤ 140737488355328 ∧
    w.cell? ⟨b, off + k * 7, none⟩ = some (.int .i64 ds[k].kind) ∧ w.cell? ⟨b, off + k * 7 + 1, none⟩ = some (.int .i64 ds[k].pl) ∧ w.cell? ⟨b, off + k * 7 + 2, none⟩ = some (.int .i64 ds[k].num) ∧
    w.cell? ⟨b, off + k * 7 + 3, none⟩ = some (.string (Xab ds[k].name)) ∧ w.cell? ⟨b, off + k * 7 + 4, none⟩ = some (.string (Xab ds[k].type)) ∧
    w.cell? ⟨b, off + k * 7 + 5, none⟩ = some (fp k) ∧ w.cell? ⟨b, off + k * 7 + 6, none⟩ = some (fb k)) ∧
  (∀ (k : Nat) (hk : k < ds.length), Xca w S ds[k].pairs (fp k)) ∧ (∀ (k : Nat) (hk : k < ds.length), Xay w S ds[k].body (fb k))
theorem Xfs.keep {w w' : World} {S S' : Nat → Prop} {ds : List Dc} {v : Value} (h : Xfs w S ds v) (hw : ∀ b, S b → w'.heap[b]? = w.heap[b]?) (hS : ∀ b, S b → S' b) : Xfs w' S' ds v := by
 obtain ⟨A, c, fp, fb, rfl, hc, hM, hA, hp, hb⟩ := h
 refine ⟨A, c, fp, fb, rfl, hc, hM, fun k hk => ?_, fun k hk => (hp k hk).keep hw hS, fun k hk => (hb k hk).keep hw hS⟩
 obtain ⟨b, off, h1, h2, h3, h4, c0, c1, c2, c3, c4, c5, c6⟩ := hA k hk
 have hcell : ∀ i, w'.cell? ⟨b, i, none⟩ = w.cell? ⟨b, i, none⟩ := fun i => World.cell?_of_block (hw b h2)
 exact ⟨b, off, h1, hS b h2, h3, h4, by rw [hcell]; exact c0, by rw [hcell]; exact c1, by rw [hcell]; exact c2, by rw [hcell]; exact c3, by rw [hcell]; exact c4, by rw [hcell]; exact c5, by rw [hcell]; exact c6⟩
def Xei (w : World) (g : Nat) (k p u : Int) (n t : ByteArray) (a b : Value) : Prop := w.heap[g]? = some (.cells #[.int .i64 k, .int .i64 p, .int .i64 u, .string n, .string t, a, b] 46 (0, 0))
section
variable {w w' : World} {g B : Nat} {k p u : Int} {n t : ByteArray} {a b : Value}
theorem Xei.new (w : World) (k p u : Int) (n t : ByteArray) (a b : Value) : Xei (w.alloc (.cells #[.int .i64 k, .int .i64 p, .int .i64 u, .string n, .string t, a, b] 46)) w.heap.size k p u n t a b := heap_alloc_new w _
theorem Xei.below (h : Xei w g k p u n t a b) (hb : Below B w w') (hg : g < B) : Xei w' g k p u n t a b := (hb.block g hg).trans h
theorem Xei.c0 (h : Xei w g k p u n t a b) : w.cell? ⟨g, 0, none⟩ = some (.int .i64 k) := by rw [cell_of_row w g 0 _ _ (0, 0) h]; rfl
theorem Xei.c1 (h : Xei w g k p u n t a b) : w.cell? ⟨g, 1, none⟩ = some (.int .i64 p) := by rw [cell_of_row w g 1 _ _ (0, 0) h]; rfl
theorem Xei.c2 (h : Xei w g k p u n t a b) : w.cell? ⟨g, 2, none⟩ = some (.int .i64 u) := by rw [cell_of_row w g 2 _ _ (0, 0) h]; rfl
theorem Xei.c3 (h : Xei w g k p u n t a b) : w.cell? ⟨g, 3, none⟩ = some (.string n) := by rw [cell_of_row w g 3 _ _ (0, 0) h]; rfl
theorem Xei.c4 (h : Xei w g k p u n t a b) : w.cell? ⟨g, 4, none⟩ = some (.string t) := by rw [cell_of_row w g 4 _ _ (0, 0) h]; rfl
theorem Xei.c5 (h : Xei w g k p u n t a b) : w.cell? ⟨g, 5, none⟩ = some a := by rw [cell_of_row w g 5 _ _ (0, 0) h]; rfl
theorem Xei.c6 (h : Xei w g k p u n t a b) : w.cell? ⟨g, 6, none⟩ = some b := by rw [cell_of_row w g 6 _ _ (0, 0) h]; rfl
theorem Xei.fr (h : Xei w g k p u n t a b) (j : Nat) : w.frozen? ⟨g, j, none⟩ = false := frozen_of_row w g j _ _ h
end
end
def TokPost (w : World) (r : Res) (e : Ending) (w' : World) : Prop := Below w.heap.size w w' ∧ match r with
 | .ok l => l.length ≤ 4096 ∧ ∃ v, e = .returned (.tuple #[v, .int .i64 0, .int .i64 0]) ∧ Xcg w' w.heap.size v l
 | .err p c => e = .returned (.tuple #[.slice none 0 0, .int .i64 (p : Nat), .int .i64 (c : Nat)])
theorem Ygj {l : List UInt8} (h : 16384 < l.length) : toks l = .err 0 12 := if_pos h
theorem toks_fit {l : List UInt8} (h : ¬ 16384 < l.length) : toks l = sc l 0 0 0 := if_neg h
set_option maxHeartbeats 1000000 in
set_option maxRecDepth 100000 in
theorem Yaw (s : ByteArray) (w : World) (hs : s.size ≤ 40000) : Calls Tryz.prog 27 #[.string s] w (TokPost w (toks s.data.toList)) := by
 have HS := lh (Xgq s)
 by_cases hlong : 16384 < s.size
 · go_enter Tryz.func27, Tryz.ntmps27
   go_wp2
   go_ret3
   rw [Ygj (by rw [← HS.out]; exact hlong)]
   exact ⟨Below.refl _ _, rfl⟩
 · obtain ⟨B, hB⟩ : ∃ B, B = w.heap.size := ⟨_, rfl⟩
   have HT := lh (toks_fit (by rw [← HS.out]; exact hlong))
   have HB := lh hB
   clear hB
   go_enter Tryz.func27, Tryz.ntmps27
   go_wp2
   go_loopw [6, 5] (fun i v wr => ∃ (a : Nat) (acc : List Tok), a ≤ s.size ∧ acc.length ≤ 4096 ∧ i = .int .i64 a ∧ Hid (Xcg wr B v acc) ∧ Hid (Below B w wr) ∧ B ≤ wr.heap.size ∧ Hid (St s.data.toList a acc)) (fun i _ _ => s.size - (intOf i).toNat)
   case atStart => exact ⟨0, [], Nat.zero_le _, Nat.zero_le _, rfl, lh (Xcg.nil _ _), lh (Below.refl _ _), by have := HB.out; omega, lh (St.start _)⟩
   case round =>
    obtain ⟨wo, rfl⟩ : ∃ wo : World, wo = wr := ⟨_, rfl⟩
    obtain ⟨a, acc, ha, hacc, rfl, HO, HBel, hsr, HSt⟩ := hrel
    by_cases hlt : a < s.size
    · have hl : a < s.data.toList.length := by rw [← HS.out]; exact hlt
      have hg : s.data.toList[a] = s[a] := rfl
      by_cases hb : Xdk s[a] = true
      · have HN := lh (HSt.out.blank hl (hg ▸ hb))
        clear hg
        go_wp2_with (first | (go_at_call 45; refine (Xjj _ _).mono ?_; rintro e w' ⟨rfl, rfl⟩))
        go_roundw
        case rel => exact ⟨a + 1, acc, by omega, hacc, by go_num, HO, HBel, hsr, HN⟩
        case measure => simp [intOf]; omega
      · have hb' : Xdk s[a] = false := by simpa using hb
        clear hb
        obtain ⟨k, hk⟩ : ∃ k, k = (Xao (s.data.toList.drop a)).1 := ⟨_, rfl⟩
        obtain ⟨z, hz⟩ : ∃ z, z = (Xao (s.data.toList.drop a)).2 := ⟨_, rfl⟩
        have hzl : a + z ≤ s.size := by
         have := Xle (s.data.toList.drop a)
         rw [List.length_drop, ← HS.out, ← hz] at this
         omega
        have hk4 : k ≤ 4 := by rw [hk]; exact Xst _
        have c1 : ∀ w, Calls Tryz.prog 46 #[.string (s.extract a s.size)] w fun e w' => e = .returned (.tuple #[.int .i64 (k : Nat), .int .i64 (z : Nat)]) ∧ Below w.heap.size w w' := fun w => by
         have h := Xsu (s.extract a s.size) w (by have := Lib.size_eq (s.extract a s.size); rw [Lib.extract_data] at this; rw [this]; simp; omega)
         rw [Lib.extract_data, List.take_of_length_le (by rw [List.length_drop, ← HS.out]; exact Nat.le_refl _)] at h
         unfold Xxl at h
         rw [← hk, ← hz] at h
         exact h
        obtain ⟨tx, htx⟩ : ∃ tx, tx = (s.data.toList.drop a).take z := ⟨_, rfl⟩
        obtain ⟨er, her⟩ : ∃ er, er = Xba k tx acc.length := ⟨_, rfl⟩
        have hsz : (Xab tx).size = z := by rw [Lib.size_eq, Xbe, htx, List.length_take, List.length_drop, ← HS.out]; omega
        have c2 : ∀ w, Calls Tryz.prog 47 #[.int .i64 (k : Nat), .string (Xab tx), .int .i64 acc.length] w fun e w' => e = .returned (.int .i64 (er : Nat)) ∧ w = w' := fun w => by
         have h := Ygo k (Xab tx) acc.length w hk4 (by omega) (by omega)
         rw [Xbe, ← her] at h
         exact h
        have hex : s.extract a (a + z) = Xab tx := by rw [Xnj, htx]; congr 2; omega
        obtain ⟨A, c, rfl, hc1, hc2, hT⟩ := HO.out.toks
        unfold maxLen at hc2
        have HG := lh hg
        have HK := lh hk
        have HZ := lh hz
        have HTX := lh htx
        have HER := lh her
        have HSZ := lh hsz
        clear hg hk hz htx her hsz hT
        by_cases he : er = 0
        · have he' : ((er : Int) == 0) = true := by simp [he]
          have he2 : ((er : Int) != 0) = false := by simp [he]
          have HN : Hid (St s.data.toList (a + z) (acc ++ [⟨k, tx, a⟩]) ∧ 0 < z) := lh (by
           have h := HSt.out.tok hl (HG.out ▸ hb') (by rw [← HK.out, ← HZ.out, ← HTX.out, ← HER.out]; exact he)
           rw [← HK.out, ← HZ.out, ← HTX.out] at h
           exact h)
          have HE := lh he
          clear he
          go_wp2_with (first
           | (go_at_call 45; refine (Xjj _ _).mono ?_; rintro e w' ⟨rfl, rfl⟩)
           | (go_at_call 46; refine (c1 _).mono ?_; rintro e w1 ⟨rfl, hb1⟩)
           | (go_at_call 47; refine (c2 _).mono ?_; rintro e w' ⟨rfl, rfl⟩)
           | (go_at_call 48; refine (Xjw _ _ (by have := HSZ.out; omega)).mono ?_; rintro e w2 ⟨rfl, hb2⟩; have hs1 : wo.heap.size ≤ w1.heap.size := hb1.size; have hs2 : w1.heap.size ≤ w2.heap.size := hb2.size; have HO2 := lh ((HO.out.below hb1).below hb2); have hb12 := hb1.trans (hb2.mono hs1); have HB2 := lh (HBel.out.trans (hb12.mono hsr)); clear hb1 hb2 hb12)
           | (at_builtin; refine Xhj rfl _ _ rfl B _ acc rfl (HO2.out.alloc _) ⟨w2.heap.size, 0, none⟩ 1 ⟨k, tx, a⟩ rfl (Yed rfl) (by omega) (by simp; omega) ?_; intro v' w3 hown3 hgr))
          have hn4 := Xis (k := k) (t := tx) (n := acc.length) (by rw [← HER.out]; exact HE.out)
          have hz0 := HN.out.2
          go_roundw
          case rel =>
           have hb3 : Below B w2 w3 := ((Below.refl B w2).alloc (by omega) _).grown hgr (by simp; omega) (fun g hg => (HO2.out.lt g hg).1)
           exact ⟨a + z, acc ++ [⟨k, tx, a⟩], by omega, by simp; omega, by go_num, lh hown3, lh (HB2.out.trans hb3), by have := hb3.size; omega, lh HN.out.1⟩
          case measure => simp [intOf]; omega
        · have he' : ((er : Int) == 0) = false := by simpa using he
          have he2 : ((er : Int) != 0) = true := by simpa using he
          go_wp2_with (first
           | (go_at_call 45; refine (Xjj _ _).mono ?_; rintro e w' ⟨rfl, rfl⟩)
           | (go_at_call 46; refine (c1 _).mono ?_; rintro e w1 ⟨rfl, hb1⟩)
           | (go_at_call 47; refine (c2 _).mono ?_; rintro e w' ⟨rfl, rfl⟩))
          go_ret3
          rw [HT.out, HSt.out.err hl (HG.out ▸ hb') (by rw [← HK.out, ← HZ.out, ← HTX.out, ← HER.out]; exact he), ← HK.out, ← HZ.out, ← HTX.out, ← HER.out]
          exact ⟨by rw [← HB.out]; exact HBel.out.trans (hb1.mono hsr), rfl⟩
    · go_wp2
      go_ret3
      rw [HT.out, HSt.out.stop (by rw [← HS.out]; exact hlt)]
      exact ⟨by rw [← HB.out]; exact HBel.out, hacc, _, rfl, by rw [← HB.out]; exact HO.out⟩
def Xfb (l : List UInt8) : Bool := decide ((Xao l).1 = 1 ∧ (Xao l).2 = l.length ∧ l.length ≤ 16)
abbrev Ts := Option (List (List UInt8))
def Xeb : List (List UInt8) → List UInt8
 | [] => []
 | [t] => t
 | t :: u :: r => t ++ 32 :: Xeb (u :: r)
def fits (T : List (List UInt8)) : Prop := (Xeb T).length ≤ 16384 ∧ T.length ≤ 4096
instance (T : List (List UInt8)) : Decidable (fits T) := by unfold fits; infer_instance
def lim : Ts → Ts
 | none => none
 | some T => if fits T then some T else none
def fin (C : Ts) : List UInt8 × Int := match lim C with
 | none => ([], 23)
 | some T => (Xeb T, 0)
def opsL : List (List UInt8) := [[43], [45], [42], [47], [37], [38], [124], [60], [60, 61], [61, 61], [33, 61]]
end Go.Proofs.YtbckeljbpknbdaaGreatDoor
section
set_option linter.unusedVariables false
namespace Go.Proofs.YtbckeljbpknbdaaGreatDoor
open Go.RowKit
inductive Rd (α : Type) where
 | bad (pl code : Nat)
 | ok (a : α) (rest : List Tok)
namespace Rd
def bind {α β : Type} (x : Rd α) (f : α → List Tok → Rd β) : Rd β := match x with
 | .bad p c => .bad p c
 | .ok a r => f a r
def map {α β : Type} (f : α → β) (x : Rd α) : Rd β := match x with
 | .bad p c => .bad p c
 | .ok a r => .ok (f a) r
end Rd
def tx : List Tok → List UInt8 | [] => [] | t :: _ => t.text
def kd : List Tok → Nat | [] => 0 | t :: _ => t.kind
def plc (L : Nat) : List Tok → Nat | [] => L | t :: _ => t.pl
section
variable (L : Nat)
def Xal (texts : List (List UInt8)) : List Tok → Rd Tok
 | [] => .bad L 20
 | t :: r => if t.text ∈ texts then .ok t r else .bad t.pl 20
def Xbo : List Tok → Rd (List UInt8)
 | [] => .bad L 20
 | t :: r => if t.kind = 1 then .ok t.text r else .bad t.pl 20
def Xem (us : List Tok) : Rd (List UInt8) :=
 (Xal L [[105, 110, 116], [98, 111, 111, 108], [91], [42]] us).bind fun t r =>
   if t.text = [91] then (Xal L [[93]] r).bind fun _ r2 => (Xal L [[105, 110, 116]] r2).map fun _ => [91, 93, 105, 110, 116]
   else if t.text = [42] then (Xbo L r).map fun s => 42 :: s
   else .ok t.text r
def numOf (l : List UInt8) : Nat := l.foldl (fun n c => n * 10 + (c.toNat - 48)) 0
def Xby (us : List Tok) : Rd Int :=
 if kd us = 2 then (if 1 ≤ numOf (tx us) ∧ numOf (tx us) ≤ 4 then .ok (numOf (tx us) : Nat) us.tail else .bad (plc L us) 11) else .bad (plc L us) 20
def Xcc (begins : Bool) (ahead most : Nat) (us : List Tok) : Rd Unit :=
 if begins = true then (if ahead < most then .ok () us else .bad (plc L us) 22) else .bad (plc L us) 20
def Xhg (most ahead : Nat) (us : List Tok) : Rd Pr :=
 (Xcc L (decide (kd us = 1)) ahead most us).bind fun _ r => (Xbo L r).bind fun s r2 => (Xem L r2).map fun t => ⟨s, t⟩
def Xas {α : Type} (shut : List UInt8) (least : Nat) (P : Nat → List Tok → Rd α) : Nat → Nat → List Tok → Rd (List α)
 | 0, _, _ => .bad 0 0
 | m + 1, ahead, us => if ahead < least ∨ tx us ≠ shut then (P ahead us).bind fun a r => (Xas shut least P m (ahead + 1) r).map (a :: ·)
    else (match us with | [] => .ok [] [] | _ :: r => .ok [] r)
def Xeq (ahead : Nat) (us : List Tok) : Rd Unit := if 0 < ahead then (Xal L [[44]] us).map fun _ => () else .ok () us
def Xfo (ahead : Nat) (us : List Tok) : Rd Pr := (Xhg L 8 ahead us).bind fun p r => (Xal L [[59]] r).map fun _ => p
def Xen (us : List Tok) : Rd (List Pr) := (Xal L [[123]] us).bind fun _ r => Xas [125] 0 (Xfo L) (r.length + 1) 0 r
def Xfp (ahead : Nat) (us : List Tok) : Rd Pr := (Xeq L ahead us).bind fun _ r => Xhg L 4 ahead r
def Xfc (us : List Tok) : Rd (List Pr) := (Xal L [[40]] us).bind fun _ r => Xas [41] 0 (Xfp L) (r.length + 1) 0 r
def opensB (us : List Tok) : Bool := decide (tx us ∈ [[116, 114, 117, 101], [102, 97, 108, 115, 101], [110, 105, 108], [108, 101, 110], [40], [110, 101, 119], [109, 97, 107, 101], [114, 101, 108, 101, 97, 115, 101]] ∨ kd us = 1 ∨ kd us = 2)
variable (E : List Tok → Rd Ex)
def brM (us : List Tok) : Rd Ex := (Xal L [[40]] us).bind fun _ r => (E r).bind fun a r2 => (Xal L [[41]] r2).map fun _ => a
def Xch (us : List Tok) : Rd Ex := match us with
 | [] => .bad L 20
 | t :: r =>
   if t.text = [116, 114, 117, 101] then .ok (.mk 2 t.pl 1 [] []) r
   else if t.text = [102, 97, 108, 115, 101] then .ok (.mk 2 t.pl 0 [] []) r
   else if t.text = [110, 105, 108] then .ok (.mk 3 t.pl 0 [] []) r
   else if t.text = [108, 101, 110] then (brM L E r).map fun a => .mk 8 t.pl 0 [] [a]
   else if t.text = [109, 97, 107, 101] then (brM L E r).map fun a => .mk 12 t.pl 0 [] [a]
   else if t.text = [110, 101, 119] then (Xbo L r).map fun s => .mk 11 t.pl 0 s []
   else if t.text = [114, 101, 108, 101, 97, 115, 101] then (Xbo L r).map fun s => .mk 13 t.pl 0 s []
   else if t.text = [40] then (if tx r = [45] ∨ tx r = [33] then (E r.tail).bind fun a r2 => (Xal L [[41]] r2).map fun _ => .mk 9 t.pl 0 (tx r) [a]
    else (E r).bind fun a r2 => (Xal L opsL r2).bind fun o r3 => (E r3).bind fun b r4 => (Xal L [[41]] r4).map fun _ => .mk 10 t.pl 0 o.text [a, b])
   else if t.kind = 2 then .ok (.mk 1 t.pl (numOf t.text : Nat) [] []) r
   else .ok (.mk 4 t.pl 0 t.text []) r
def Xdh (o : Ex) (us : List Tok) : Rd Ex := match us with
 | [] => .bad L 20
 | t :: r =>
   if t.text = [46] then (Xbo L r).map fun s => .mk 5 t.pl 0 s [o]
   else (E r).bind fun a r2 => if tx r2 = [58] then (E r2.tail).bind fun b r3 => (Xal L [[93]] r3).map fun _ => .mk 7 t.pl 0 [] [o, a, b]
    else (Xal L [[93]] r2).map fun _ => .mk 6 t.pl 0 [] [o, a]
def Xdc : Nat → Ex → List Tok → Rd Ex
 | n, e, us => if tx us = [46] ∨ tx us = [91] then (match n with
    | 0 => .bad (plc L us) 21
    | n + 1 => (Xdh L E e us).bind fun e2 r => Xdc n e2 r) else .ok e us
end
def Xah (L : Nat) : Nat → List Tok → Rd Ex
 | 0, us => if opensB us = true then .bad (plc L us) 21 else .bad (plc L us) 20
 | n + 1, us => if opensB us = true then (Xch L (Xah L n) us).bind fun e r => Xdc L (Xah L n) 8 e r else .bad (plc L us) 20
section
variable (L : Nat)
def argM (E : List Tok → Rd Ex) (ahead : Nat) (us : List Tok) : Rd Ex :=
 (Xeq L ahead us).bind fun _ r => (Xcc L (opensB r) ahead 4 r).bind fun _ r2 => E r2
def Xgx (E : List Tok → Rd Ex) (us : List Tok) : Rd (List Ex) := (Xal L [[40]] us).bind fun _ r => Xas [41] 0 (argM L E) (r.length + 1) 0 r
def Xdp (S : List Tok → Rd Sm) (least : Nat) (us : List Tok) : Rd (List Sm) := (Xal L [[123]] us).bind fun _ r => Xas [125] least (fun _ => S) (r.length + 1) 0 r
def Xhr : List (List UInt8) := [[118, 97, 114], [115, 101, 116], [105, 102], [119, 104, 105, 108, 101], [108, 111, 99, 107], [117, 110, 108, 111, 99, 107], [115, 101, 110, 100], [114, 101, 99, 118], [111, 117, 116], [99, 97, 108, 108], [114, 101, 116, 117, 114, 110]]
def setB (e : Ex) : Bool := decide (e.kind = 4 ∨ e.kind = 5 ∨ e.kind = 6)
def endM (s : Sm) (us : List Tok) : Rd Sm := (Xal L [[59]] us).map fun _ => s
variable (E : List Tok → Rd Ex) (S : List Tok → Rd Sm)
def Xfh (t : Tok) (r : List Tok) : Rd Sm :=
 if t.text = [105, 102] then (E r).bind fun c r2 => (Xdp L S 0 r2).bind fun b r3 =>
  if tx r3 = [101, 108, 115, 101] then (Xdp L S 1 r3.tail).map fun l => .mk 3 t.pl [] [] [c] b l else .ok (.mk 3 t.pl [] [] [c] b []) r3
 else if t.text = [119, 104, 105, 108, 101] then (E r).bind fun c r2 => (Xdp L S 0 r2).map fun b => .mk 4 t.pl [] [] [c] b []
 else if t.text = [118, 97, 114] then (Xbo L r).bind fun n r2 => (Xem L r2).bind fun y r3 => (Xal L [[61]] r3).bind fun _ r4 => (E r4).bind fun v r5 => endM L (.mk 1 t.pl n y [v] [] []) r5
 else if t.text = [115, 101, 116] then (E r).bind fun p r2 => if setB p = true then (Xal L [[61]] r2).bind fun _ r3 => (E r3).bind fun v r4 => endM L (.mk 2 t.pl [] [] [p, v] [] []) r4 else .bad (plc L r2) 20
 else if t.text = [108, 111, 99, 107] then (Xbo L r).bind fun n r2 => endM L (.mk 5 t.pl n [] [] [] []) r2
 else if t.text = [117, 110, 108, 111, 99, 107] then (Xbo L r).bind fun n r2 => endM L (.mk 6 t.pl n [] [] [] []) r2
 else if t.text = [115, 101, 110, 100] then (Xbo L r).bind fun n r2 => (E r2).bind fun v r3 => endM L (.mk 7 t.pl n [] [v] [] []) r3
 else if t.text = [114, 101, 99, 118] then (Xbo L r).bind fun n r2 => (Xbo L r2).bind fun y r3 => endM L (.mk 8 t.pl n y [] [] []) r3
 else if t.text = [111, 117, 116] then (Xbo L r).bind fun n r2 => (E r2).bind fun v r3 => endM L (.mk 9 t.pl n [] [v] [] []) r3
 else if t.text = [99, 97, 108, 108] then (Xbo L r).bind fun n r2 =>
  if tx r2 = [61] then (Xbo L r2.tail).bind fun f r3 => (Xgx L E r3).bind fun xs r4 => endM L (.mk 10 t.pl f n xs [] []) r4
  else (Xgx L E r2).bind fun xs r3 => endM L (.mk 10 t.pl n [] xs [] []) r3
 else if tx r = [59] then endM L (.mk 11 t.pl [] [] [] [] []) r
 else (E r).bind fun v r2 => endM L (.mk 11 t.pl [] [] [v] [] []) r2
end
def Xcp (L : Nat) : Nat → List Tok → Rd Sm
 | 0, us => .bad 0 0
 | n + 1, us => (Xal L Xhr us).bind fun t r => Xfh L (Xah L n) (Xcp L n) t r
def Xgy (L : Nat) (us : List Tok) : Rd (List Sm) := Xdp L (Xcp L 24) 0 us
section
variable (L : Nat)
def Xhm : List (List UInt8) := [[108, 111, 99, 107], [99, 104, 97, 110], [115, 116, 114, 117, 99, 116], [118, 97, 114], [105, 110, 112, 117, 116], [115, 105, 110, 107], [102, 117, 110, 99], [116, 104, 114, 101, 97, 100]]
def Xgk (d : Dc) (us : List Tok) : Rd Dc := (Xal L [[59]] us).map fun _ => d
def Xee (w : List UInt8) (p : Nat) (s : List UInt8) (r : List Tok) : Rd Dc :=
 if w = [115, 116, 114, 117, 99, 116] then (Xen L r).map fun ps => ⟨3, p, 0, s, [], ps, []⟩
 else if w = [102, 117, 110, 99] then (Xfc L r).bind fun ps r2 =>
  if tx r2 = [123] then (Xgy L r2).map fun b => ⟨7, p, 0, s, [], ps, b⟩
  else (Xem L r2).bind fun y r3 => (Xgy L r3).map fun b => ⟨7, p, 0, s, y, ps, b⟩
 else if w = [116, 104, 114, 101, 97, 100] then (Xgy L r).map fun b => ⟨8, p, 0, s, [], [], b⟩
 else if w = [108, 111, 99, 107] then Xgk L ⟨1, p, 0, s, [], [], []⟩ r
 else if w = [99, 104, 97, 110] then (Xby L r).bind fun n r2 => Xgk L ⟨2, p, n, s, [], [], []⟩ r2
 else if w = [118, 97, 114] then (Xem L r).bind fun y r2 => Xgk L ⟨4, p, 0, s, y, [], []⟩ r2
 else if w = [105, 110, 112, 117, 116] then Xgk L ⟨5, p, 0, s, [], [], []⟩ r
 else Xgk L ⟨6, p, 0, s, [], [], []⟩ r
def Xbx (ahead : Nat) (us : List Tok) : Rd Dc :=
 (Xal L Xhm us).bind fun t r => (Xcc L (decide (kd r = 1)) ahead 64 r).bind fun _ r2 => Xee L t.text (plc L r2) (tx r2) r2.tail
def Xbs (us : List Tok) : Rd (List Dc) := Xas [] 0 (Xbx L) (us.length + 1) 0 us
end
def Xco (s : List UInt8) : List Dc × Nat × Nat := match toks s with
 | .err p e => ([], p, e)
 | .ok us => match Xbs s.length us with
   | .bad p c => ([], p, c)
   | .ok ds _ => (ds, 0, 0)
def noEx : Ex := .mk 0 0 0 [] []
end Go.Proofs.YtbckeljbpknbdaaGreatDoor
end
set_option linter.unusedVariables false
set_option linter.unusedSimpArgs false
namespace Go.Proofs.YtbckeljbpknbdaaGreatDoor
open Go.RowKit
theorem Xce {w : World} {p : Addr} {v : Value} (h : w.cell? p = some v) : p.block < w.heap.size := by
 rcases Nat.lt_or_ge p.block w.heap.size with hlt | hge
 · exact hlt
 · simp [World.cell?, Array.getElem?_eq_none hge] at h
section
def byV (l : List UInt8) : List Value := l.map fun b => Value.int .u8 (b.toNat : Nat)
def Xbk (w : World) (base : Nat) (v : Value) (l : List UInt8) : Prop := w.ownsRow base 5 1 v l.length (byV l)
theorem Xbk.nil (w : World) (base : Nat) : Xbk w base (.slice none 0 0) [] := ⟨rfl, .inl ⟨rfl, rfl⟩⟩
theorem Xbk.keep {w w' : World} {base : Nat} {v : Value} {l : List UInt8} (h : Xbk w base v l) (hb : ∀ g, v.ownBlock = some g → w'.heap[g]? = w.heap[g]?) : Xbk w' base v l := by
 unfold Xbk at h ⊢
 rcases h with ⟨h1, h2 | ⟨g, cap, cur, hv, hbg, hg, h3⟩⟩
 · exact ⟨h1, .inl h2⟩
 · exact ⟨h1, .inr ⟨g, cap, cur, hv, hbg, (hb g (by rw [hv]; rfl)).trans hg, h3⟩⟩
theorem Xbk.alloc {w : World} {base : Nat} {v : Value} {l : List UInt8} (h : Xbk w base v l) (o : Obj) : Xbk (w.alloc o) base v l := World.ownsRow.alloc h o
theorem Xbk.conv {w : World} {base : Nat} {v : Value} {l : List UInt8} (h : Xbk w base v l) :
  (convert 148 9 v).run Tryz.prog w = .ok (.string (Xab l)) w := by
 rcases h with ⟨h1, ⟨rfl, h2⟩ | ⟨g, cap, cur, rfl, hbg, hg, h3, h4, h5, h6⟩⟩
 · obtain rfl : l = [] := List.eq_nil_of_length_eq_zero h2
   exact Lib.run_convert_nil_bytes w 148 9 5 0 Tryz.underlying148 Tryz.underlying5 Tryz.underlying9
 · refine run_convert_bytes_back w 148 9 5 ⟨g, 0, none⟩ cap l Tryz.underlying148 Tryz.underlying5 Tryz.underlying9 (Lib.bytes_of_row hg ?_)
   rw [Nat.mul_one] at h6
   exact h6
theorem Xbk.form {w : World} {base : Nat} {v : Value} {l : List UInt8} (h : Xbk w base v l) : ∃ A c, v = .slice A l.length c := by
 rcases h with ⟨h1, ⟨rfl, h2⟩ | ⟨g, cap, cur, rfl, hbg, hg, h3⟩⟩
 · exact ⟨none, 0, by rw [h2]⟩
 · exact ⟨some ⟨g, 0, none⟩, cap, rfl⟩
theorem Xbk.blk {w : World} {base : Nat} {v : Value} {l : List UInt8} (h : Xbk w base v l) {g : Nat} (hg : v.ownBlock = some g) : base ≤ g ∧ ∃ cur, w.heap[g]? = some (.cells cur 5 (0, 0)) := by
 rcases h with ⟨h1, ⟨rfl, h2⟩ | ⟨g', cap, cur, rfl, hbg, hg', h3⟩⟩
 · cases hg
 · have e : g' = g := by simpa [Value.ownBlock] using hg
   subst e
   exact ⟨hbg, cur, hg'⟩
structure Chg (P : Nat → Prop) (w w' : World) : Prop where
 os : w'.os = w.os
 tape : w'.tape = w.tape
 output : w'.output = w.output
 size : w.heap.size ≤ w'.heap.size
 block : ∀ k, k < w.heap.size → ¬ P k → w'.heap[k]? = w.heap[k]?
theorem Chg.refl (P : Nat → Prop) (w : World) : Chg P w w := ⟨rfl, rfl, rfl, Nat.le_refl _, fun _ _ _ => rfl⟩
theorem Chg.trans {P P' : Nat → Prop} {a b c : World} (h : Chg P a b) (k : Chg P' b c) (hp : ∀ x, x < a.heap.size → P' x → P x) : Chg P a c :=
 ⟨k.os.trans h.os, k.tape.trans h.tape, k.output.trans h.output, Nat.le_trans h.size k.size, fun i hi hn => (k.block i (Nat.lt_of_lt_of_le hi h.size) (fun e => hn (hp i hi e))).trans (h.block i hi hn)⟩
theorem Chg.of_below {P : Nat → Prop} {w w' : World} (h : Below w.heap.size w w') : Chg P w w' := ⟨h.os, h.tape, h.output, h.size, fun k hk _ => h.block k hk⟩
theorem Chg.alloc {P : Nat → Prop} {a w : World} (h : Chg P a w) (o : Obj) : Chg P a (w.alloc o) :=
 h.trans (P' := fun _ => False) ⟨rfl, rfl, rfl, by simp, fun k hk _ => Below.heap_alloc _ _ _ hk⟩ (fun _ _ e => e.elim)
theorem Chg.setCell {P : Nat → Prop} {a w : World} (h : Chg P a w) (p : Addr) (u : Value) (hp : p.block < a.heap.size → P p.block) : Chg P a (w.setCell p u) :=
 h.trans (P' := fun x => x = p.block) ⟨rfl, rfl, rfl, by simp [World.setCell], fun k hk hn => Below.heap_setCell _ _ _ _ hn⟩ (fun x hx e => by rw [e]; exact hp (by rw [← e]; exact hx))
theorem Chg.grown {P : Nat → Prop} {a w w' : World} {row : Option Nat} (h : Chg P a w) (hg : w.grownBy w' row) (hr : ∀ k, k < a.heap.size → row = some k → P k) : Chg P a w' :=
 h.trans (P' := fun x => row = some x) ⟨hg.os, hg.tape, hg.output, hg.size, fun k hk hn => hg.block k hk (fun e => hn e.symm)⟩ hr
theorem Chg.below {P : Nat → Prop} {w w' : World} {B : Nat} (h : Chg P w w') (hB : B ≤ w.heap.size) (hp : ∀ x, P x → B ≤ x) : Below B w w' :=
 ⟨h.os, h.tape, h.output, h.size, fun k hk => h.block k (by omega) (fun e => by have := hp k e; omega)⟩
theorem Chg.cell {P : Nat → Prop} {w w' : World} (h : Chg P w w') {p : Addr} {v : Value} (hc : w.cell? p = some v) (hn : ¬ P p.block) : w'.cell? p = some v :=
 (World.cell?_of_block (w := w) (h.block p.block (Xce hc) hn)).trans hc
theorem Chg.drew {P : Nat → Prop} {a w : World} (h : Chg P a w) : Chg P a w.drew := ⟨h.os, h.tape, h.output, h.size, h.block⟩
structure Xer (w : World) (Bc Ba base : Nat) (v : Value) (T : List (List UInt8)) : Prop where
 cnt : w.heap[Bc]? = some (.cells #[.int .i64 T.length] 3 (0, 0))
 buf : w.heap[Ba]? = some (.cells #[v] 148 (0, 0))
 own : Xbk w base v (Xeb T)
 fit : fits T
 bc : base ≤ Bc
 ba : base ≤ Ba
def Mine (Bc Ba : Nat) (v : Value) (b : Nat) : Prop := b = Bc ∨ b = Ba ∨ v.ownBlock = some b
theorem Xac {w : World} {g : Nat} {o : Obj} (h : w.heap[g]? = some o) : g < w.heap.size := by
 rcases Nat.lt_or_ge g w.heap.size with hlt | hge
 · exact hlt
 · rw [Array.getElem?_eq_none hge] at h; cases h
section
variable {w w' w1 w2 : World} {Bc Ba base : Nat} {v v' v1 v2 : Value} {T T' T1 T2 : List (List UInt8)}
theorem Xer.ne (h : Xer w Bc Ba base v T) : Bc ≠ Ba := fun e => by
 have h1 := h.cnt
 rw [e, h.buf] at h1
 simp at h1
theorem Xer.nec (h : Xer w Bc Ba base v T) : v.ownBlock ≠ some Bc := fun e => by
 obtain ⟨_, cur, hg⟩ := h.own.blk e
 rw [h.cnt] at hg
 simp at hg
theorem Xer.nea (h : Xer w Bc Ba base v T) : v.ownBlock ≠ some Ba := fun e => by
 obtain ⟨_, cur, hg⟩ := h.own.blk e
 rw [h.buf] at hg
 simp at hg
theorem Xer.mine (h : Xer w Bc Ba base v T) {b : Nat} (hb : Mine Bc Ba v b) : base ≤ b ∧ b < w.heap.size := by
 rcases hb with rfl | rfl | hb
 · exact ⟨h.bc, Xac h.cnt⟩
 · exact ⟨h.ba, Xac h.buf⟩
 · obtain ⟨h1, cur, hg⟩ := h.own.blk hb
   exact ⟨h1, Xac hg⟩
theorem Xer.keep (h : Xer w Bc Ba base v T) (hk : ∀ b, Mine Bc Ba v b → w'.heap[b]? = w.heap[b]?) : Xer w' Bc Ba base v T :=
 ⟨(hk Bc (.inl rfl)).trans h.cnt, (hk Ba (.inr (.inl rfl))).trans h.buf, h.own.keep fun g hg => hk g (.inr (.inr hg)), h.fit, h.bc, h.ba⟩
theorem Xer.alloc (h : Xer w Bc Ba base v T) (o : Obj) : Xer (w.alloc o) Bc Ba base v T := h.keep fun b hb => Below.heap_alloc _ _ _ (h.mine hb).2
theorem Xer.below (h : Xer w Bc Ba base v T) (hb : Below w.heap.size w w') : Xer w' Bc Ba base v T := h.keep fun b hm => hb.block b (h.mine hm).2
theorem Xer.setCell (h : Xer w Bc Ba base v T) (p : Addr) (u : Value) (hp : ¬ Mine Bc Ba v p.block) : Xer (w.setCell p u) Bc Ba base v T :=
 h.keep fun b hb => Below.heap_setCell _ _ _ _ (fun e => hp (by rw [← e]; exact hb))
theorem Xer.drew (h : Xer w Bc Ba base v T) : Xer w.drew Bc Ba base v T := h.keep fun b hb => rfl
def Went (w : World) (Bc Ba base : Nat) (v : Value) (w' : World) (v' : Value) (T' : List (List UInt8)) : Prop :=
 Xer w' Bc Ba base v' T' ∧ (∀ b, v'.ownBlock = some b → v.ownBlock = some b ∨ w.heap.size ≤ b) ∧ Chg (Mine Bc Ba v) w w'
theorem Went.mine (h : Went w Bc Ba base v w' v' T') {b : Nat} (hb : Mine Bc Ba v' b) (hlt : b < w.heap.size) : Mine Bc Ba v b := by
 rcases hb with rfl | rfl | hb
 · exact .inl rfl
 · exact .inr (.inl rfl)
 · rcases h.2.1 b hb with h1 | h1
   · exact .inr (.inr h1)
   · omega
theorem Went.refl (h : Xer w Bc Ba base v T) : Went w Bc Ba base v w v T := ⟨h, fun b hb => .inl hb, Chg.refl _ _⟩
theorem Went.trans (h : Went w Bc Ba base v w1 v1 T1) (k : Went w1 Bc Ba base v1 w2 v2 T2) : Went w Bc Ba base v w2 v2 T2 := by
 refine ⟨k.1, fun b hb => ?_, h.2.2.trans k.2.2 fun x hx hm => h.mine hm hx⟩
 rcases k.2.1 b hb with h1 | h1
 · exact h.2.1 b h1
 · have := h.2.2.size; exact .inr (by omega)
theorem Went.alloc (h : Went w Bc Ba base v w1 v1 T1) (o : Obj) : Went w Bc Ba base v (w1.alloc o) v1 T1 := ⟨h.1.alloc o, h.2.1, h.2.2.alloc o⟩
theorem Went.below (h : Went w Bc Ba base v w1 v1 T1) (hb : Below w1.heap.size w1 w2) : Went w Bc Ba base v w2 v1 T1 := ⟨h.1.below hb, h.2.1, h.2.2.trans (Chg.of_below (P := fun _ => False) hb) fun _ _ e => e.elim⟩
theorem Went.setCell (h : Went w Bc Ba base v w1 v1 T1) (p : Addr) (u : Value) (hp : w.heap.size ≤ p.block) (hm : ¬ Mine Bc Ba v1 p.block) : Went w Bc Ba base v (w1.setCell p u) v1 T1 :=
 ⟨h.1.setCell p u hm, h.2.1, h.2.2.setCell p u fun e => by omega⟩
theorem Went.drew (h : Went w Bc Ba base v w1 v1 T1) : Went w Bc Ba base v w1.drew v1 T1 := ⟨h.1.drew, h.2.1, h.2.2.drew⟩
end
end
section
theorem Xec {w : World} {g : Nat} {x : Value} {t : TypeId} (h : w.heap[g]? = some (.cells #[x] t (0, 0))) (u : Value) : (w.setCell ⟨g, 0, none⟩ u).heap[g]? = some (.cells #[u] t (0, 0)) := by
 simp [World.setCell, Array.getElem?_modify, h]
theorem Xer.grown {w w' : World} {Bc Ba base : Nat} {v : Value} {T : List (List UInt8)} (h : Xer w Bc Ba base v T) (hg : w.grownBy w' v.ownBlock) : w'.heap[Bc]? = w.heap[Bc]? ∧ w'.heap[Ba]? = w.heap[Ba]? :=
 ⟨hg.block Bc (Xac h.cnt) (fun e => h.nec e.symm), hg.block Ba (Xac h.buf) (fun e => h.nea e.symm)⟩
structure Xfz (w : World) (Bc Ba : Nat) (k : Nat) (v : Value) : Prop where
 c : w.heap[Bc]? = some (.cells #[.int .i64 k] 3 (0, 0))
 a : w.heap[Ba]? = some (.cells #[v] 148 (0, 0))
section
variable {w : World} {Bc Ba k : Nat} {v : Value}
theorem Xfz.fc (h : Xfz w Bc Ba k v) : w.frozen? ⟨Bc, 0, none⟩ = false := frozen_of_row w Bc 0 _ _ h.c
theorem Xfz.alloc (h : Xfz w Bc Ba k v) (o : Obj) : Xfz (w.alloc o) Bc Ba k v := ⟨(Below.heap_alloc _ _ _ (Xac h.c)).trans h.c, (Below.heap_alloc _ _ _ (Xac h.a)).trans h.a⟩
theorem Xfz.grown (h : Xfz w Bc Ba k v) {w' : World} {row : Option Nat} (hg : w.grownBy w' row) (h1 : row ≠ some Bc) (h2 : row ≠ some Ba) : Xfz w' Bc Ba k v :=
 ⟨(hg.block Bc (Xac h.c) (fun e => h1 e.symm)).trans h.c, (hg.block Ba (Xac h.a) (fun e => h2 e.symm)).trans h.a⟩
end
end
section
open Go.Shelf
def Xnq : Go.Shelf.Ren := ⟨fun | 103 => 59 | 210 => 86 | 206 => 115 | n => n, fun | 9 => 9 | 4 => 4 | 24 => 113 | 3 => 3 | n => n, fun | n => n⟩
theorem Xvu : Go.Proofs.Lays.n103 Tryz.prog Xnq := {
 mixed := by kernel_rfl
 f103 := Tryz.func59.trans (congrArg some (by kernel_rfl))
 f206 := Tryz.func115.trans (congrArg some (by kernel_rfl))
 f210 := Tryz.func86.trans (congrArg some (by kernel_rfl))
 t3 := Tryz.underlying3
 a3 := Tryz.isAgg3
 z3 := Tryz.sizeOf3
 v3 := Tryz.zeroValue3
 t4 := Tryz.underlying4
 a4 := Tryz.isAgg4
 z4 := Tryz.sizeOf4
 v4 := Tryz.zeroValue4
 t9 := Tryz.underlying9
 a9 := Tryz.isAgg9
 z9 := Tryz.sizeOf9
 v9 := Tryz.zeroValue9
 t24 := Tryz.underlying113
 a24 := Tryz.isAgg113
 z24 := Tryz.sizeOf113
 v24 := Tryz.zeroValue113 }
open Go.RowKit in
theorem strings_CutPrefix (s p : ByteArray) (w : World) :
  Calls Tryz.prog 59 #[.string s, .string p] w fun e w' => e = .returned (.tuple #[.string ⟨(Lib.trimPrefix s.data.toList p.data.toList).toArray⟩, .bool (Lib.hasPrefix s.data.toList p.data.toList)]) ∧ w' = w := Any.strings_CutPrefix Xvu s p w
def Xns : Go.Shelf.Ren := ⟨fun | 110 => 77 | 109 => 108 | n => n, fun | 31 => 126 | 9 => 9 | 4 => 4 | 3 => 3 | 0 => 0 | n => n, fun | n => n⟩
theorem Xnr : Go.Proofs.Lays.n110 Tryz.prog Xns := {
 mixed := by kernel_rfl
 f109 := Tryz.func108.trans (congrArg some (by kernel_rfl))
 f110 := Tryz.func77.trans (congrArg some (by kernel_rfl))
 t0 := Tryz.underlying0
 a0 := Tryz.isAgg0
 z0 := Tryz.sizeOf0
 v0 := Tryz.zeroValue0
 t3 := Tryz.underlying3
 a3 := Tryz.isAgg3
 z3 := Tryz.sizeOf3
 v3 := Tryz.zeroValue3
 t4 := Tryz.underlying4
 a4 := Tryz.isAgg4
 z4 := Tryz.sizeOf4
 v4 := Tryz.zeroValue4
 t9 := Tryz.underlying9
 a9 := Tryz.isAgg9
 z9 := Tryz.sizeOf9
 v9 := Tryz.zeroValue9
 t31 := Tryz.underlying126
 a31 := Tryz.isAgg126
 z31 := Tryz.sizeOf126
 v31 := Tryz.zeroValue126 }
open Go.Lib in
theorem slices_Contains_string (b off n c : Nat) (zs : List ByteArray) (x : ByteArray) (w : World) (hz : n ≤ zs.length) (hbig : n ≤ 9223372036854775807) (hc : ∀ j, j < zs.length → w.cell? ⟨b, off + j, none⟩ = some (.string (zs.getD j ByteArray.empty))) :
  Calls Tryz.prog 77 #[.slice (some ⟨b, off, none⟩) n c, .string x] w fun e w' => e = .returned (.bool (Lib.containsS (zs.take n) x)) ∧ w' = w := Any.slices_Contains_string Xnr b off n c zs x w hz hbig hc
end
theorem Xad (t : List UInt8) : (Xab t).toList = t := by
 rw [ByteArray.toList_eq]; rfl
theorem Xqu (t : List UInt8) (w : World) : Calls Tryz.prog 59 #[.string (Xab t), .string ⟨#[42]⟩] w fun e w' =>
  e = .returned (.tuple #[.string (Xab (if t.head? = some 42 then t.tail else t)), .bool (decide (t.head? = some 42))]) ∧ w = w' := by
 refine (strings_CutPrefix (Xab t) ⟨#[42]⟩ w).mono ?_
 rintro e w' ⟨rfl, rfl⟩
 refine ⟨?_, rfl⟩
 have h1 : Lib.hasPrefix (Xab t).data.toList (⟨#[42]⟩ : ByteArray).data.toList = decide (t.head? = some 42) := by
  rw [Xbe]
  show ([42] : List UInt8).isPrefixOf t = _
  cases t with
  | nil => rfl
  | cons c r =>
    show ((42 : UInt8) == c && List.isPrefixOf [] r) = decide (some c = some 42)
    rw [List.isPrefixOf_nil_left, Bool.and_true, Bool.eq_iff_iff, beq_iff_eq, decide_eq_true_eq, Option.some.injEq]
    exact eq_comm
 have h2 : (⟨(Lib.trimPrefix (Xab t).data.toList (⟨#[42]⟩ : ByteArray).data.toList).toArray⟩ : ByteArray) = Xab (if t.head? = some 42 then t.tail else t) := by
  unfold Lib.trimPrefix
  rw [h1, Xbe]
  by_cases h : t.head? = some 42
  · simp only [h, decide_true, if_true]
    show Xab (t.drop 1) = _
    rw [List.drop_one]
  · simp only [h, decide_false, if_false, Bool.false_eq_true]
    rfl
 rw [h1, h2]
def Xgt (ts : List (List UInt8)) : Array Value := (ts.map fun t => Value.string (Xab t)).toArray
section
def Xag (p c : Nat) : Ending := .panicked [{ v := .iface 73 (.agg #[.int .i64 (p : Nat), .int .i64 (c : Nat)]), recovered := false }]
def endT (L : Nat) : Tok := ⟨0, [], L⟩
def Xqm (t : Tok) : Prop := t.text ≠ [] ∧ t.text.length ≤ 16384 ∧ (t.kind = 1 → Xfb t.text = true) ∧ (t.kind = 2 → (∀ c ∈ t.text, Xcd c = true) ∧ t.text.length ≤ 18)
def RdAt (w : World) (B R L : Nat) (us : List Tok) : Prop :=
 ∃ tb off c, w.heap[R]? = some (.cells #[.slice (some ⟨tb, off, none⟩) (us.length + 1) c] 78 (0, 0)) ∧ R < B ∧ tb < B ∧ tb ≠ R ∧ us.length + 1 ≤ c ∧ c ≤ 9223372036854775807 ∧
  (∀ (k : Nat) (h : k < (us ++ [endT L]).length), w.cell? ⟨tb, off + k * 3, none⟩ = some (.int .i64 ((us ++ [endT L])[k].kind : Nat)) ∧ w.cell? ⟨tb, off + k * 3 + 1, none⟩ = some (.string (Xab (us ++ [endT L])[k].text)) ∧ w.cell? ⟨tb, off + k * 3 + 2, none⟩ = some (.int .i64 ((us ++ [endT L])[k].pl : Nat))) ∧
  us.length ≤ 5000 ∧ ∀ t ∈ us, Xqm t
section
variable {w w' : World} {B R L : Nat} {us : List Tok}
theorem RdAt.keep (h : RdAt w B R L us) (hk : ∀ b, b < B → w'.heap[b]? = w.heap[b]?) : RdAt w' B R L us := by
 obtain ⟨tb, off, c, h1, h2, h3, h4, h5, h6, h7, h8, h9⟩ := h
 have hc : ∀ i, w'.cell? ⟨tb, i, none⟩ = w.cell? ⟨tb, i, none⟩ := fun i => World.cell?_of_block (hk tb h3)
 exact ⟨tb, off, c, (hk R h2).trans h1, h2, h3, h4, h5, h6, fun k hk => by rw [hc, hc, hc]; exact h7 k hk, h8, h9⟩
theorem RdAt.below (h : RdAt w B R L us) (hb : Below B w w') : RdAt w' B R L us := h.keep fun b hlt => hb.block b hlt
theorem RdAt.below' (h : RdAt w B R L us) (hB : B ≤ w.heap.size) (hb : Below w.heap.size w w') : RdAt w' B R L us := h.keep fun b hlt => hb.block b (by omega)
theorem RdAt.alloc (h : RdAt w B R L us) (hB : B ≤ w.heap.size) (o : Obj) : RdAt (w.alloc o) B R L us := h.keep fun b hlt => Below.heap_alloc _ _ _ (by omega)
theorem RdAt.drew (h : RdAt w B R L us) : RdAt w.drew B R L us := h.keep fun b hlt => rfl
theorem RdAt.setCell (h : RdAt w B R L us) (p : Addr) (u : Value) (hp : B ≤ p.block) : RdAt (w.setCell p u) B R L us := h.keep fun b hlt => Below.heap_setCell _ _ _ _ (by omega)
theorem RdAt.lt (h : RdAt w B R L us) : R < B := by obtain ⟨_, _, _, _, h, _⟩ := h; exact h
theorem RdAt.ok (h : RdAt w B R L us) : ∀ t ∈ us, Xqm t := by obtain ⟨_, _, _, _, _, _, _, _, _, _, _, h⟩ := h; exact h
theorem RdAt.len (h : RdAt w B R L us) : us.length ≤ 5000 := by obtain ⟨_, _, _, _, _, _, _, _, _, _, h, _⟩ := h; exact h
theorem head_end (L : Nat) (us : List Tok) (h : 0 < (us ++ [endT L]).length) : (us ++ [endT L])[0].kind = kd us ∧ (us ++ [endT L])[0].text = tx us ∧ (us ++ [endT L])[0].pl = plc L us := by
 cases us with
 | nil => exact ⟨rfl, rfl, rfl⟩
 | cons t r => exact ⟨rfl, rfl, rfl⟩
theorem RdAt.head (h : RdAt w B R L us) : ∃ tb off c n, n = us.length ∧ w.heap[R]? = some (.cells #[.slice (some ⟨tb, off, none⟩) (n + 1) c] 78 (0, 0)) ∧ n + 1 ≤ c ∧ c ≤ 9223372036854775807 ∧ R < B ∧ tb < B ∧ tb ≠ R ∧
  w.cell? ⟨tb, off, none⟩ = some (.int .i64 (kd us : Nat)) ∧ w.cell? ⟨tb, off + 1, none⟩ = some (.string (Xab (tx us))) ∧ w.cell? ⟨tb, off + 2, none⟩ = some (.int .i64 (plc L us : Nat)) := by
 obtain ⟨tb, off, c, h1, h2, h3, h4, h5, h6, h7, h8, h9⟩ := h
 have h0 : 0 < (us ++ [endT L]).length := by simp
 obtain ⟨k0, k1, k2⟩ := h7 0 h0
 obtain ⟨e0, e1, e2⟩ := head_end L us h0
 rw [e0, Nat.zero_mul, Nat.add_zero] at k0
 rw [e1, Nat.zero_mul, Nat.add_zero] at k1
 rw [e2, Nat.zero_mul, Nat.add_zero] at k2
 exact ⟨tb, off, c, us.length, rfl, h1, h5, h6, h2, h3, h4, k0, k1, k2⟩
theorem RdAt.popped {t : Tok} {tb off c n : Nat} {r : List Tok} (h : RdAt w B R L (t :: r)) (hc : w.heap[R]? = some (.cells #[.slice (some ⟨tb, off, none⟩) n c] 78 (0, 0)))
  (h' : w'.heap[R]? = some (.cells #[.slice (some ⟨tb, off + 3, none⟩) (r.length + 1) (c - 1)] 78 (0, 0))) (hk : ∀ b, b < B → b ≠ R → w'.heap[b]? = w.heap[b]?) : RdAt w' B R L r := by
 obtain ⟨tb', off', c', h1, h2, h3, h4, h5, h6, h7, h8, h9⟩ := h
 rw [h1] at hc
 simp only [Option.some.injEq, Obj.cells.injEq, Array.mk.injEq, List.cons.injEq, Value.slice.injEq, Addr.mk.injEq, and_true] at hc
 obtain ⟨⟨rfl, rfl⟩, rfl, rfl⟩ := hc
 simp only [List.length_cons] at h5 h8
 have hce : ∀ i, w'.cell? ⟨tb', i, none⟩ = w.cell? ⟨tb', i, none⟩ := fun i => World.cell?_of_block (hk tb' h3 h4)
 refine ⟨tb', off' + 3, c' - 1, h', h2, h3, h4, by omega, by omega, fun k hk => ?_, by omega, fun u hu => h9 u (by simp [hu])⟩
 have h10 := h7 (k + 1) (by simp at hk ⊢; omega)
 have e : (t :: r ++ [endT L])[k + 1]'(by simp at hk ⊢; omega) = (r ++ [endT L])[k] := rfl
 rw [e, show off' + (k + 1) * 3 = off' + 3 + k * 3 from by omega] at h10
 rw [hce, hce, hce]; exact h10
end
def Xaj {α : Type} (V : World → α → Value → Prop) (w : World) (B R L : Nat) (x : Rd α) (e : Ending) (w' : World) : Prop := match x with
 | .bad p c => e = Xag p c ∧ Chg (fun b => b = R) w w'
 | .ok a r => (∃ v, e = .returned v ∧ V w' a v) ∧ RdAt w' B R L r ∧ Chg (fun b => b = R) w w'
def UnV (_ : World) (_ : Unit) (v : Value) : Prop := v = .tuple #[]
def StrV (_ : World) (s : List UInt8) (v : Value) : Prop := v = .string (Xab s) ∧ s.length ≤ 16384
def TokV (_ : World) (t : Tok) (v : Value) : Prop := v = .agg #[.int .i64 (t.kind : Nat), .string (Xab t.text), .int .i64 (t.pl : Nat)] ∧ Xqm t
def IntV (_ : World) (n : Int) (v : Value) : Prop := v = .int .i64 n
end
theorem Xaa {w : World} {p : Addr} {v : Value} (h : w.cell? p = some v) : ∀ o, (w.alloc o).cell? p = some v := fun o => (World.cell?_of_block (w := w) (Below.heap_alloc w o p.block (Xce h))).trans h
theorem Xdb {w : World} {p : Addr} {v : Value} (h : w.cell? p = some v) (hz : w.frozen? p = false) : ∀ o, (w.alloc o).frozen? p = false := fun o => (World.frozen?_of_block (w := w) (Below.heap_alloc w o p.block (Xce h))).trans hz
section
section
variable (w : World) (a b c : Value)
theorem Xgi : (w.alloc (.cells #[a, b, c] 76)).heap[w.heap.size]? = some (.cells #[a, b, c] 76 (0, 0)) := heap_alloc_new _ _
theorem tok_c0 : (w.alloc (.cells #[a, b, c] 76)).cell? ⟨w.heap.size, 0, none⟩ = some a := by rw [cell_of_row _ _ 0 _ _ (0, 0) (Xgi w a b c)]; rfl
theorem tok_c1 : (w.alloc (.cells #[a, b, c] 76)).cell? ⟨w.heap.size, 1, none⟩ = some b := by rw [cell_of_row _ _ 1 _ _ (0, 0) (Xgi w a b c)]; rfl
theorem tok_c2 : (w.alloc (.cells #[a, b, c] 76)).cell? ⟨w.heap.size, 2, none⟩ = some c := by rw [cell_of_row _ _ 2 _ _ (0, 0) (Xgi w a b c)]; rfl
end
theorem Yav (a b c : Value) (w : World) : (Instr.field 76 (.agg #[a, b, c]) 0).run Tryz.prog w = .ok a w := by kernel_rfl
theorem Xdn (a b c : Value) (w : World) : (Instr.field 76 (.agg #[a, b, c]) 1).run Tryz.prog w = .ok b w := by kernel_rfl
theorem Xrq (a b c : Value) (w : World) : (Instr.field 76 (.agg #[a, b, c]) 2).run Tryz.prog w = .ok c w := by kernel_rfl
theorem Xae (w : World) (o : Obj) : Below w.heap.size w (w.alloc o) := (Below.refl _ w).alloc (Nat.le_refl _) _
theorem Xeg {w : World} {B R L : Nat} {us : List Tok} (h : RdAt w B R L us) :
  Calls Tryz.prog 49 #[.pointer (some ⟨R, 0, none⟩)] w fun e w' => e = .returned (.agg #[.int .i64 (kd us : Nat), .string (Xab (tx us)), .int .i64 (plc L us : Nat)]) ∧ Below w.heap.size w w' := by
 obtain ⟨tb, off, c, n, hn, h1, h2, h3, h4, h5, h6, k0, k1, k2⟩ := h.head
 have c0 := cell_of_row w R 0 _ _ (0, 0) h1
 simp at c0
 have a0 := Xaa c0
 have a1 := Xaa k0
 have a2 := Xaa k1
 have a3 := Xaa k2
 clear h1 h hn c0 k0 k1 k2
 go_enter Tryz.func49, Tryz.ntmps49
 go_wp2
 refine bodyPost_ret (v := .agg #[.int .i64 (kd us : Nat), .string (Xab (tx us)), .int .i64 (plc L us : Nat)]) ?_ rfl ⟨rfl, Xae _ _⟩
 simp [results, Tryz.results49, go_sem, tok_c0, tok_c1, tok_c2]
theorem Xcb (w : World) (R : Nat) (c : Int) : Calls Tryz.prog 76 #[.pointer (some ⟨R, 0, none⟩), .bool true, .int .i64 c] w fun e w' => e = .returned (.tuple #[]) ∧ w = w' := by
 go_enter Tryz.func76, Tryz.ntmps76
 go_wp2
 go_end0
 exact ⟨rfl, rfl⟩
set_option maxRecDepth 100000 in
theorem Xel {w : World} {B R L : Nat} {us : List Tok} (h : RdAt w B R L us) (c : Nat) : Calls Tryz.prog 76 #[.pointer (some ⟨R, 0, none⟩), .bool false, .int .i64 (c : Nat)] w fun e w' => e = Xag (plc L us) c ∧ Below w.heap.size w w' := by
 have HN := lh (Xeg h)
 have hf := Xrq
 clear h
 obtain ⟨K, hK⟩ : ∃ K : Int, K = (kd us : Nat) := ⟨_, rfl⟩
 obtain ⟨P, hP⟩ : ∃ P : Int, P = (plc L us : Nat) := ⟨_, rfl⟩
 obtain ⟨C, hC⟩ : ∃ C : Int, C = (c : Nat) := ⟨_, rfl⟩
 unfold Xag
 rw [← hK, ← hP] at HN
 rw [← hC, ← hP]
 clear hK hP hC
 go_enter Tryz.func76, Tryz.ntmps76
 go_wp2_with fail
 refine HN.out.mono ?_
 rintro e w1 ⟨rfl, hb⟩
 have HB := lh hb
 clear hb
 go_wp2
 exact ⟨rfl, rfl, HB.out⟩
end
theorem Xrn {w : World} {R : Nat} {v : Value} {t : TypeId} (h : w.heap[R]? = some (.cells #[v] t (0, 0))) (u : Value) : (w.setCell ⟨R, 0, none⟩ u).heap[R]? = some (.cells #[u] t (0, 0)) := by
 simp [World.setCell, Array.getElem?_modify, h]
theorem Xbn {w : World} {B R L : Nat} {t : Tok} {r : List Tok} (h : RdAt w B R L (t :: r)) (hB : B ≤ w.heap.size) :
  Calls Tryz.prog 53 #[.pointer (some ⟨R, 0, none⟩)] w fun e w' => e = .returned (.agg #[.int .i64 (t.kind : Nat), .string (Xab t.text), .int .i64 (t.pl : Nat)]) ∧ RdAt w' B R L r ∧ Chg (fun b => b = R) w w' := by
 obtain ⟨tb, off, c, n, hn, h1, h2, h3, h4, h5, h6, k0, k1, k2⟩ := h.head
 have c0 := cell_of_row w R 0 _ _ (0, 0) h1
 simp at c0
 have z0 := frozen_of_row w R 0 _ _ h1
 have az := Xdb c0 z0
 obtain rfl : n = r.length + 1 := hn
 have hc1 : ¬ c - 1 = 0 := by omega
 have e0 : kd (t :: r) = t.kind := rfl
 have e1 : tx (t :: r) = t.text := rfl
 have e2 : plc L (t :: r) = t.pl := rfl
 rw [e0] at k0
 rw [e1] at k1
 rw [e2] at k2
 obtain ⟨n, hn⟩ : ∃ n, n = r.length := ⟨_, rfl⟩
 rw [← hn] at h1 h2 c0
 have HH := lh h
 have H1 := lh h1
 have HNN := lh hn
 obtain ⟨X, hX⟩ : ∃ X : World, X = w.alloc (.cells #[.int .i64 0, .string ⟨#[]⟩, .int .i64 0] 76) := ⟨_, rfl⟩
 obtain ⟨g, hg⟩ : ∃ g, g = w.heap.size := ⟨_, rfl⟩
 have hsx : X.heap.size = g + 1 := by rw [hX, hg]; simp
 have x0 : X.cell? ⟨R, 0, none⟩ = some (.slice (some ⟨tb, off, none⟩) (n + 1 + 1) c) := by rw [hX]; exact Xaa c0 _
 have xz : X.frozen? ⟨R, 0, none⟩ = false := by rw [hX]; exact az _
 have x1 : X.cell? ⟨tb, off, none⟩ = some (.int .i64 (t.kind : Nat)) := by rw [hX]; exact Xaa k0 _
 have x2 : X.cell? ⟨tb, off + 1, none⟩ = some (.string (Xab t.text)) := by rw [hX]; exact Xaa k1 _
 have x3 : X.cell? ⟨tb, off + 2, none⟩ = some (.int .i64 (t.pl : Nat)) := by rw [hX]; exact Xaa k2 _
 have hgr : X.heap[g]? = some (.cells #[.int .i64 0, .string ⟨#[]⟩, .int .i64 0] 76 (0, 0)) := by rw [hX, hg]; exact Xgi _ _ _ _
 have hRg : R < g := by rw [hg]; exact Xce c0
 obtain ⟨Y, hY⟩ : ∃ Y : World, Y = X.alloc (.cells #[.int .i64 (t.kind : Nat), .string (Xab t.text), .int .i64 (t.pl : Nat)] 76) := ⟨_, rfl⟩
 have y0 : Y.cell? ⟨R, 0, none⟩ = some (.slice (some ⟨tb, off, none⟩) (n + 1 + 1) c) := by rw [hY]; exact Xaa x0 _
 have yz : Y.frozen? ⟨R, 0, none⟩ = false := by rw [hY]; exact Xdb x0 xz _
 have yr : Y.heap[g + 1]? = some (.cells #[.int .i64 (t.kind : Nat), .string (Xab t.text), .int .i64 (t.pl : Nat)] 76 (0, 0)) := by rw [hY, ← hsx]; exact Xgi _ _ _ _
 have yg : Y.heap[g]? = some (.cells #[.int .i64 0, .string ⟨#[]⟩, .int .i64 0] 76 (0, 0)) := by rw [hY, Below.heap_alloc _ _ _ (by omega)]; exact hgr
 have hby : Below w.heap.size w Y := by rw [hY]; exact ((by rw [hX]; exact Xae _ _ : Below w.heap.size w X)).alloc (by rw [hsx, ← hg]; omega) _
 obtain ⟨Z, hZ⟩ : ∃ Z : World, Z = Y.setCell ⟨R, 0, none⟩ (.slice (some ⟨tb, off + 3, none⟩) (n + 1) (c - 1)) := ⟨_, rfl⟩
 have zr : Z.heap[g + 1]? = some (.cells #[.int .i64 (t.kind : Nat), .string (Xab t.text), .int .i64 (t.pl : Nat)] 76 (0, 0)) := by rw [hZ, Below.heap_setCell _ _ _ _ (by simp; omega)]; exact yr
 have zg : Z.heap[g]? = some (.cells #[.int .i64 0, .string ⟨#[]⟩, .int .i64 0] 76 (0, 0)) := by rw [hZ, Below.heap_setCell _ _ _ _ (by simp; omega)]; exact yg
 have z0 : Z.cell? ⟨g + 1, 0, none⟩ = some (.int .i64 (t.kind : Nat)) := by rw [cell_of_row Z _ 0 _ _ (0, 0) zr]; rfl
 have z1 : Z.cell? ⟨g + 1, 1, none⟩ = some (.string (Xab t.text)) := by rw [cell_of_row Z _ 1 _ _ (0, 0) zr]; rfl
 have z2 : Z.cell? ⟨g + 1, 2, none⟩ = some (.int .i64 (t.pl : Nat)) := by rw [cell_of_row Z _ 2 _ _ (0, 0) zr]; rfl
 have f0 : Z.frozen? ⟨g, 0, none⟩ = false := frozen_of_row Z g 0 _ _ zg
 have f1 : Z.frozen? ⟨g, 1, none⟩ = false := frozen_of_row Z g 1 _ _ zg
 have f2 : Z.frozen? ⟨g, 2, none⟩ = false := frozen_of_row Z g 2 _ _ zg
 have m0 : Z.cell? ⟨g, 0, none⟩ = some (.int .i64 0) := by rw [cell_of_row Z _ 0 _ _ (0, 0) zg]; rfl
 have m1 : Z.cell? ⟨g, 1, none⟩ = some (.string ⟨#[]⟩) := by rw [cell_of_row Z _ 1 _ _ (0, 0) zg]; rfl
 have m2 : Z.cell? ⟨g, 2, none⟩ = some (.int .i64 0) := by rw [cell_of_row Z _ 2 _ _ (0, 0) zg]; rfl
 have HFIN : Hid (∀ w', Below w.heap.size Z w' → RdAt w' B R L r ∧ Chg (fun b => b = R) w w') := lh fun w' hb => by
  have hk : ∀ b, b < w.heap.size → b ≠ R → w'.heap[b]? = w.heap[b]? := fun b hlt hne => (hb.block b hlt).trans (by rw [hZ, Below.heap_setCell _ _ _ _ (by simpa using hne)]; exact hby.block b hlt)
  refine ⟨RdAt.popped h h1 ?_ fun b hlt hne => hk b (by omega) hne, ⟨?_, ?_, ?_, ?_, fun k hlt hn => hk k hlt hn⟩⟩
  · rw [← hn, hb.block R (by rw [← hg]; exact hRg), hZ]
    exact Xrn ((hby.block R (by rw [← hg]; exact hRg)).trans h1) _
  · rw [hb.os, hZ]; exact hby.os
  · rw [hb.tape, hZ]; exact hby.tape
  · rw [hb.output, hZ]; exact hby.output
  · have := hb.size; have := hby.size; rw [hZ] at *; simp [World.setCell] at *; omega
 clear h h1 hn e0 e1 e2 c0 k0 k1 k2 az hby hgr yr yg zr zg xz hRg
 subst hZ hY hX hg
 go_enter Tryz.func53, Tryz.ntmps53
 go_wp2
 refine bodyPost_ret (v := .agg #[.int .i64 (t.kind : Nat), .string (Xab t.text), .int .i64 (t.pl : Nat)]) ?_ rfl ⟨rfl, HFIN.out _ ?_⟩
 · simp [results, Tryz.results53, go_sem, m0, m1, m2]
 · refine Below.setCell ?_ (by simp) _
   refine Below.setCell ?_ (by simp) _
   refine Below.setCell ?_ (by simp) _
   exact Below.refl _ _
theorem Xda {w : World} {B R L : Nat} {us : List Tok} (h : RdAt w B R L us) :
  Calls Tryz.prog 52 #[.pointer (some ⟨R, 0, none⟩)] w fun e w' => e = .returned (.bool (decide (kd us = 1))) ∧ Below w.heap.size w w' := by
 have HN := lh (Xeg h)
 have hf := Yav
 have hd : decide (kd us = 1) = decide (((kd us : Nat) : Int) = 1) := by
  by_cases h : kd us = 1
  · simp [h]
  · simp [h]; omega
 rw [hd]
 obtain ⟨K, hK⟩ : ∃ K : Int, K = (kd us : Nat) := ⟨_, rfl⟩
 obtain ⟨P, hP⟩ : ∃ P : Int, P = (plc L us : Nat) := ⟨_, rfl⟩
 rw [← hK, ← hP] at HN
 rw [← hK]
 clear hK hP h hd
 go_enter Tryz.func52, Tryz.ntmps52
 go_wp2_with fail
 refine HN.out.mono ?_
 rintro e w1 ⟨rfl, hb⟩
 have HB := lh hb
 clear hb
 go_wp2
 go_ret
 exact ⟨by by_cases h : K = 1 <;> simp [h], HB.out⟩
theorem Xbf {w w1 w' : World} {P : Nat → Prop} (hb : Below w.heap.size w w1) (hc : Chg P w1 w') : Chg P w w' := (Chg.of_below (P := P) hb).trans hc fun _ _ h => h
theorem Xcr {w : World} {B R L : Nat} {us : List Tok} (h : RdAt w B R L us) (hB : B ≤ w.heap.size) :
  Calls Tryz.prog 82 #[.pointer (some ⟨R, 0, none⟩)] w (Xaj StrV w B R L (Xbo L us)) := by
 have HI := lh (Xda h)
 have HH := lh h
 have hf := Xdn
 by_cases hk : kd us = 1
 · match us, hk with
   | t :: r, hk =>
     have HM : Hid (Xbo L (t :: r) = .ok t.text r) := lh (by rw [Xbo, if_pos (show t.kind = 1 from hk)])
     have HLN := lh ((h.ok t (by simp)).2.1)
     have hd : decide (kd (t :: r) = 1) = true := by simpa using hk
     rw [hd] at HI
     clear h hk hd
     go_enter Tryz.func82, Tryz.ntmps82
     go_wp2_with fail
     refine HI.out.mono ?_
     rintro e w1 ⟨rfl, hb⟩
     have HB := lh hb
     clear hb
     go_wp2_with fail
     refine (Xcb _ _ _).mono ?_
     rintro e w2 ⟨rfl, rfl⟩
     go_wp2_with fail
     refine (Xbn (HH.out.below' hB HB.out) (Nat.le_trans hB HB.out.size)).mono ?_
     rintro e w2 ⟨rfl, hr, hc⟩
     have HR := lh hr
     have HC := lh (Xbf HB.out hc)
     clear hr hc
     obtain ⟨K, hK⟩ : ∃ K : Int, K = (t.kind : Nat) := ⟨_, rfl⟩
     obtain ⟨P, hP⟩ : ∃ P : Int, P = (t.pl : Nat) := ⟨_, rfl⟩
     rw [← hK, ← hP]
     clear hK hP
     go_wp2
     go_ret
     rw [HM.out]
     exact ⟨⟨_, rfl, rfl, HLN.out⟩, HR.out, HC.out⟩
 · have HM : Hid (Xbo L us = .bad (plc L us) 20) := lh (by
    cases us with
    | nil => rfl
    | cons t r => rw [Xbo, if_neg (show ¬ t.kind = 1 from hk)]; rfl)
   have hd : decide (kd us = 1) = false := by simpa using hk
   rw [hd] at HI
   clear h hk hd
   go_enter Tryz.func82, Tryz.ntmps82
   go_wp2_with fail
   refine HI.out.mono ?_
   rintro e w1 ⟨rfl, hb⟩
   have HB := lh hb
   clear hb
   go_wp2_with fail
   refine (Xel (HH.out.below' hB HB.out) 20).mono ?_
   rintro e w2 ⟨rfl, hb⟩
   have HB2 := lh (HB.out.trans (hb.mono HB.out.size))
   clear hb
   unfold Xag
   go_wp2
   rw [HM.out]
   exact ⟨rfl, rfl, Chg.of_below HB2.out⟩
end Go.Proofs.YtbckeljbpknbdaaGreatDoor
