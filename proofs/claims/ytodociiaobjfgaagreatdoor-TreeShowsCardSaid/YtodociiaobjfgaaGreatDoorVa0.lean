/- Ra Rs Rb Rc Rd Re Rg Dn Vc Ua Ub Uc Ue Uf Ug Uh Ui Uj Uk -/
import Derived.Shelf.Small.Strs
import Derived.Shelf.LaysM
import Derived.Shelf.Strconv.Clone
import Derived.Shelf.Strings.Search1
import Derived.Shelf.Strings.Prefix
import Derived.Test.YtodociiaobjfgaaGreatDoorRows
import Derived.WalkKit
import Derived.WalkSpells
import Derived.WalkLawsBesides
import Derived.Lib.Hide
import Derived.Lib.IndexAny
import Derived.OwnWalk
import Derived.Deep.AppendLies
import Derived.Laws.AppendOwnNone
import Derived.Deep.QuietTactic
import Derived.BigQuiet
import Derived.Recover
import Derived.StillTailTactics
import Derived.IntWalk
set_option linter.unusedVariables false
set_option linter.unusedSimpArgs false
namespace Go.Proofs.YtodociiaobjfgaaGreatDoor
open Go.RowKit
theorem lh {p : Prop} (h : p) : Hid p := h
structure Tok where
 kind : Nat
 text : List UInt8
 pl : Nat
inductive Res where
 | ok (l : List Tok)
 | err (pl e : Nat)
def Res.pre (acc : List Tok) : Res → Res
 | .ok l => .ok (acc ++ l)
 | .err p e => .err p e
def Xgf (c : UInt8) : Bool := decide (97 ≤ c.toNat) && decide (c.toNat ≤ 122)
def Xee (c : UInt8) : Bool := decide (48 ≤ c.toNat) && decide (c.toNat ≤ 57)
def Xhh (c : UInt8) : Bool := Xgf c || Xee c || c.toNat == 95
def Xgb (c : UInt8) : Bool := c.toNat == 32 || c.toNat == 10
def Xey : List (List UInt8) := [[98, 111, 111, 108], [99, 97, 108, 108], [99, 104, 97, 110], [101, 108, 115, 101], [102, 97, 108, 115, 101], [102, 117, 110, 99], [105, 102], [105, 110, 112, 117, 116], [105, 110, 116], [108, 101, 110], [108, 111, 99, 107], [109, 97, 107, 101], [110, 101, 119], [110, 105, 108], [111, 117, 116], [114, 101, 99, 118], [114, 101, 108, 101, 97, 115, 101], [114, 101, 116, 117, 114, 110], [115, 101, 110, 100], [115, 101, 116], [115, 105, 110, 107], [115, 116, 114, 117, 99, 116], [116, 104, 114, 101, 97, 100], [116, 114, 117, 101], [117, 110, 108, 111, 99, 107], [118, 97, 114], [119, 104, 105, 108, 101]]
def Xlf : List UInt8 := [123, 125, 40, 41, 91, 93, 44, 59, 46, 58, 61, 43, 45, 42, 47, 37, 60, 33, 38, 124]
def Xfc (t : List UInt8) : Bool := Xey.contains t
def Xdx (p : UInt8 → Bool) (l : List UInt8) : Nat := (l.takeWhile p).length
def Xcw : List UInt8 → Nat
 | [] => 0
 | c :: r => if Xgf c then Xdx Xhh (c :: r) else 0
theorem Xes (c : UInt8) (r : List UInt8) : Xcw (c :: r) = if Xgf c then Xdx Xhh (c :: r) else 0 := rfl
def twoB (l : List UInt8) : Bool := List.isPrefixOf [60, 61] l || List.isPrefixOf [61, 61] l || List.isPrefixOf [33, 61] l
def Xeb (l : List UInt8) : Nat := if twoB l then 2 else match l with
 | [] => 0
 | c :: _ => if Xlf.contains c then 1 else 0
def Xat (l : List UInt8) : Nat × Nat :=
 if 0 < Xcw l then (if Xfc (l.take (Xcw l)) then 4 else 1, Xcw l)
 else if 0 < Xdx Xee l then (2, Xdx Xee l)
 else if 0 < Xeb l then (3, Xeb l) else (0, 0)
def Xbn (k : Nat) (t : List UInt8) (n : Nat) : Nat :=
 if k = 0 then 10 else if (k = 1 ∧ 16 < t.length) ∨ 4096 ≤ n then 12
 else if k = 2 ∧ (18 < t.length ∨ (1 < t.length ∧ t.head? = some 48)) then 11 else 0
def sc : List UInt8 → Nat → Nat → Nat → Res
 | [], _, _, _ => .ok []
 | _ :: r, k + 1, at_, n => sc r k (at_ + 1) n
 | c :: r, 0, at_, n =>
   if Xgb c then sc r 0 (at_ + 1) n
   else if Xbn (Xat (c :: r)).1 ((c :: r).take (Xat (c :: r)).2) n ≠ 0 then .err at_ (Xbn (Xat (c :: r)).1 ((c :: r).take (Xat (c :: r)).2) n)
   else (sc r ((Xat (c :: r)).2 - 1) (at_ + 1) (n + 1)).pre [⟨(Xat (c :: r)).1, (c :: r).take (Xat (c :: r)).2, at_⟩]
theorem sc_err {c : UInt8} {r : List UInt8} {a n : Nat} (h : Xgb c = false) (he : Xbn (Xat (c :: r)).1 ((c :: r).take (Xat (c :: r)).2) n ≠ 0) :
  sc (c :: r) 0 a n = .err a (Xbn (Xat (c :: r)).1 ((c :: r).take (Xat (c :: r)).2) n) := by
 rw [sc, if_neg (by simp [h]), if_pos he]
theorem Xra (p : UInt8 → Bool) (l : List UInt8) : Xdx p l ≤ l.length := by
 unfold Xdx
 induction l with
 | nil => simp
 | cons c r ih =>
   rw [List.takeWhile_cons]
   split
   · simpa using ih
   · simp
theorem Xld (l : List UInt8) : Xcw l ≤ l.length := by
 cases l with
 | nil => simp [Xcw]
 | cons c r =>
   show (if Xgf c = true then Xdx Xhh (c :: r) else 0) ≤ _
   split
   · exact Xra _ _
   · simp
def St (s : List UInt8) (a : Nat) (acc : List Tok) : Prop := a ≤ s.length ∧ acc.length ≤ 4096 ∧ sc s 0 0 0 = (sc (s.drop a) 0 a acc.length).pre acc
theorem Xoq {s : List UInt8} {a : Nat} (h : a < s.length) : s.drop a = s[a] :: s.drop (a + 1) := List.drop_eq_getElem_cons h
theorem St.err {s : List UInt8} {a : Nat} {acc : List Tok} (h : St s a acc) (ha : a < s.length) (hb : Xgb s[a] = false)
  (he : Xbn (Xat (s.drop a)).1 ((s.drop a).take (Xat (s.drop a)).2) acc.length ≠ 0) : sc s 0 0 0 = .err a (Xbn (Xat (s.drop a)).1 ((s.drop a).take (Xat (s.drop a)).2) acc.length) := by
 rw [h.2.2]
 rw [Xoq ha] at he ⊢
 rw [sc_err hb he]
 rfl
theorem St.stop {s : List UInt8} {a : Nat} {acc : List Tok} (h : St s a acc) (ha : ¬ a < s.length) : sc s 0 0 0 = .ok acc := by
 have := h.1
 rw [h.2.2, List.drop_of_length_le (by omega)]
 simp [sc, Res.pre]
theorem Xqz {p : UInt8 → Bool} {l : List UInt8} {k : Nat} (hk : k < l.length) (hp : p l[k] = true) : Xdx p (l.drop k) = 1 + Xdx p (l.drop (k + 1)) := by
 rw [List.drop_eq_getElem_cons hk]
 unfold Xdx
 rw [List.takeWhile_cons, if_pos hp]
 simp; omega
theorem Xrb {p : UInt8 → Bool} {l : List UInt8} {k : Nat} (hk : k < l.length) (hp : p l[k] = false) : Xdx p (l.drop k) = 0 := by
 rw [List.drop_eq_getElem_cons hk]
 unfold Xdx
 rw [List.takeWhile_cons, if_neg (by simp [hp])]
 rfl
theorem Xnz {p : UInt8 → Bool} {l : List UInt8} {k : Nat} (hk : ¬ k < l.length) : Xdx p (l.drop k) = 0 := by
 rw [List.drop_of_length_le (by omega)]
 rfl
section
open Go.Shelf
def Xpe : Go.Shelf.Ren := ⟨fun | 137 => 93 | 217 => 99 | 266 => 106 | n => n, fun | 9 => 9 | 5 => 5 | 3 => 3 | n => n, fun | n => n⟩
theorem lays137 : Go.Proofs.Lays.n137 Tryz.prog Xpe := {
 mixed := by kernel_rfl
 f137 := Tryz.func93.trans (congrArg some (by kernel_rfl))
 f217 := Tryz.func99.trans (congrArg some (by kernel_rfl))
 f266 := Tryz.func106.trans (congrArg some (by kernel_rfl))
 t3 := Tryz.underlying3
 a3 := Tryz.isAgg3
 z3 := Tryz.sizeOf3
 v3 := Tryz.zeroValue3
 t5 := Tryz.underlying5
 a5 := Tryz.isAgg5
 z5 := Tryz.sizeOf5
 v5 := Tryz.zeroValue5
 t9 := Tryz.underlying9
 a9 := Tryz.isAgg9
 z9 := Tryz.sizeOf9
 v9 := Tryz.zeroValue9 }
open Go.RowKit in
theorem strings_IndexByte (s : ByteArray) (c : Int) (w : World) :
  Calls Tryz.prog 93 #[.string s, .int .u8 c] w fun e w' => e = .returned (.int .i64 (Lib.indexByte s.data.toList c.toNat.toUInt8)) ∧ w' = w := Any.strings_IndexByte lays137 s c w
def Xsg : Go.Shelf.Ren := ⟨fun | 99 => 92 | 206 => 64 | n => n, fun | 9 => 9 | 4 => 4 | 3 => 3 | n => n, fun | n => n⟩
theorem lays99 : Go.Proofs.Lays.n99 Tryz.prog Xsg := {
 mixed := by kernel_rfl
 f99 := Tryz.func92.trans (congrArg some (by kernel_rfl))
 f206 := Tryz.func64.trans (congrArg some (by kernel_rfl))
 t3 := Tryz.underlying3
 a3 := Tryz.isAgg3
 z3 := Tryz.sizeOf3
 v3 := Tryz.zeroValue3
 t4 := Tryz.underlying4
 a4 := Tryz.isAgg4
 z4 := Tryz.sizeOf4
 v4 := Tryz.zeroValue4
 t9 := Tryz.underlying9
 a9 := Tryz.isAgg9
 z9 := Tryz.sizeOf9
 v9 := Tryz.zeroValue9 }
open Go.RowKit Go.Lib in
theorem strings_HasPrefix (s p : ByteArray) (w : World) :
  Calls Tryz.prog 92 #[.string s, .string p] w fun e w' => e = .returned (.bool (Lib.hasPrefix s.data.toList p.data.toList)) ∧ w' = w := Any.strings_HasPrefix lays99 s p w
end
theorem Xca {a b : Bool} (h : a = b) : Ending.returned (.bool a) = .returned (.bool b) := by rw [h]
theorem Xce {k : IntKind} {a b : Int} (h : a = b) : Ending.returned (.int k a) = .returned (.int k b) := by rw [h]
theorem Xge (c : UInt8) (w : World) : Calls Tryz.prog 89 #[.int .u8 c.toNat] w fun e w' => e = .returned (.bool (Xgf c)) ∧ w = w' := by
 go_enter Tryz.func89, Tryz.ntmps89
 go_wp2
 all_goals
  go_ret
  exact ⟨Xca (by rw [Bool.eq_iff_iff]; simp [Xgf]; omega), rfl⟩
theorem Xhd (c : UInt8) (w : World) : Calls Tryz.prog 80 #[.int .u8 c.toNat] w fun e w' => e = .returned (.bool (Xee c)) ∧ w = w' := by
 go_enter Tryz.func80, Tryz.ntmps80
 go_wp2
 all_goals
  go_ret
  exact ⟨Xca (by rw [Bool.eq_iff_iff]; simp [Xee]; omega), rfl⟩
theorem Xky (c : UInt8) (w : World) : Calls Tryz.prog 90 #[.int .u8 c.toNat] w fun e w' => e = .returned (.bool (Xhh c)) ∧ w = w' := by
 go_enter Tryz.func90, Tryz.ntmps90
 go_wp2_with (first
  | (go_at_call 89; refine (Xge _ _).mono ?_; rintro e w' ⟨rfl, rfl⟩)
  | (go_at_call 80; refine (Xhd _ _).mono ?_; rintro e w' ⟨rfl, rfl⟩))
 all_goals
  go_ret
  exact ⟨Xca (by rw [Bool.eq_iff_iff]; simp [Xhh, *]; try omega), rfl⟩
set_option maxHeartbeats 400000 in
theorem Xwk (s : ByteArray) (w : World) (hs : s.size ≤ 40000) : Calls Tryz.prog 79 #[.string s, .func (.func 80) #[] #[]] w fun e w' => e = .returned (.int .i64 (Xdx Xee s.data.toList)) ∧ w = w' := by
 go_enter Tryz.func79, Tryz.ntmps79
 go_wp2
 go_loop [5] (fun x => ∃ k : Nat, k ≤ s.size ∧ x = .int .i64 k ∧ Hid (k + Xdx Xee (s.data.toList.drop k) = Xdx Xee s.data.toList)) (fun x => s.size - (intOf x).toNat)
 case atStart => exact ⟨0, Nat.zero_le _, rfl, lh (by simp)⟩
 case round =>
  obtain ⟨k, hk, rfl, HR⟩ := hrel
  by_cases hlt : k < s.size
  · have hl : k < s.data.toList.length := by simpa using hlt
    have hg : s.data.toList[k] = s[k] := rfl
    by_cases hp : Xee s[k] = true
    · have HN := lh (Xqz hl (hg ▸ hp))
      go_wp2_with (first | (go_at_call 80; refine (Xhd _ _).mono ?_; rintro e w' ⟨rfl, rfl⟩))
      go_round
      case rel => exact ⟨k + 1, by omega, by go_num, lh (by have := HR.out; have := HN.out; omega)⟩
      case measure => simp [intOf]; omega
    · have hp' : Xee s[k] = false := by simpa using hp
      clear hp
      have HN := lh (Xrb hl (hg ▸ hp'))
      go_wp2_with (first | (go_at_call 80; refine (Xhd _ _).mono ?_; rintro e w' ⟨rfl, rfl⟩))
      go_ret
      exact ⟨Xce (by have := HR.out; have := HN.out; omega), rfl⟩
  · have HN := lh (Xnz (p := Xee) (l := s.data.toList) (k := k) (by simpa using hlt))
    go_wp2
    go_ret
    exact ⟨Xce (by have := HR.out; have := HN.out; omega), rfl⟩
set_option maxHeartbeats 400000 in
theorem Xrc (s : ByteArray) (w : World) (hs : s.size ≤ 40000) : Calls Tryz.prog 79 #[.string s, .func (.func 90) #[] #[]] w fun e w' => e = .returned (.int .i64 (Xdx Xhh s.data.toList)) ∧ w = w' := by
 go_enter Tryz.func79, Tryz.ntmps79
 go_wp2
 go_loop [5] (fun x => ∃ k : Nat, k ≤ s.size ∧ x = .int .i64 k ∧ Hid (k + Xdx Xhh (s.data.toList.drop k) = Xdx Xhh s.data.toList)) (fun x => s.size - (intOf x).toNat)
 case atStart => exact ⟨0, Nat.zero_le _, rfl, lh (by simp)⟩
 case round =>
  obtain ⟨k, hk, rfl, HR⟩ := hrel
  by_cases hlt : k < s.size
  · have hl : k < s.data.toList.length := by simpa using hlt
    have hg : s.data.toList[k] = s[k] := rfl
    by_cases hp : Xhh s[k] = true
    · have HN := lh (Xqz hl (hg ▸ hp))
      go_wp2_with (first | (go_at_call 90; refine (Xky _ _).mono ?_; rintro e w' ⟨rfl, rfl⟩))
      go_round
      case rel => exact ⟨k + 1, by omega, by go_num, lh (by have := HR.out; have := HN.out; omega)⟩
      case measure => simp [intOf]; omega
    · have hp' : Xhh s[k] = false := by simpa using hp
      clear hp
      have HN := lh (Xrb hl (hg ▸ hp'))
      go_wp2_with (first | (go_at_call 90; refine (Xky _ _).mono ?_; rintro e w' ⟨rfl, rfl⟩))
      go_ret
      exact ⟨Xce (by have := HR.out; have := HN.out; omega), rfl⟩
  · have HN := lh (Xnz (p := Xhh) (l := s.data.toList) (k := k) (by simpa using hlt))
    go_wp2
    go_ret
    exact ⟨Xce (by have := HR.out; have := HN.out; omega), rfl⟩
theorem Xmp {s : ByteArray} (h : s.data.toList = []) : s = ⟨#[]⟩ := by
 obtain ⟨⟨l⟩⟩ := s
 simp at h
 rw [h]
theorem Xia {s : ByteArray} (h : s.data.toList ≠ []) : ∃ h0 : 0 < s.size, ∃ r, s.data.toList = s[0] :: r := by
 obtain ⟨⟨l⟩⟩ := s
 cases l with
 | nil => exact absurd rfl h
 | cons c r => exact ⟨Nat.zero_lt_succ _, r, rfl⟩
theorem Xnl (s : ByteArray) (w : World) (hs : s.size ≤ 40000) : Calls Tryz.prog 77 #[.string s] w fun e w' => e = .returned (.int .i64 (Xcw s.data.toList)) ∧ w = w' := by
 by_cases hn : s.data.toList = []
 · obtain rfl := Xmp hn
   go_enter Tryz.func77, Tryz.ntmps77
   go_wp2
   go_ret
   exact ⟨rfl, rfl⟩
 · obtain ⟨h0, r, hr⟩ := Xia hn
   have hne : s.toList ≠ [] := by rw [Lib.toList_data]; exact hn
   have hne2 : (!s.toList.isEmpty) = true := by simpa using hne
   have hne3 : s.toList.isEmpty = false := by simpa using hne
   have HR := lh hr
   clear hr hn
   by_cases hp : Xgf s[0] = true
   · go_enter Tryz.func77, Tryz.ntmps77
     go_wp2_with (first
      | (go_at_call 89; refine (Xge _ _).mono ?_; rintro e w' ⟨rfl, rfl⟩)
      | (go_at_call 79; refine (Xrc _ _ hs).mono ?_; rintro e w' ⟨rfl, rfl⟩))
     go_ret
     exact ⟨Xce (by rw [HR.out]; rw [Xes, if_pos hp]), rfl⟩
   · have hp' : Xgf s[0] = false := by simpa using hp
     clear hp
     go_enter Tryz.func77, Tryz.ntmps77
     go_wp2_with (first
      | (go_at_call 89; refine (Xge _ _).mono ?_; rintro e w' ⟨rfl, rfl⟩)
      | (go_at_call 79; refine (Xrc _ _ hs).mono ?_; rintro e w' ⟨rfl, rfl⟩))
     go_ret
     exact ⟨Xce (by rw [HR.out]; rw [Xes, if_neg (by simp [hp'])]; rfl), rfl⟩
theorem word_any (s : ByteArray) (w : World) : Calls Tryz.prog 78 #[.string s] w fun e w' => e = .returned (.bool (Xfc s.data.toList)) ∧ w = w' := by
 have HT := lh (Lib.toList_data s)
 go_enter Tryz.func78, Tryz.ntmps78
 go_wp2
 all_goals
  go_ret
  refine ⟨Xca ?_, rfl⟩
  rw [← HT.out]
  simp_all [Xfc, Xey]
theorem twoB_eq (l : List UInt8) : twoB l = (Lib.hasPrefix l [60, 61] || Lib.hasPrefix l [61, 61] || Lib.hasPrefix l [33, 61]) := rfl
theorem Xob (c : UInt8) (r : List UInt8) : Xeb (c :: r) = if twoB (c :: r) then 2 else if Xlf.contains c then 1 else 0 := rfl
theorem Xty (c : UInt8) : ((c.toNat : Int)).toNat.toUInt8 = c := by simp
theorem Xoc (s : ByteArray) (w : World) : Calls Tryz.prog 81 #[.string s] w fun e w' => e = .returned (.int .i64 (Xeb s.data.toList)) ∧ Below w.heap.size w w' := by
 have hmf : ∀ (fn : Fn) (first cap : Array Value) (w : World), (Instr.makeFunc fn first cap).run Tryz.prog w = .ok (.func fn first cap) w := fun _ _ _ _ => rfl
 by_cases hn : s.data.toList = []
 · obtain rfl := Xmp hn
   have h1 : Lib.hasPrefix (⟨#[]⟩ : ByteArray).data.toList [60, 61] = false := rfl
   have h2 : Lib.hasPrefix (⟨#[]⟩ : ByteArray).data.toList [61, 61] = false := rfl
   have h3 : Lib.hasPrefix (⟨#[]⟩ : ByteArray).data.toList [33, 61] = false := rfl
   go_enter Tryz.func81, Tryz.ntmps81
   go_wp2_with (first
    | (go_at_call 92; refine (strings_HasPrefix _ _ _).mono ?_; rintro e w' ⟨rfl, rfl⟩)
    | (go_at_call 93; refine (strings_IndexByte _ _ _).mono ?_; rintro e w' ⟨rfl, rfl⟩)
    | go_in)
   all_goals
    go_ret
    exact ⟨rfl, (Below.refl _ _).alloc (Nat.le_refl _) _⟩
 · obtain ⟨h0, r, hr⟩ := Xia hn
   have hne : s.toList ≠ [] := by rw [Lib.toList_data]; exact hn
   have hne2 : (!s.toList.isEmpty) = true := by simpa using hne
   have hne3 : s.toList.isEmpty = false := by simpa using hne
   have HR := lh hr
   have hcb := Xty s[0]
   have hci : Xlf.contains s[0] = decide (0 ≤ Lib.indexByte Xlf s[0]) := Lib.contains_iff_indexByte _ _
   unfold Xlf at hci
   have HI := lh hci
   clear hr hn hci
   obtain ⟨b1, h1⟩ : ∃ b, b = Lib.hasPrefix s.data.toList [60, 61] := ⟨_, rfl⟩
   obtain ⟨b2, h2⟩ : ∃ b, b = Lib.hasPrefix s.data.toList [61, 61] := ⟨_, rfl⟩
   obtain ⟨b3, h3⟩ : ∃ b, b = Lib.hasPrefix s.data.toList [33, 61] := ⟨_, rfl⟩
   have HT : Hid (twoB s.data.toList = (b1 || b2 || b3)) := lh (by rw [twoB_eq, h1, h2, h3])
   have h1' := h1.symm
   have h2' := h2.symm
   have h3' := h3.symm
   clear h1 h2 h3
   go_enter Tryz.func81, Tryz.ntmps81
   go_wp2_with (first
    | (go_at_call 92; refine (strings_HasPrefix _ _ _).mono ?_; rintro e w' ⟨rfl, rfl⟩)
    | (go_at_call 93; refine (strings_IndexByte _ _ _).mono ?_; rintro e w' ⟨rfl, rfl⟩)
    | go_in)
   all_goals
    go_ret
    refine ⟨Xce ?_, (Below.refl _ _).alloc (Nat.le_refl _) _⟩
    have HT' := HT.out
    rw [HR.out] at HT' ⊢
    rw [Xob, HT']
    have HI' := HI.out
    unfold Xlf
    rw [HI']
    first
     | (simp_all; done)
     | (simp_all; rw [if_neg (by omega)]; rfl)
def Xqm (l : List UInt8) : Value := .tuple #[.int .i64 ((Xat l).1 : Nat), .int .i64 ((Xat l).2 : Nat)]
theorem Xie {l : List UInt8} (h : 0 < Xcw l) : Xat l = (if Xfc (l.take (Xcw l)) then 4 else 1, Xcw l) := by
 unfold Xat; rw [if_pos h]
theorem Xpa {l : List UInt8} (h : Xcw l = 0) (h1 : 0 < Xdx Xee l) : Xat l = (2, Xdx Xee l) := by
 unfold Xat; rw [if_neg (by omega), if_pos h1]
theorem Xsb {l : List UInt8} (h : Xcw l = 0) (h1 : Xdx Xee l = 0) (h2 : 0 < Xeb l) : Xat l = (3, Xeb l) := by
 unfold Xat; rw [if_neg (by omega), if_neg (by omega), if_pos h2]
theorem first_no {l : List UInt8} (h : Xcw l = 0) (h1 : Xdx Xee l = 0) (h2 : Xeb l = 0) : Xat l = (0, 0) := by
 unfold Xat; rw [if_neg (by omega), if_neg (by omega), if_neg (by omega)]
theorem Xxd (s : ByteArray) (n : Nat) : (s.extract 0 n).data.toList = s.data.toList.take n := by
 rw [Lib.extract_data]; simp
theorem ret_tup {a b : Value} (h : a = b) : Ending.returned a = .returned b := by rw [h]
theorem Xmw (s : ByteArray) (w : World) (hs : s.size ≤ 40000) : Calls Tryz.prog 65 #[.string s] w fun e w' => e = .returned (Xqm s.data.toList) ∧ Below w.heap.size w w' := by
 obtain ⟨n, hn⟩ : ∃ n, n = Xcw s.data.toList := ⟨_, rfl⟩
 obtain ⟨d, hd⟩ : ∃ d, d = Xdx Xee s.data.toList := ⟨_, rfl⟩
 obtain ⟨g, hg⟩ : ∃ g, g = Xeb s.data.toList := ⟨_, rfl⟩
 have hnl := Xld s.data.toList
 rw [← hn] at hnl
 have hnl' : n ≤ s.size := by simpa using hnl
 obtain ⟨wd, hwd⟩ : ∃ b, b = Xfc (s.data.toList.take n) := ⟨_, rfl⟩
 have HN := lh hn
 have HD := lh hd
 have HG := lh hg
 have HW := lh hwd
 have c1 : ∀ w, Calls Tryz.prog 77 #[.string s] w fun e w' => e = .returned (.int .i64 (n : Nat)) ∧ w = w' := fun w => by rw [hn]; exact Xnl s w hs
 have c2 : ∀ w, Calls Tryz.prog 79 #[.string s, .func (.func 80) #[] #[]] w fun e w' => e = .returned (.int .i64 (d : Nat)) ∧ w = w' := fun w => by rw [hd]; exact Xwk s w hs
 have c3 : ∀ w, Calls Tryz.prog 81 #[.string s] w fun e w' => e = .returned (.int .i64 (g : Nat)) ∧ Below w.heap.size w w' := fun w => by rw [hg]; exact Xoc s w
 have c4 : ∀ w, Calls Tryz.prog 78 #[.string (s.extract 0 n)] w fun e w' => e = .returned (.bool wd) ∧ w = w' := fun w => by
  have := word_any (s.extract 0 n) w
  rw [Xxd] at this
  rw [hwd]; exact this
 clear hn hd hg hwd hnl
 go_enter Tryz.func65, Tryz.ntmps65
 go_wp2_with (first
  | (go_at_call 77; refine (c1 _).mono ?_; rintro e w' ⟨rfl, rfl⟩)
  | (go_at_call 78; refine (c4 _).mono ?_; rintro e w' ⟨rfl, rfl⟩)
  | (go_at_call 79; refine (c2 _).mono ?_; rintro e w' ⟨rfl, rfl⟩)
  | (go_at_call 81; refine (c3 _).mono ?_; rintro e w' ⟨rfl, hb⟩))
 all_goals go_ret2
 all_goals (refine ⟨ret_tup ?_, (by first | exact Below.refl _ _ | assumption)⟩)
 all_goals
  unfold Xqm
  first
  | (rw [Xie (by rw [← HN.out]; omega), ← HN.out, ← HW.out, ‹wd = true›]; rfl)
  | (rw [Xie (by rw [← HN.out]; omega), ← HN.out, ← HW.out, ‹wd = false›]; rfl)
  | (rw [Xpa (by rw [← HN.out]; omega) (by rw [← HD.out]; omega), ← HD.out]; rfl)
  | (rw [Xsb (by rw [← HN.out]; omega) (by rw [← HD.out]; omega) (by rw [← HG.out]; omega), ← HG.out]; rfl)
  | (rw [first_no (by rw [← HN.out]; omega) (by rw [← HD.out]; omega) (by rw [← HG.out]; omega)]; rfl)
theorem Xdz (t : ByteArray) : t.size = t.data.toList.length := by simp
theorem Xco (b off i : Nat) : (⟨b, off, none⟩ : Addr).add i = ⟨b, off + i, none⟩ := by unfold Addr.add; split <;> simp_all
def Xaa (t : List UInt8) : ByteArray := ⟨t.toArray⟩
theorem Xak (t : List UInt8) : (Xaa t).data.toList = t := rfl
def Toks (w : World) (B : Nat) (A : Option Addr) (l : List Tok) : Prop :=
 ∀ (k : Nat) (h : k < l.length), ∃ b, A = some ⟨b, 0, none⟩ ∧ b < B ∧ w.cell? ⟨b, k * 3, none⟩ = some (.int .i64 (l[k].kind : Nat)) ∧ w.cell? ⟨b, k * 3 + 1, none⟩ = some (.string (Xaa l[k].text)) ∧ w.cell? ⟨b, k * 3 + 2, none⟩ = some (.int .i64 (l[k].pl : Nat))
theorem Toks.below {w w' : World} {B : Nat} {A : Option Addr} {l : List Tok} (h : Toks w B A l) (hb : Below B w w') : Toks w' B A l := by
 intro k hk
 obtain ⟨b, hA, hlt, h0, h1, h2⟩ := h k hk
 exact ⟨b, hA, hlt, (hb.cell (p := ⟨b, k * 3, none⟩) hlt).trans h0, (hb.cell (p := ⟨b, k * 3 + 1, none⟩) hlt).trans h1, (hb.cell (p := ⟨b, k * 3 + 2, none⟩) hlt).trans h2⟩
theorem Toks.mono {w : World} {B B' : Nat} {A : Option Addr} {l : List Tok} (h : Toks w B A l) (hB : B ≤ B') : Toks w B' A l := by
 intro k hk
 obtain ⟨b, hA, hlt, h0⟩ := h k hk
 exact ⟨b, hA, by omega, h0⟩
def Xam (l : List UInt8) : Bool := decide ((Xat l).1 = 1 ∧ (Xat l).2 = l.length ∧ l.length ≤ 16)
def Xfn (l : List UInt8) : Bool := decide (0 < l.length ∧ Xcw l = l.length)
theorem Xwj {p : UInt8 → Bool} {l : List UInt8} : Xdx p l = l.length ↔ ∀ (j : Nat) (h : j < l.length), p l[j] = true := by
 unfold Xdx
 induction l with
 | nil => simp
 | cons c r ih =>
   rw [List.takeWhile_cons]
   by_cases hc : p c = true
   · rw [if_pos hc]
     constructor
     · intro h j hj
       have h' : (r.takeWhile p).length = r.length := by simpa using h
       cases j with
       | zero => exact hc
       | succ j => exact (ih.1 h') j (by simpa using hj)
     · intro h
       have := ih.2 (fun j hj => h (j + 1) (by simpa using hj))
       simpa using this
   · rw [if_neg hc]
     constructor
     · intro h; simp at h
     · intro h; exact absurd (h 0 (by simp)) hc
def Xgv (k : Nat) (c : UInt8) : Bool := Xgf c || (decide (0 < k) && (Xee c || c.toNat == 95))
theorem Xuy {k : Nat} {c : UInt8} (h : Xgv k c = true) : Xhh c = true := by
 unfold Xgv at h; unfold Xhh
 revert h
 cases Xgf c <;> cases Xee c <;> simp
theorem Xnf {k : Nat} {c : UInt8} (hk : 0 < k) (h : Xhh c = true) : Xgv k c = true := by
 unfold Xhh at h; unfold Xgv
 revert h
 cases Xgf c <;> cases Xee c <;> simp [hk]
theorem Xkf (l : List UInt8) : Xfn l = true ↔ 0 < l.length ∧ ∀ (j : Nat) (h : j < l.length), Xgv j l[j] = true := by
 unfold Xfn
 rw [decide_eq_true_eq]
 constructor
 · rintro ⟨h0, h1⟩
   refine ⟨h0, ?_⟩
   cases l with
   | nil => simp at h0
   | cons c r =>
     rw [Xes] at h1
     by_cases hc : Xgf c = true
     · rw [if_pos hc] at h1
       have ha := Xwj.1 h1
       intro j hj
       cases j with
       | zero => simp [Xgv, hc]
       | succ j => exact Xnf (by omega) (ha _ hj)
     · rw [if_neg hc] at h1; simp at h1
 · rintro ⟨h0, h1⟩
   refine ⟨h0, ?_⟩
   cases l with
   | nil => simp at h0
   | cons c r =>
     have hc : Xgf c = true := by have := h1 0 h0; simpa [Xgv] using this
     rw [Xes, if_pos hc]
     exact Xwj.2 fun j hj => Xuy (h1 j hj)
theorem Xnm (l : List UInt8) : Xam l = (decide (l.length ≤ 16) && Xfn l && !Xfc l) := by
 rw [Bool.eq_iff_iff]
 simp only [Xam, Xfn, Bool.and_eq_true, decide_eq_true_eq, Bool.not_eq_true']
 by_cases hn : 0 < Xcw l
 · rw [Xie hn]
   simp only
   constructor
   · rintro ⟨h1, h2, h3⟩
     rw [h2, List.take_length] at h1
     refine ⟨⟨h3, by omega, h2⟩, ?_⟩
     cases hw : Xfc l
     · rfl
     · rw [hw] at h1; simp at h1
   · rintro ⟨⟨h3, h4, h2⟩, h5⟩
     refine ⟨?_, h2, h3⟩
     rw [h2, List.take_length, h5]; rfl
 · constructor
   · rintro ⟨h1, h2, h3⟩
     unfold Xat at h1
     rw [if_neg hn] at h1
     split at h1
     · simp at h1
     · split at h1 <;> simp at h1
   · rintro ⟨⟨h3, h4, h2⟩, h5⟩
     omega
theorem Xqo (s : ByteArray) (w : World) (hs : s.size ≤ 40000) : Calls Tryz.prog 53 #[.string s] w fun e w' => e = .returned (.bool (Xam s.data.toList)) ∧ Below w.heap.size w w' := by
 obtain ⟨k, hk⟩ : ∃ k, k = (Xat s.data.toList).1 := ⟨_, rfl⟩
 obtain ⟨z, hz⟩ : ∃ z, z = (Xat s.data.toList).2 := ⟨_, rfl⟩
 have c1 : ∀ w, Calls Tryz.prog 65 #[.string s] w fun e w' => e = .returned (.tuple #[.int .i64 (k : Nat), .int .i64 (z : Nat)]) ∧ Below w.heap.size w w' := fun w => by
  have h := Xmw s w hs
  unfold Xqm at h
  rw [← hk, ← hz] at h
  exact h
 have hq : Xam s.data.toList = decide (k = 1 ∧ z = s.size ∧ s.size ≤ 16) := by unfold Xam; rw [← hk, ← hz, ← Xdz]
 have HQ := lh hq
 clear hk hz hq
 by_cases h1 : k = 1
 · subst h1
   by_cases h2 : z = s.size
   · subst h2
     go_enter Tryz.func53, Tryz.ntmps53
     go_wp2_with (go_at_call 65; refine (c1 _).mono ?_; rintro e w1 ⟨rfl, hb1⟩)
     go_ret
     exact ⟨Xca (by rw [HQ.out]; simp; omega), hb1⟩
   · have h2' : ((z : Int) == (s.size : Int)) = false := by rw [beq_eq_false_iff_ne]; omega
     have H2 := lh h2
     clear h2
     go_enter Tryz.func53, Tryz.ntmps53
     go_wp2_with (go_at_call 65; refine (c1 _).mono ?_; rintro e w1 ⟨rfl, hb1⟩)
     go_ret
     exact ⟨Xca (by rw [HQ.out]; simp [H2.out]), hb1⟩
 · have h1' : ((k : Int) == 1) = false := by rw [beq_eq_false_iff_ne]; omega
   have H1 := lh h1
   clear h1
   go_enter Tryz.func53, Tryz.ntmps53
   go_wp2_with (go_at_call 65; refine (c1 _).mono ?_; rintro e w1 ⟨rfl, hb1⟩)
   go_ret
   exact ⟨Xca (by rw [HQ.out]; simp [H1.out]), hb1⟩
def Xfu (w w' : World) : Prop := ∃ n, w' = w.drewN n
theorem Xfu.refl (w : World) : Xfu w w := ⟨0, rfl⟩
theorem Xfu.drew {w w' : World} (h : Xfu w w') : Xfu w w'.drew := by
 obtain ⟨n, rfl⟩ := h
 exact ⟨n + 1, rfl⟩
theorem Xfu.cell {w w' : World} (h : Xfu w w') (p : Addr) : w'.cell? p = w.cell? p := by
 obtain ⟨n, rfl⟩ := h; rfl
theorem Xfu.heap {w w' : World} (h : Xfu w w') : w'.heap = w.heap := by
 obtain ⟨n, rfl⟩ := h; rfl
theorem Xfu.below {w w' : World} {B : Nat} (h : Xfu w w') : Below B w w' := by
 obtain ⟨n, rfl⟩ := h
 exact ⟨rfl, rfl, rfl, Nat.le_refl _, fun _ _ => rfl⟩
theorem Xcx {w : World} {p : Addr} {v : Value} (h : w.cell? p = some v) : p.block < w.heap.size := by
 rcases Nat.lt_or_ge p.block w.heap.size with hlt | hge
 · exact hlt
 · simp [World.cell?, Array.getElem?_eq_none hge] at h
def boom : Ending := .panicked [{ v := .iface 28 (.int .i64 23), recovered := false }]
theorem Xaj (w : World) : Calls Tryz.prog 28 #[.bool true] w fun e w' => e = .returned (.tuple #[]) ∧ w = w' := by
 go_enter Tryz.func28, Tryz.ntmps28
 go_wp2
 go_end0
 exact ⟨rfl, rfl⟩
theorem Xah (w : World) : Calls Tryz.prog 28 #[.bool false] w fun e w' => e = boom ∧ w = w' := by
 go_enter Tryz.func28, Tryz.ntmps28
 go_wp2
 exact ⟨rfl, rfl, rfl⟩
theorem Xen (p : Addr) (s : ByteArray) (w : World) (hc : w.cell? p = some (.string s)) (hz : w.frozen? p = false) :
  Calls Tryz.prog 43 #[.pointer (some p)] w fun e w' => e = .returned (.string s) ∧ w' = w.setCell p (.string ⟨#[]⟩) := by
 go_enter Tryz.func43, Tryz.ntmps43
 go_wp2
 go_ret
 exact ⟨rfl, rfl⟩
theorem Xrf (p : Addr) (n : Int) (w : World) (hc : w.cell? p = some (.int .i64 n)) (hz : w.frozen? p = false) :
  Calls Tryz.prog 55 #[.pointer (some p)] w fun e w' => e = .returned (.int .i64 n) ∧ w' = w.setCell p (.int .i64 0) := by
 go_enter Tryz.func55, Tryz.ntmps55
 go_wp2
 go_ret
 exact ⟨rfl, rfl⟩
theorem Xil (p : Addr) (A : Option Addr) (n c : Nat) (w : World) (hc : w.cell? p = some (.slice A n c)) (hz : w.frozen? p = false) :
  Calls Tryz.prog 42 #[.pointer (some p)] w fun e w' => e = .returned (.slice A n c) ∧ w' = w.setCell p (.slice none 0 0) := by
 go_enter Tryz.func42, Tryz.ntmps42
 go_wp2
 go_ret
 exact ⟨rfl, rfl⟩
theorem Xfi (p : Addr) (A : Option Addr) (n c : Nat) (w : World) (hc : w.cell? p = some (.slice A n c)) (hz : w.frozen? p = false) :
  Calls Tryz.prog 46 #[.pointer (some p)] w fun e w' => e = .returned (.slice A n c) ∧ w' = w.setCell p (.slice none 0 0) := by
 go_enter Tryz.func46, Tryz.ntmps46
 go_wp2
 go_ret
 exact ⟨rfl, rfl⟩
theorem Xtl (p : Addr) (A : Option Addr) (n c : Nat) (w : World) (hc : w.cell? p = some (.slice A n c)) (hz : w.frozen? p = false) :
  Calls Tryz.prog 74 #[.pointer (some p)] w fun e w' => e = .returned (.slice A n c) ∧ w' = w.setCell p (.slice none 0 0) := by
 go_enter Tryz.func74, Tryz.ntmps74
 go_wp2
 go_ret
 exact ⟨rfl, rfl⟩
theorem Xba (p : Addr) (s : ByteArray) (w : World) (hc : w.cell? p = some (.string s)) (hz : w.frozen? p = false) (hs : s.size ≤ 40000) (hn : Xam s.data.toList = true) :
  Calls Tryz.prog 38 #[.pointer (some p)] w fun e w' => e = .returned (.string s) ∧ ∃ w1, Below w.heap.size w w1 ∧ w' = w1.setCell p (.string ⟨#[]⟩) := by
 have hlt := Xcx hc
 have hfr : ∀ w1, Below w.heap.size w w1 → w1.frozen? p = false := fun w1 hb => (World.frozen?_of_block (w := w) (hb.block p.block hlt)).trans hz
 have hcl : ∀ w1, Below w.heap.size w w1 → w1.cell? p = some (.string s) := fun w1 hb => (World.cell?_of_block (w := w) (hb.block p.block hlt)).trans hc
 have HF := lh hfr
 have HC := lh hcl
 clear hfr hcl
 go_enter Tryz.func38, Tryz.ntmps38
 go_wp2_with fail
 refine (Xqo s w hs).mono ?_
 rw [hn]
 rintro e w1 ⟨rfl, hb1⟩
 clear hc hz
 have hc := HC.out w1 hb1
 have hz := HF.out w1 hb1
 have HB := lh hb1
 clear hb1
 go_wp2_with fail
 refine (Xaj _).mono ?_
 rintro e w2 ⟨rfl, rfl⟩
 go_wp2_with fail
 refine (Xen p s _ hc hz).mono ?_
 rintro e w2 ⟨rfl, hw2⟩
 go_wp2_with fail
 go_ret
 exact ⟨rfl, _, HB.out, rfl⟩
theorem Xdf (p : Addr) (s : ByteArray) (w : World) (hc : w.cell? p = some (.string s)) (hs : s.size ≤ 40000) (hn : Xam s.data.toList = false) :
  Calls Tryz.prog 38 #[.pointer (some p)] w fun e w' => e = boom ∧ Below w.heap.size w w' := by
 go_enter Tryz.func38, Tryz.ntmps38
 go_wp2_with fail
 refine (Xqo s w hs).mono ?_
 rw [hn]
 rintro e w1 ⟨rfl, hb1⟩
 have HB := lh hb1
 clear hb1
 go_wp2_with fail
 refine (Xah _).mono ?_
 rintro e w2 ⟨rfl, rfl⟩
 unfold boom
 go_wp2
 exact ⟨rfl, rfl, HB.out⟩
inductive Ex where
 | mk (kind pl num : Int) (name : List UInt8) (args : List Ex)
def Ex.kind : Ex → Int | .mk k _ _ _ _ => k
def Ex.pl : Ex → Int | .mk _ p _ _ _ => p
def Ex.num : Ex → Int | .mk _ _ n _ _ => n
def Ex.name : Ex → List UInt8 | .mk _ _ _ s _ => s
def Ex.args : Ex → List Ex | .mk _ _ _ _ a => a
theorem Ex.eta (e : Ex) : Ex.mk e.kind e.pl e.num e.name e.args = e := by cases e; rfl
def Xby (e : Ex) (v : Value) : List Value := [.int .i64 e.kind, .int .i64 e.pl, .int .i64 e.num, .string (Xaa e.name), v]
inductive Xbm (w : World) (S : Nat → Prop) : List Ex → Value → Prop
 | mk (es : List Ex) (A : Option Addr) (c : Nat) (f : Nat → Value) (hc : es.length ≤ c) (hM : c ≤ 9223372036854775807)
   (hA : ∀ (k : Nat) (hk : k < es.length), ∃ b off, A = some ⟨b, off, none⟩ ∧ S b ∧ es[k].name.length ≤ 140737488355328 ∧
     w.cell? ⟨b, off + k * 5, none⟩ = some (.int .i64 es[k].kind) ∧ w.cell? ⟨b, off + k * 5 + 1, none⟩ = some (.int .i64 es[k].pl) ∧ w.cell? ⟨b, off + k * 5 + 2, none⟩ = some (.int .i64 es[k].num) ∧
     w.cell? ⟨b, off + k * 5 + 3, none⟩ = some (.string (Xaa es[k].name)) ∧ w.cell? ⟨b, off + k * 5 + 4, none⟩ = some (f k))
   (hr : ∀ (k : Nat) (hk : k < es.length), Xbm w S es[k].args (f k)) : Xbm w S es (.slice A es.length c)
theorem Xbm.keep {w w' : World} {S S' : Nat → Prop} {es : List Ex} {v : Value} (h : Xbm w S es v) (hw : ∀ b, S b → w'.heap[b]? = w.heap[b]?) (hS : ∀ b, S b → S' b) : Xbm w' S' es v := by
 induction h with
 | mk es A c f hc hM hA hr ih =>
   refine .mk es A c f hc hM (fun k hk => ?_) (fun k hk => ih k hk)
   obtain ⟨b, off, h1, h2, h3, h4, h5, h6, h7, h8⟩ := hA k hk
   have hcell : ∀ i, w'.cell? ⟨b, i, none⟩ = w.cell? ⟨b, i, none⟩ := fun i => World.cell?_of_block (hw b h2)
   exact ⟨b, off, h1, hS b h2, h3, by rw [hcell]; exact h4, by rw [hcell]; exact h5, by rw [hcell]; exact h6, by rw [hcell]; exact h7, by rw [hcell]; exact h8⟩
theorem Xbm.bel {w w' : World} {B : Nat} {es : List Ex} {v : Value} (h : Xbm w (· < B) es v) (hb : Below B w w') : Xbm w' (· < B) es v :=
 h.keep (fun b hlt => hb.block b hlt) (fun _ h => h)
mutual
def Xdg : Ex → Int → Int → Int
 | .mk _ _ _ name args, most, deep => if deep = 0 ∧ 0 < args.length then most + 1 else Xbl args (1 + (name.length : Int)) most deep
def Xbl : List Ex → Int → Int → Int → Int
 | [], n, _, _ => n
 | e :: es, n, most, deep => if n ≤ most then Xbl es (n + Xdg e (most - n) (deep - 1)) most deep else n
end
theorem Xko (es : List Ex) (n most deep : Int) (h : ¬ n ≤ most) : Xbl es n most deep = n := by
 cases es with
 | nil => rw [Xbl]
 | cons e es => rw [Xbl, if_neg h]
theorem Xoi {e : Ex} {es : List Ex} {n most deep : Int} (h : n ≤ most) : Xbl (e :: es) n most deep = Xbl es (n + Xdg e (most - n) (deep - 1)) most deep := by
 rw [Xbl, if_pos h]
theorem weigh_mk (k p num most deep : Int) (name : List UInt8) (es : List Ex) : Xdg (.mk k p num name es) most deep = if deep = 0 ∧ 0 < es.length then most + 1 else Xbl es (1 + (name.length : Int)) most deep := by
 rw [Xdg]
def Xfy (w : World) (r : Int) (e : Ending) (w' : World) : Prop := e = .returned (.int .i64 r) ∧ Below w.heap.size w w'
def Weighs (w0 : World) (B : Nat) (es : List Ex) (v : Value) : Prop :=
 ∀ (k p num most deep : Int) (name : List UInt8) (w : World), Below B w0 w → B ≤ w.heap.size → name.length ≤ 140737488355328 → 0 ≤ most → most ≤ 100000 → 0 ≤ deep → deep ≤ 100000 →
  Calls Tryz.prog 24 #[.agg #[.int .i64 k, .int .i64 p, .int .i64 num, .string (Xaa name), v], .int .i64 most, .int .i64 deep] w
   (Xfy w (Xdg (.mk k p num name es) most deep)) ∧ 0 ≤ Xdg (.mk k p num name es) most deep ∧ Xdg (.mk k p num name es) most deep ≤ most + 140737488355330
theorem Xln {es : List Ex} {j : Nat} (h : j < es.length) : es.drop j = es[j] :: es.drop (j + 1) := List.drop_eq_getElem_cons h
theorem Xex {most deep K : Int} (hK : 140737488355330 ≤ K) : ∀ (es : List Ex) (n : Int), (∀ (j : Nat) (hj : j < es.length) (m : Int), 0 ≤ m → m ≤ most → 0 ≤ Xdg es[j] m (deep - 1) ∧ Xdg es[j] m (deep - 1) ≤ m + 140737488355330) → 0 ≤ n → n ≤ most + K →
  0 ≤ Xbl es n most deep ∧ Xbl es n most deep ≤ most + K
 | [], n, _, h0, h1 => by rw [Xbl]; exact ⟨h0, h1⟩
 | e :: es, n, h, h0, h1 => by
   rw [Xbl]
   split
   · rename_i hn
     obtain ⟨a, b⟩ := h 0 (by simp) (most - n) (by omega) (by omega)
     have a' : 0 ≤ Xdg e (most - n) (deep - 1) := a
     have b' : Xdg e (most - n) (deep - 1) ≤ most - n + 140737488355330 := b
     exact Xex hK es _ (fun j hj m h2 h3 => h (j + 1) (by simpa using hj) m h2 h3) (by omega) (by omega)
   · exact ⟨h0, h1⟩
set_option maxHeartbeats 1000000 in
theorem Xxk {w0 : World} {B : Nat} {es : List Ex} {v : Value} (h : Xbm w0 (· < B) es v) : Weighs w0 B es v := by
 induction h with
 | mk es A c f hc hM hA hr ih =>
   intro k p num most deep name w hb hB hname hm0 hm hd0 hd
   have hcall : ∀ (j : Nat) (hj : j < es.length), ∃ b off, A = some ⟨b, off, none⟩ ∧ b < B ∧
     w0.cell? ⟨b, off + j * 5, none⟩ = some (.int .i64 es[j].kind) ∧ w0.cell? ⟨b, off + j * 5 + 1, none⟩ = some (.int .i64 es[j].pl) ∧ w0.cell? ⟨b, off + j * 5 + 2, none⟩ = some (.int .i64 es[j].num) ∧
     w0.cell? ⟨b, off + j * 5 + 3, none⟩ = some (.string (Xaa es[j].name)) ∧ w0.cell? ⟨b, off + j * 5 + 4, none⟩ = some (f j) ∧
     ∀ (m d : Int) (w : World), Below B w0 w → B ≤ w.heap.size → 0 ≤ m → m ≤ 100000 → 0 ≤ d → d ≤ 100000 →
      Calls Tryz.prog 24 #[.agg #[.int .i64 es[j].kind, .int .i64 es[j].pl, .int .i64 es[j].num, .string (Xaa es[j].name), f j], .int .i64 m, .int .i64 d] w
       (Xfy w (Xdg es[j] m d)) ∧ 0 ≤ Xdg es[j] m d ∧ Xdg es[j] m d ≤ m + 140737488355330 := fun j hj => by
    obtain ⟨b, off, h1, h2, h3, h4, h5, h6, h7, h8⟩ := hA j hj
    refine ⟨b, off, h1, h2, h4, h5, h6, h7, h8, fun m d w a1 a2 a3 a4 a5 a6 => ?_⟩
    have := ih j hj es[j].kind es[j].pl es[j].num m d es[j].name w a1 a2 h3 a3 a4 a5 a6
    rw [Ex.eta] at this
    exact this
   have HH := lh hcall
   clear hA ih hr hcall
   have hwm := weigh_mk k p num most deep name es
   refine ⟨?_, ?_⟩
   · obtain ⟨ne, hne⟩ : ∃ ne, ne = es.length := ⟨_, rfl⟩
     obtain ⟨nl, hnl⟩ : ∃ nl : Nat, nl = name.length := ⟨_, rfl⟩
     have hsz : (Xaa name).size = nl := by rw [Lib.size_eq, Xak, hnl]
     rw [← hnl] at hwm hname
     rw [← hne] at hc hwm ⊢
     have HNE := lh hne
     have HNL := lh hnl
     have HWM := lh hwm
     have HB0 := lh hb
     clear hne hnl hwm hb
     by_cases h00 : deep = 0 ∧ 0 < ne
     · obtain ⟨rfl, hpos⟩ := h00
       have hp1 : decide (0 < ne) = true := by simpa using hpos
       have HW1 : Hid (Xdg (.mk k p num name es) most 0 = most + 1) := lh (by rw [HWM.out, if_pos ⟨rfl, hpos⟩])
       clear HWM
       go_enter Tryz.func24, Tryz.ntmps24
       go_wp2
       go_ret
       exact ⟨Xce HW1.out.symm, (Below.refl _ _).alloc (Nat.le_refl _) _⟩
     · have HW2 : Hid (Xdg (.mk k p num name es) most deep = Xbl es (1 + (nl : Int)) most deep) := lh (by rw [HWM.out, if_neg h00])
       clear HWM
       have hdn : 0 < ne → 0 < deep := fun h => by
        rcases Int.lt_or_le 0 deep with h1 | h1
        · exact h1
        · exact absurd ⟨by omega, h⟩ h00
       have hdl : (ne : Int) ≤ 9223372036854775807 * deep := by
        rcases Nat.eq_zero_or_pos ne with h | h
        · omega
        · have := hdn h; omega
       clear h00 hdn
       by_cases hdz : deep = 0
       · subst hdz
         obtain rfl : ne = 0 := by omega
         obtain rfl : es = [] := List.eq_nil_of_length_eq_zero HNE.out.symm
         have HWS : Hid (Xbl [] (1 + (nl : Int)) most 0 = 1 + (nl : Int)) := lh (by rw [Xbl])
         clear HH HNE
         go_enter Tryz.func24, Tryz.ntmps24
         go_wp2
         obtain ⟨X, hX⟩ : ∃ X : World, X = w.alloc (.cells #[.int .i64 k, .int .i64 p, .int .i64 num, .string (Xaa name), .slice A 0 c] 35) := ⟨_, rfl⟩
         go_loop [7, 8] (fun n i => i = .int .i64 0 ∧ n = .int .i64 (1 + (nl : Int))) (fun _ _ => 0)
         case atStart => exact ⟨rfl, rfl⟩
         case round =>
          obtain ⟨rfl, rfl⟩ := hrel
          clear hX
          go_wp2
          go_ret
          exact ⟨Xce (by rw [HW2.out, HWS.out]), (Below.refl _ _).alloc (Nat.le_refl _) _⟩
       go_enter Tryz.func24, Tryz.ntmps24
       go_wp2
       obtain ⟨X, hX⟩ : ∃ X : World, X = w.alloc (.cells #[.int .i64 k, .int .i64 p, .int .i64 num, .string (Xaa name), .slice A ne c] 35) := ⟨_, rfl⟩
       have hbox : X.heap[w.heap.size]? = some (.cells #[.int .i64 k, .int .i64 p, .int .i64 num, .string (Xaa name), .slice A ne c] 35 (0, 0)) := by rw [hX]; exact heap_alloc_new w _
       have hXs : X.heap.size = w.heap.size + 1 := by rw [hX]; simp
       have hXb : Below w.heap.size w X := by rw [hX]; exact (Below.refl _ _).alloc (Nat.le_refl _) _
       rw [← hX]
       have HBOX := lh hbox
       have HXS := lh hXs
       have HXB := lh hXb
       clear hX hbox hXs hXb
       go_loopw [7, 8] (fun n i wr => ∃ (j : Nat) (nn : Int), j ≤ ne ∧ i = .int .i64 j ∧ n = .int .i64 nn ∧ 0 ≤ nn ∧ nn ≤ 140737488455331 ∧ Hid (Xbl (es.drop j) nn most deep = Xbl es (1 + (nl : Int)) most deep) ∧ Hid (Below (w.heap.size + 1) X wr)) (fun _ i _ => ne - (intOf i).toNat)
       case atStart => exact ⟨0, _, Nat.zero_le _, rfl, rfl, by omega, by omega, lh rfl, lh (Below.refl _ _)⟩
       case round =>
        obtain ⟨wo, rfl⟩ : ∃ wo : World, wo = wr := ⟨_, rfl⟩
        obtain ⟨j, nn, hj, rfl, rfl, hn0, hn1, HS, HBL⟩ := hrel
        have hbx : wo.cell? ⟨w.heap.size, 4, none⟩ = some (.slice A ne c) := by
         rw [cell_of_row wo w.heap.size 4 _ _ (0, 0) ((HBL.out.block w.heap.size (by omega)).trans HBOX.out)]; rfl
        have hbx0 : wo.cell? ⟨w.heap.size, 0, none⟩ = some (.int .i64 k) := by
         rw [cell_of_row wo w.heap.size 0 _ _ (0, 0) ((HBL.out.block w.heap.size (by omega)).trans HBOX.out)]; rfl
        by_cases hlt : j < ne
        · have hdp : 0 < deep := by omega
          by_cases hle : nn ≤ most
          · have hje : j < es.length := by rw [← HNE.out]; exact hlt
            obtain ⟨b, off, rfl, hbB, p0, p1, p2, p3, p4, hc⟩ := HH.out j hje
            have hdr := Xln hje
            have q0 := (HB0.out.cell (p := ⟨b, off + j * 5, none⟩) hbB)
            obtain ⟨Y, hY⟩ : ∃ Y, Y = es[j] := ⟨_, rfl⟩
            rw [← hY] at p0 p1 p2 p3 hc hdr
            have hbw : Below B w0 wo := HB0.out.trans ((HXB.out.trans (HBL.out.mono (by omega))).mono hB)
            have HWS : Hid (Xbl (es.drop (j + 1)) (nn + Xdg Y (most - nn) (deep - 1)) most deep = Xbl es (1 + (nl : Int)) most deep) := lh (by
             have := HS.out
             rw [hdr, Xoi hle] at this
             exact this)
            have hsx : B ≤ wo.heap.size := by
             have h1 := HBL.out.size
             have h2 := HXS.out
             omega
            obtain ⟨hcc, hc0, hc1⟩ := hc (most - nn) (deep - 1) wo hbw hsx (by omega) (by omega) (by omega) (by omega)
            have r0 := (hbw.cell (p := ⟨b, off + j * 5, none⟩) hbB).trans p0
            have r1 := (hbw.cell (p := ⟨b, off + j * 5 + 1, none⟩) hbB).trans p1
            have r2 := (hbw.cell (p := ⟨b, off + j * 5 + 2, none⟩) hbB).trans p2
            have r3 := (hbw.cell (p := ⟨b, off + j * 5 + 3, none⟩) hbB).trans p3
            have r4 := (hbw.cell (p := ⟨b, off + j * 5 + 4, none⟩) hbB).trans p4
            obtain ⟨yk, hyk⟩ : ∃ x, x = Y.kind := ⟨_, rfl⟩
            obtain ⟨yp, hyp⟩ : ∃ x, x = Y.pl := ⟨_, rfl⟩
            obtain ⟨yn, hyn⟩ : ∃ x, x = Y.num := ⟨_, rfl⟩
            obtain ⟨ys, hys⟩ : ∃ x, x = Xaa Y.name := ⟨_, rfl⟩
            obtain ⟨yv, hyv⟩ : ∃ x, x = f j := ⟨_, rfl⟩
            obtain ⟨yw, hyw⟩ : ∃ x, x = Xdg Y (most - nn) (deep - 1) := ⟨_, rfl⟩
            rw [← hyk, ← hyp, ← hyn, ← hys, ← hyv, ← hyw] at hcc
            rw [← hyw] at hc0 hc1 HWS
            rw [← hyk] at r0
            rw [← hyp] at r1
            rw [← hyn] at r2
            rw [← hys] at r3
            rw [← hyv] at r4
            have HCC := lh hcc
            clear hc hcc hdr q0 hY p0 p1 p2 p3 p4 hyk hyp hyn hys hyv hyw hbw HH
            go_wp2_with (first
             | ((with_reducible refine HCC.out.mono ?_); rintro e w1 ⟨rfl, hb1⟩))
            have hw1 := hb1.size
            go_roundw
            case rel => exact ⟨j + 1, nn + yw, by omega, by go_num, rfl, by omega, by omega, HWS, lh (HBL.out.trans (hb1.mono (by have h1 := HBL.out.size; have h2 := HXS.out; omega)))⟩
            case measure => simp [intOf]; omega
          · have HWS : Hid (nn = Xbl es (1 + (nl : Int)) most deep) := lh (by have := HS.out; rw [Xko _ _ _ _ hle] at this; exact this)
            clear HH
            go_wp2
            go_ret
            exact ⟨Xce (by rw [HW2.out]; exact HWS.out), HXB.out.trans (HBL.out.mono (by omega))⟩
        · have hje : j = ne := by omega
          have HWS : Hid (nn = Xbl es (1 + (nl : Int)) most deep) := lh (by
           have := HS.out
           rw [List.drop_of_length_le (by rw [hje, HNE.out]; exact Nat.le_refl _), Xbl] at this
           exact this)
          clear HH hje
          go_wp2
          go_ret
          exact ⟨Xce (by rw [HW2.out]; exact HWS.out), HXB.out.trans (HBL.out.mono (by omega))⟩
   · rw [hwm]
     split
     · omega
     · rename_i hne
       exact Xex (Int.le_refl _) es _ (fun j hj m h2 h3 => by
        obtain ⟨_, _, _, _, _, _, _, _, _, hc⟩ := HH.out j hj
        by_cases hdp : deep = 0
        · exact absurd ⟨hdp, by omega⟩ hne
        · exact (hc m (deep - 1) w hb hB h2 (by omega) (by omega) (by omega)).2) (by omega) (by omega)
def exsV : List Ex → List Value → List Value
 | e :: es, f :: fs => Xby e f ++ exsV es fs
 | _, _ => []
theorem Xqk : ∀ {es : List Ex} {fs : List Value} (e : Ex) (u : Value), es.length = fs.length → exsV (es ++ [e]) (fs ++ [u]) = exsV es fs ++ Xby e u
 | [], [], e, u, _ => by simp [exsV]
 | d :: es, f :: fs, e, u, h => by
   show Xby d f ++ exsV (es ++ [e]) (fs ++ [u]) = _
   rw [Xqk e u (by simpa using h)]
   simp [exsV]
theorem Xgm : ∀ {es : List Ex} {fs : List Value} (h : es.length = fs.length) (k : Nat) (hk : k < es.length) (i : Nat) (hi : i < 5), (exsV es fs)[k * 5 + i]? = (Xby es[k] (fs[k]'(by omega)))[i]?
 | e :: es, f :: fs, h, 0, hk, i, hi => by
   show (Xby e f ++ exsV es fs)[0 * 5 + i]? = _
   rw [Nat.zero_mul, Nat.zero_add, List.getElem?_append_left (by simpa [Xby] using hi)]
   rfl
 | e :: es, f :: fs, h, k + 1, hk, i, hi => by
   show (Xby e f ++ exsV es fs)[(k + 1) * 5 + i]? = _
   rw [show (k + 1) * 5 + i = 5 + (k * 5 + i) from by omega, List.getElem?_append_right (by simp [Xby])]
   rw [show 5 + (k * 5 + i) - (Xby e f).length = k * 5 + i from by simp [Xby]]
   exact Xgm (by simpa using h) k (by simpa using hk) i hi
theorem Xot (e : Ex) (u : Value) (hu : u.oneCell' = true) : ∀ x ∈ Xby e u, x.oneCell' = true := by
 intro x hx
 simp [Xby] at hx
 rcases hx with rfl | rfl | rfl | rfl | rfl
 · rfl
 · rfl
 · rfl
 · rfl
 · exact hu
theorem Xbm.one {w : World} {S : Nat → Prop} {es : List Ex} {v : Value} (h : Xbm w S es v) : v.oneCell' = true := by
 cases h; rfl
def Xfx (w : World) (base : Nat) (v : Value) (es : List Ex) : Prop :=
 ∃ fs : List Value, es.length = fs.length ∧ w.ownsRow base 35 5 v es.length (exsV es fs) ∧
  ∀ (k : Nat) (hk : k < es.length) (hk' : k < fs.length), es[k].name.length ≤ 140737488355328 ∧ Xbm w (fun b => base ≤ b ∧ b < w.heap.size ∧ v.ownBlock ≠ some b) es[k].args fs[k]
theorem Xfx.exs {w : World} {base : Nat} {v : Value} {es : List Ex} (h : Xfx w base v es) : Xbm w (fun b => base ≤ b ∧ b < w.heap.size) es v := by
 obtain ⟨fs, hl, hown, hin⟩ := h
 have hlt := hown.lt
 have hcell : ∀ (g : Nat), v.ownBlock = some g → ∀ (j : Nat) (u : Value), (exsV es fs)[j]? = some u → w.cell? ⟨g, 0 + j, none⟩ = some u := fun g hg j u hu => by
  have := hown.cells hg j u hu
  rw [Xco] at this
  exact this
 rcases hown.2 with ⟨rfl, h2⟩ | ⟨g, cap, cur, rfl, hbg, hg, hc1, hc2, _⟩
 · have he : es = [] := List.eq_nil_of_length_eq_zero h2
   subst he
   exact .mk [] none 0 (fun _ => undef) (Nat.le_refl _) (by omega) (fun k hk => absurd hk (by simp)) (fun k hk => absurd hk (by simp))
 · refine .mk es _ cap (fun k => fs.getD k undef) hc1 (by unfold maxLen at hc2; omega) (fun k hk => ?_) (fun k hk => ?_)
   · have hk' : k < fs.length := by omega
     have hgd : fs.getD k undef = fs[k] := by rw [List.getD_eq_getElem?_getD, List.getElem?_eq_getElem hk']; rfl
     refine ⟨g, 0, rfl, ⟨hbg, (hlt g rfl).2⟩, (hin k hk hk').1, ?_, ?_, ?_, ?_, ?_⟩
     · exact hcell g rfl (k * 5) _ (by have := Xgm hl k hk 0 (by omega); rw [Nat.add_zero] at this; rw [this]; rfl)
     · exact hcell g rfl (k * 5 + 1) _ (by rw [Xgm hl k hk 1 (by omega)]; rfl)
     · exact hcell g rfl (k * 5 + 2) _ (by rw [Xgm hl k hk 2 (by omega)]; rfl)
     · exact hcell g rfl (k * 5 + 3) _ (by rw [Xgm hl k hk 3 (by omega)]; rfl)
     · rw [hgd]
       exact hcell g rfl (k * 5 + 4) _ (by rw [Xgm hl k hk 4 (by omega)]; rfl)
   · have hk' : k < fs.length := by omega
     have hgd : fs.getD k undef = fs[k] := by rw [List.getD_eq_getElem?_getD, List.getElem?_eq_getElem hk']; rfl
     show Xbm w _ es[k].args (fs.getD k undef)
     rw [hgd]
     exact (hin k hk hk').2.keep (fun _ _ => rfl) (fun b hb => ⟨hb.1, hb.2.1⟩)
theorem Xfx.below {w w' : World} {base : Nat} {v : Value} {es : List Ex} (h : Xfx w base v es) (hb : Below w.heap.size w w') : Xfx w' base v es := by
 obtain ⟨fs, hl, hown, hin⟩ := h
 refine ⟨fs, hl, ?_, fun k hk hk' => ⟨(hin k hk hk').1, (hin k hk hk').2.keep (fun b hb2 => hb.block b hb2.2.1) (fun b hb2 => ⟨hb2.1, Nat.lt_of_lt_of_le hb2.2.1 hb.size, hb2.2.2⟩)⟩⟩
 rcases hown with ⟨h1, h2 | ⟨g, cap, cur, hv, hbg, hg, h3⟩⟩
 · exact ⟨h1, .inl h2⟩
 · refine ⟨h1, .inr ⟨g, cap, cur, hv, hbg, ?_, h3⟩⟩
   have hlt : g < w.heap.size := by
    rcases Nat.lt_or_ge g w.heap.size with hlt | hge
    · exact hlt
    · rw [Array.getElem?_eq_none hge] at hg; cases hg
   exact (hb.block g hlt).trans hg
theorem Xfx.nil (w : World) : Xfx (w.alloc (.cells #[] 35)) w.heap.size (.slice (some ⟨w.heap.size, 0, none⟩) 0 0) [] :=
 ⟨[], rfl, World.ownsRow_lit (e := 35) (size := 5) w #[] 0 (Nat.le_refl _) (by unfold maxLen; omega) rfl, fun k hk => absurd hk (by simp)⟩
theorem info_ex : (Tryz.prog.info? 35).map (fun i => (i.zero, i.size, i.bytes)) = some (some (.agg #[.int .i64 0, .int .i64 0, .int .i64 0, .string ⟨#[]⟩, .slice none 0 0]), 5, 64) := by kernel_rfl
theorem Xfr {ops : Array Oper} {rest : List Oper} {o : Oper} {a : Act} {w : World} {Q : Exit → Act → World → Prop} (hgd : o.guard = none) (s x : Operand)
  (ho : o.op = .call { callee := .builtin .append, args := #[s, x], argTypes := #[33, 33] })
  (base : Nat) (v : Value) (es : List Ex) (hs : a.eval s = v) (hown : Xfx w base v es) (ad : Addr) (c : Nat) (e : Ex) (u : Value) (hx : a.eval x = .slice (some ad) 1 c)
  (hnews : ∀ j y, (Xby e u)[j]? = some y → w.cell? (ad.add j) = some y) (hu : Xbm w (fun b => base ≤ b ∧ b < w.heap.size ∧ v.ownBlock ≠ some b) e.args u) (hen : e.name.length ≤ 140737488355328) (hb : es.length ≤ 1000000) (hbase : base ≤ w.heap.size)
  (h : ∀ v' w', Xfx w' base v' (es ++ [e]) → w.grownBy w' v.ownBlock → wpList Tryz.prog ops Q rest (a.put o.dst v') w') : wpList Tryz.prog ops Q (o :: rest) a w := by
 obtain ⟨i0, hi, hz0, hz1, hz2⟩ := info_parts info_ex
 obtain ⟨fs, hl, hrow, hin⟩ := hown
 refine wpList_append_lies _ hgd s x 33 ho base 35 i0 _ 5 64 Tryz.underlying33 hi hz0 hz1 hz2 rfl (by decide) v es.length (exsV es fs) hs hrow ad 1 c (Xby e u) hx rfl hnews (Xot e u hu.one)
  (by omega) (by unfold maxLen; omega) (by omega) hbase w.heap.size rfl fun g cap w' hown' hgr hat hlt => h _ w' ?_ hgr
 have hkeep : ∀ b, (base ≤ b ∧ b < w.heap.size ∧ v.ownBlock ≠ some b) → w'.heap[b]? = w.heap[b]? := fun b hb => hgr.block b hb.2.1 (fun e => hb.2.2 e.symm)
 have hS : ∀ b, (base ≤ b ∧ b < w.heap.size ∧ v.ownBlock ≠ some b) → (base ≤ b ∧ b < w'.heap.size ∧ (Value.slice (some ⟨g, 0, none⟩) (es.length + 1) cap).ownBlock ≠ some b) := fun b hb => by
  have hsz := hgr.size
  refine ⟨hb.1, by omega, fun e => ?_⟩
  have e' : g = b := by simpa [Value.ownBlock] using e
  rcases hat with hat | hat
  · exact hb.2.2 (by rw [hat, e'])
  · omega
 refine ⟨fs ++ [u], by simp [hl], ?_, fun k hk hk' => ?_⟩
 · rw [List.length_append, Xqk e u hl]
   exact hown'
 · by_cases hke : k < es.length
   · have hkf : k < fs.length := by omega
     rw [List.getElem_append_left hke, List.getElem_append_left hkf]
     exact ⟨(hin k hke hkf).1, (hin k hke hkf).2.keep hkeep hS⟩
   · have hk0 : k = es.length := by simp at hk; omega
     subst hk0
     have e1 : (es ++ [e])[es.length] = e := by simp
     have e2 : (fs ++ [u])[es.length]'hk' = u := by
      rw [List.getElem_append_right (by omega)]
      simp [hl]
     rw [e1, e2]
     exact ⟨hen, hu.keep hkeep hS⟩
section
mutual
def Xkd (N : Nat) : Ex → Prop
 | .mk _ _ _ s args => s.length ≤ N ∧ args.length ≤ N ∧ Xbu N args
def Xbu (N : Nat) : List Ex → Prop
 | [] => True
 | e :: es => Xkd N e ∧ Xbu N es
end
theorem Xde {N : Nat} : ∀ {es : List Ex}, Xbu N es → ∀ (k : Nat) (hk : k < es.length), Xkd N es[k]
 | [], _, k, hk => absurd hk (by simp)
 | e :: es, h, 0, _ => by rw [Xbu] at h; exact h.1
 | e :: es, h, k + 1, hk => by rw [Xbu] at h; exact Xde h.2 k (by simpa using hk)
theorem Xdy {N : Nat} {e : Ex} (h : Xkd N e) : e.name.length ≤ N ∧ e.args.length ≤ N ∧ Xbu N e.args := by
 cases e with
 | mk k p n s a => rw [Xkd] at h; exact h
mutual
def Xds : Ex → Int → Ex
 | .mk k p n s args, deep => .mk k p n s (Xci args deep)
def Xci : List Ex → Int → List Ex
 | [], _ => []
 | e :: es, deep => if 0 < deep then Xds e (deep - 1) :: Xci es deep else []
end
theorem Xom (es : List Ex) (deep : Int) (h : 0 < deep) : ∀ (j : Nat) (hj : j < es.length), Xci (es.take (j + 1)) deep = Xci (es.take j) deep ++ [Xds es[j] (deep - 1)] := by
 induction es with
 | nil => intro j hj; exact absurd hj (by simp)
 | cons e es ih =>
   intro j hj
   cases j with
   | zero => simp [Xci, h]
   | succ j =>
     have := ih j (by simpa using hj)
     rw [List.take_succ_cons, List.take_succ_cons, Xci, Xci, if_pos h, if_pos h, this]
     rfl
theorem Xjg (es : List Ex) (deep : Int) (h : ¬ 0 < deep) : Xci es deep = [] := by
 cases es with
 | nil => rw [Xci]
 | cons e es => rw [Xci, if_neg h]
theorem Xku (e : Ex) (deep : Int) : (Xds e deep).kind = e.kind ∧ (Xds e deep).pl = e.pl ∧ (Xds e deep).num = e.num ∧ (Xds e deep).name = e.name ∧ (Xds e deep).args = Xci e.args deep := by
 cases e with
 | mk k p n s a => rw [Xds]; exact ⟨rfl, rfl, rfl, rfl, rfl⟩
theorem Xrn (es : List Ex) (deep : Int) : (Xci es deep).length ≤ es.length := by
 induction es with
 | nil => rw [Xci]; exact Nat.le_refl _
 | cons e es ih =>
   rw [Xci]
   split
   · simp; omega
   · simp
def Xbx (w : World) (g : Nat) (k p n : Int) (s : ByteArray) (v : Value) : Prop := w.heap[g]? = some (.cells #[.int .i64 k, .int .i64 p, .int .i64 n, .string s, v] 35 (0, 0))
section
variable {w w' : World} {g B : Nat} {k p n : Int} {s : ByteArray} {v : Value}
theorem Xbx.new (w : World) (k p n : Int) (s : ByteArray) (v : Value) : Xbx (w.alloc (.cells #[.int .i64 k, .int .i64 p, .int .i64 n, .string s, v] 35)) w.heap.size k p n s v := heap_alloc_new w _
theorem Xbx.below (h : Xbx w g k p n s v) (hb : Below B w w') (hg : g < B) : Xbx w' g k p n s v := (hb.block g hg).trans h
theorem Xbx.alloc (h : Xbx w g k p n s v) (hg : g < w.heap.size) (o : Obj) : Xbx (w.alloc o) g k p n s v := ((Below.refl _ w).alloc (Nat.le_refl _) o |>.block g hg).trans h
theorem Xbx.c0 (h : Xbx w g k p n s v) : w.cell? ⟨g, 0, none⟩ = some (.int .i64 k) := by rw [cell_of_row w g 0 _ _ (0, 0) h]; rfl
theorem Xbx.c1 (h : Xbx w g k p n s v) : w.cell? ⟨g, 1, none⟩ = some (.int .i64 p) := by rw [cell_of_row w g 1 _ _ (0, 0) h]; rfl
theorem Xbx.c2 (h : Xbx w g k p n s v) : w.cell? ⟨g, 2, none⟩ = some (.int .i64 n) := by rw [cell_of_row w g 2 _ _ (0, 0) h]; rfl
theorem Xbx.c3 (h : Xbx w g k p n s v) : w.cell? ⟨g, 3, none⟩ = some (.string s) := by rw [cell_of_row w g 3 _ _ (0, 0) h]; rfl
theorem Xbx.c4 (h : Xbx w g k p n s v) : w.cell? ⟨g, 4, none⟩ = some v := by rw [cell_of_row w g 4 _ _ (0, 0) h]; rfl
theorem Xbx.fr (h : Xbx w g k p n s v) (j : Nat) : w.frozen? ⟨g, j, none⟩ = false := frozen_of_row w g j _ _ h
end
def CopyPost (w : World) (k p num : Int) (name : ByteArray) (es : List Ex) (e : Ending) (w' : World) : Prop :=
 ∃ v, e = .returned (.agg #[.int .i64 k, .int .i64 p, .int .i64 num, .string name, v]) ∧ Xbm w' (fun b => w.heap.size ≤ b ∧ b < w'.heap.size) es v ∧ Below w.heap.size w w'
def Copies (w0 : World) (B : Nat) (es : List Ex) (v : Value) : Prop :=
 Xbu 1000000 es → es.length ≤ 1000000 → ∀ (k p num deep : Int) (name : ByteArray) (w : World), Below B w0 w → B ≤ w.heap.size → -100000 ≤ deep → deep ≤ 100000 →
  Calls Tryz.prog 39 #[.agg #[.int .i64 k, .int .i64 p, .int .i64 num, .string name, v], .int .i64 deep] w (CopyPost w k p num name (Xci es deep))
set_option maxHeartbeats 1000000 in
theorem copy_any {w0 : World} {B : Nat} {es : List Ex} {v : Value} (h : Xbm w0 (· < B) es v) : Copies w0 B es v := by
 induction h with
 | mk es A c f hc hM hA hr ih =>
   intro hsm hne6 k p num deep name w hb hB hd0 hd
   obtain ⟨ne, hne⟩ : ∃ ne, ne = es.length := ⟨_, rfl⟩
   rw [← hne] at hc hne6 ⊢
   have HNE := lh hne
   have HB0 := lh hb
   have HIH := lh ih
   have HHA := lh hA
   have HSM := lh hsm
   clear hne hb ih hA hr hsm
   go_enter Tryz.func39, Tryz.ntmps39
   go_wp2
   obtain ⟨X, hX⟩ : ∃ X : World, X = ((w.alloc (.cells #[.int .i64 k, .int .i64 p, .int .i64 num, .string name, .slice A ne c] 35)).alloc (.cells #[.int .i64 0, .int .i64 0, .int .i64 0, .string ⟨#[]⟩, .slice none 0 0] 35)).alloc (.cells #[] 35) := ⟨_, rfl⟩
   obtain ⟨g, hg⟩ : ∃ g, g = w.heap.size := ⟨_, rfl⟩
   have hx1 : Xbx X g k p num name (.slice A ne c) := by
    rw [hX, hg]; exact ((Xbx.new w _ _ _ _ _).alloc (by simp) _).alloc (by simp; omega) _
   have hx2 : Xbx X (g + 1) 0 0 0 ⟨#[]⟩ (.slice none 0 0) := by
    rw [hX, hg]
    have h := Xbx.new (w.alloc (.cells #[.int .i64 k, .int .i64 p, .int .i64 num, .string name, .slice A ne c] 35)) 0 0 0 ⟨#[]⟩ (.slice none 0 0)
    rw [show (w.alloc (.cells #[.int .i64 k, .int .i64 p, .int .i64 num, .string name, .slice A ne c] 35)).heap.size = w.heap.size + 1 from by simp] at h
    exact h.alloc (by simp) _
   have hxo : Xfx X (g + 2) (.slice (some ⟨g + 2, 0, none⟩) 0 0) (Xci (es.take 0) deep) := by
    rw [hX, hg]
    have h := Xfx.nil ((w.alloc (.cells #[.int .i64 k, .int .i64 p, .int .i64 num, .string name, .slice A ne c] 35)).alloc (.cells #[.int .i64 0, .int .i64 0, .int .i64 0, .string ⟨#[]⟩, .slice none 0 0] 35))
    rw [show ((w.alloc (.cells #[.int .i64 k, .int .i64 p, .int .i64 num, .string name, .slice A ne c] 35)).alloc (.cells #[.int .i64 0, .int .i64 0, .int .i64 0, .string ⟨#[]⟩, .slice none 0 0] 35)).heap.size = w.heap.size + 2 from by simp] at h
    rw [List.take_zero, Xci]
    exact h
   have hxs : X.heap.size = g + 3 := by rw [hX, hg]; simp
   have hxb : Below g w X := by rw [hX, hg]; exact (((Below.refl _ w).alloc (Nat.le_refl _) _).alloc (by simp) _).alloc (by simp; omega) _
   rw [← hX, ← hg]
   have HX1 := lh hx1
   have HX2 := lh hx2
   have HXO := lh hxo
   have HXS := lh hxs
   have HXB := lh hxb
   have HG := lh hg
   clear hX hx1 hx2 hxo hxs hxb hg
   go_loopw [5, 6] (fun v i wr => ∃ j : Nat, j ≤ ne ∧ i = .int .i64 j ∧ Hid (Xfx wr (g + 2) v (Xci (es.take j) deep)) ∧ Hid (Below (g + 2) X wr) ∧ g + 2 < wr.heap.size) (fun _ i _ => ne - (intOf i).toNat)
   case atStart => exact ⟨0, Nat.zero_le _, rfl, HXO, lh (Below.refl _ _), by have := HXS.out; omega⟩
   case round =>
    obtain ⟨wo, rfl⟩ : ∃ wo : World, wo = wr := ⟨_, rfl⟩
    obtain ⟨j, hj, rfl, HO, HBL, hws⟩ := hrel
    have hb1 := HX1.out.below HBL.out (by omega)
    have k0 := hb1.c0
    have k1 := hb1.c1
    have k2 := hb1.c2
    have k3 := hb1.c3
    have k4 := hb1.c4
    by_cases hgo : j < ne ∧ 0 < deep
    · obtain ⟨hlt, hdp⟩ := hgo
      have hje : j < es.length := by rw [← HNE.out]; exact hlt
      obtain ⟨b, off, rfl, hbB, hnm, p0, p1, p2, p3, p4⟩ := HHA.out j hje
      have hbw : Below B w0 wo := HB0.out.trans ((HXB.out.trans (HBL.out.mono (by omega))).mono (by rw [HG.out]; exact hB))
      have hsx : B ≤ wo.heap.size := by have := HG.out; omega
      have hsmj := Xdy (Xde HSM.out j hje)
      have hcc := HIH.out j hje hsmj.2.2 hsmj.2.1 es[j].kind es[j].pl es[j].num (deep - 1) (Xaa es[j].name) wo hbw hsx (by omega) (by omega)
      have r0 := (hbw.cell (p := ⟨b, off + j * 5, none⟩) hbB).trans p0
      have r1 := (hbw.cell (p := ⟨b, off + j * 5 + 1, none⟩) hbB).trans p1
      have r2 := (hbw.cell (p := ⟨b, off + j * 5 + 2, none⟩) hbB).trans p2
      have r3 := (hbw.cell (p := ⟨b, off + j * 5 + 3, none⟩) hbB).trans p3
      have r4 := (hbw.cell (p := ⟨b, off + j * 5 + 4, none⟩) hbB).trans p4
      have hct := Xom es deep hdp j hje
      obtain ⟨e1, e2, e3, e4, e5⟩ := Xku es[j] (deep - 1)
      obtain ⟨Y, hY⟩ : ∃ Y, Y = Xds es[j] (deep - 1) := ⟨_, rfl⟩
      rw [← hY] at e1 e2 e3 e4 e5 hct
      rw [← e5] at hcc
      rw [← e4] at r3 hcc hnm
      rw [← e3] at r2 hcc
      rw [← e2] at r1 hcc
      rw [← e1] at r0 hcc
      obtain ⟨yk, hyk⟩ : ∃ x, x = Y.kind := ⟨_, rfl⟩
      obtain ⟨yp, hyp⟩ : ∃ x, x = Y.pl := ⟨_, rfl⟩
      obtain ⟨yn, hyn⟩ : ∃ x, x = Y.num := ⟨_, rfl⟩
      obtain ⟨ys, hys⟩ : ∃ x, x = Xaa Y.name := ⟨_, rfl⟩
      obtain ⟨yv, hyv⟩ : ∃ x, x = f j := ⟨_, rfl⟩
      rw [← hyk, ← hyp, ← hyn, ← hys, ← hyv] at hcc
      rw [← hyk] at r0
      rw [← hyp] at r1
      rw [← hyn] at r2
      rw [← hys] at r3
      rw [← hyv] at r4
      have HCC := lh hcc
      have HCT := lh hct
      have hcells : ∀ u, Xby Y u = [.int .i64 yk, .int .i64 yp, .int .i64 yn, .string ys, u] := fun u => by rw [hyk, hyp, hyn, hys]; rfl
      have HCL := lh hcells
      have hlen : (Xci (es.take j) deep).length ≤ 1000000 := by
       have h1 := Xrn (es.take j) deep
       rw [List.length_take] at h1
       omega
      have HLEN := lh hlen
      have HNM := lh hnm
      clear hcc hct hcells hlen hnm hsmj e1 e2 e3 e4 e5 hY hyk hyp hyn hys hyv hbw p0 p1 p2 p3 p4 k0 k1 k2 k3 HIH
      go_wp2_with fail
      refine HCC.out.mono ?_
      rintro e w1 ⟨v1, rfl, hi1, hb1'⟩
      have hs1 := hb1'.size
      have ho1 : Xfx (w1.alloc (.cells #[.int .i64 yk, .int .i64 yp, .int .i64 yn, .string ys, v1] 35)) (g + 2) u5 (Xci (es.take j) deep) := (HO.out.below hb1').below ((Below.refl _ _).alloc (Nat.le_refl _) _)
      have hnew : ∀ q y, (Xby Y v1)[q]? = some y → (w1.alloc (.cells #[.int .i64 yk, .int .i64 yp, .int .i64 yn, .string ys, v1] 35)).cell? ((⟨w1.heap.size, 0, none⟩ : Addr).add q) = some y := fun q y hq => by
       rw [HCL.out] at hq
       rw [Xco, Nat.zero_add, cell_of_row _ _ q _ _ (0, 0) (heap_alloc_new w1 _)]
       simpa using hq
      have hun : Xbm (w1.alloc (.cells #[.int .i64 yk, .int .i64 yp, .int .i64 yn, .string ys, v1] 35)) (fun b => g + 2 ≤ b ∧ b < (w1.alloc (.cells #[.int .i64 yk, .int .i64 yp, .int .i64 yn, .string ys, v1] 35)).heap.size ∧ u5.ownBlock ≠ some b) Y.args v1 := by
       obtain ⟨fs, _, hrow, _⟩ := HO.out
       refine hi1.keep (fun b hb2 => ((Below.refl _ w1).alloc (Nat.le_refl _) _).block b hb2.2) (fun b hb2 => ⟨by omega, by simp; omega, fun e => ?_⟩)
       have := (hrow.lt b e).2
       omega
      have HO1 := lh ho1
      have HNEW := lh hnew
      have HUN := lh hun
      have HB1 := lh hb1'
      have hcell := hi1.one
      clear ho1 hnew hun hi1 hb1'
      go_wp2_with (first
       | (at_builtin; refine Xfr rfl _ _ rfl (g + 2) u5 (Xci (es.take j) deep) rfl HO1.out ⟨w1.heap.size, 0, none⟩ 1 Y v1 rfl HNEW.out HUN.out HNM.out HLEN.out (by simp; omega) ?_; intro v' w3 hown3 hgr))
      go_roundw
      case rel =>
       have hb3 := (((HBL.out.trans (HB1.out.mono (by omega))).alloc (B := g + 2) (by omega) (.cells #[.int .i64 yk, .int .i64 yp, .int .i64 yn, .string ys, v1] 35))).grown hgr (by simp; omega) (fun q hq => by
        obtain ⟨fs, _, hrow, _⟩ := HO.out
        exact (hrow.lt q hq).1)
       exact ⟨j + 1, by omega, by go_num, lh (by rw [HCT.out]; exact hown3), lh hb3, by have h1 := hb3.size; have h2 := HXS.out; omega⟩
      case measure => simp [intOf]; omega
    · have hall : Xci (es.take j) deep = Xci es deep := by
       by_cases h0 : 0 < deep
       · have hje : ¬ j < ne := fun h => hgo ⟨h, h0⟩
         rw [List.take_of_length_le (by rw [← HNE.out]; omega)]
       · rw [Xjg _ _ h0, Xjg _ _ h0]
      rw [hall] at HO
      obtain ⟨A5, n5, c5, rfl⟩ : ∃ A n c, u5 = .slice A n c := by
       have h := HO.out.exs
       cases h
       exact ⟨_, _, _, rfl⟩
      have f4 := hb1.fr 4
      have hb2 := HX2.out.below HBL.out (by omega)
      have m0 := hb2.c0
      have m1 := hb2.c1
      have m2 := hb2.c2
      have m3 := hb2.c3
      have m4 := hb2.c4
      have n0 := hb2.fr 0
      have n1 := hb2.fr 1
      have n2 := hb2.fr 2
      have n3 := hb2.fr 3
      have n4 := hb2.fr 4
      clear hall HIH HHA
      have hcase : j = ne ∨ (j < ne ∧ deep ≤ 0) := by
       rcases Nat.lt_or_ge j ne with h | h
       · exact .inr ⟨h, by
          rcases Int.lt_or_le 0 deep with h2 | h2
          · exact absurd ⟨h, h2⟩ hgo
          · exact h2⟩
       · exact .inl (by omega)
      clear hgo
      rcases hcase with h | ⟨h, h'⟩
      all_goals
       go_wp2
       have hfin : Xbm ((((((wo.setCell ⟨g, 4, none⟩ (.slice A5 n5 c5)).setCell ⟨g + 1, 0, none⟩ (.int .i64 k)).setCell ⟨g + 1, 1, none⟩ (.int .i64 p)).setCell ⟨g + 1, 2, none⟩ (.int .i64 num)).setCell ⟨g + 1, 3, none⟩ (.string name)).setCell ⟨g + 1, 4, none⟩ (.slice A5 n5 c5))
         (fun b => w.heap.size ≤ b ∧ b < ((((((wo.setCell ⟨g, 4, none⟩ (.slice A5 n5 c5)).setCell ⟨g + 1, 0, none⟩ (.int .i64 k)).setCell ⟨g + 1, 1, none⟩ (.int .i64 p)).setCell ⟨g + 1, 2, none⟩ (.int .i64 num)).setCell ⟨g + 1, 3, none⟩ (.string name)).setCell ⟨g + 1, 4, none⟩ (.slice A5 n5 c5)).heap.size) (Xci es deep) (.slice A5 n5 c5) := by
        refine HO.out.exs.keep (fun b hb => ?_) (fun b hb => ⟨by have := HG.out; omega, by simpa using hb.2⟩)
        rw [Below.heap_setCell _ _ _ b (show b ≠ g + 1 by omega), Below.heap_setCell _ _ _ b (show b ≠ g + 1 by omega), Below.heap_setCell _ _ _ b (show b ≠ g + 1 by omega), Below.heap_setCell _ _ _ b (show b ≠ g + 1 by omega), Below.heap_setCell _ _ _ b (show b ≠ g + 1 by omega), Below.heap_setCell _ _ _ b (show b ≠ g by omega)]
       have hbel : Below w.heap.size w ((((((wo.setCell ⟨g, 4, none⟩ (.slice A5 n5 c5)).setCell ⟨g + 1, 0, none⟩ (.int .i64 k)).setCell ⟨g + 1, 1, none⟩ (.int .i64 p)).setCell ⟨g + 1, 2, none⟩ (.int .i64 num)).setCell ⟨g + 1, 3, none⟩ (.string name)).setCell ⟨g + 1, 4, none⟩ (.slice A5 n5 c5)) := by
        rw [← HG.out]
        exact ((((((HXB.out.trans (HBL.out.mono (by omega))).setCell (Nat.le_refl _) _).setCell (by simp) _).setCell (by simp) _).setCell (by simp) _).setCell (by simp) _).setCell (by simp) _
       exact bodyPost_ret (v := .agg #[.int .i64 k, .int .i64 p, .int .i64 num, .string name, .slice A5 n5 c5]) (by simp [results, Tryz.results39, go_sem, m0, m1, m2, m3, m4]) rfl ⟨_, rfl, hfin, hbel⟩
end
mutual
def Xsh (at_ : Bool) : Ex → Ex → Prop
 | .mk k p n s xs, .mk k' p' n' s' bs => k = k' ∧ (at_ = true → p = p') ∧ n = n' ∧ s = s' ∧ Xdj at_ xs bs
def Xdj (at_ : Bool) : List Ex → List Ex → Prop
 | [], [] => True
 | a :: xs, b :: bs => Xsh at_ a b ∧ Xdj at_ xs bs
 | [], _ :: _ => False
 | _ :: _, [] => False
end
theorem Xfd {t : Bool} : ∀ {xs bs : List Ex}, Xdj t xs bs → xs.length = bs.length
 | [], [], _ => rfl
 | a :: xs, b :: bs, h => by rw [Xdj] at h; rw [List.length_cons, List.length_cons, Xfd h.2]
 | [], _ :: _, h => by rw [Xdj] at h; exact h.elim
 | _ :: _, [], h => by rw [Xdj] at h; exact h.elim
theorem Xgp {t : Bool} : ∀ {xs bs : List Ex}, Xdj t xs bs → ∀ (k : Nat) (h1 : k < xs.length) (h2 : k < bs.length), Xsh t xs[k] bs[k]
 | [], [], _, k, h1, _ => absurd h1 (by simp)
 | a :: xs, b :: bs, h, 0, _, _ => by rw [Xdj] at h; exact h.1
 | a :: xs, b :: bs, h, k + 1, h1, h2 => by rw [Xdj] at h; exact Xgp h.2 k (by simpa using h1) (by simpa using h2)
 | [], _ :: _, h, _, _, _ => by rw [Xdj] at h; exact h.elim
 | _ :: _, [], h, _, _, _ => by rw [Xdj] at h; exact h.elim
theorem Xhf {t : Bool} {a b : Ex} (h : Xsh t a b) : a.kind = b.kind ∧ (t = true → a.pl = b.pl) ∧ a.num = b.num ∧ a.name = b.name ∧ Xdj t a.args b.args := by
 cases a; cases b
 rw [Xsh] at h
 exact h
mutual
theorem Xsi (t : Bool) : ∀ e : Ex, Xsh t e e
 | .mk k p n s xs => by rw [Xsh]; exact ⟨rfl, fun _ => rfl, rfl, rfl, Xhg t xs⟩
theorem Xhg (t : Bool) : ∀ es : List Ex, Xdj t es es
 | [] => by rw [Xdj]; trivial
 | e :: es => by rw [Xdj]; exact ⟨Xsi t e, Xhg t es⟩
end
theorem map_take {es : List Ex} (f : Ex → Ex) {j : Nat} (h : j < es.length) : (es.take (j + 1)).map f = (es.take j).map f ++ [f es[j]] := by
 rw [List.take_succ_eq_append_getElem h, List.map_append]; rfl
def ExsPost (w : World) (es : List Ex) (e : Ending) (w' : World) : Prop :=
 ∃ v, e = .returned v ∧ Xbm w' (fun b => w.heap.size ≤ b ∧ b < w'.heap.size) es v ∧ Below w.heap.size w w'
set_option maxHeartbeats 1000000 in
theorem Xue {w0 : World} {B : Nat} {es : List Ex} {v : Value} (h : Xbm w0 (· < B) es v) (hsm : Xbu 1000000 es) (hne6 : es.length ≤ 1000000) (deep : Int) (w : World) (hb : Below B w0 w) (hB : B ≤ w.heap.size) (hd0 : -100000 ≤ deep) (hd : deep ≤ 100000) :
  Calls Tryz.prog 25 #[v, .int .i64 deep] w (ExsPost w (es.map (Xds · deep))) := by
 cases h with
 | mk es A c f hc hM hA hr =>
   obtain ⟨ne, hne⟩ : ∃ ne, ne = es.length := ⟨_, rfl⟩
   rw [← hne] at hc hne6 ⊢
   have HNE := lh hne
   have HB0 := lh hb
   have HHA := lh hA
   have HR := lh hr
   have HSM := lh hsm
   clear hne hb hA hr hsm
   go_enter Tryz.func25, Tryz.ntmps25
   go_wp2
   obtain ⟨X, hX⟩ : ∃ X : World, X = w.alloc (.cells #[] 35) := ⟨_, rfl⟩
   obtain ⟨g, hg⟩ : ∃ g, g = w.heap.size := ⟨_, rfl⟩
   have hxo : Xfx X g (.slice (some ⟨g, 0, none⟩) 0 0) ((es.take 0).map (Xds · deep)) := by rw [hX, hg]; exact Xfx.nil w
   have hxs : X.heap.size = g + 1 := by rw [hX, hg]; simp
   have hxb : Below g w X := by rw [hX, hg]; exact (Below.refl _ w).alloc (Nat.le_refl _) _
   rw [← hX, ← hg]
   have HXO := lh hxo
   have HXS := lh hxs
   have HXB := lh hxb
   have HG := lh hg
   clear hX hxo hxs hxb hg
   go_loopw [5, 6] (fun v i wr => ∃ j : Nat, j ≤ ne ∧ i = .int .i64 j ∧ Hid (Xfx wr g v ((es.take j).map (Xds · deep))) ∧ Hid (Below g X wr) ∧ g < wr.heap.size) (fun _ i _ => ne - (intOf i).toNat)
   case atStart => exact ⟨0, Nat.zero_le _, rfl, HXO, lh (Below.refl _ _), by have := HXS.out; omega⟩
   case round =>
    obtain ⟨wo, rfl⟩ : ∃ wo : World, wo = wr := ⟨_, rfl⟩
    obtain ⟨j, hj, rfl, HO, HBL, hws⟩ := hrel
    by_cases hlt : j < ne
    · have hje : j < es.length := by rw [← HNE.out]; exact hlt
      obtain ⟨b, off, rfl, hbB, hnm, p0, p1, p2, p3, p4⟩ := HHA.out j hje
      have hbw : Below B w0 wo := HB0.out.trans ((HXB.out.trans HBL.out).mono (by rw [HG.out]; exact hB))
      have hsx : B ≤ wo.heap.size := by have := HG.out; omega
      have hsmj := Xdy (Xde HSM.out j hje)
      have hcc := copy_any (HR.out j hje) hsmj.2.2 hsmj.2.1 es[j].kind es[j].pl es[j].num deep (Xaa es[j].name) wo hbw hsx (by omega) (by omega)
      have r0 := (hbw.cell (p := ⟨b, off + j * 5, none⟩) hbB).trans p0
      have r1 := (hbw.cell (p := ⟨b, off + j * 5 + 1, none⟩) hbB).trans p1
      have r2 := (hbw.cell (p := ⟨b, off + j * 5 + 2, none⟩) hbB).trans p2
      have r3 := (hbw.cell (p := ⟨b, off + j * 5 + 3, none⟩) hbB).trans p3
      have r4 := (hbw.cell (p := ⟨b, off + j * 5 + 4, none⟩) hbB).trans p4
      have hct := map_take (Xds · deep) hje
      obtain ⟨e1, e2, e3, e4, e5⟩ := Xku es[j] deep
      obtain ⟨Y, hY⟩ : ∃ Y, Y = Xds es[j] deep := ⟨_, rfl⟩
      rw [← hY] at e1 e2 e3 e4 e5 hct
      rw [← e5] at hcc
      rw [← e4] at r3 hcc hnm
      rw [← e3] at r2 hcc
      rw [← e2] at r1 hcc
      rw [← e1] at r0 hcc
      obtain ⟨yk, hyk⟩ : ∃ x, x = Y.kind := ⟨_, rfl⟩
      obtain ⟨yp, hyp⟩ : ∃ x, x = Y.pl := ⟨_, rfl⟩
      obtain ⟨yn, hyn⟩ : ∃ x, x = Y.num := ⟨_, rfl⟩
      obtain ⟨ys, hys⟩ : ∃ x, x = Xaa Y.name := ⟨_, rfl⟩
      obtain ⟨yv, hyv⟩ : ∃ x, x = f j := ⟨_, rfl⟩
      rw [← hyk, ← hyp, ← hyn, ← hys, ← hyv] at hcc
      rw [← hyk] at r0
      rw [← hyp] at r1
      rw [← hyn] at r2
      rw [← hys] at r3
      rw [← hyv] at r4
      have HCC := lh hcc
      have HCT := lh hct
      have hcells : ∀ u, Xby Y u = [.int .i64 yk, .int .i64 yp, .int .i64 yn, .string ys, u] := fun u => by rw [hyk, hyp, hyn, hys]; rfl
      have HCL := lh hcells
      have hlen : ((es.take j).map (Xds · deep)).length ≤ 1000000 := by
       rw [List.length_map, List.length_take]
       omega
      have HLEN := lh hlen
      have HNM := lh hnm
      clear hcc hct hcells hlen hnm hsmj e1 e2 e3 e4 e5 hY hyk hyp hyn hys hyv hbw p0 p1 p2 p3 p4 HHA
      go_wp2_with fail
      refine HCC.out.mono ?_
      rintro e w1 ⟨v1, rfl, hi1, hb1'⟩
      have hs1 := hb1'.size
      have ho1 : Xfx (w1.alloc (.cells #[.int .i64 yk, .int .i64 yp, .int .i64 yn, .string ys, v1] 35)) g u5 ((es.take j).map (Xds · deep)) := (HO.out.below hb1').below ((Below.refl _ _).alloc (Nat.le_refl _) _)
      have hnew : ∀ q y, (Xby Y v1)[q]? = some y → (w1.alloc (.cells #[.int .i64 yk, .int .i64 yp, .int .i64 yn, .string ys, v1] 35)).cell? ((⟨w1.heap.size, 0, none⟩ : Addr).add q) = some y := fun q y hq => by
       rw [HCL.out] at hq
       rw [Xco, Nat.zero_add, cell_of_row _ _ q _ _ (0, 0) (heap_alloc_new w1 _)]
       simpa using hq
      have hun : Xbm (w1.alloc (.cells #[.int .i64 yk, .int .i64 yp, .int .i64 yn, .string ys, v1] 35)) (fun b => g ≤ b ∧ b < (w1.alloc (.cells #[.int .i64 yk, .int .i64 yp, .int .i64 yn, .string ys, v1] 35)).heap.size ∧ u5.ownBlock ≠ some b) Y.args v1 := by
       obtain ⟨fs, _, hrow, _⟩ := HO.out
       refine hi1.keep (fun b hb2 => ((Below.refl _ w1).alloc (Nat.le_refl _) _).block b hb2.2) (fun b hb2 => ⟨by omega, by simp; omega, fun e => ?_⟩)
       have := (hrow.lt b e).2
       omega
      have HO1 := lh ho1
      have HNEW := lh hnew
      have HUN := lh hun
      have HB1 := lh hb1'
      have hcell := hi1.one
      clear ho1 hnew hun hi1 hb1'
      go_wp2_with (first
       | (at_builtin; refine Xfr rfl _ _ rfl g u5 ((es.take j).map (Xds · deep)) rfl HO1.out ⟨w1.heap.size, 0, none⟩ 1 Y v1 rfl HNEW.out HUN.out HNM.out HLEN.out (by simp; omega) ?_; intro v' w3 hown3 hgr))
      go_roundw
      case rel =>
       have hb3 := (((HBL.out.trans (HB1.out.mono (by omega))).alloc (B := g) (by omega) (.cells #[.int .i64 yk, .int .i64 yp, .int .i64 yn, .string ys, v1] 35))).grown hgr (by simp; omega) (fun q hq => by
        obtain ⟨fs, _, hrow, _⟩ := HO.out
        exact (hrow.lt q hq).1)
       exact ⟨j + 1, by omega, by go_num, lh (by rw [HCT.out]; exact hown3), lh hb3, by have h1 := hb3.size; have h2 := HXS.out; omega⟩
      case measure => simp [intOf]; omega
    · have hall : es.take j = es := List.take_of_length_le (by rw [← HNE.out]; omega)
      rw [hall] at HO
      have hfin : Xbm wo (fun b => w.heap.size ≤ b ∧ b < wo.heap.size) (es.map (Xds · deep)) u5 := by rw [← HG.out]; exact HO.out.exs
      have hend : Below w.heap.size w wo := by rw [← HG.out]; exact HXB.out.trans HBL.out
      clear hall HHA
      go_wp2
      go_ret
      exact ⟨_, rfl, hfin, hend⟩
inductive Sm where
 | mk (kind pl : Int) (name type : List UInt8) (exprs : List Ex) (body els : List Sm)
def Sm.kind : Sm → Int | .mk k _ _ _ _ _ _ => k
def Sm.pl : Sm → Int | .mk _ p _ _ _ _ _ => p
def Sm.name : Sm → List UInt8 | .mk _ _ n _ _ _ _ => n
def Sm.type : Sm → List UInt8 | .mk _ _ _ t _ _ _ => t
def Sm.exprs : Sm → List Ex | .mk _ _ _ _ e _ _ => e
def Sm.body : Sm → List Sm | .mk _ _ _ _ _ b _ => b
def Sm.els : Sm → List Sm | .mk _ _ _ _ _ _ l => l
inductive Xcc (w : World) (S : Nat → Prop) : List Sm → Value → Prop
 | mk (ss : List Sm) (A : Option Addr) (c : Nat) (fe fb fl : Nat → Value) (hc : ss.length ≤ c) (hM : c ≤ 9223372036854775807)
   (hA : ∀ (k : Nat) (hk : k < ss.length), ∃ b off, A = some ⟨b, off, none⟩ ∧ S b ∧ ss[k].name.length ≤ 140737488355328 ∧ ss[k].type.length ≤ 140737488355328 ∧
     w.cell? ⟨b, off + k * 7, none⟩ = some (.int .i64 ss[k].kind) ∧ w.cell? ⟨b, off + k * 7 + 1, none⟩ = some (.int .i64 ss[k].pl) ∧
     w.cell? ⟨b, off + k * 7 + 2, none⟩ = some (.string (Xaa ss[k].name)) ∧ w.cell? ⟨b, off + k * 7 + 3, none⟩ = some (.string (Xaa ss[k].type)) ∧
     w.cell? ⟨b, off + k * 7 + 4, none⟩ = some (fe k) ∧ w.cell? ⟨b, off + k * 7 + 5, none⟩ = some (fb k) ∧ w.cell? ⟨b, off + k * 7 + 6, none⟩ = some (fl k))
   (he : ∀ (k : Nat) (hk : k < ss.length), Xbm w S ss[k].exprs (fe k)) (hb : ∀ (k : Nat) (hk : k < ss.length), Xcc w S ss[k].body (fb k)) (hl : ∀ (k : Nat) (hk : k < ss.length), Xcc w S ss[k].els (fl k)) :
   Xcc w S ss (.slice A ss.length c)
theorem Xcc.keep {w w' : World} {S S' : Nat → Prop} {ss : List Sm} {v : Value} (h : Xcc w S ss v) (hw : ∀ b, S b → w'.heap[b]? = w.heap[b]?) (hS : ∀ b, S b → S' b) : Xcc w' S' ss v := by
 induction h with
 | mk ss A c fe fb fl hc hM hA he hb hl ihb ihl =>
   refine .mk ss A c fe fb fl hc hM (fun k hk => ?_) (fun k hk => (he k hk).keep hw hS) (fun k hk => ihb k hk) (fun k hk => ihl k hk)
   obtain ⟨b, off, h1, h2, h3, h4, c0, c1, c2, c3, c4, c5, c6⟩ := hA k hk
   have hcell : ∀ i, w'.cell? ⟨b, i, none⟩ = w.cell? ⟨b, i, none⟩ := fun i => World.cell?_of_block (hw b h2)
   exact ⟨b, off, h1, hS b h2, h3, h4, by rw [hcell]; exact c0, by rw [hcell]; exact c1, by rw [hcell]; exact c2, by rw [hcell]; exact c3, by rw [hcell]; exact c4, by rw [hcell]; exact c5, by rw [hcell]; exact c6⟩
theorem Xcc.slice {w : World} {S : Nat → Prop} {ss : List Sm} {v : Value} (h : Xcc w S ss v) : ∃ A c, v = .slice A ss.length c ∧ ss.length ≤ c ∧ c ≤ 9223372036854775807 := by
 cases h with
 | mk ss A c fe fb fl hc hM => exact ⟨A, c, rfl, hc, hM⟩
theorem Xbm.slice {w : World} {S : Nat → Prop} {es : List Ex} {v : Value} (h : Xbm w S es v) : ∃ A c, v = .slice A es.length c ∧ es.length ≤ c ∧ c ≤ 9223372036854775807 := by
 cases h with
 | mk es A c f hc hM => exact ⟨A, c, rfl, hc, hM⟩
mutual
def goS : Sm → Int → Int → Int → Int
 | .mk _ _ nm ty ex bd el, n, most, deep =>
   let n2 := Xbl ex (n + (1 + (nm.length : Int) + (ty.length : Int))) most 61
   let n3 := if n2 ≤ most then n2 + (if deep - 1 = 0 ∧ 0 < bd.length then most - n2 + 1 else goB bd 0 (most - n2) (deep - 1)) else n2
   if n3 ≤ most then n3 + (if deep - 1 = 0 ∧ 0 < el.length then most - n3 + 1 else goB el 0 (most - n3) (deep - 1)) else n3
def goB : List Sm → Int → Int → Int → Int
 | [], n, _, _ => n
 | s :: ss, n, most, deep => if n ≤ most then goB ss (goS s n most deep) most deep else n
end
def Xbs (ss : List Sm) (most deep : Int) : Int := if deep = 0 ∧ 0 < ss.length then most + 1 else goB ss 0 most deep
theorem Xux (s : Sm) (n most deep : Int) {n2 n3 : Int} (h2 : n2 = Xbl s.exprs (n + (1 + (s.name.length : Int) + (s.type.length : Int))) most 61)
  (h3 : n3 = if n2 ≤ most then n2 + Xbs s.body (most - n2) (deep - 1) else n2) : goS s n most deep = if n3 ≤ most then n3 + Xbs s.els (most - n3) (deep - 1) else n3 := by
 subst h2
 subst h3
 cases s
 rw [goS]
 rfl
theorem goB_go {s : Sm} {ss : List Sm} {n most deep : Int} (h : n ≤ most) : goB (s :: ss) n most deep = goB ss (goS s n most deep) most deep := by
 rw [goB, if_pos h]
theorem goB_stop (ss : List Sm) (n most deep : Int) (h : ¬ n ≤ most) : goB ss n most deep = n := by
 cases ss with
 | nil => rw [goB]
 | cons s ss => rw [goB, if_neg h]
def WeighEls (w0 : World) (B : Nat) (es : List Ex) (A : Option Addr) : Prop := ∀ (j : Nat) (hj : j < es.length), ∃ b off yk yp yn ys yv, A = some ⟨b, off, none⟩ ∧ b < B ∧
  w0.cell? ⟨b, off + j * 5, none⟩ = some (.int .i64 yk) ∧ w0.cell? ⟨b, off + j * 5 + 1, none⟩ = some (.int .i64 yp) ∧ w0.cell? ⟨b, off + j * 5 + 2, none⟩ = some (.int .i64 yn) ∧ w0.cell? ⟨b, off + j * 5 + 3, none⟩ = some (.string ys) ∧ w0.cell? ⟨b, off + j * 5 + 4, none⟩ = some yv ∧
  ∀ (m d : Int) (w : World), Below B w0 w → B ≤ w.heap.size → 0 ≤ m → m ≤ 100000 → 0 ≤ d → d ≤ 100000 →
   Calls Tryz.prog 24 #[.agg #[.int .i64 yk, .int .i64 yp, .int .i64 yn, .string ys, yv], .int .i64 m, .int .i64 d] w (Xfy w (Xdg es[j] m d)) ∧ 0 ≤ Xdg es[j] m d ∧ Xdg es[j] m d ≤ m + 140737488355330
theorem weigh_at {w0 : World} {B : Nat} {es : List Ex} {v : Value} (h : Xbm w0 (· < B) es v) : ∃ A c, v = .slice A es.length c ∧ es.length ≤ c ∧ c ≤ 9223372036854775807 ∧ WeighEls w0 B es A := by
 cases h with
 | mk es A c f hc hM hA hr =>
   refine ⟨A, c, rfl, hc, hM, fun j hj => ?_⟩
   obtain ⟨b, off, h1, h2, h3, h4, h5, h6, h7, h8⟩ := hA j hj
   refine ⟨b, off, _, _, _, _, _, h1, h2, h4, h5, h6, h7, h8, fun m d w a1 a2 a3 a4 a5 a6 => ?_⟩
   have := Xxk (hr j hj) es[j].kind es[j].pl es[j].num m d es[j].name w a1 a2 h3 a3 a4 a5 a6
   rw [Ex.eta] at this
   exact this
def Weighbs (w0 : World) (B : Nat) (ss : List Sm) (v : Value) : Prop :=
 ∀ (most deep : Int) (w : World), Below B w0 w → B ≤ w.heap.size → 0 ≤ most → most ≤ 100000 → 0 ≤ deep → deep ≤ 100000 →
  Calls Tryz.prog 12 #[v, .int .i64 most, .int .i64 deep] w (Xfy w (Xbs ss most deep)) ∧ 0 ≤ Xbs ss most deep ∧ Xbs ss most deep ≤ most + 562949953421312
theorem Xuj {ss : List Sm} {j : Nat} (h : j < ss.length) : ss.drop j = ss[j] :: ss.drop (j + 1) := List.drop_eq_getElem_cons h
def FitsS (most deep : Int) (s : Sm) : Prop := s.name.length ≤ 140737488355328 ∧ s.type.length ≤ 140737488355328 ∧
 (∀ (j : Nat) (hj : j < s.exprs.length) (m : Int), 0 ≤ m → m ≤ most → 0 ≤ Xdg s.exprs[j] m (61 - 1) ∧ Xdg s.exprs[j] m (61 - 1) ≤ m + 140737488355330) ∧
 (∀ m : Int, 0 ≤ m → m ≤ most → 0 ≤ Xbs s.body m (deep - 1) ∧ Xbs s.body m (deep - 1) ≤ m + 562949953421312) ∧
 (∀ m : Int, 0 ≤ m → m ≤ most → 0 ≤ Xbs s.els m (deep - 1) ∧ Xbs s.els m (deep - 1) ≤ m + 562949953421312)
theorem Xnc {s : Sm} {n most deep : Int} (h : FitsS most deep s) (h0 : 0 ≤ n) (hn : n ≤ most) (hm : most ≤ 100000) : 0 ≤ goS s n most deep ∧ goS s n most deep ≤ most + 562949953421312 := by
 obtain ⟨h1, h2, h3, h4, h5⟩ := h
 obtain ⟨n2, hn2⟩ : ∃ n2, n2 = Xbl s.exprs (n + (1 + (s.name.length : Int) + (s.type.length : Int))) most 61 := ⟨_, rfl⟩
 obtain ⟨n3, hn3⟩ : ∃ n3, n3 = if n2 ≤ most then n2 + Xbs s.body (most - n2) (deep - 1) else n2 := ⟨_, rfl⟩
 rw [Xux s n most deep hn2 hn3]
 obtain ⟨b0, b1⟩ := Xex (most := most) (deep := 61) (K := 562949953421312) (by omega) s.exprs (n + (1 + (s.name.length : Int) + (s.type.length : Int))) h3 (by omega) (by omega)
 rw [← hn2] at b0 b1
 have b3 : 0 ≤ n3 ∧ n3 ≤ most + 562949953421312 := by
  rw [hn3]
  split
  · rename_i hle
    have := h4 (most - n2) (by omega) (by omega)
    omega
  · omega
 split
 · rename_i hle
   have := h5 (most - n3) (by omega) (by omega)
   omega
 · exact b3
theorem Xmx {most deep : Int} (hm : most ≤ 100000) : ∀ (ss : List Sm) (n : Int), (∀ (j : Nat) (hj : j < ss.length), FitsS most deep ss[j]) → 0 ≤ n → n ≤ most + 562949953421312 → 0 ≤ goB ss n most deep ∧ goB ss n most deep ≤ most + 562949953421312
 | [], n, _, h0, h1 => by rw [goB]; exact ⟨h0, h1⟩
 | s :: ss, n, h, h0, h1 => by
   rw [goB]
   split
   · rename_i hle
     obtain ⟨a, b⟩ := Xnc (h 0 (by simp)) h0 hle hm
     have a' : 0 ≤ goS s n most deep := a
     have b' : goS s n most deep ≤ most + 562949953421312 := b
     exact Xmx hm ss _ (fun j hj => h (j + 1) (by simpa using hj)) a' b'
   · exact ⟨h0, h1⟩
set_option maxHeartbeats 4000000 in
set_option maxRecDepth 100000 in
theorem Xto {w0 : World} {B : Nat} {ss : List Sm} {v : Value} (h : Xcc w0 (· < B) ss v) : Weighbs w0 B ss v := by
 induction h with
 | mk ss A c fe fb fl hc hM hA he hbd hel ihb ihl =>
   intro most deep w hb hB hm0 hm hd0 hd
   have hwb : Xbs ss most deep = if deep = 0 ∧ 0 < ss.length then most + 1 else goB ss 0 most deep := rfl
   have HE := lh (fun k hk => weigh_at (he k hk))
   have HIB := lh ihb
   have HIL := lh ihl
   have HHA := lh hA
   have HBD := lh hbd
   have HEL := lh hel
   clear ihb ihl hA he hbd hel
   have hfit : 0 < deep → ∀ (j : Nat) (hj : j < ss.length), FitsS most deep ss[j] := fun hdp j hj => by
    obtain ⟨b, off, _, _, h1, h2, _⟩ := HHA.out j hj
    obtain ⟨A1, c1, _, _, _, hw⟩ := HE.out j hj
    refine ⟨h1, h2, fun i hi m h3 h4 => ?_, fun m h3 h4 => ?_, fun m h3 h4 => ?_⟩
    · obtain ⟨_, _, _, _, _, _, _, _, _, _, _, _, _, _, hcall⟩ := hw i hi
      exact (hcall m (61 - 1) w hb hB h3 (by omega) (by omega) (by omega)).2
    · exact (HIB.out j hj m (deep - 1) w hb hB h3 (by omega) (by omega) (by omega)).2
    · exact (HIL.out j hj m (deep - 1) w hb hB h3 (by omega) (by omega) (by omega)).2
   have hbound : 0 ≤ Xbs ss most deep ∧ Xbs ss most deep ≤ most + 562949953421312 := by
    rw [hwb]
    split
    · omega
    · rename_i hne
      by_cases hdp : 0 < deep
      · exact Xmx hm ss 0 (hfit hdp) (Int.le_refl _) (by omega)
      · have : ss = [] := by
         cases ss with
         | nil => rfl
         | cons s ss => exact absurd ⟨by omega, by simp⟩ hne
        subst this
        rw [goB]
        omega
   refine ⟨?_, hbound⟩
   have HFIT := lh hfit
   clear hbound hfit
   obtain ⟨ns, hns⟩ : ∃ ns, ns = ss.length := ⟨_, rfl⟩
   rw [← hns] at hc hwb ⊢
   have HNS := lh hns
   have HWB := lh hwb
   have HB0 := lh hb
   clear hns hwb hb
   by_cases h00 : deep = 0 ∧ 0 < ns
   · obtain ⟨rfl, hpos⟩ := h00
     have hp1 : decide (0 < ns) = true := by simpa using hpos
     have HW1 : Hid (Xbs ss most 0 = most + 1) := lh (by rw [HWB.out, if_pos ⟨rfl, hpos⟩])
     clear HWB
     go_enter Tryz.func12, Tryz.ntmps12
     go_wp2
     go_ret
     exact ⟨Xce HW1.out.symm, Below.refl _ _⟩
   have HW2 : Hid (Xbs ss most deep = goB ss 0 most deep) := lh (by rw [HWB.out, if_neg h00])
   clear HWB
   by_cases hdz : deep = 0
   · subst hdz
     obtain rfl : ns = 0 := by
      rcases Nat.eq_zero_or_pos ns with h | h
      · exact h
      · exact absurd ⟨rfl, h⟩ h00
     obtain rfl : ss = [] := List.eq_nil_of_length_eq_zero HNS.out.symm
     have HWS : Hid (goB [] 0 most 0 = 0) := lh (by rw [goB])
     clear HHA HE HIB HIL HBD HEL HFIT HNS h00
     go_enter Tryz.func12, Tryz.ntmps12
     go_wp2
     go_loop [7, 8] (fun n i => i = .int .i64 0 ∧ n = .int .i64 0) (fun _ _ => 0)
     case atStart => exact ⟨rfl, rfl⟩
     case round =>
      obtain ⟨rfl, rfl⟩ := hrel
      go_wp2
      go_ret
      exact ⟨Xce (by rw [HW2.out, HWS.out]), Below.refl _ _⟩
   have hdp : 0 < deep := by omega
   clear h00 hdz
   go_enter Tryz.func12, Tryz.ntmps12
   go_wp2
   go_loopw [7, 8] (fun n i wr => ∃ (j : Nat) (nn : Int), j ≤ ns ∧ i = .int .i64 j ∧ n = .int .i64 nn ∧ 0 ≤ nn ∧ nn ≤ 562949953521312 ∧ Hid (goB (ss.drop j) nn most deep = goB ss 0 most deep) ∧ Hid (Below w.heap.size w wr)) (fun _ i _ => ns - (intOf i).toNat)
   case atStart => exact ⟨0, 0, Nat.zero_le _, rfl, rfl, by omega, by omega, lh rfl, lh (Below.refl _ _)⟩
   case round =>
    obtain ⟨wo, rfl⟩ : ∃ wo : World, wo = wr := ⟨_, rfl⟩
    obtain ⟨j, nn, hj, rfl, rfl, hn0, hn1, HGO, HBL⟩ := hrel
    by_cases hlt : j < ns
    · by_cases hle : nn ≤ most
      · have hje : j < ss.length := by rw [← HNS.out]; exact hlt
        obtain ⟨b, off, rfl, hbB, hnm, hty, p0, p1, p2, p3, p4, p5, p6⟩ := HHA.out j hje
        obtain ⟨A1, c1, hf1, hc1, hM1, hweigh⟩ := HE.out j hje
        obtain ⟨A2, c2, hf2, hc2, hM2⟩ := (HBD.out j hje).slice
        obtain ⟨A3, c3, hf3, hc3, hM3⟩ := (HEL.out j hje).slice
        have HFJ := lh (HFIT.out hdp j hje)
        have hib := HIB.out j hje
        have hil := HIL.out j hje
        have hdr := Xuj hje
        rw [hf1] at p4
        rw [hf2] at p5 hib
        rw [hf3] at p6 hil
        obtain ⟨Y, hY⟩ : ∃ Y, Y = ss[j] := ⟨_, rfl⟩
        rw [← hY] at p2 p3 p4 p5 p6 hnm hty hc1 hc2 hc3 hib hil hdr HFJ hweigh
        have hbw : Below B w0 wo := HB0.out.trans (HBL.out.mono hB)
        have hsx : B ≤ wo.heap.size := by have := HBL.out.size; omega
        have HGO2 : Hid (goB (ss.drop (j + 1)) (goS Y nn most deep) most deep = goB ss 0 most deep) := lh (by
         have := HGO.out
         rw [hdr, goB_go hle] at this
         exact this)
        obtain ⟨g0, g1⟩ := Xnc HFJ.out hn0 hle hm
        have r2 := (hbw.cell (p := ⟨b, off + j * 7 + 2, none⟩) hbB).trans p2
        have r3 := (hbw.cell (p := ⟨b, off + j * 7 + 3, none⟩) hbB).trans p3
        have r4 := (hbw.cell (p := ⟨b, off + j * 7 + 4, none⟩) hbB).trans p4
        have r5 := (hbw.cell (p := ⟨b, off + j * 7 + 5, none⟩) hbB).trans p5
        have r6 := (hbw.cell (p := ⟨b, off + j * 7 + 6, none⟩) hbB).trans p6
        have r0 : ∃ u, wo.cell? ⟨b, off + j * 7, none⟩ = some u := ⟨_, (hbw.cell (p := ⟨b, off + j * 7, none⟩) hbB).trans p0⟩
        obtain ⟨u0, r0⟩ := r0
        obtain ⟨nl, hnl⟩ : ∃ nl, nl = Y.name.length := ⟨_, rfl⟩
        obtain ⟨tl, htl⟩ : ∃ tl, tl = Y.type.length := ⟨_, rfl⟩
        obtain ⟨n1, hn1'⟩ : ∃ n1, n1 = Y.exprs.length := ⟨_, rfl⟩
        obtain ⟨m2, hm2⟩ : ∃ m2, m2 = Y.body.length := ⟨_, rfl⟩
        obtain ⟨m3, hm3⟩ : ∃ m3, m3 = Y.els.length := ⟨_, rfl⟩
        obtain ⟨sn, hsn⟩ : ∃ sn, sn = Xaa Y.name := ⟨_, rfl⟩
        obtain ⟨st, hst⟩ : ∃ st, st = Xaa Y.type := ⟨_, rfl⟩
        have z1 : sn.size = nl := by rw [hsn, Lib.size_eq, Xak, hnl]
        have z2 : st.size = tl := by rw [hst, Lib.size_eq, Xak, htl]
        rw [← hsn] at r2
        rw [← hst] at r3
        rw [← hn1'] at r4 hc1
        rw [← hm2] at r5 hc2 hib
        rw [← hm3] at r6 hc3 hil
        rw [← hnl] at hnm
        rw [← htl] at hty
        obtain ⟨X2, hX2⟩ : ∃ X2 : Int, X2 = Xbl Y.exprs (nn + (1 + (nl : Int) + (tl : Int))) most 61 := ⟨_, rfl⟩
        obtain ⟨X3, hX3⟩ : ∃ X3 : Int, X3 = if X2 ≤ most then X2 + Xbs Y.body (most - X2) (deep - 1) else X2 := ⟨_, rfl⟩
        have hgs := Xux Y nn most deep (n2 := X2) (n3 := X3) (by rw [hX2, hnl, htl]) hX3
        have HX2 := lh hX2
        have HX3 := lh hX3
        have HGS := lh hgs
        have HN1 := lh hn1'
        have HW := lh hweigh
        have HIBJ := lh hib
        have HILJ := lh hil
        have hx2b : 0 ≤ X2 ∧ X2 ≤ most + 562949953421312 := by
         rw [hX2]
         exact Xex (most := most) (deep := 61) (K := 562949953421312) (by omega) Y.exprs _ HFJ.out.2.2.1 (by omega) (by omega)
        have hx3b : X2 ≤ most → 0 ≤ X3 ∧ X3 ≤ most + 562949953421312 := fun h => by
         rw [hX3, if_pos h]
         have := HFJ.out.2.2.2.1 (most - X2) (by omega) (by omega)
         omega
        have HX3B := lh hx3b
        have q1 : -9223372036854775808 ≤ 1 + (nl : Int) ∧ 1 + (nl : Int) ≤ 9223372036854775807 := by omega
        have q2 : -9223372036854775808 ≤ 1 + (nl : Int) + (tl : Int) ∧ 1 + (nl : Int) + (tl : Int) ≤ 9223372036854775807 := by omega
        have q3 : -9223372036854775808 ≤ nn + (1 + (nl : Int) + (tl : Int)) ∧ nn + (1 + (nl : Int) + (tl : Int)) ≤ 9223372036854775807 := by omega
        have y1 := IntWalk.i64_in _ q1
        have y2 := IntWalk.i64_in _ q2
        have y3 := IntWalk.i64_in _ q3
        have hx20 := hx2b.1
        have hx21 := hx2b.2
        clear q1 q2 q3 hx2b hx3b hX2 hX3 hgs hweigh hib hil hdr hnl htl hn1' hm2 hm3 hsn hst hY hf1 hf2 hf3 p0 p1 p2 p3 p4 p5 p6 HHA HE HIB HIL HBD HEL HFIT
        go_wp2
        go_quiet (fail)
        clear y1 y2 y3
        generalize hwq : wo.drewN _ = wq
        have hdq : Xfu wo wq := ⟨_, hwq.symm⟩
        have hb0 : Below wo.heap.size wo wq := hdq.below
        have HB00 := lh hb0
        clear hwq hdq hb0
        go_wp2
        go_loopw [7, 9] (fun n i wr => ∃ (kk : Nat) (mm : Int), kk ≤ n1 ∧ i = .int .i64 kk ∧ n = .int .i64 mm ∧ 0 ≤ mm ∧ mm ≤ 562949953521312 ∧ Hid (Xbl (Y.exprs.drop kk) mm most 61 = X2) ∧ Hid (Below wo.heap.size wo wr)) (fun _ i _ => n1 - (intOf i).toNat)
        case atStart => exact ⟨0, _, Nat.zero_le _, rfl, rfl, by omega, by omega, lh HX2.out.symm, HB00⟩
        case round =>
         obtain ⟨wi, rfl⟩ : ∃ wi : World, wi = wr := ⟨_, rfl⟩
         obtain ⟨kk, mm, hkk, rfl, rfl, hmm0, hmm1, HWI, HBI⟩ := hrel
         have hbo : b < wo.heap.size := by omega
         have t0 := (HBI.out.cell (p := ⟨b, off + j * 7, none⟩) hbo).trans r0
         have t4 := (HBI.out.cell (p := ⟨b, off + j * 7 + 4, none⟩) hbo).trans r4
         have t5 := (HBI.out.cell (p := ⟨b, off + j * 7 + 5, none⟩) hbo).trans r5
         have t6 := (HBI.out.cell (p := ⟨b, off + j * 7 + 6, none⟩) hbo).trans r6
         have hsi : wo.heap.size ≤ wi.heap.size := HBI.out.size
         have hsw : w.heap.size ≤ wo.heap.size := HBL.out.size
         have hbi : Below B w0 wi := hbw.trans (HBI.out.mono hsx)
         clear r0 r2 r3 r4 r5 r6
         by_cases hgo : kk < n1 ∧ mm ≤ most
         · obtain ⟨hkl, hml⟩ := hgo
           have hke : kk < Y.exprs.length := by rw [← HN1.out]; exact hkl
           obtain ⟨b', off', yk, yp, yn, ys, yv, rfl, hbB', p0, p1, p2, p3, p4, hcall⟩ := HW.out kk hke
           obtain ⟨hcc, hy0, hy1⟩ := hcall (most - mm) 60 wi hbi (by omega) (by omega) (by omega) (by omega) (by omega)
           have s0 := (hbi.cell (p := ⟨b', off' + kk * 5, none⟩) hbB').trans p0
           have s1 := (hbi.cell (p := ⟨b', off' + kk * 5 + 1, none⟩) hbB').trans p1
           have s2 := (hbi.cell (p := ⟨b', off' + kk * 5 + 2, none⟩) hbB').trans p2
           have s3 := (hbi.cell (p := ⟨b', off' + kk * 5 + 3, none⟩) hbB').trans p3
           have s4 := (hbi.cell (p := ⟨b', off' + kk * 5 + 4, none⟩) hbB').trans p4
           have hdr := Xln hke
           obtain ⟨yw, hyw⟩ : ∃ x, x = Xdg Y.exprs[kk] (most - mm) 60 := ⟨_, rfl⟩
           have HWN : Hid (Xbl (Y.exprs.drop (kk + 1)) (mm + yw) most 61 = X2) := lh (by
            have := HWI.out
            rw [hdr, Xoi hml] at this
            rw [hyw]
            exact this)
           rw [← hyw] at hcc hy0 hy1
           have HCC := lh hcc
           clear hcc hdr hyw hcall p0 p1 p2 p3 p4 HW
           go_wp2_with (first
            | ((with_reducible refine HCC.out.mono ?_); rintro e w5 ⟨rfl, hb5⟩))
           have hs5 := hb5.size
           go_roundw
           case rel => exact ⟨kk + 1, mm + yw, by omega, by go_num, rfl, by omega, by omega, HWN, lh (HBI.out.trans (hb5.mono (by omega)))⟩
           case measure => simp [intOf]; omega
         · obtain rfl : mm = X2 := by
            have hw := HWI.out
            by_cases hkl : kk < n1
            · rw [Xko _ _ _ _ (fun h => hgo ⟨hkl, h⟩)] at hw; exact hw
            · rw [List.drop_of_length_le (by rw [← HN1.out]; omega), Xbl] at hw; exact hw
           have hcase : (kk < n1 ∧ ¬ mm ≤ most) ∨ kk = n1 := by
            rcases Nat.lt_or_ge kk n1 with h | h
            · exact .inl ⟨h, fun h2 => hgo ⟨h, h2⟩⟩
            · exact .inr (by omega)
           clear hgo HW HWI
           by_cases hle2 : mm ≤ most
           · have hkn : kk = n1 := by
              rcases hcase with h | h
              · exact absurd hle2 h.2
              · exact h
             clear hcase
             obtain ⟨hcb, hyb0, hyb1⟩ := HIBJ.out (most - mm) (deep - 1) wi hbi (by omega) (by omega) (by omega) (by omega) (by omega)
             obtain ⟨yb, hyb⟩ : ∃ x, x = Xbs Y.body (most - mm) (deep - 1) := ⟨_, rfl⟩
             have hx3 : X3 = mm + yb := by rw [HX3.out, if_pos hle2, hyb]
             rw [← hyb] at hcb hyb0 hyb1
             have HCB := lh hcb
             have HX3E := lh hx3
             clear hcb hyb hx3
             by_cases hle3 : mm + yb ≤ most
             · go_wp2_with fail
               refine HCB.out.mono ?_
               rintro e w5 ⟨rfl, hb5⟩
               have t6' := (hb5.cell (p := ⟨b, off + j * 7 + 6, none⟩) (by simp; omega)).trans t6
               have t0' := (hb5.cell (p := ⟨b, off + j * 7, none⟩) (by simp; omega)).trans t0
               have hs5 := hb5.size
               have hb5' := hbi.trans (hb5.mono (show B ≤ wi.heap.size by omega))
               obtain ⟨hcl, hyl0, hyl1⟩ := HILJ.out (most - (mm + yb)) (deep - 1) w5 hb5' (by omega) (by omega) (by omega) (by omega) (by omega)
               obtain ⟨yl, hyl⟩ : ∃ x, x = Xbs Y.els (most - (mm + yb)) (deep - 1) := ⟨_, rfl⟩
               have HG4 : Hid (goS Y nn most deep = mm + yb + yl) := lh (by rw [HGS.out, HX3E.out, if_pos hle3, hyl])
               rw [← hyl] at hcl hyl0 hyl1
               have HCL := lh hcl
               have HB5 := lh (HBI.out.trans (hb5.mono hsi))
               clear hcl hyl hb5 hb5'
               go_wp2_with (first
                | ((with_reducible refine HCL.out.mono ?_); rintro e w6 ⟨rfl, hb6⟩))
               have hs6 := hb6.size
               go_roundw
               case rel => exact ⟨j + 1, mm + yb + yl, by omega, by go_num, rfl, by omega, by omega, lh (by rw [← HG4.out]; exact HGO2.out), lh ((HBL.out.trans (HB5.out.mono (by omega))).trans (hb6.mono (by omega)))⟩
               case measure => simp [intOf]; omega
             · have HG4 : Hid (goS Y nn most deep = mm + yb) := lh (by rw [HGS.out, HX3E.out, if_neg hle3])
               go_wp2_with (first
                | ((with_reducible refine HCB.out.mono ?_); rintro e w5 ⟨rfl, hb5⟩))
               have hs5 := hb5.size
               go_roundw
               case rel => exact ⟨j + 1, mm + yb, by omega, by go_num, rfl, by omega, by omega, lh (by rw [← HG4.out]; exact HGO2.out), lh ((HBL.out.trans (HBI.out.mono (by omega))).trans (hb5.mono (by omega)))⟩
               case measure => simp [intOf]; omega
           · have HG4 : Hid (goS Y nn most deep = mm) := lh (by
              have hx3 : X3 = mm := by rw [HX3.out, if_neg hle2]
              rw [HGS.out, hx3, if_neg hle2])
             rcases hcase with ⟨h, h'⟩ | h
             all_goals
              go_wp2
              go_roundw
              case rel => exact ⟨j + 1, mm, by omega, by go_num, rfl, by omega, by omega, lh (by rw [← HG4.out]; exact HGO2.out), lh (HBL.out.trans (HBI.out.mono (by omega)))⟩
              case measure => simp [intOf]; omega
      · have HWS : Hid (nn = goB ss 0 most deep) := lh (by have := HGO.out; rw [goB_stop _ _ _ _ hle] at this; exact this)
        clear HHA HE HIB HIL HBD HEL HFIT
        go_wp2
        go_ret
        exact ⟨Xce (by rw [HW2.out]; exact HWS.out), HBL.out⟩
    · have hje : j = ns := by omega
      have HWS : Hid (nn = goB ss 0 most deep) := lh (by
       have := HGO.out
       rw [List.drop_of_length_le (by rw [hje, HNS.out]; exact Nat.le_refl _), goB] at this
       exact this)
      clear HHA HE HIB HIL HBD HEL HFIT hje
      go_wp2
      go_ret
      exact ⟨Xce (by rw [HW2.out]; exact HWS.out), HBL.out⟩
structure Vs where
 e : Value
 b : Value
 l : Value
def Xcr (s : Sm) (f : Vs) : List Value := [.int .i64 s.kind, .int .i64 s.pl, .string (Xaa s.name), .string (Xaa s.type), f.e, f.b, f.l]
def smsV : List Sm → List Vs → List Value
 | s :: ss, f :: fs => Xcr s f ++ smsV ss fs
 | _, _ => []
theorem Xrd : ∀ {ss : List Sm} {fs : List Vs} (s : Sm) (u : Vs), ss.length = fs.length → smsV (ss ++ [s]) (fs ++ [u]) = smsV ss fs ++ Xcr s u
 | [], [], s, u, _ => by simp [smsV]
 | d :: ss, f :: fs, s, u, h => by
   show Xcr d f ++ smsV (ss ++ [s]) (fs ++ [u]) = _
   rw [Xrd s u (by simpa using h)]
   simp [smsV]
theorem Xeu : ∀ {ss : List Sm} {fs : List Vs} (h : ss.length = fs.length) (k : Nat) (hk : k < ss.length) (i : Nat) (hi : i < 7), (smsV ss fs)[k * 7 + i]? = (Xcr ss[k] (fs[k]'(by omega)))[i]?
 | s :: ss, f :: fs, h, 0, hk, i, hi => by
   show (Xcr s f ++ smsV ss fs)[0 * 7 + i]? = _
   rw [Nat.zero_mul, Nat.zero_add, List.getElem?_append_left (by simpa [Xcr] using hi)]
   rfl
 | s :: ss, f :: fs, h, k + 1, hk, i, hi => by
   show (Xcr s f ++ smsV ss fs)[(k + 1) * 7 + i]? = _
   rw [show (k + 1) * 7 + i = 7 + (k * 7 + i) from by omega, List.getElem?_append_right (by simp [Xcr])]
   rw [show 7 + (k * 7 + i) - (Xcr s f).length = k * 7 + i from by simp [Xcr]]
   exact Xeu (by simpa using h) k (by simpa using hk) i hi
theorem Xpt (s : Sm) (u : Vs) (h1 : u.e.oneCell' = true) (h2 : u.b.oneCell' = true) (h3 : u.l.oneCell' = true) : ∀ x ∈ Xcr s u, x.oneCell' = true := by
 intro x hx
 simp [Xcr] at hx
 rcases hx with rfl | rfl | rfl | rfl | rfl | rfl | rfl
 · rfl
 · rfl
 · rfl
 · rfl
 · exact h1
 · exact h2
 · exact h3
theorem Xcc.one {w : World} {S : Nat → Prop} {ss : List Sm} {v : Value} (h : Xcc w S ss v) : v.oneCell' = true := by
 cases h; rfl
def SmIn (w : World) (S : Nat → Prop) (s : Sm) (f : Vs) : Prop := s.name.length ≤ 140737488355328 ∧ s.type.length ≤ 140737488355328 ∧ Xbm w S s.exprs f.e ∧ Xcc w S s.body f.b ∧ Xcc w S s.els f.l
theorem SmIn.keep {w w' : World} {S S' : Nat → Prop} {s : Sm} {f : Vs} (h : SmIn w S s f) (hw : ∀ b, S b → w'.heap[b]? = w.heap[b]?) (hS : ∀ b, S b → S' b) : SmIn w' S' s f :=
 ⟨h.1, h.2.1, h.2.2.1.keep hw hS, h.2.2.2.1.keep hw hS, h.2.2.2.2.keep hw hS⟩
def Xez (w : World) (base : Nat) (v : Value) (ss : List Sm) : Prop :=
 ∃ fs : List Vs, ss.length = fs.length ∧ w.ownsRow base 38 7 v ss.length (smsV ss fs) ∧
  ∀ (k : Nat) (hk : k < ss.length) (hk' : k < fs.length), SmIn w (fun b => base ≤ b ∧ b < w.heap.size ∧ v.ownBlock ≠ some b) ss[k] fs[k]
theorem Xez.lt {w : World} {base : Nat} {v : Value} {ss : List Sm} (h : Xez w base v ss) {b : Nat} (hb : v.ownBlock = some b) : base ≤ b ∧ b < w.heap.size := by
 obtain ⟨fs, _, hown, _⟩ := h
 exact hown.lt b hb
theorem Xez.sms {w : World} {base : Nat} {v : Value} {ss : List Sm} (h : Xez w base v ss) : Xcc w (fun b => base ≤ b ∧ b < w.heap.size) ss v := by
 obtain ⟨fs, hl, hown, hin⟩ := h
 have hlt := hown.lt
 have hcell : ∀ (g : Nat), v.ownBlock = some g → ∀ (j : Nat) (u : Value), (smsV ss fs)[j]? = some u → w.cell? ⟨g, 0 + j, none⟩ = some u := fun g hg j u hu => by
  have := hown.cells hg j u hu
  rw [Xco] at this
  exact this
 rcases hown.2 with ⟨rfl, h2⟩ | ⟨g, cap, cur, rfl, hbg, hg, hc1, hc2, _⟩
 · have he : ss = [] := List.eq_nil_of_length_eq_zero h2
   subst he
   exact .mk [] none 0 (fun _ => undef) (fun _ => undef) (fun _ => undef) (Nat.le_refl _) (by omega) (fun k hk => absurd hk (by simp)) (fun k hk => absurd hk (by simp)) (fun k hk => absurd hk (by simp)) (fun k hk => absurd hk (by simp))
 · have hgd : ∀ (k : Nat) (hk' : k < fs.length), (fs[k]?.getD ⟨undef, undef, undef⟩) = fs[k] := fun k hk' => by rw [List.getElem?_eq_getElem hk']; rfl
   refine .mk ss _ cap (fun k => (fs[k]?.getD ⟨undef, undef, undef⟩).e) (fun k => (fs[k]?.getD ⟨undef, undef, undef⟩).b) (fun k => (fs[k]?.getD ⟨undef, undef, undef⟩).l) hc1 (by unfold maxLen at hc2; omega) (fun k hk => ?_) (fun k hk => ?_) (fun k hk => ?_) (fun k hk => ?_)
   · have hk' : k < fs.length := by omega
     obtain ⟨a1, a2, _⟩ := hin k hk hk'
     refine ⟨g, 0, rfl, ⟨hbg, (hlt g rfl).2⟩, a1, a2, ?_, ?_, ?_, ?_, ?_, ?_, ?_⟩
     · exact hcell g rfl (k * 7) _ (by have := Xeu hl k hk 0 (by omega); rw [Nat.add_zero] at this; rw [this]; rfl)
     · exact hcell g rfl (k * 7 + 1) _ (by rw [Xeu hl k hk 1 (by omega)]; rfl)
     · exact hcell g rfl (k * 7 + 2) _ (by rw [Xeu hl k hk 2 (by omega)]; rfl)
     · exact hcell g rfl (k * 7 + 3) _ (by rw [Xeu hl k hk 3 (by omega)]; rfl)
     · rw [hgd k hk']; exact hcell g rfl (k * 7 + 4) _ (by rw [Xeu hl k hk 4 (by omega)]; rfl)
     · rw [hgd k hk']; exact hcell g rfl (k * 7 + 5) _ (by rw [Xeu hl k hk 5 (by omega)]; rfl)
     · rw [hgd k hk']; exact hcell g rfl (k * 7 + 6) _ (by rw [Xeu hl k hk 6 (by omega)]; rfl)
   · have hk' : k < fs.length := by omega
     show Xbm w _ ss[k].exprs (fs[k]?.getD ⟨undef, undef, undef⟩).e
     rw [hgd k hk']
     exact (hin k hk hk').2.2.1.keep (fun _ _ => rfl) (fun b hb => ⟨hb.1, hb.2.1⟩)
   · have hk' : k < fs.length := by omega
     show Xcc w _ ss[k].body (fs[k]?.getD ⟨undef, undef, undef⟩).b
     rw [hgd k hk']
     exact (hin k hk hk').2.2.2.1.keep (fun _ _ => rfl) (fun b hb => ⟨hb.1, hb.2.1⟩)
   · have hk' : k < fs.length := by omega
     show Xcc w _ ss[k].els (fs[k]?.getD ⟨undef, undef, undef⟩).l
     rw [hgd k hk']
     exact (hin k hk hk').2.2.2.2.keep (fun _ _ => rfl) (fun b hb => ⟨hb.1, hb.2.1⟩)
theorem Xez.below {w w' : World} {base : Nat} {v : Value} {ss : List Sm} (h : Xez w base v ss) (hb : Below w.heap.size w w') : Xez w' base v ss := by
 obtain ⟨fs, hl, hown, hin⟩ := h
 refine ⟨fs, hl, ?_, fun k hk hk' => (hin k hk hk').keep (fun b hb2 => hb.block b hb2.2.1) (fun b hb2 => ⟨hb2.1, Nat.lt_of_lt_of_le hb2.2.1 hb.size, hb2.2.2⟩)⟩
 rcases hown with ⟨h1, h2 | ⟨g, cap, cur, hv, hbg, hg, h3⟩⟩
 · exact ⟨h1, .inl h2⟩
 · refine ⟨h1, .inr ⟨g, cap, cur, hv, hbg, ?_, h3⟩⟩
   have hlt : g < w.heap.size := by
    rcases Nat.lt_or_ge g w.heap.size with hlt | hge
    · exact hlt
    · rw [Array.getElem?_eq_none hge] at hg; cases hg
   exact (hb.block g hlt).trans hg
theorem Xez.nil (w : World) : Xez (w.alloc (.cells #[] 38)) w.heap.size (.slice (some ⟨w.heap.size, 0, none⟩) 0 0) [] :=
 ⟨[], rfl, World.ownsRow_lit (e := 38) (size := 7) w #[] 0 (Nat.le_refl _) (by unfold maxLen; omega) rfl, fun k hk => absurd hk (by simp)⟩
theorem Xez.set_ {w : World} {base : Nat} {v : Value} {ss : List Sm} (h : Xez w base v ss) {p : Addr} (hp : p.block < base) (u : Value) : Xez (w.setCell p u) base v ss := by
 have hbl := h
 obtain ⟨fs, hl, hown, hin⟩ := h
 refine ⟨fs, hl, ?_, fun k hk hk' => (hin k hk hk').keep (fun b hb2 => Below.heap_setCell _ _ _ b (by omega)) (fun b hb2 => ⟨hb2.1, by simpa using hb2.2.1, hb2.2.2⟩)⟩
 rcases hown with ⟨h1, h2 | ⟨g, cap, cur, hv, hbg, hg, h3⟩⟩
 · exact ⟨h1, .inl h2⟩
 · exact ⟨h1, .inr ⟨g, cap, cur, hv, hbg, (Below.heap_setCell _ _ _ g (by omega)).trans hg, h3⟩⟩
theorem info_sm : (Tryz.prog.info? 38).map (fun i => (i.zero, i.size, i.bytes)) = some (some (.agg #[.int .i64 0, .int .i64 0, .string ⟨#[]⟩, .string ⟨#[]⟩, .slice none 0 0, .slice none 0 0, .slice none 0 0]), 7, 120) := by kernel_rfl
theorem Xiv {ops : Array Oper} {rest : List Oper} {o : Oper} {a : Act} {w : World} {Q : Exit → Act → World → Prop} (hgd : o.guard = none) (s x : Operand)
  (ho : o.op = .call { callee := .builtin .append, args := #[s, x], argTypes := #[36, 36] })
  (base : Nat) (v : Value) (ss : List Sm) (hs : a.eval s = v) (hown : Xez w base v ss) (ad : Addr) (c : Nat) (e : Sm) (u : Vs) (hx : a.eval x = .slice (some ad) 1 c)
  (hnews : ∀ j y, (Xcr e u)[j]? = some y → w.cell? (ad.add j) = some y) (hu : SmIn w (fun b => base ≤ b ∧ b < w.heap.size ∧ v.ownBlock ≠ some b) e u) (hb : ss.length ≤ 1000000) (hbase : base ≤ w.heap.size)
  (h : ∀ v' w', Xez w' base v' (ss ++ [e]) → w.grownBy w' v.ownBlock → wpList Tryz.prog ops Q rest (a.put o.dst v') w') : wpList Tryz.prog ops Q (o :: rest) a w := by
 obtain ⟨i0, hi, hz0, hz1, hz2⟩ := info_parts info_sm
 obtain ⟨fs, hl, hrow, hin⟩ := hown
 refine wpList_append_lies _ hgd s x 36 ho base 38 i0 _ 7 120 Tryz.underlying36 hi hz0 hz1 hz2 rfl (by decide) v ss.length (smsV ss fs) hs hrow ad 1 c (Xcr e u) hx rfl hnews (Xpt e u hu.2.2.1.one hu.2.2.2.1.one hu.2.2.2.2.one)
  (by omega) (by unfold maxLen; omega) (by omega) hbase w.heap.size rfl fun g cap w' hown' hgr hat hlt => h _ w' ?_ hgr
 have hkeep : ∀ b, (base ≤ b ∧ b < w.heap.size ∧ v.ownBlock ≠ some b) → w'.heap[b]? = w.heap[b]? := fun b hb => hgr.block b hb.2.1 (fun e => hb.2.2 e.symm)
 have hS : ∀ b, (base ≤ b ∧ b < w.heap.size ∧ v.ownBlock ≠ some b) → (base ≤ b ∧ b < w'.heap.size ∧ (Value.slice (some ⟨g, 0, none⟩) (ss.length + 1) cap).ownBlock ≠ some b) := fun b hb => by
  have hsz := hgr.size
  refine ⟨hb.1, by omega, fun e => ?_⟩
  have e' : g = b := by simpa [Value.ownBlock] using e
  rcases hat with hat | hat
  · exact hb.2.2 (by rw [hat, e'])
  · omega
 refine ⟨fs ++ [u], by simp [hl], ?_, fun k hk hk' => ?_⟩
 · rw [List.length_append, Xrd e u hl]
   exact hown'
 · by_cases hke : k < ss.length
   · have hkf : k < fs.length := by omega
     rw [List.getElem_append_left hke, List.getElem_append_left hkf]
     exact (hin k hke hkf).keep hkeep hS
   · have hk0 : k = ss.length := by simp at hk; omega
     subst hk0
     have e1 : (ss ++ [e])[ss.length] = e := by simp
     have e2 : (fs ++ [u])[ss.length]'hk' = u := by
      rw [List.getElem_append_right (by omega)]
      simp [hl]
     rw [e1, e2]
     exact hu.keep hkeep hS
mutual
def Xke (N : Nat) : Sm → Prop
 | .mk _ _ n t ex bd el => n.length ≤ N ∧ t.length ≤ N ∧ ex.length ≤ N ∧ Xbu N ex ∧ bd.length ≤ N ∧ Xbz N bd ∧ el.length ≤ N ∧ Xbz N el
def Xbz (N : Nat) : List Sm → Prop
 | [] => True
 | s :: ss => Xke N s ∧ Xbz N ss
end
theorem Xel {N : Nat} : ∀ {ss : List Sm}, Xbz N ss → ∀ (k : Nat) (hk : k < ss.length), Xke N ss[k]
 | [], _, k, hk => absurd hk (by simp)
 | e :: es, h, 0, _ => by rw [Xbz] at h; exact h.1
 | e :: es, h, k + 1, hk => by rw [Xbz] at h; exact Xel h.2 k (by simpa using hk)
theorem Xet {N : Nat} {s : Sm} (h : Xke N s) : s.name.length ≤ N ∧ s.type.length ≤ N ∧ s.exprs.length ≤ N ∧ Xbu N s.exprs ∧ s.body.length ≤ N ∧ Xbz N s.body ∧ s.els.length ≤ N ∧ Xbz N s.els := by
 cases s
 rw [Xke] at h
 exact h
mutual
def Xic : Sm → Int → Sm
 | .mk k p n t ex bd el, deep => .mk k p n t (ex.map (Xds · deep)) (Xcp bd (deep - 1)) (Xcp el (deep - 1))
def Xcp : List Sm → Int → List Sm
 | [], _ => []
 | s :: ss, deep => if 0 < deep then Xic s deep :: Xcp ss deep else []
end
theorem Xrm (ss : List Sm) (deep : Int) (h : 0 < deep) : ∀ (j : Nat) (hj : j < ss.length), Xcp (ss.take (j + 1)) deep = Xcp (ss.take j) deep ++ [Xic ss[j] deep] := by
 induction ss with
 | nil => intro j hj; exact absurd hj (by simp)
 | cons s ss ih =>
   intro j hj
   cases j with
   | zero => simp [Xcp, h]
   | succ j =>
     have := ih j (by simpa using hj)
     rw [List.take_succ_cons, List.take_succ_cons, Xcp, Xcp, if_pos h, if_pos h, this]
     rfl
theorem Xkt (ss : List Sm) (deep : Int) (h : ¬ 0 < deep) : Xcp ss deep = [] := by
 cases ss with
 | nil => rw [Xcp]
 | cons e es => rw [Xcp, if_neg h]
theorem Xon (s : Sm) (deep : Int) : (Xic s deep).kind = s.kind ∧ (Xic s deep).pl = s.pl ∧ (Xic s deep).name = s.name ∧ (Xic s deep).type = s.type ∧ (Xic s deep).exprs = s.exprs.map (Xds · deep) ∧ (Xic s deep).body = Xcp s.body (deep - 1) ∧ (Xic s deep).els = Xcp s.els (deep - 1) := by
 cases s
 rw [Xic]
 exact ⟨rfl, rfl, rfl, rfl, rfl, rfl, rfl⟩
theorem Xub (ss : List Sm) (deep : Int) : (Xcp ss deep).length ≤ ss.length := by
 induction ss with
 | nil => rw [Xcp]; exact Nat.le_refl _
 | cons e es ih =>
   rw [Xcp]
   split
   · simp; omega
   · simp
section
def Xbp (w : World) (g : Nat) (k p : Int) (n t : ByteArray) (a b c : Value) : Prop := w.heap[g]? = some (.cells #[.int .i64 k, .int .i64 p, .string n, .string t, a, b, c] 38 (0, 0))
section
variable {w w' : World} {g B : Nat} {k p : Int} {n t : ByteArray} {a b c : Value}
theorem Xbp.new (w : World) (k p : Int) (n t : ByteArray) (a b c : Value) : Xbp (w.alloc (.cells #[.int .i64 k, .int .i64 p, .string n, .string t, a, b, c] 38)) w.heap.size k p n t a b c := heap_alloc_new w _
theorem Xbp.below (h : Xbp w g k p n t a b c) (hb : Below B w w') (hg : g < B) : Xbp w' g k p n t a b c := (hb.block g hg).trans h
theorem Xbp.c0 (h : Xbp w g k p n t a b c) : w.cell? ⟨g, 0, none⟩ = some (.int .i64 k) := by rw [cell_of_row w g 0 _ _ (0, 0) h]; rfl
theorem Xbp.c1 (h : Xbp w g k p n t a b c) : w.cell? ⟨g, 1, none⟩ = some (.int .i64 p) := by rw [cell_of_row w g 1 _ _ (0, 0) h]; rfl
theorem Xbp.c2 (h : Xbp w g k p n t a b c) : w.cell? ⟨g, 2, none⟩ = some (.string n) := by rw [cell_of_row w g 2 _ _ (0, 0) h]; rfl
theorem Xbp.c3 (h : Xbp w g k p n t a b c) : w.cell? ⟨g, 3, none⟩ = some (.string t) := by rw [cell_of_row w g 3 _ _ (0, 0) h]; rfl
theorem Xbp.c4 (h : Xbp w g k p n t a b c) : w.cell? ⟨g, 4, none⟩ = some a := by rw [cell_of_row w g 4 _ _ (0, 0) h]; rfl
theorem Xbp.c5 (h : Xbp w g k p n t a b c) : w.cell? ⟨g, 5, none⟩ = some b := by rw [cell_of_row w g 5 _ _ (0, 0) h]; rfl
theorem Xbp.c6 (h : Xbp w g k p n t a b c) : w.cell? ⟨g, 6, none⟩ = some c := by rw [cell_of_row w g 6 _ _ (0, 0) h]; rfl
theorem Xbp.fr (h : Xbp w g k p n t a b c) (j : Nat) : w.frozen? ⟨g, j, none⟩ = false := frozen_of_row w g j _ _ h
theorem Xbp.set4 (h : Xbp w g k p n t a b c) (u : Value) : Xbp (w.setCell ⟨g, 4, none⟩ u) g k p n t u b c := by
 unfold Xbp at h ⊢
 simp [World.setCell, Array.getElem?_modify, h]
theorem Xbp.set5 (h : Xbp w g k p n t a b c) (u : Value) : Xbp (w.setCell ⟨g, 5, none⟩ u) g k p n t a u c := by
 unfold Xbp at h ⊢
 simp [World.setCell, Array.getElem?_modify, h]
theorem Xbp.set6 (h : Xbp w g k p n t a b c) (u : Value) : Xbp (w.setCell ⟨g, 6, none⟩ u) g k p n t a b u := by
 unfold Xbp at h ⊢
 simp [World.setCell, Array.getElem?_modify, h]
end
def SmsPost (w : World) (ss : List Sm) (e : Ending) (w' : World) : Prop :=
 ∃ v, e = .returned v ∧ Xcc w' (fun b => w.heap.size ≤ b ∧ b < w'.heap.size) ss v ∧ Below w.heap.size w w'
def CopiesB (w0 : World) (B : Nat) (ss : List Sm) (v : Value) : Prop :=
 Xbz 1000000 ss → ss.length ≤ 1000000 → ∀ (deep : Int) (w : World), Below B w0 w → B ≤ w.heap.size → -100000 ≤ deep → deep ≤ 100000 →
  Calls Tryz.prog 13 #[v, .int .i64 deep] w (SmsPost w (Xcp ss deep))
set_option maxHeartbeats 4000000 in
set_option maxRecDepth 100000 in
theorem Xuc {w0 : World} {B : Nat} {ss : List Sm} {v : Value} (h : Xcc w0 (· < B) ss v) : CopiesB w0 B ss v := by
 induction h with
 | mk ss A c fe fb fl hc hM hA he hbd hel ihb ihl =>
   intro hsm hns6 deep w hb hB hd0 hd
   obtain ⟨ns, hns⟩ : ∃ ns, ns = ss.length := ⟨_, rfl⟩
   rw [← hns] at hc hns6 ⊢
   have HNS := lh hns
   have HB0 := lh hb
   have HE := lh he
   have HBD := lh hbd
   have HEL := lh hel
   have HIB := lh ihb
   have HIL := lh ihl
   have HHA := lh hA
   have HSM := lh hsm
   clear hns hb he hbd hel ihb ihl hA hsm
   go_enter Tryz.func13, Tryz.ntmps13
   go_wp2
   obtain ⟨X, hX⟩ : ∃ X : World, X = w.alloc (.cells #[] 38) := ⟨_, rfl⟩
   obtain ⟨g, hg⟩ : ∃ g, g = w.heap.size := ⟨_, rfl⟩
   have hxo : Xez X g (.slice (some ⟨g, 0, none⟩) 0 0) (Xcp (ss.take 0) deep) := by
    rw [hX, hg, List.take_zero, Xcp]; exact Xez.nil w
   have hxs : X.heap.size = g + 1 := by rw [hX, hg]; simp
   have hxb : Below g w X := by rw [hX, hg]; exact (Below.refl _ w).alloc (Nat.le_refl _) _
   rw [← hX, ← hg]
   have HXO := lh hxo
   have HXS := lh hxs
   have HXB := lh hxb
   have HG := lh hg
   clear hX hxo hxs hxb hg
   go_loopw [5, 6] (fun v i wr => ∃ j : Nat, j ≤ ns ∧ i = .int .i64 j ∧ Hid (Xez wr g v (Xcp (ss.take j) deep)) ∧ Hid (Below g X wr) ∧ g < wr.heap.size) (fun _ i _ => ns - (intOf i).toNat)
   case atStart => exact ⟨0, Nat.zero_le _, rfl, HXO, lh (Below.refl _ _), by have := HXS.out; omega⟩
   case round =>
    obtain ⟨wo, rfl⟩ : ∃ wo : World, wo = wr := ⟨_, rfl⟩
    obtain ⟨j, hj, rfl, HO, HBL, hws⟩ := hrel
    by_cases hgo : j < ns ∧ 0 < deep
    · obtain ⟨hlt, hdp⟩ := hgo
      have hje : j < ss.length := by rw [← HNS.out]; exact hlt
      obtain ⟨b, off, rfl, hbB, hnm, hty, p0, p1, p2, p3, p4, p5, p6⟩ := HHA.out j hje
      have hbw : Below B w0 wo := HB0.out.trans ((HXB.out.trans HBL.out).mono (by rw [HG.out]; exact hB))
      have hsx : B ≤ wo.heap.size := by have := HG.out; omega
      obtain ⟨-, -, s3, s4, s5, s6, s7, s8⟩ := Xet (Xel HSM.out j hje)
      have hce := HE.out j hje
      have hcb := HIB.out j hje s6 s5
      have hcl := HIL.out j hje s8 s7
      obtain ⟨A1, d1, hf1, hk1, hK1⟩ := hce.slice
      obtain ⟨A2, d2, hf2, hk2, hK2⟩ := (HBD.out j hje).slice
      obtain ⟨A3, d3, hf3, hk3, hK3⟩ := (HEL.out j hje).slice
      have hct := Xrm ss deep hdp j hje
      obtain ⟨e1, e2, e3, e4, e5, e6, e7⟩ := Xon ss[j] deep
      rw [hf1] at p4 hce
      rw [hf2] at p5 hcb
      rw [hf3] at p6 hcl
      obtain ⟨Y, hY⟩ : ∃ Y, Y = Xic ss[j] deep := ⟨_, rfl⟩
      rw [← hY] at e1 e2 e3 e4 e5 e6 e7 hct
      obtain ⟨m1, hm1⟩ : ∃ m, m = ss[j].exprs.length := ⟨_, rfl⟩
      obtain ⟨m2, hm2⟩ : ∃ m, m = ss[j].body.length := ⟨_, rfl⟩
      obtain ⟨m3, hm3⟩ : ∃ m, m = ss[j].els.length := ⟨_, rfl⟩
      rw [← hm1] at p4 hce hk1
      rw [← hm2] at p5 hcb hk2
      rw [← hm3] at p6 hcl hk3
      rw [← e1] at p0
      rw [← e2] at p1
      rw [← e3] at p2 hnm
      rw [← e4] at p3 hty
      have r0 := (hbw.cell (p := ⟨b, off + j * 7, none⟩) hbB).trans p0
      have r1 := (hbw.cell (p := ⟨b, off + j * 7 + 1, none⟩) hbB).trans p1
      have r2 := (hbw.cell (p := ⟨b, off + j * 7 + 2, none⟩) hbB).trans p2
      have r3 := (hbw.cell (p := ⟨b, off + j * 7 + 3, none⟩) hbB).trans p3
      have r4 := (hbw.cell (p := ⟨b, off + j * 7 + 4, none⟩) hbB).trans p4
      have r5 := (hbw.cell (p := ⟨b, off + j * 7 + 5, none⟩) hbB).trans p5
      have r6 := (hbw.cell (p := ⟨b, off + j * 7 + 6, none⟩) hbB).trans p6
      obtain ⟨yk, hyk⟩ : ∃ x, x = Y.kind := ⟨_, rfl⟩
      obtain ⟨yp, hyp⟩ : ∃ x, x = Y.pl := ⟨_, rfl⟩
      obtain ⟨yn, hyn⟩ : ∃ x, x = Xaa Y.name := ⟨_, rfl⟩
      obtain ⟨yt, hyt⟩ : ∃ x, x = Xaa Y.type := ⟨_, rfl⟩
      rw [← hyk] at r0
      rw [← hyp] at r1
      rw [← hyn] at r2
      rw [← hyt] at r3
      have hcells : ∀ u, Xcr Y u = [.int .i64 yk, .int .i64 yp, .string yn, .string yt, u.e, u.b, u.l] := fun u => by rw [hyk, hyp, hyn, hyt]; rfl
      have hlen : (Xcp (ss.take j) deep).length ≤ 1000000 := by
       have h1 := Xub (ss.take j) deep
       rw [List.length_take] at h1
       omega
      obtain ⟨X1, hX1⟩ : ∃ X1 : World, X1 = wo.alloc (.cells #[.int .i64 yk, .int .i64 yp, .string yn, .string yt, .slice A1 m1 d1, .slice A2 m2 d2, .slice A3 m3 d3] 38) := ⟨_, rfl⟩
      have hx1 : Xbp X1 wo.heap.size yk yp yn yt (.slice A1 m1 d1) (.slice A2 m2 d2) (.slice A3 m3 d3) := by rw [hX1]; exact Xbp.new wo _ _ _ _ _ _ _
      have hx1s : X1.heap.size = wo.heap.size + 1 := by rw [hX1]; simp
      have hx1b : Below wo.heap.size wo X1 := by rw [hX1]; exact (Below.refl _ wo).alloc (Nat.le_refl _) _
      have hcc1 := Xue hce s4 s3 deep X1 (hbw.trans (hx1b.mono hsx)) (by omega) (by omega) (by omega)
      have HCC := lh hcc1
      have HCT := lh hct
      have HCL := lh hcells
      have HLEN := lh hlen
      have HNM := lh hnm
      have HTY := lh hty
      have HX1 := lh hX1
      have HX1B := lh hx1b
      have HX1K := lh hx1
      have HX1S := lh hx1s
      have HCB := lh hcb
      have HCLS := lh hcl
      have HE5 := lh e5
      have HE6 := lh e6
      have HE7 := lh e7
      clear hcc1 hct hcells hlen hnm hty hX1 hx1b hx1 hx1s hcb hcl hce e1 e2 e3 e4 e5 e6 e7 hY hyk hyp hyn hyt hm1 hm2 hm3 hf1 hf2 hf3 s3 s4 s5 s6 s7 s8 p0 p1 p2 p3 p4 p5 p6 HHA HE HBD HEL HIB HIL
      go_wp2_with fail
      rw [← HX1.out]
      refine HCC.out.mono ?_
      rintro e w1 ⟨v1, rfl, hi1, hb1⟩
      obtain ⟨B1, n1, c1, -, hN1, rfl⟩ : ∃ A n c, True ∧ Xbm w1 (fun b => X1.heap.size ≤ b ∧ b < w1.heap.size) (ss[j].exprs.map (Xds · deep)) (.slice A n c) ∧ v1 = .slice A n c := by
       cases hi1 with
       | mk es A c f q1 q2 q3 q4 => exact ⟨_, _, _, trivial, .mk _ A c f q1 q2 q3 q4, rfl⟩
      have hx1s := HX1S.out
      have hk1 := HX1K.out.below hb1 (by omega)
      have y0 := hk1.c0
      have y4 := hk1.c4
      have y5 := hk1.c5
      have z4 := hk1.fr 4
      have HB1 := lh hb1
      have HN1 := lh hN1
      have HK1 := lh hk1
      clear hi1 hb1 hN1 hk1 hx1s
      go_wp2_with fail
      obtain ⟨X2, hX2⟩ : ∃ X2 : World, X2 = w1.setCell ⟨wo.heap.size, 4, none⟩ (.slice B1 n1 c1) := ⟨_, rfl⟩
      rw [← hX2]
      have hx2s : X2.heap.size = w1.heap.size := by rw [hX2]; simp
      have hx12 := HX1S.out
      have hw1s := HB1.out.size
      have hx2 : Xbp X2 wo.heap.size yk yp yn yt (.slice B1 n1 c1) (.slice A2 m2 d2) (.slice A3 m3 d3) := by rw [hX2]; exact HK1.out.set4 _
      have hx2b : Below wo.heap.size wo X2 := by rw [hX2]; exact (HX1B.out.trans (HB1.out.mono (by omega))).setCell (Nat.le_refl _) _
      have hn2 : Xbm X2 (fun b => X1.heap.size ≤ b ∧ b < X2.heap.size) (ss[j].exprs.map (Xds · deep)) (.slice B1 n1 c1) := by
       refine HN1.out.keep (fun b hb => ?_) (fun b hb => by rw [hx2s]; exact hb)
       rw [hX2]
       exact Below.heap_setCell _ _ _ b (show b ≠ wo.heap.size by omega)
      refine (HCB.out (deep - 1) X2 (hbw.trans (hx2b.mono hsx)) (by omega) (by omega) (by omega)).mono ?_
      rintro e w2 ⟨v2, rfl, hi2, hb2⟩
      obtain ⟨B2, n2, c2, hN2, rfl⟩ : ∃ A n c, Xcc w2 (fun b => X2.heap.size ≤ b ∧ b < w2.heap.size) (Xcp ss[j].body (deep - 1)) (.slice A n c) ∧ v2 = .slice A n c := by
       cases hi2 with
       | mk es A c f1 f2 f3 q1 q2 q3 q4 q5 q6 => exact ⟨_, _, _, .mk _ A c f1 f2 f3 q1 q2 q3 q4 q5 q6, rfl⟩
      have hw2s := hb2.size
      have hk2 := hx2.below hb2 (by omega)
      have hn3 : Xbm w2 (fun b => X1.heap.size ≤ b ∧ b < w2.heap.size) (ss[j].exprs.map (Xds · deep)) (.slice B1 n1 c1) := hn2.keep (fun b hb => hb2.block b hb.2) (fun b hb => ⟨hb.1, by omega⟩)
      have hw2b : Below wo.heap.size wo w2 := hx2b.trans (hb2.mono (by omega))
      clear y0 y4 y5 z4
      have y0 := hk2.c0
      have y5 := hk2.c5
      have y6 := hk2.c6
      have z5 := hk2.fr 5
      have HN2 := lh hN2
      have HN3 := lh hn3
      have HK2 := lh hk2
      have HW2B := lh hw2b
      have HW2S : Hid (X1.heap.size ≤ w2.heap.size ∧ X2.heap.size ≤ w2.heap.size ∧ X1.heap.size ≤ X2.heap.size) := lh ⟨by omega, by omega, by omega⟩
      clear hi2 hN2 hn3 hn2 hb2 hk2 hw2b hx2b hx2 hx2s hx12 hw1s hw2s hX2 HK1 HN1 HB1
      go_wp2_with fail
      obtain ⟨X3, hX3⟩ : ∃ X3 : World, X3 = w2.setCell ⟨wo.heap.size, 5, none⟩ (.slice B2 n2 c2) := ⟨_, rfl⟩
      rw [← hX3]
      have hx3s : X3.heap.size = w2.heap.size := by rw [hX3]; simp
      have hx12 := HX1S.out
      have hw2s := HW2S.out
      have hx3 : Xbp X3 wo.heap.size yk yp yn yt (.slice B1 n1 c1) (.slice B2 n2 c2) (.slice A3 m3 d3) := by rw [hX3]; exact HK2.out.set5 _
      have hx3b : Below wo.heap.size wo X3 := by rw [hX3]; exact HW2B.out.setCell (Nat.le_refl _) _
      have hn4 : Xbm X3 (fun b => X1.heap.size ≤ b ∧ b < X3.heap.size) (ss[j].exprs.map (Xds · deep)) (.slice B1 n1 c1) := by
       refine HN3.out.keep (fun b hb => ?_) (fun b hb => by rw [hx3s]; exact hb)
       rw [hX3]
       exact Below.heap_setCell _ _ _ b (show b ≠ wo.heap.size by omega)
      have hm4 : Xcc X3 (fun b => X1.heap.size ≤ b ∧ b < X3.heap.size) (Xcp ss[j].body (deep - 1)) (.slice B2 n2 c2) := by
       refine HN2.out.keep (fun b hb => ?_) (fun b hb => by rw [hx3s]; exact ⟨by omega, hb.2⟩)
       rw [hX3]
       exact Below.heap_setCell _ _ _ b (show b ≠ wo.heap.size by omega)
      refine (HCLS.out (deep - 1) X3 (hbw.trans (hx3b.mono hsx)) (by omega) (by omega) (by omega)).mono ?_
      rintro e w3 ⟨v3, rfl, hi3, hb3⟩
      obtain ⟨B3, n3, c3, hN5, rfl⟩ : ∃ A n c, Xcc w3 (fun b => X3.heap.size ≤ b ∧ b < w3.heap.size) (Xcp ss[j].els (deep - 1)) (.slice A n c) ∧ v3 = .slice A n c := by
       cases hi3 with
       | mk es A c f1 f2 f3 q1 q2 q3 q4 q5 q6 => exact ⟨_, _, _, .mk _ A c f1 f2 f3 q1 q2 q3 q4 q5 q6, rfl⟩
      have hw3s := hb3.size
      have hk3' := hx3.below hb3 (by omega)
      have hn5 : Xbm w3 (fun b => X1.heap.size ≤ b ∧ b < w3.heap.size) (ss[j].exprs.map (Xds · deep)) (.slice B1 n1 c1) := hn4.keep (fun b hb => hb3.block b hb.2) (fun b hb => ⟨hb.1, by omega⟩)
      have hm5 : Xcc w3 (fun b => X1.heap.size ≤ b ∧ b < w3.heap.size) (Xcp ss[j].body (deep - 1)) (.slice B2 n2 c2) := hm4.keep (fun b hb => hb3.block b hb.2) (fun b hb => ⟨hb.1, by omega⟩)
      have hl5 : Xcc w3 (fun b => X1.heap.size ≤ b ∧ b < w3.heap.size) (Xcp ss[j].els (deep - 1)) (.slice B3 n3 c3) := hN5.keep (fun b hb => rfl) (fun b hb => ⟨by omega, hb.2⟩)
      have hw3b : Below wo.heap.size wo w3 := hx3b.trans (hb3.mono (by omega))
      clear y0 y5 y6 z5
      have y0 := hk3'.c0
      have y6 := hk3'.c6
      have z6 := hk3'.fr 6
      obtain ⟨X4, hX4⟩ : ∃ X4 : World, X4 = w3.setCell ⟨wo.heap.size, 6, none⟩ (.slice B3 n3 c3) := ⟨_, rfl⟩
      have hx4s : X4.heap.size = w3.heap.size := by rw [hX4]; simp
      have hx4 : Xbp X4 wo.heap.size yk yp yn yt (.slice B1 n1 c1) (.slice B2 n2 c2) (.slice B3 n3 c3) := by rw [hX4]; exact hk3'.set6 _
      have hx4b : Below wo.heap.size wo X4 := by rw [hX4]; exact hw3b.setCell (Nat.le_refl _) _
      have hkeep : ∀ b, X1.heap.size ≤ b ∧ b < w3.heap.size → X4.heap[b]? = w3.heap[b]? := fun b hb => by
       rw [hX4]
       exact Below.heap_setCell _ _ _ b (show b ≠ wo.heap.size by omega)
      have hS4 : ∀ b, X1.heap.size ≤ b ∧ b < w3.heap.size → X1.heap.size ≤ b ∧ b < X4.heap.size := fun b hb => by rw [hx4s]; exact hb
      have hn6 := hn5.keep hkeep hS4
      have hm6 := hm5.keep hkeep hS4
      have hl6 := hl5.keep hkeep hS4
      clear y0 y6 z6
      have y0 := hk3'.c0
      have y1 := hk3'.c1
      have y2 := hk3'.c2
      have y3 := hk3'.c3
      have y4 := hk3'.c4
      have y5 := hk3'.c5
      have y6 := hk3'.c6
      have z6 := hk3'.fr 6
      obtain ⟨X5, hX5⟩ : ∃ X5 : World, X5 = X4.alloc (.cells #[.int .i64 yk, .int .i64 yp, .string yn, .string yt, .slice B1 n1 c1, .slice B2 n2 c2, .slice B3 n3 c3] 38) := ⟨_, rfl⟩
      have hx5s : X5.heap.size = w3.heap.size + 1 := by rw [hX5]; simp; omega
      have hx5b : Below X4.heap.size X4 X5 := by rw [hX5]; exact (Below.refl _ X4).alloc (Nat.le_refl _) _
      have ho1 : Xez X5 g u5 (Xcp (ss.take j) deep) := (HO.out.below hx4b).below hx5b
      have hnew : ∀ q y, (Xcr Y ⟨.slice B1 n1 c1, .slice B2 n2 c2, .slice B3 n3 c3⟩)[q]? = some y → X5.cell? ((⟨w3.heap.size, 0, none⟩ : Addr).add q) = some y := fun q y hq => by
       rw [HCL.out] at hq
       rw [hX5, ← hx4s, Xco, Nat.zero_add, cell_of_row _ _ q _ _ (0, 0) (heap_alloc_new X4 _)]
       simpa using hq
      have hno : ∀ b, X1.heap.size ≤ b → u5.ownBlock ≠ some b := fun b hb e => by
       have := (HO.out.lt e).2
       have := HX1S.out
       omega
      have hun : SmIn X5 (fun b => g ≤ b ∧ b < X5.heap.size ∧ u5.ownBlock ≠ some b) Y ⟨.slice B1 n1 c1, .slice B2 n2 c2, .slice B3 n3 c3⟩ := by
       have hk5 : ∀ b, X1.heap.size ≤ b ∧ b < X4.heap.size → X5.heap[b]? = X4.heap[b]? := fun b hb => hx5b.block b hb.2
       have hS5 : ∀ b, X1.heap.size ≤ b ∧ b < X4.heap.size → g ≤ b ∧ b < X5.heap.size ∧ u5.ownBlock ≠ some b := fun b hb => ⟨by omega, by omega, hno b hb.1⟩
       refine ⟨HNM.out, HTY.out, ?_, ?_, ?_⟩
       · rw [HE5.out]; exact hn6.keep hk5 hS5
       · rw [HE6.out]; exact hm6.keep hk5 hS5
       · rw [HE7.out]; exact hl6.keep hk5 hS5
      have hbel5 : Below g X X5 := (HBL.out.trans (hx4b.mono (by omega))).trans (hx5b.mono (by omega))
      have hg5 : g ≤ X5.heap.size := by omega
      rw [hX5, hX4] at ho1 hnew hun hbel5 hg5
      have HO1 := lh ho1
      have HNEW := lh hnew
      have HUN := lh hun
      have HBEL := lh hbel5
      have HG5 := lh hg5
      clear ho1 hnew hun hbel5 hg5 hno hX5 hX4 hx5s hx5b hx4s hx4b hn6 hm6 hl6 hn5 hm5 hl5 hk3' hx4 hw3b hkeep hS4 hw3s hi3 hb3 hN5 hx3 hx3b hn4 hm4 hX3 hx3s hx12 hw2s HCB HCLS HCC HK2 HN2 HN3 HW2B X5 X4
      go_wp2_with (first
       | (at_builtin; refine Xiv rfl _ _ rfl g u5 (Xcp (ss.take j) deep) rfl HO1.out ⟨w3.heap.size, 0, none⟩ 1 Y ⟨.slice B1 n1 c1, .slice B2 n2 c2, .slice B3 n3 c3⟩ rfl HNEW.out HUN.out HLEN.out HG5.out ?_; intro v' w4 hown4 hgr))
      go_roundw
      case rel =>
       have hb4 := HBEL.out.grown hgr HG5.out (fun q hq => (HO.out.lt hq).1)
       exact ⟨j + 1, by omega, by go_num, lh (by rw [HCT.out]; exact hown4), lh hb4, by have h1 := hb4.size; have h2 := HXS.out; omega⟩
      case measure => simp [intOf]; omega
    · have hall : Xcp (ss.take j) deep = Xcp ss deep := by
       by_cases h0 : 0 < deep
       · have hje : ¬ j < ns := fun h => hgo ⟨h, h0⟩
         rw [List.take_of_length_le (by rw [← HNS.out]; omega)]
       · rw [Xkt _ _ h0, Xkt _ _ h0]
      rw [hall] at HO
      have hfin : Xcc wo (fun b => w.heap.size ≤ b ∧ b < wo.heap.size) (Xcp ss deep) u5 := by rw [← HG.out]; exact HO.out.sms
      have hend : Below w.heap.size w wo := by rw [← HG.out]; exact HXB.out.trans HBL.out
      have hcase : j = ns ∨ (j < ns ∧ deep ≤ 0) := by
       rcases Nat.lt_or_ge j ns with h | h
       · exact .inr ⟨h, by
          rcases Int.lt_or_le 0 deep with h2 | h2
          · exact absurd ⟨h, h2⟩ hgo
          · exact h2⟩
       · exact .inl (by omega)
      clear hgo hall HHA HE HBD HEL HIB HIL
      rcases hcase with h | ⟨h, h'⟩
      all_goals
       go_wp2
       go_ret
       exact ⟨_, rfl, hfin, hend⟩
end
end Go.Proofs.YtodociiaobjfgaaGreatDoor
