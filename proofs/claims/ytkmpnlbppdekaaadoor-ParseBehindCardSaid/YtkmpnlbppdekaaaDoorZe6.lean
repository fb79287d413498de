/- Ue Uf Uk Um Vd Tb Da Cf Db Ha -/
import Derived.Test.YtkmpnlbppdekaaaDoorZe5
import Derived.Shelf.Small.Strs
import Derived.Shelf.LaysM
import Derived.Shelf.Strconv.Clone
import Derived.Shelf.Strings.Search1
import Derived.Shelf.Strings.Prefix
import Derived.Test.YtkmpnlbppdekaaaDoorRows
import Derived.Lib.IndexAny
import Derived.OwnWalk
import Derived.Deep.AppendLies
import Derived.Laws.AppendOwnNone
import Derived.WalkKit
import Derived.WalkSpells
import Derived.WalkLawsBesides
import Derived.Lib.Hide
import Derived.Deep.QuietTactic
import Derived.BigQuiet
import Derived.StillTailTactics
import Derived.IntWalk
import Derived.Lib.AppendStr
import Derived.Lib.BufferRead
import Derived.Recover
import Derived.Lib.ItoaNum
import Derived.Shelf.Small.Wraps
import Derived.Shelf.Strconv.Itoa0
import Derived.Shelf.Strconv.Itoa1
import Derived.Shelf.Strconv.Itoa2
import Derived.Shelf.Strconv.Itoa3
import Derived.Shelf.Slices.Turned
import Derived.Lib.AtoiErrMem
import Derived.Lib.AppendIntMem
import Derived.Shelf.Strconv.Atoi
section
set_option linter.unusedVariables false
namespace Go.Proofs.YtkmpnlbppdekaaaDoor
open Go.RowKit
section
variable {w w' : World} {g B : Nat} {k p n : Int} {s : ByteArray} {v : Value}
theorem ExBlk.new (w : World) (k p n : Int) (s : ByteArray) (v : Value) : ExBlk (w.alloc (.cells #[.int .i64 k, .int .i64 p, .int .i64 n, .string s, v] 32)) w.heap.size k p n s v := heap_alloc_new w _
end
end Go.Proofs.YtkmpnlbppdekaaaDoor
end
section
set_option linter.unusedVariables false
namespace Go.Proofs.YtkmpnlbppdekaaaDoor
open Go.RowKit
mutual
def likeE (at_ : Bool) : Ex → Ex → Prop
  | .mk k p n s xs, .mk k' p' n' s' bs => k = k' ∧ (at_ = true → p = p') ∧ n = n' ∧ s = s' ∧ likeEs at_ xs bs
def likeEs (at_ : Bool) : List Ex → List Ex → Prop
  | [], [] => True
  | a :: xs, b :: bs => likeE at_ a b ∧ likeEs at_ xs bs
  | [], _ :: _ => False
  | _ :: _, [] => False
end
theorem likeEs_len {t : Bool} : ∀ {xs bs : List Ex}, likeEs t xs bs → xs.length = bs.length
  | [], [], _ => rfl
  | a :: xs, b :: bs, h => by rw [likeEs] at h; rw [List.length_cons, List.length_cons, likeEs_len h.2]
  | [], _ :: _, h => by rw [likeEs] at h; exact h.elim
  | _ :: _, [], h => by rw [likeEs] at h; exact h.elim
theorem likeEs_get {t : Bool} : ∀ {xs bs : List Ex}, likeEs t xs bs → ∀ (k : Nat) (h1 : k < xs.length) (h2 : k < bs.length), likeE t xs[k] bs[k]
  | [], [], _, k, h1, _ => absurd h1 (by simp)
  | a :: xs, b :: bs, h, 0, _, _ => by rw [likeEs] at h; exact h.1
  | a :: xs, b :: bs, h, k + 1, h1, h2 => by rw [likeEs] at h; exact likeEs_get h.2 k (by simpa using h1) (by simpa using h2)
  | [], _ :: _, h, _, _, _ => by rw [likeEs] at h; exact h.elim
  | _ :: _, [], h, _, _, _ => by rw [likeEs] at h; exact h.elim
theorem likeE_parts {t : Bool} {a b : Ex} (h : likeE t a b) : a.kind = b.kind ∧ (t = true → a.pl = b.pl) ∧ a.num = b.num ∧ a.name = b.name ∧ likeEs t a.args b.args := by
  cases a; cases b
  rw [likeE] at h
  exact h
end Go.Proofs.YtkmpnlbppdekaaaDoor
end
section
set_option linter.unusedVariables false
namespace Go.Proofs.YtkmpnlbppdekaaaDoor
open Go.RowKit
section
variable {w w' : World} {g B : Nat} {k p : Int} {n t : ByteArray} {a b c : Value}
theorem SmBlk.new (w : World) (k p : Int) (n t : ByteArray) (a b c : Value) : SmBlk (w.alloc (.cells #[.int .i64 k, .int .i64 p, .string n, .string t, a, b, c] 40)) w.heap.size k p n t a b c := heap_alloc_new w _
end
end Go.Proofs.YtkmpnlbppdekaaaDoor
end
section
set_option linter.unusedVariables false
namespace Go.Proofs.YtkmpnlbppdekaaaDoor
open Go.RowKit
section
variable {w w' : World} {g B : Nat} {k p u : Int} {n t : ByteArray} {a b : Value}
theorem DcBlk.new (w : World) (k p u : Int) (n t : ByteArray) (a b : Value) : DcBlk (w.alloc (.cells #[.int .i64 k, .int .i64 p, .int .i64 u, .string n, .string t, a, b] 38)) w.heap.size k p u n t a b := heap_alloc_new w _
end
end Go.Proofs.YtkmpnlbppdekaaaDoor
end
section
set_option linter.unusedVariables false
namespace Go.Proofs.YtkmpnlbppdekaaaDoor
open Go.RowKit
section
variable {w w' w1 w2 : World} {Bc Ba base : Nat} {v v' v1 v2 : Value} {T T' T1 T2 : List (List UInt8)}
theorem PenAt.ne (h : PenAt w Bc Ba base v T) : Bc ≠ Ba := fun e => by
  have h1 := h.cnt
  rw [e, h.buf] at h1
  simp at h1
end
end Go.Proofs.YtkmpnlbppdekaaaDoor
end
section
set_option linter.unusedVariables false
namespace Go.Proofs.YtkmpnlbppdekaaaDoor
theorem wrong_at {k : Nat} {t : List UInt8} {n : Nat} (h : wrongOf k t n = 0) (m : Nat) : wrongOf k t m = if 4096 ≤ m then 12 else 0 := by
  have hk := wrongOf_kind h
  unfold wrongOf at h ⊢
  rw [if_neg hk] at h ⊢
  by_cases hm : 4096 ≤ m
  · rw [if_pos (Or.inr hm), if_pos hm]
  · rw [if_neg hm]
    split at h
    · cases h
    · rename_i h1
      have g : ¬ ((k = 1 ∧ 16 < t.length) ∨ 4096 ≤ m) := fun a => a.elim (fun a => h1 (Or.inl a)) hm
      rw [if_neg g]
      exact h
theorem wrong_more {k : Nat} {t : List UInt8} {n e m : Nat} (h : wrongOf k t n = e) (he : e ≠ 0) : wrongOf k t (n + m) = e ∨ (0 < m ∧ wrongOf k t (n + m) = 12) := by
  rw [← h] at he ⊢
  clear h
  rcases Nat.eq_zero_or_pos m with rfl | hm
  · exact .inl rfl
  unfold wrongOf at he ⊢
  by_cases hk : k = 0
  · rw [if_pos hk, if_pos hk]; exact .inl rfl
  rw [if_neg hk] at he ⊢
  rw [if_neg hk]
  by_cases h1 : k = 1 ∧ 16 < t.length
  · rw [if_pos (Or.inl h1), if_pos (Or.inl h1)]; exact .inl rfl
  by_cases h2 : 4096 ≤ n + m
  · rw [if_pos (Or.inr h2)]; exact .inr ⟨hm, rfl⟩
  · have g1 : ¬ ((k = 1 ∧ 16 < t.length) ∨ 4096 ≤ n + m) := fun a => a.elim h1 h2
    have g2 : ¬ ((k = 1 ∧ 16 < t.length) ∨ 4096 ≤ n) := fun a => a.elim h1 (fun a => h2 (by omega))
    rw [if_neg g1, if_neg g2]
    exact .inl rfl
theorem blank32 : blankB 32 = true := by decide
theorem shape_app {k : Nat} {t r b : List UInt8} (h : Shape k t r.head?) : Shape k t (r ++ 32 :: b).head? := by
  cases r with
  | nil => exact shape_soft h (fun c e => by have : (32 : UInt8) = c := by simpa using e
                                             rw [← this]; decide)
  | cons d r => exact h
def Behind (b : List UInt8) (p n : Nat) (len : Nat) (x y : Res) : Prop := match x with
  | .ok l => y = (sc b 0 (p + len + 1) (n + l.length)).pre l
  | .err q e => y = .err q e
theorem sc_behind (b : List UInt8) : ∀ l p n, Behind b p n l.length (sc l 0 p n) (sc (l ++ 32 :: b) 0 p n) := by
  intro l
  refine sc_ind (P := fun l => ∀ p n, Behind b p n l.length (sc l 0 p n) (sc (l ++ 32 :: b) 0 p n)) ?_ ?_ ?_ ?_ l
  · intro p n
    show sc (32 :: b) 0 p n = _
    rw [sc_blank blank32, Res.pre_nil]
    rfl
  · intro c r hb ih p n
    show Behind b p n (r.length + 1) _ (sc (c :: (r ++ 32 :: b)) 0 p n)
    rw [sc_blank hb, sc_blank hb]
    have := ih (p + 1) n
    unfold Behind at this ⊢
    rw [show p + (r.length + 1) + 1 = p + 1 + r.length + 1 from by omega]
    exact this
  · intro c r a b' d e p n
    show Behind b p n (r.length + 1) _ (sc (c :: (r ++ 32 :: b)) 0 p n)
    rw [sc_none p n a b' d e, sc_none p n a b' d e]
    rfl
  · intro k t r hs ih p n
    rw [List.append_assoc, sc_shape p n hs, sc_shape p n (shape_app (b := b) hs)]
    by_cases he : wrongOf k t n = 0
    · rw [if_pos he, if_pos he]
      have := ih (p + t.length) (n + 1)
      revert this
      cases hx : sc r 0 (p + t.length) (n + 1) with
      | ok l =>
        intro this
        show _ = _
        have h2 : sc (r ++ 32 :: b) 0 (p + t.length) (n + 1) = (sc b 0 (p + t.length + r.length + 1) (n + 1 + l.length)).pre l := this
        rw [h2, Res.pre_pre, List.length_append, List.length_append]
        congr 2
        · omega
        · simp; omega
      | err q e =>
        intro this
        have h2 : sc (r ++ 32 :: b) 0 (p + t.length) (n + 1) = .err q e := this
        show _ = _
        rw [h2]
        rfl
    · rw [if_neg he, if_neg he]
      rfl
def Tok.on (d : Nat) (t : Tok) : Tok := ⟨t.kind, t.text, t.pl + d⟩
def OnPost (n d m : Nat) (x y : Res) : Prop := match x with
  | .ok l => (n + m + l.length ≤ 4096 → y = .ok (l.map (Tok.on d))) ∧ (4096 < n + m + l.length → n + m ≤ 4096 → ∃ q, y = .err q 12)
  | .err q e => y = .err (q + d) e ∨ (0 < m ∧ ∃ q', y = .err q' 12)
theorem sc_on (d m : Nat) : ∀ l p n, OnPost n d m (sc l 0 p n) (sc l 0 (p + d) (n + m)) := by
  intro l
  refine sc_ind (P := fun l => ∀ p n, OnPost n d m (sc l 0 p n) (sc l 0 (p + d) (n + m))) ?_ ?_ ?_ ?_ l
  · intro p n
    exact ⟨fun _ => rfl, fun h1 h2 => absurd h1 (by simp; omega)⟩
  · intro c r hb ih p n
    rw [sc_blank hb, sc_blank hb]
    have := ih (p + 1) n
    rw [show p + 1 + d = p + d + 1 from by omega] at this
    exact this
  · intro c r a b' e f p n
    rw [sc_none p n a b' e f, sc_none (p + d) (n + m) a b' e f]
    exact .inl rfl
  · intro k t r hs ih p n
    rw [sc_shape p n hs, sc_shape (p + d) (n + m) hs]
    by_cases he : wrongOf k t n = 0
    · rw [if_pos he, wrong_at he (n + m)]
      have := ih (p + t.length) (n + 1)
      rw [show p + t.length + d = p + d + t.length from by omega, show n + 1 + m = n + m + 1 from by omega] at this
      by_cases hm : 4096 ≤ n + m
      · rw [if_pos hm, if_neg (by decide)]
        have hn := wrongOf_n he
        cases hx : sc r 0 (p + t.length) (n + 1) with
        | ok l =>
          refine ⟨fun h => ?_, fun h1 h2 => ⟨_, rfl⟩⟩
          simp at h; omega
        | err q e => exact .inr ⟨by omega, _, rfl⟩
      · rw [if_neg hm, if_pos rfl]
        revert this
        cases hx : sc r 0 (p + t.length) (n + 1) with
        | ok l =>
          rintro ⟨h1, h2⟩
          refine ⟨fun h => ?_, fun h h' => ?_⟩
          · rw [h1 (by simp at h; omega)]
            rfl
          · obtain ⟨q, hq⟩ := h2 (by simp at h; omega) (by omega)
            exact ⟨q, by rw [hq]; rfl⟩
        | err q e =>
          rintro (h | ⟨h0, q', h⟩)
          · exact .inl (by rw [h]; rfl)
          · exact .inr ⟨h0, q', by rw [h]; rfl⟩
    · rw [if_neg he]
      rcases wrong_more (m := m) rfl he with h | ⟨h0, h⟩
      · rw [h, if_neg he]
        exact .inl rfl
      · rw [h, if_neg (by decide)]
        exact .inr ⟨h0, _, rfl⟩
theorem sc_count : ∀ (l : List UInt8) (p n : Nat) (y : List Tok), sc l 0 p n = .ok y → n ≤ 4096 → n + y.length ≤ 4096 := by
  intro l
  refine sc_ind (P := fun l => ∀ (p n : Nat) (y : List Tok), sc l 0 p n = .ok y → n ≤ 4096 → n + y.length ≤ 4096) ?_ ?_ ?_ ?_ l
  · intro p n y h hn
    have e : Res.ok [] = .ok y := h
    simp only [Res.ok.injEq] at e
    subst e
    simpa using hn
  · intro d r hb ih p n y h hn
    rw [sc_blank hb] at h
    exact ih _ _ _ h hn
  · intro d r a b' e f p n y h hn
    rw [sc_none p n a b' e f] at h
    cases h
  · intro k t r hs ih p n y h hn
    rw [sc_shape p n hs] at h
    by_cases he : wrongOf k t n = 0
    · rw [if_pos he] at h
      obtain ⟨z, hz, rfl⟩ := pre_ok h
      have := wrongOf_n he
      have := ih _ _ _ hz (by omega)
      rw [List.length_append, List.length_singleton]; omega
    · rw [if_neg he] at h
      cases h
theorem toks_count {l : List UInt8} {y : List Tok} (h : toks l = .ok y) : y.length ≤ 4096 := by
  unfold toks at h
  split at h
  · cases h
  · have := sc_count _ _ _ _ h (by omega)
    omega
end Go.Proofs.YtkmpnlbppdekaaaDoor
end
section
set_option linter.unusedVariables false
namespace Go.Proofs.YtkmpnlbppdekaaaDoor
open Go.RowKit
theorem toks_fit' {l : List UInt8} (h : l.length ≤ 16384) : toks l = sc l 0 0 0 := if_neg (by omega)
section
variable {a b : List UInt8}
theorem bl_ok (h : a.length + b.length ≤ 16383) {x : List Tok} (ha : toks a = .ok x) : toks (a ++ 32 :: b) = (sc b 0 (0 + (a.length + 1)) (0 + x.length)).pre x := by
  rw [toks_fit' (by omega)] at ha
  rw [toks_fit' (by simp; omega)]
  have := sc_behind b a 0 0
  rw [ha] at this
  have h2 : sc (a ++ 32 :: b) 0 0 0 = (sc b 0 (0 + a.length + 1) (0 + x.length)).pre x := this
  rw [h2, Nat.add_assoc]
theorem bl_both (h : a.length + b.length ≤ 16383) {x y : List Tok} (ha : toks a = .ok x) (hb : toks b = .ok y) (hl : x.length + y.length ≤ 4096) :
    toks (a ++ 32 :: b) = .ok (x ++ y.map (Tok.on (a.length + 1))) := by
  rw [bl_ok h ha]
  rw [toks_fit' (by omega)] at hb
  have := sc_on (a.length + 1) x.length b 0 0
  rw [hb] at this
  rw [this.1 (by omega)]
  rfl
theorem bl_many (h : a.length + b.length ≤ 16383) {x y : List Tok} (ha : toks a = .ok x) (hb : toks b = .ok y) (hl : ¬ x.length + y.length ≤ 4096) :
    ∃ q, toks (a ++ 32 :: b) = .err q 12 := by
  have hx := toks_count ha
  rw [bl_ok h ha]
  rw [toks_fit' (by omega)] at hb
  have := sc_on (a.length + 1) x.length b 0 0
  rw [hb] at this
  obtain ⟨q, hq⟩ := this.2 (by omega) (by omega)
  exact ⟨q, by rw [hq]; rfl⟩
end
theorem on_alike (d : Nat) : ∀ y : List Tok, Alike y (y.map (Tok.on d))
  | [] => trivial
  | t :: y => ⟨rfl, rfl, on_alike d y⟩
end Go.Proofs.YtkmpnlbppdekaaaDoor
end
section
set_option linter.unusedVariables false
set_option linter.unusedSimpArgs false
namespace Go.Proofs.YtkmpnlbppdekaaaDoor
open Go.RowKit
section
variable {u v : List Tok}
theorem al_tx (h : Alike u v) : tx u = tx v := by
  match u, v, h with
  | [], [], _ => rfl
  | _ :: _, _ :: _, h => exact h.2.1
theorem al_kd (h : Alike u v) : kd u = kd v := by
  match u, v, h with
  | [], [], _ => rfl
  | _ :: _, _ :: _, h => exact h.1
theorem al_tail (h : Alike u v) : Alike u.tail v.tail := by
  match u, v, h with
  | [], [], _ => trivial
  | _ :: _, _ :: _, h => exact h.2.2
theorem al_opens (h : Alike u v) : opensB u = opensB v := by unfold opensB; rw [al_tx h, al_kd h]
variable {L L' : Nat}
def likeT (t t' : Tok) : Prop := t.kind = t'.kind ∧ t.text = t'.text
theorem rl_take (T : List (List UInt8)) (h : Alike u v) : RL likeT (takeM L T u) (takeM L' T v) := by
  match u, v, h with
  | [], [], _ => exact RL.bad
  | t :: r, t' :: r', h =>
    unfold takeM
    exact RL.ite (by rw [h.2.1]) (RL.ok ⟨h.1, h.2.1⟩ h.2.2) RL.bad
theorem rl_name (h : Alike u v) : RL Eq (nameM L u) (nameM L' v) := by
  match u, v, h with
  | [], [], _ => exact RL.bad
  | t :: r, t' :: r', h =>
    unfold nameM
    exact RL.ite (by rw [h.1]) (RL.ok h.2.1 h.2.2) RL.bad
end
section
variable {α β : Type} {R : α → β → Prop} {RS : List α → List β → Prop} {shut : List UInt8} {least : Nat} {P : Nat → List Tok → Rd α} {Q : Nat → List Tok → Rd β}
end
section
variable {L L' : Nat} {u v : List Tok}
theorem mk_like {k : Int} {p p' n : Int} {s : List UInt8} {xs xs' : List Ex} (h : likeEs false xs xs') : likeE false (.mk k p n s xs) (.mk k p' n s xs') := by
  rw [likeE]; exact ⟨rfl, nofun, rfl, rfl, h⟩
theorem es_nil : likeEs false [] [] := by rw [likeEs]; trivial
theorem es_cons (a b : Ex) (l l' : List Ex) (h : likeE false a b) (hl : likeEs false l l') : likeEs false (a :: l) (b :: l') := by rw [likeEs]; exact ⟨h, hl⟩
variable {E E' : List Tok → Rd Ex}
theorem rl_br (hE : ∀ u v, Alike u v → RL (likeE false) (E u) (E' v)) (h : Alike u v) : RL (likeE false) (brM L E u) (brM L' E' v) := by
  unfold brM
  exact (rl_take _ h).bind fun _ _ r r' _ hr => (hE r r' hr).bind fun a a' r r' ha hr => (rl_take _ hr).map fun _ _ _ => ha
theorem rl_first (hE : ∀ u v, Alike u v → RL (likeE false) (E u) (E' v)) (h : Alike u v) : RL (likeE false) (firstM L E u) (firstM L' E' v) := by
  match u, v, h with
  | [], [], _ => exact RL.bad
  | t :: r, t' :: r', h =>
    obtain ⟨hk, ht, hr⟩ := h
    unfold firstM
    dsimp only
    rw [hk, ht]
    refine RL.ite Iff.rfl (RL.ok (mk_like es_nil) hr) (RL.ite Iff.rfl (RL.ok (mk_like es_nil) hr) (RL.ite Iff.rfl (RL.ok (mk_like es_nil) hr) (RL.ite Iff.rfl ?_ (RL.ite Iff.rfl ?_ (RL.ite Iff.rfl ?_ (RL.ite Iff.rfl ?_ (RL.ite Iff.rfl ?_ (RL.ite Iff.rfl (RL.ok (mk_like es_nil) hr) (RL.ok (mk_like es_nil) hr)))))))))
    · exact (rl_br hE hr).map fun a a' ha => mk_like (es_cons _ _ _ _ ha es_nil)
    · exact (rl_br hE hr).map fun a a' ha => mk_like (es_cons _ _ _ _ ha es_nil)
    · exact (rl_name hr).map fun a a' ha => by rw [ha]; exact mk_like es_nil
    · exact (rl_name hr).map fun a a' ha => by rw [ha]; exact mk_like es_nil
    · rw [al_tx hr]
      refine RL.ite Iff.rfl ?_ ?_
      · exact (hE _ _ (al_tail hr)).bind fun a a' r r' ha hr => (rl_take _ hr).map fun _ _ _ => mk_like (es_cons _ _ _ _ ha es_nil)
      · exact (hE _ _ hr).bind fun a a' r r' ha hr => (rl_take _ hr).bind fun o o' r r' ho hr => (hE _ _ hr).bind fun b b' r r' hb hr => (rl_take _ hr).map fun _ _ _ => by rw [ho.2]; exact mk_like (es_cons _ _ _ _ ha (es_cons _ _ _ _ hb es_nil))
theorem rl_link (hE : ∀ u v, Alike u v → RL (likeE false) (E u) (E' v)) {o o' : Ex} (ho : likeE false o o') (h : Alike u v) : RL (likeE false) (linkM L E o u) (linkM L' E' o' v) := by
  match u, v, h with
  | [], [], _ => exact RL.bad
  | t :: r, t' :: r', h =>
    obtain ⟨hk, ht, hr⟩ := h
    unfold linkM
    dsimp only
    rw [ht]
    refine RL.ite Iff.rfl ((rl_name hr).map fun a a' ha => by rw [ha]; exact mk_like (es_cons _ _ _ _ ho es_nil)) ?_
    refine (hE _ _ hr).bind fun a a' r r' ha hr => ?_
    rw [al_tx hr]
    refine RL.ite Iff.rfl ?_ ?_
    · exact (hE _ _ (al_tail hr)).bind fun b b' r r' hb hr => (rl_take _ hr).map fun _ _ _ => mk_like (es_cons _ _ _ _ ho (es_cons _ _ _ _ ha (es_cons _ _ _ _ hb es_nil)))
    · exact (rl_take _ hr).map fun _ _ _ => mk_like (es_cons _ _ _ _ ho (es_cons _ _ _ _ ha es_nil))
theorem rl_chain (hE : ∀ u v, Alike u v → RL (likeE false) (E u) (E' v)) : ∀ (n : Nat) {e e' : Ex} {u v : List Tok}, likeE false e e' → Alike u v → RL (likeE false) (chainM L E n e u) (chainM L' E' n e' v)
  | 0, e, e', u, v, he, h => by
    unfold chainM
    rw [al_tx h]
    exact RL.ite Iff.rfl RL.bad (RL.ok he h)
  | n + 1, e, e', u, v, he, h => by
    unfold chainM
    rw [al_tx h]
    exact RL.ite Iff.rfl ((rl_link hE he h).bind fun a a' r r' ha hr => rl_chain hE n ha hr) (RL.ok he h)
end
theorem rl_expr (L L' : Nat) : ∀ (n : Nat) (u v : List Tok), Alike u v → RL (likeE false) (exprM L n u) (exprM L' n v)
  | 0, u, v, h => by
    unfold exprM
    rw [al_opens h]
    exact RL.ite Iff.rfl RL.bad RL.bad
  | n + 1, u, v, h => by
    unfold exprM
    rw [al_opens h]
    exact RL.ite Iff.rfl ((rl_first (rl_expr L L' n) h).bind fun a a' r r' ha hr => rl_chain (rl_expr L L' n) 8 ha hr) RL.bad
section
variable {L L' : Nat}
end
end Go.Proofs.YtkmpnlbppdekaaaDoor
end
section
set_option linter.unusedVariables false
namespace Go.Proofs.YtkmpnlbppdekaaaDoor
open Go.RowKit
theorem prog_of {s : List UInt8} {us : List Tok} (h : toks s = .ok us) : progM s = match programM s.length us with | .bad p c => ([], p, c) | .ok ds _ => (ds, 0, 0) := by
  unfold progM
  simp only [h]
  cases programM s.length us <;> rfl
end Go.Proofs.YtkmpnlbppdekaaaDoor
end
section
set_option linter.unusedVariables false
namespace Go.Proofs.YtkmpnlbppdekaaaDoor
open Go.RowKit
def SamesL (w0 : World) (B : Nat) (es : List Ex) (v : Value) : Prop :=
  ∀ (t : Bool) (bs : List Ex) (u : Value), IsExs w0 (· < B) bs u → likeEs t es bs → ∀ (k p p' num deep : Int) (name : ByteArray) (w : World), (t = true → p = p') → Below B w0 w → B ≤ w.heap.size → -100000 ≤ deep → deep ≤ 100000 →
    Calls Tryd.prog 9 #[.agg #[.int .i64 k, .int .i64 p, .int .i64 num, .string name, v], .agg #[.int .i64 k, .int .i64 p', .int .i64 num, .string name, u], .bool t, .int .i64 deep] w
      fun e w' => e = .returned (.bool true) ∧ Below w.heap.size w w'
set_option maxHeartbeats 4000000 in
set_option maxRecDepth 100000 in
theorem sameexL_any {w0 : World} {B : Nat} {es : List Ex} {v : Value} (h : IsExs w0 (· < B) es v) : SamesL w0 B es v := by
  induction h with
  | mk es A c f hc hM hA hr ih =>
    intro t bs u hu hlk k p p' num deep name w hpp hb hB hd0 hd
    have hlen := likeEs_len hlk
    cases hu with
    | mk bs D d f' hc' hM' hA' hr' =>
    obtain ⟨ne, hne⟩ : ∃ ne, ne = es.length := ⟨_, rfl⟩
    rw [← hlen] at hc' ⊢
    rw [← hne] at hc hc' ⊢
    have hne6 : ne ≤ 9223372036854775807 := Nat.le_trans hc hM
    rw [← hne] at hlen
    have HNE := Lib.hid hne
    have HNB := Lib.hid hlen
    have HLK := Lib.hid hlk
    have HB0 := Lib.hid hb
    have HIH := Lib.hid ih
    have HA1 := Lib.hid hA
    have HA2 := Lib.hid hA'
    have HR2 := Lib.hid hr'
    have hpt : (t && (p != p')) = false := by
      cases t with
      | false => rfl
      | true => rw [hpp rfl]; simp
    have hpp1 : t = true → (p != p') = false := fun h => by rw [hpp h]; simp
    have HPP := Lib.hid hpp1
    have e2 : (name.toList != name.toList) = false := by simp
    clear hne hlen hlk hb ih hA hr hA' hr' hpt hpp1
    have key : ∀ (tt : Bool), tt = t → ((tt = true → (p != p') = false) → Calls Tryd.prog 9 #[.agg #[.int .i64 k, .int .i64 p, .int .i64 num, .string name, .slice A ne c], .agg #[.int .i64 k, .int .i64 p', .int .i64 num, .string name, .slice D ne d], .bool tt, .int .i64 deep] w
      fun e w' => e = .returned (.bool true) ∧ Below w.heap.size w w') := by
      intro tt htt hq
      have HTT := Lib.hid htt
      clear htt
      cases tt
      all_goals
        first
        | (have hq1 := hq rfl)
        | skip
        clear hq
        go_enter Tryd.func9, Tryd.ntmps9
        go_wp2
        obtain ⟨X, hX⟩ : ∃ X : World, X = (w.alloc (.cells #[.int .i64 k, .int .i64 p, .int .i64 num, .string name, .slice A ne c] 32)).alloc (.cells #[.int .i64 k, .int .i64 p', .int .i64 num, .string name, .slice D ne d] 32) := ⟨_, rfl⟩
        obtain ⟨g, hg⟩ : ∃ g, g = w.heap.size := ⟨_, rfl⟩
        have hx1 : ExBlk X g k p num name (.slice A ne c) := by
          rw [hX, hg]; exact (ExBlk.new w _ _ _ _ _).alloc (by simp) _
        have hx2 : ExBlk X (g + 1) k p' num name (.slice D ne d) := by
          rw [hX, hg]
          have h := ExBlk.new (w.alloc (.cells #[.int .i64 k, .int .i64 p, .int .i64 num, .string name, .slice A ne c] 32)) k p' num name (.slice D ne d)
          rw [show (w.alloc (.cells #[.int .i64 k, .int .i64 p, .int .i64 num, .string name, .slice A ne c] 32)).heap.size = w.heap.size + 1 from by simp] at h
          exact h
        have hxs : X.heap.size = g + 2 := by rw [hX, hg]; simp
        have hxb : Below g w X := by rw [hX, hg]; exact ((Below.refl _ w).alloc (Nat.le_refl _) _).alloc (by simp) _
        rw [← hX, ← hg]
        have HX1 := Lib.hid hx1
        have HX2 := Lib.hid hx2
        have HXS := Lib.hid hxs
        have HXB := Lib.hid hxb
        have HG := Lib.hid hg
        clear hX hx1 hx2 hxs hxb hg
        go_loopw [9] (fun i wr => ∃ j : Nat, j ≤ ne ∧ i = .int .i64 j ∧ Hid (Below (g + 2) X wr)) (fun i _ => ne - (intOf i).toNat)
        case atStart => exact ⟨0, Nat.zero_le _, rfl, Lib.hid (Below.refl _ _)⟩
        case round =>
          obtain ⟨wo, rfl⟩ : ∃ wo : World, wo = wr := ⟨_, rfl⟩
          obtain ⟨j, hj, rfl, HBL⟩ := hrel
          have hb1 := HX1.out.below HBL.out (by omega)
          have hb2 := HX2.out.below HBL.out (by omega)
          have k0 := hb1.c0
          have k4 := hb1.c4
          have m0 := hb2.c0
          have m4 := hb2.c4
          by_cases hgo : j < ne ∧ 0 < deep
          · obtain ⟨hlt, hdp⟩ := hgo
            have hje : j < es.length := by rw [← HNE.out]; exact hlt
            have hjb : j < bs.length := by rw [← HNB.out]; exact hlt
            obtain ⟨b, off, rfl, hbB, _, p0, p1, p2, p3, p4⟩ := HA1.out j hje
            obtain ⟨b', off', rfl, hbB', _, q0, q1, q2, q3, q4⟩ := HA2.out j hjb
            have hbw : Below B w0 wo := HB0.out.trans ((HXB.out.trans (HBL.out.mono (by omega))).mono (by rw [HG.out]; exact hB))
            have hsx : B ≤ wo.heap.size := by have := HG.out; have := HBL.out.size; have := HXS.out; omega
            obtain ⟨l1, l2, l3, l4, l5⟩ := likeE_parts (likeEs_get HLK.out j hje hjb)
            have hcc := HIH.out j hje t bs[j].args (f' j) (HR2.out j hjb) l5 es[j].kind es[j].pl bs[j].pl es[j].num (deep - 1) (strOf es[j].name) wo.drew l2 hbw.drew (by simpa using hsx) (by omega) (by omega)
            have r0 := (hbw.cell (p := ⟨b, off + j * 5, none⟩) hbB).trans p0
            have r1 := (hbw.cell (p := ⟨b, off + j * 5 + 1, none⟩) hbB).trans p1
            have r2 := (hbw.cell (p := ⟨b, off + j * 5 + 2, none⟩) hbB).trans p2
            have r3 := (hbw.cell (p := ⟨b, off + j * 5 + 3, none⟩) hbB).trans p3
            have r4 := (hbw.cell (p := ⟨b, off + j * 5 + 4, none⟩) hbB).trans p4
            have s0 := (hbw.cell (p := ⟨b', off' + j * 5, none⟩) hbB').trans q0
            have s1 := (hbw.cell (p := ⟨b', off' + j * 5 + 1, none⟩) hbB').trans q1
            have s2 := (hbw.cell (p := ⟨b', off' + j * 5 + 2, none⟩) hbB').trans q2
            have s3 := (hbw.cell (p := ⟨b', off' + j * 5 + 3, none⟩) hbB').trans q3
            have s4 := (hbw.cell (p := ⟨b', off' + j * 5 + 4, none⟩) hbB').trans q4
            rw [← l1] at s0
            rw [← l3] at s2
            rw [← l4] at s3
            obtain ⟨yk, hyk⟩ : ∃ x, x = es[j].kind := ⟨_, rfl⟩
            obtain ⟨yp, hyp⟩ : ∃ x, x = es[j].pl := ⟨_, rfl⟩
            obtain ⟨zp, hzp⟩ : ∃ x, x = bs[j].pl := ⟨_, rfl⟩
            obtain ⟨yn, hyn⟩ : ∃ x, x = es[j].num := ⟨_, rfl⟩
            obtain ⟨ys, hys⟩ : ∃ x, x = strOf es[j].name := ⟨_, rfl⟩
            obtain ⟨yv, hyv⟩ : ∃ x, x = f j := ⟨_, rfl⟩
            obtain ⟨zv, hzv⟩ : ∃ x, x = f' j := ⟨_, rfl⟩
            rw [← hyk, ← hyp, ← hzp, ← hyn, ← hys, ← hyv, ← hzv] at hcc
            rw [← hyk] at r0 s0
            rw [← hyp] at r1
            rw [← hzp] at s1
            rw [← hyn] at r2 s2
            rw [← hys] at r3 s3
            rw [← hyv] at r4
            rw [← hzv] at s4
            rw [← HTT.out] at hcc
            have HCC := Lib.hid hcc
            clear hcc l1 l2 l3 l4 l5 hyk hyp hzp hyn hys hyv hzv p0 p1 p2 p3 p4 q0 q1 q2 q3 q4 hbw HIH HA1 HA2
            have bb : -9223372036854775808 ≤ deep - 1 ∧ deep - 1 ≤ 9223372036854775807 := by omega
            have rr := IntWalk.i64_in _ bb
            clear bb
            go_wp2
            go_still_tail 13, (by kernel_rfl)
            change wpList _ _ _ _ _ wo.drew
            clear rr
            go_wp2_with (first
              | ((with_reducible refine HCC.out.mono ?_); rintro e w1 ⟨rfl, hb1'⟩))
            have hs1 := hb1'.size
            go_roundw
            case rel => exact ⟨j + 1, by omega, by go_num, Lib.hid ((HBL.out.drew).trans (hb1'.mono (by have h1 := HBL.out.size; have h2 := HXS.out; simp; omega)))⟩
            case measure => simp [intOf]; omega
          · clear HIH HA1 HA2
            have hcase : j = ne ∨ (j < ne ∧ deep ≤ 0) := by
              rcases Nat.lt_or_ge j ne with h | h
              · exact .inr ⟨h, by
                  rcases Int.lt_or_le 0 deep with h2 | h2
                  · exact absurd ⟨h, h2⟩ hgo
                  · exact h2⟩
              · exact .inl (by omega)
            have hend : Below w.heap.size w wo := by rw [← HG.out]; exact HXB.out.trans (HBL.out.mono (by omega))
            clear hgo
            rcases hcase with h | ⟨h, h'⟩
            all_goals
              go_wp2
              go_ret
              exact ⟨rfl, hend⟩
    exact key t rfl HPP.out
end Go.Proofs.YtkmpnlbppdekaaaDoor
end
