/- Xo -/
import Derived.Test.YtodociiaobjfgaaGreatDoorVe6
import Derived.Test.YtodociiaobjfgaaGreatDoorVe7
set_option linter.unusedVariables false
set_option linter.unusedSimpArgs false
namespace Go.Proofs.YtodociiaobjfgaaGreatDoor
open Go.RowKit
theorem Xnb : ∀ (ps : List Pr) (n m : Int), goP ps n m ≤ m → 0 ≤ n → ∀ p ∈ ps, (p.name.length : Int) ≤ m ∧ (p.type.length : Int) ≤ m
 | [], n, m, h, h0, p, hp => by cases hp
 | q :: ps, n, m, h, h0, p, hp => by
   rw [goP] at h
   split at h
   · have hm := Xhm ps (n + (1 + (q.name.length : Int) + (q.type.length : Int))) m
     rcases List.mem_cons.1 hp with rfl | hp
     · omega
     · exact Xnb ps _ m h (by omega) p hp
   · omega
theorem Xuv (s : Dc) (n m d : Int) (h : goD s n m d ≤ m) (h0 : 0 ≤ n) (hd : 0 ≤ d) (hm : m ≤ 40000) : Xcy s := by
 obtain ⟨n2, e2, e4⟩ := Xpb s n m d
 have hp := Xhm s.pairs (n + (1 + (s.name.length : Int) + (s.type.length : Int))) m
 rw [e4] at h
 have b2 : n2 ≤ m := by
  by_cases h3 : n2 ≤ m
  · exact h3
  · rw [if_neg h3] at h; exact h
 rw [if_pos b2] at h
 have hw := Xdq s.body (m - n2) d (by omega)
 obtain ⟨d1, d2, d3⟩ := Xew s.body (m - n2) d (d + 60) 40000 (by omega) hd (by omega) (by omega)
 have hn := Xnb s.pairs _ m (by rw [← e2]; exact b2) (by omega)
 exact ⟨by omega, by omega, fun p hp => by obtain ⟨a, b⟩ := hn p hp; omega, d2⟩
theorem Xkx : ∀ (ds : List Dc) (n m d : Int), goDs ds n m d ≤ m → 0 ≤ n → 0 ≤ d → m ≤ 40000 → ∀ (k : Nat) (hk : k < ds.length), Xcy ds[k]
 | [], n, m, d, h, h0, hd, hm, k, hk => absurd hk (by simp)
 | s :: ss, n, m, d, h, h0, hd, hm, k, hk => by
   rw [goDs] at h
   split at h
   · have p1 := Xls s n m d
     have p2 := Xhl ss (goD s n m d) m d
     cases k with
     | zero => exact Xuv s n m d (by omega) h0 hd hm
     | succ k => exact Xkx ss _ m d h (by omega) hd hm k (by simpa using hk)
   · omega
structure Light (ds : List Dc) : Prop where
 nm : ∀ (k : Nat) (hk : k < ds.length), Xcy ds[k]
 sm : ∀ (k : Nat) (hk : k < ds.length), Xlg 1000000 ds[k]
 ln : ds.length ≤ 40000
 cp : ds.map (Xfk · 300) = ds
theorem light_of {ds : List Dc} (h : goDs ds 0 40000 60 ≤ 40000) : Light ds := by
 obtain ⟨a, b, c⟩ := Xkw ds 0 40000 60 300 1000000 h (by omega) (by omega) (by omega) (by omega)
 exact ⟨Xkx ds 0 40000 60 h (by omega) (by omega) (by omega), b, by omega, c⟩
theorem Xro {w : World} {ds : List Dc} {v : Value} (h : Xdl w (· < w.heap.size) ds v) (hl : Light ds) (w1 : World) (hb : Below w.heap.size w w1) (hs : w.heap.size ≤ w1.heap.size) :
  Calls Tryz.prog 6 #[.agg #[v], .int .i64 300] w1 fun e w2 => ∃ v', e = .returned (.agg #[v']) ∧ Xdl w2 (fun b => w1.heap.size ≤ b ∧ b < w2.heap.size) ds v' ∧ Below w1.heap.size w1 w2 := by
 have hc := Xud h hl.sm (by have := hl.ln; omega) 300 w1 hb hs (by omega) (by omega)
 rw [hl.cp] at hc
 exact hc
theorem Xut (C : Ts) : fin C = ([], 23) ∨ ∃ T, lim C = some T ∧ fits T ∧ fin C = (Xbj T, 0) := by
 unfold fin
 cases hC : lim C with
 | none => exact .inl rfl
 | some T =>
   refine .inr ⟨T, rfl, ?_, rfl⟩
   cases C with
   | none => cases hC
   | some U => unfold lim at hC; simp only at hC; split at hC <;> simp_all
end Go.Proofs.YtodociiaobjfgaaGreatDoor
