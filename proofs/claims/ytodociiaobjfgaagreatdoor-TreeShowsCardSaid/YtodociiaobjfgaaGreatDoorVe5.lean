/- Ktc -/
import Derived.Test.YtodociiaobjfgaaGreatDoorVc3
import Derived.Test.YtodociiaobjfgaaGreatDoorVe3
set_option linter.unusedVariables false
set_option linter.unusedSimpArgs false
namespace Go.Proofs.YtodociiaobjfgaaGreatDoor
open Go.RowKit
theorem Xdp {p : Prop} [Decidable p] {c : Ts} {T : List (List UInt8)} (h : need p c = some T) : p ∧ c = some T := by
 unfold need at h
 split at h
 · rename_i hp; exact ⟨hp, h⟩
 · cases h
theorem Xvf {d : Dc} {T : List (List UInt8)} (h : penD d = some T) : Xeq d = true := by
 cases e : Xeq d with
 | true => rfl
 | false => rw [Xvh e] at h; cases h
set_option maxHeartbeats 2000000 in
theorem Xst {w0 : World} {B : Nat} (dc : Dc) {a b : Value} (hps : Xcl w0 (· < B) dc.pairs a) (hbd : Xcc w0 (· < B) dc.body b) (hsm : Xcy dc) {T : List (List UInt8)} (hT : penD dc = some T) (hTl : T.length ≤ 100000) (w : World) (hbw : Below B w0 w) (hB : B ≤ w.heap.size) :
  Calls Tryz.prog 18 #[.agg #[.int .i64 dc.kind, .int .i64 dc.pl, .int .i64 dc.num, .string (Xaa dc.name), .string (Xaa dc.type), a, b]] w (Xch w T) := by
 obtain ⟨A5, m5, hea, _, _, hA⟩ := id hps
 obtain ⟨A6, m6, heb, _, _⟩ := hbd.slice
 subst hea
 subst heb
 obtain ⟨s1, s2, s3, s4⟩ := hsm
 have hblock := Xpo hbd s4
 have hh := Xvf hT
 have hh2 : 1 ≤ dc.kind ∧ dc.kind ≤ 8 := by
  unfold Xeq at hh
  have := of_decide_eq_true hh
  exact ⟨this.1, this.2.1⟩
 obtain ⟨k, p, num, nm, ty, prs, bd⟩ := dc
 have hk1 : 1 ≤ k := hh2.1
 have hk2 : k ≤ 8 := hh2.2
 have s2 : ty.length ≤ 40000 := s2
 have s3 : ∀ q ∈ prs, q.name.length ≤ 40000 ∧ q.type.length ≤ 40000 := s3
 show Calls Tryz.prog 18 #[.agg #[.int .i64 k, .int .i64 p, .int .i64 num, .string (Xaa nm), .string (Xaa ty), .slice A5 prs.length m5, .slice A6 bd.length m6]] w (Xch w T)
 obtain ⟨X, hX⟩ : ∃ X : World, X = w.alloc (.cells #[.int .i64 k, .int .i64 p, .int .i64 num, .string (Xaa nm), .string (Xaa ty), .slice A5 prs.length m5, .slice A6 bd.length m6] 41) := ⟨_, rfl⟩
 have hbx : Below w.heap.size w X := by rw [hX]; exact (Below.refl _ _).alloc (Nat.le_refl _) _
 have hrow : Xar X w.heap.size k p num (Xaa nm) (Xaa ty) (.slice A5 prs.length m5) (.slice A6 bd.length m6) := by rw [hX]; exact Xar.new _ _ _ _ _ _ _ _
 have hB0 : ∀ V : World, Below X.heap.size X V → Below B w0 V ∧ B ≤ V.heap.size := fun V hV => ⟨hbw.trans ((hbx.trans (hV.mono hbx.size)).mono hB), Nat.le_trans hB (Nat.le_trans hbx.size hV.size)⟩
 obtain ⟨TY, hTY⟩ : ∃ x, x = (tyT ty).getD [] := ⟨_, rfl⟩
 have mk : ∀ B1 : List (List UInt8), T ≠ [] → (B1 ≠ [] → penB bd 1 = some B1 ∧ B1.length ≤ 100000) →
   DkF w X w.heap.size k p num (Xaa nm) (Xaa ty) A5 A6 m5 m6 prs.length bd.length nm ty prs B1 TY T := fun B1 h0 h1 => {
  HX := lh hX
  HG := lh rfl
  HGL := lh (Xab hrow)
  HC := lh fun V hV => by
   have h := hrow.below hV (Xab hrow)
   exact ⟨h.c0, h.c2, h.c3, h.c4, h.c5, h.c6⟩
  HPR := lh fun j hj => by
   obtain ⟨b, off, e1, e2, _, _, c0, c1⟩ := hA j hj
   refine ⟨b, off, e1, (s3 _ (List.getElem_mem hj)).2, fun V hV => ?_⟩
   have e := (hB0 V hV).1
   exact ⟨(e.cell (p := ⟨b, _, none⟩) e2).trans c0, (e.cell (p := ⟨b, _, none⟩) e2).trans c1⟩
  HTY := lh fun h V => by
   have e : tyT ty = some TY := by
    cases e : tyT ty with
    | none => rw [e] at hTY; exact absurd hTY h
    | some x => rw [e] at hTY; rw [hTY]; rfl
   exact Xfj V ty s2 e
  HTN := lh fun h V => by rw [h]; exact Xxj V
  HB1 := lh fun h V hV => hblock 1 B1 V (h1 h).1 (h1 h).2 (hB0 V hV).1 (hB0 V hV).2
  HEND := lh fun V hV => hbx.trans (hV.mono hbx.size)
  HSN := lh rfl
  HNP := lh rfl
  HTL := lh hTl
  HT0 := lh h0 }
 have hn0 : ∀ {P : Prop}, ([] : List (List UInt8)) ≠ [] → P := fun h => absurd rfl h
 have hTy : ∀ {U : List (List UInt8)}, tyT ty = some U → TY = U ∧ TY ≠ [] := fun {U} h => by
  have h2 : TY = U := by rw [hTY, h]; rfl
  refine ⟨h2, ?_⟩
  have := Xev h
  intro h3; rw [← h2, h3] at this; simp at this
 unfold penD at hT
 simp only at hT
 obtain ⟨x, y, e1, e2, hxy⟩ := Xbi hT
 obtain ⟨hnm, e1⟩ := Xdp e1
 obtain rfl : x = [] := (Option.some.inj e1).symm
 rw [List.nil_append] at hxy
 subst hxy
 clear hT e1 hh hh2 hA hps hbd hblock hX hrow hbx hB0
 rcases Xqj hk1 hk2 with rfl | rfl | rfl | rfl | rfl | rfl | rfl | rfl
 all_goals
  simp only [Int.reduceEq, reduceIte] at e2
 · obtain ⟨_, e3⟩ := Xdp e2
   have e4 := Option.some.inj e3
   exact dk_1 (mk [] (by rw [← e4]; simp) hn0) (by rw [← e4]; simp [Xbf])
 · obtain ⟨hc, e3⟩ := Xdp e2
   have e4 := Option.some.inj e3
   exact dk_2 (mk [] (by rw [← e4]; simp) hn0) ⟨hc.1, hc.2.1⟩ (by rw [← e4]; simp)
 · obtain ⟨hc, e3⟩ := Xdp e2
   obtain ⟨u, v, f1, f2, rfl⟩ := Xbi e3
   obtain ⟨R0, z, f3, f4, rfl⟩ := Xbi f2
   obtain rfl := Option.some.inj f1
   obtain rfl := Option.some.inj f4
   exact dk_3 (mk [] (by simp) hn0) hc.2.2.1 f3 (by simp)
 · obtain ⟨hc, e3⟩ := Xdp e2
   obtain ⟨u, v, f1, f2, rfl⟩ := Xbi e3
   obtain ⟨U, z, f3, f4, rfl⟩ := Xbi f2
   obtain rfl := Option.some.inj f1
   obtain rfl := Option.some.inj f4
   obtain ⟨h1, h2⟩ := hTy f3
   exact dk_4 (mk [] (by simp) hn0) h2 (by rw [h1]; simp [Xbf])
 · obtain ⟨_, e3⟩ := Xdp e2
   have e4 := Option.some.inj e3
   exact dk_5 (mk [] (by rw [← e4]; simp) hn0) (by rw [← e4]; simp)
 · obtain ⟨_, e3⟩ := Xdp e2
   have e4 := Option.some.inj e3
   exact dk_6 (mk [] (by rw [← e4]; simp) hn0) (by rw [← e4]; simp)
 · obtain ⟨hc, e3⟩ := Xdp e2
   obtain ⟨u, v, f1, f2, rfl⟩ := Xbi e3
   obtain ⟨R0, v2, f3, f4, rfl⟩ := Xbi f2
   obtain ⟨u3, v3, f5, f6, rfl⟩ := Xbi f4
   obtain ⟨U, B1, f7, f8, rfl⟩ := Xbi f6
   obtain rfl := Option.some.inj f1
   obtain rfl := Option.some.inj f5
   have hB1n : B1 ≠ [] := by
    obtain ⟨_, C, _, h⟩ := Xjq f8
    rw [h]; simp
   have hB1l : B1.length ≤ 100000 := by simp at hTl; omega
   have F := mk B1 (by simp) (fun _ => ⟨f8, hB1l⟩)
   by_cases hty : ty = []
   · rw [if_pos hty] at f7
     obtain rfl := Option.some.inj f7
     exact dk_7n F hty hB1n (by omega) f3 (by simp)
   · rw [if_neg hty] at f7
     obtain ⟨h1, h2⟩ := hTy f7
     exact dk_7 F h2 hB1n (by omega) f3 (by rw [h1]; simp)
 · obtain ⟨hc, e3⟩ := Xdp e2
   obtain ⟨u, B1, f1, f8, rfl⟩ := Xbi e3
   obtain rfl := Option.some.inj f1
   have hB1n : B1 ≠ [] := by
    obtain ⟨_, C, _, h⟩ := Xjq f8
    rw [h]; simp
   have hB1l : B1.length ≤ 100000 := by simp at hTl; omega
   exact dk_8 (mk B1 (by simp) (fun _ => ⟨f8, hB1l⟩)) hB1n (by simp)
end Go.Proofs.YtodociiaobjfgaaGreatDoor
