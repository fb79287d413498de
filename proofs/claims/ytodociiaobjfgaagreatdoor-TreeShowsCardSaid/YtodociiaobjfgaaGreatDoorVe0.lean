/- Kr Kh Kua Un Uo Up Ko0 Kma Koa -/
import Derived.Test.YtodociiaobjfgaaGreatDoorVd1
import Derived.Maps.AppendAt
set_option linter.unusedVariables false
set_option linter.unusedSimpArgs false
namespace Go.Proofs.YtodociiaobjfgaaGreatDoor
open Go.RowKit
def Xri (w0 : World) (B : Nat) (ss : List Sm) (v : Value) : Prop :=
 ∀ (d : Int) (T : List (List UInt8)) (w : World), penB ss d = some T → T.length ≤ 100000 → Below B w0 w → B ≤ w.heap.size → Calls Tryz.prog 35 #[v] w (Xch w T)
def RefST (w0 : World) (B : Nat) (s : Sm) (E b l : Value) : Prop :=
 ∀ (d : Int) (T : List (List UInt8)) (w : World), penS s d = some T → T.length ≤ 100000 → Below B w0 w → B ≤ w.heap.size →
  Calls Tryz.prog 50 #[.agg #[.int .i64 s.kind, .int .i64 s.pl, .string (Xaa s.name), .string (Xaa s.type), E, b, l]] w (Xch w T)
theorem Xbi {a b : Ts} {T : List (List UInt8)} (h : cat a b = some T) : ∃ x y, a = some x ∧ b = some y ∧ T = x ++ y := by
 cases a with
 | none => cases h
 | some x => cases b with
   | none => cases h
   | some y => cases h; exact ⟨x, y, rfl, rfl, rfl⟩
theorem Xle {k p : Int} {nm ty : List UInt8} {ex : List Ex} {bd el : List Sm} {d : Int} {T : List (List UInt8)} (h : penS (.mk k p nm ty ex bd el) d = some T) :
  Xay k nm ty ex bd.length el.length = true ∧ ∃ xs, Xdc ex (d + 1) = some xs ∧ ((¬ (k = 3 ∨ k = 4) ∧ T = Xbc k nm ty xs) ∨ ((k = 3 ∨ k = 4) ∧ ∃ B1, penB bd (d + 1) = some B1 ∧
   ((el.length = 0 ∧ T = [Xbf k] ++ (xs.flatten ++ (B1 ++ []))) ∨ (¬ el.length = 0 ∧ ∃ B2, penB el (d + 1) = some B2 ∧ T = [Xbf k] ++ (xs.flatten ++ (B1 ++ ([[101, 108, 115, 101]] ++ (B2 ++ [])))))))) := by
 rw [penS] at h
 split at h
 · rename_i hh
   refine ⟨hh, ?_⟩
   split at h
   · cases h
   · rename_i xs hx
     refine ⟨xs, hx, ?_⟩
     split at h
     · rename_i hk
       refine .inr ⟨hk, ?_⟩
       obtain ⟨x, y, e1, e2, rfl⟩ := Xbi h
       obtain ⟨B1, z, e3, e4, rfl⟩ := Xbi e2
       refine ⟨B1, e3, ?_⟩
       cases e1
       split at e4
       · rename_i h0
         cases e4
         exact .inl ⟨h0, by simp⟩
       · rename_i h0
         obtain ⟨u, B2, e5, e6, rfl⟩ := Xbi e4
         cases e5
         exact .inr ⟨h0, B2, e6, by simp⟩
     · rename_i hk
       cases h
       exact .inl ⟨hk, rfl⟩
 · cases h
theorem Xjq {ss : List Sm} {d : Int} {T : List (List UInt8)} (h : penB ss d = some T) : d ≤ 24 ∧ ∃ C, Xdd ss d = some C ∧ T = [[123]] ++ (C ++ ([[125]] ++ [])) := by
 unfold penB Xcv at h
 split at h
 · rename_i hd
   obtain ⟨x, y, e1, e2, rfl⟩ := Xbi h
   obtain ⟨C, z, e3, e4, rfl⟩ := Xbi e2
   cases e1; cases e4
   exact ⟨hd, C, e3, by simp⟩
 · cases h
theorem Xqp {α : Type} {xs : List α} (h : xs.length = 1) : ∃ a, xs = [a] := by
 match xs, h with
 | [a], _ => exact ⟨a, rfl⟩
theorem two_of {α : Type} {xs : List α} (h : xs.length = 2) : ∃ a b, xs = [a, b] := by
 match xs, h with
 | [a, b], _ => exact ⟨a, b, rfl⟩
set_option maxHeartbeats 2000000 in
theorem Xwi {w0 : World} {B : Nat} (s : Sm) {E b l : Value} (hE : ∃ A c, E = .slice A s.exprs.length c ∧ Xtr w0 B s.exprs A) (hn : s.name.length ≤ 40000) (ht : s.type.length ≤ 40000)
  (hb : Xri w0 B s.body b) (hl : Xri w0 B s.els l) (hbs : ∃ A c, b = .slice A s.body.length c) (hls : ∃ A c, l = .slice A s.els.length c) : RefST w0 B s E b l := by
 obtain ⟨k, p, nm, ty, ex, bd, el⟩ := s
 intro d T w hT hTl hbw hB
 obtain ⟨A, c, rfl, hA⟩ := hE
 obtain ⟨A2, m2, rfl⟩ := hbs
 obtain ⟨A3, m3, rfl⟩ := hls
 have hA : Xtr w0 B ex A := hA
 have ht : ty.length ≤ 40000 := ht
 have hb : Xri w0 B bd (.slice A2 bd.length m2) := hb
 have hl : Xri w0 B el (.slice A3 el.length m3) := hl
 show Calls Tryz.prog 50 #[.agg #[.int .i64 k, .int .i64 p, .string (Xaa nm), .string (Xaa ty), .slice A ex.length c, .slice A2 bd.length m2, .slice A3 el.length m3]] w (Xch w T)
 obtain ⟨hh, xs, hxs, hcs⟩ := Xle hT
 have hT0 : T ≠ [] := by
  have := (Xki _ d 0).2 T hT
  intro h; rw [h] at this; simp at this
 obtain ⟨k1, k2⟩ := Xem hh
 have hxl := Xhq _ _ _ hxs
 have hxlen : ∀ (j : Nat) (hj : j < xs.length), xs[j].length ≤ 100000 := fun j hj => by
  have h1 := Xmb (xs := xs) j hj
  have h2 : (xs.map List.length).sum = sumL xs := rfl
  rcases hcs with ⟨hk, rfl⟩ | ⟨hk, B1, _, ⟨_, rfl⟩ | ⟨_, B2, _, rfl⟩⟩
  · rw [Xik hh hxl hk] at hTl; omega
  · rw [List.length_append, List.length_append, Xix] at hTl; omega
  · rw [List.length_append, List.length_append, Xix] at hTl; omega
 obtain ⟨X, hX⟩ : ∃ X : World, X = w.alloc (.cells #[.int .i64 k, .int .i64 p, .string (Xaa nm), .string (Xaa ty), .slice A ex.length c, .slice A2 bd.length m2, .slice A3 el.length m3] 38) := ⟨_, rfl⟩
 have hbx : Below w.heap.size w X := by rw [hX]; exact (Below.refl _ _).alloc (Nat.le_refl _) _
 have hrow : Xbp X w.heap.size k p (Xaa nm) (Xaa ty) (.slice A ex.length c) (.slice A2 bd.length m2) (.slice A3 el.length m3) := by rw [hX]; exact Xbp.new _ _ _ _ _ _ _ _
 have hB0 : ∀ V : World, Below X.heap.size X V → Below B w0 V ∧ B ≤ V.heap.size := fun V hV => ⟨hbw.trans ((hbx.trans (hV.mono hbx.size)).mono hB), Nat.le_trans hB (Nat.le_trans hbx.size hV.size)⟩
 obtain ⟨TY, hTY⟩ : ∃ x, x = (tyT ty).getD [] := ⟨_, rfl⟩
 have mk : ∀ B1 B2 : List (List UInt8), (B1 ≠ [] → penB bd (d + 1) = some B1 ∧ B1.length ≤ 100000) → (B2 ≠ [] → penB el (d + 1) = some B2 ∧ B2.length ≤ 100000) →
   TkF w X w.heap.size k p (Xaa nm) (Xaa ty) A A2 A3 c m2 m3 ex.length bd.length el.length ty.isEmpty nm.isEmpty nm ty xs B1 B2 TY T := fun B1 B2 h1 h2 => {
  HX := lh hX
  HG := lh rfl
  HGL := lh (Xab hrow)
  HC := lh fun V hV => by
   have h := hrow.below hV (Xab hrow)
   exact ⟨h.c0, h.c2, h.c3, h.c4, h.c5, h.c6⟩
  HTK := lh fun j hj => by
   have hje : j < ex.length := by rw [← hxl]; exact hj
   obtain ⟨b, off, yk, yp, yn, ys, yv, h1, h2, h3, h4, h5, h6, h7, h8⟩ := hA j hje
   refine ⟨b, off, yk, yp, yn, ys, yv, h1, fun V hV => ?_, fun V hV => ?_⟩
   · have e := (hB0 V hV).1
     exact ⟨(e.cell (p := ⟨b, _, none⟩) h2).trans h3, (e.cell (p := ⟨b, _, none⟩) h2).trans h4, (e.cell (p := ⟨b, _, none⟩) h2).trans h5, (e.cell (p := ⟨b, _, none⟩) h2).trans h6, (e.cell (p := ⟨b, _, none⟩) h2).trans h7⟩
   · exact h8 (d + 1) xs[j] V (Xnq _ _ _ hxs j hje hj) (hxlen j hj) (hB0 V hV).1 (hB0 V hV).2
  HTY := lh fun h V hV => by
   have e : tyT ty = some TY := by
    cases e : tyT ty with
    | none => rw [e] at hTY; exact absurd hTY h
    | some x => rw [e] at hTY; rw [hTY]; rfl
   exact Xfj V ty ht e
  HB1 := lh fun h V hV => hb (d + 1) B1 V (h1 h).1 (h1 h).2 (hB0 V hV).1 (hB0 V hV).2
  HB2 := lh fun h V hV => hl (d + 1) B2 V (h2 h).1 (h2 h).2 (hB0 V hV).1 (hB0 V hV).2
  HEND := lh fun V hV => hbx.trans (hV.mono hbx.size)
  HSN := lh rfl
  HST := lh rfl
  HNX := lh hxl.symm
  HTL := lh hTl
  HT0 := lh hT0
  hse := by rw [Xaf]
  hsz := by rw [Xaf] }
 have hcase := Xlh k1 k2 nm ty ex bd.length el.length
 rw [hh] at hcase
 simp only [true_and, Bool.true_eq_false, false_and, or_false] at hcase
 have htyn : tyN ty = TY.length := by rw [hTY]; rfl
 rw [htyn] at hcase
 have hnm0 : nm.isEmpty = false ∨ nm = [] := by cases nm <;> simp
 have hnb0 : Xam nm = true → nm.isEmpty = false := fun h => by
  rcases hnm0 with h1 | h1
  · exact h1
  · rw [h1] at h; exact absurd h (by decide)
 generalize Xam nm = bn at *
 generalize Xam ty = bt at *
 obtain ⟨nx, hnx⟩ : ∃ n, n = ex.length := ⟨_, rfl⟩
 obtain ⟨nb, hnb⟩ : ∃ n, n = bd.length := ⟨_, rfl⟩
 obtain ⟨nl, hnl⟩ : ∃ n, n = el.length := ⟨_, rfl⟩
 obtain ⟨em, hem⟩ : ∃ n, n = ty.isEmpty := ⟨_, rfl⟩
 obtain ⟨bz, hbz⟩ : ∃ n, n = nm.isEmpty := ⟨_, rfl⟩
 have hemE : em = true → ty = [] := fun h => List.isEmpty_iff.1 (hem ▸ h)
 have hemN : em = false → ty ≠ [] := fun h h2 => by rw [h2] at hem; rw [h] at hem; cases hem
 have hsim : ∀ {K : Int}, ¬ (K = 3 ∨ K = 4) → (¬ (K = 3 ∨ K = 4) ∧ T = Xbc K nm ty xs ∨ (K = 3 ∨ K = 4) ∧ ∃ B1, penB bd (d + 1) = some B1 ∧ ((nl = 0 ∧ T = [Xbf K] ++ (xs.flatten ++ (B1 ++ []))) ∨ (¬ nl = 0 ∧ ∃ B2, penB el (d + 1) = some B2 ∧ T = [Xbf K] ++ (xs.flatten ++ (B1 ++ ([[101, 108, 115, 101]] ++ (B2 ++ []))))))) → T = Xbc K nm ty xs := fun h h2 => by
  rcases h2 with h2 | h2
  · exact h2.2
  · exact absurd h2.1 h
 rw [← hnx, ← hnb, ← hnl, ← hem, ← hbz] at hcase mk
 rw [← hnx] at hxl
 rw [← hnl] at hcs
 rw [← hnx, ← hnb, ← hnl]
 rw [← hbz] at hnb0
 clear hh hA hb hl hX hrow hbx hxs hxlen hT hnm0 hB0 htyn hem hbz hnx hnb hnl
 have h0 : ∀ {P : Prop}, ([] : List (List UInt8)) ≠ [] → P := fun h => absurd rfl h
 rcases hcase with hok | hok
 · rcases hok with ⟨rfl, -, rfl, -, -, -, ht0, rfl, -, -, -⟩ | ⟨rfl, -, rfl, rfl, rfl, -, -, rfl, -, -, -⟩ | ⟨rfl, -, rfl, -, rfl, -, -, rfl, -, -, -⟩ | ⟨rfl, -, rfl, -, rfl, -, -, rfl, -, -, -⟩ | ⟨rfl, -, rfl, -, rfl, -, -, rfl, -, -, -⟩ | ⟨rfl, -, rfl, -, -, rfl, -, rfl, -, -, -⟩ | ⟨rfl, -, rfl, -, rfl, -, -, rfl, -, -, -⟩ | ⟨rfl, -, rfl, -, rfl, -, -, hx4, -, -, -⟩ | ⟨rfl, -, rfl, -, rfl, -, -, hx4, -, -, -⟩ | ⟨rfl, -, rfl, -, rfl, rfl, -, hx4, -, -, -⟩ | ⟨rfl, -, rfl, -, rfl, rfl, -, hx4, -, -, -⟩ | ⟨rfl, -, rfl, rfl, rfl, -, -, hx4, -, -, -⟩
   all_goals
    have hTT := hsim (by omega) hcs
    have F := mk [] [] h0 h0
    clear hsim hcs mk
   · obtain ⟨X0, rfl⟩ := Xqp hxl
     exact tk_1 F (by intro h; rw [h] at ht0; simp at ht0) (by rw [hTT, hTY]; simp [Xbc, Xbf])
   · obtain ⟨X0, X1, rfl⟩ := two_of hxl
     exact tk_2 F (by rw [hTT]; simp [Xbc, Xbf])
   · obtain rfl := hnb0 rfl
     exact tk_5 F (by omega) (by rw [hTT]; simp [Xbc, Xbf])
   · obtain rfl := hnb0 rfl
     exact tk_6 F (by omega) (by rw [hTT]; simp [Xbc, Xbf])
   · obtain rfl := hnb0 rfl
     exact tk_7 F (by omega) (by rw [hTT]; simp [Xbc, Xbf])
   · obtain rfl : xs = [] := List.eq_nil_of_length_eq_zero hxl
     exact tk_8 F (by rw [hTT]; simp [Xbc, Xbf])
   · obtain rfl := hnb0 rfl
     exact tk_9 F (by omega) (by rw [hTT]; simp [Xbc, Xbf])
   · exact tk_10 F (by omega) (by rw [hTT]; simp [Xbc, Xbf, hemE rfl])
   · exact tk_10 F (by omega) (by rw [hTT]; simp [Xbc, Xbf, hemE rfl])
   · exact tk_10t F (by omega) (by rw [hTT]; simp [Xbc, Xbf, hemN rfl])
   · exact tk_10t F (by omega) (by rw [hTT]; simp [Xbc, Xbf, hemN rfl])
   · exact tk_11 F (by omega) (by rw [hTT]; simp [Xbc, Xbf])
 · have hk34 : k = 3 ∨ k = 4 := by unfold okS34 at hok; omega
   rcases hcs with ⟨h, -⟩ | ⟨-, B1, hB1, hcs⟩
   · exact absurd hk34 h
   have hB1n : B1 ≠ [] := by
    obtain ⟨_, C, _, rfl⟩ := Xjq hB1
    simp
   rcases hcs with ⟨hz, hTT⟩ | ⟨hz, B2, hB2, hTT⟩
   · have hB1l : B1.length ≤ 100000 := by rw [hTT] at hTl; simp at hTl; omega
     have F := mk B1 [] (fun _ => ⟨hB1, hB1l⟩) h0
     subst hz
     rcases hok with ⟨rfl, -, -, -, -, -, -, rfl, -, -, -⟩ | ⟨rfl, -, -, -, -, -, -, rfl, -, -, -⟩
     · obtain ⟨X0, rfl⟩ := Xqp hxl
       exact tk_3 F hB1n (by rw [hTT]; simp [Xbf])
     · obtain ⟨X0, rfl⟩ := Xqp hxl
       exact tk_4 F hB1n (by rw [hTT]; simp [Xbf])
   · have hB1l : B1.length ≤ 100000 := by rw [hTT] at hTl; simp at hTl; omega
     have hB2l : B2.length ≤ 100000 := by rw [hTT] at hTl; simp at hTl; omega
     have hB2n : B2 ≠ [] := by
      obtain ⟨_, C, _, rfl⟩ := Xjq hB2
      simp
     have F := mk B1 B2 (fun _ => ⟨hB1, hB1l⟩) (fun _ => ⟨hB2, hB2l⟩)
     rcases hok with ⟨rfl, -, -, -, -, -, -, rfl, -, -, -⟩ | ⟨rfl, -, -, -, -, -, -, rfl, -, rfl, -⟩
     · obtain ⟨X0, rfl⟩ := Xqp hxl
       exact tk_3e F (by omega) hB1n hB2n (by rw [hTT]; simp [Xbf])
     · exact absurd rfl hz
theorem Xhe {K : Nat} : ∀ (T : List (List UInt8)), (∀ t ∈ T, t.length ≤ K) → (Xbj T).length ≤ (K + 1) * T.length
 | [], _ => by simp [Xbj]
 | [t], h => by
   have := h t (by simp)
   simp [Xbj]; omega
 | t :: u :: r, h => by
   have h1 := h t (by simp)
   have h2 := Xhe (u :: r) (fun x hx => h x (by simp [hx]))
   show (t ++ 32 :: Xbj (u :: r)).length ≤ _
   rw [List.length_append, List.length_cons, List.length_cons, Nat.mul_add, Nat.mul_one]
   omega
theorem Xkz {n : Int} (h0 : 0 ≤ n) (h : n < 1000000000000000000) : (Lib.itoa n).length ≤ 18 := by
 unfold Lib.itoa
 rw [if_neg (by omega), ← Xqw, List.length_reverse]
 exact Xqx n.toNat 18 (by omega) (by omega)
theorem Xnk {s : List UInt8} (h : Xam s = true) : s.length ≤ 16 := by
 rw [Xnm] at h
 simp at h
 exact h.1.1
theorem Xva {s : List UInt8} (h : s ∈ opsL) : s.length ≤ 2 := by
 unfold opsL at h
 simp at h
 rcases h with rfl | rfl | rfl | rfl | rfl | rfl | rfl | rfl | rfl | rfl | rfl <;> decide
theorem Xsc {k n c : Int} {s : List UInt8} (k1 : 1 ≤ k) (k2 : k ≤ 13) (h : Xcj k n s c = true) : s.length ≤ 16 ∧ (k = 1 → (Lib.itoa n).length ≤ 18) := by
 obtain ⟨⟨h1, h2⟩, _⟩ := (Xlu k1 k2).1 h
 constructor
 · unfold Xcm at h2
   split at h2
   · exact Xnk h2
   · split at h2
     · have := of_decide_eq_true h2
       rcases this with rfl | rfl <;> decide
     · split at h2
       · have := Xva (of_decide_eq_true h2); omega
       · rw [of_decide_eq_true h2]; decide
 · rintro rfl
   unfold numB at h1
   have := of_decide_eq_true h1
   exact Xkz (by omega) (by omega)
theorem Xps {k n c : Int} {s : List UInt8} (h : Xcj k n s c = true) (k1 : 1 ≤ k) (k2 : k ≤ 13) {xs : List (List (List UInt8))} (hx : xs.length = argsN k) (hs : ∀ x ∈ xs, ∀ t ∈ x, t.length ≤ 18) : ∀ t ∈ Xbg k n s xs, t.length ≤ 18 := by
 obtain ⟨h1, h2⟩ := Xsc k1 k2 h
 have hw : ∀ (ws : List (List UInt8)), (∀ t ∈ ws, t.length ≤ 18) → True := fun _ _ => trivial
 intro t ht
 unfold argsN at hx
 have hs1 : s.length ≤ 18 := by omega
 rcases Xse k1 k2 with rfl | rfl | rfl | rfl | rfl | rfl | rfl | rfl | rfl | rfl | rfl | rfl | rfl
 all_goals rcases xs with _ | ⟨a, _ | ⟨b, _ | ⟨d, _ | ⟨e, r⟩⟩⟩⟩
 all_goals
  first
  | (exfalso; simp at hx; done)
  | skip
 · simp [Xbg] at ht; rw [ht]; exact h2 rfl
 · simp only [Xbg] at ht
   split at ht
   · simp at *
   · split at ht
     · split at ht <;> (simp at ht; rw [ht]; decide)
     · simp at *
 · simp [Xbg] at ht; rw [ht]; decide
 · simp [Xbg] at ht; rw [ht]; exact hs1
 · simp [Xbg] at ht
   rcases ht with ht | rfl | rfl
   · exact hs a (by simp) t ht
   · decide
   · exact hs1
 · simp [Xbg] at ht
   rcases ht with ht | rfl | ht | rfl
   · exact hs a (by simp) t ht
   · decide
   · exact hs b (by simp) t ht
   · decide
 · simp [Xbg] at ht
   rcases ht with ht | rfl | ht | rfl | ht | rfl
   · exact hs a (by simp) t ht
   · decide
   · exact hs b (by simp) t ht
   · decide
   · exact hs d (by simp) t ht
   · decide
 · simp [Xbg] at ht
   rcases ht with rfl | rfl | ht | rfl
   · decide
   · decide
   · exact hs a (by simp) t ht
   · decide
 · simp [Xbg] at ht
   rcases ht with rfl | rfl | ht | rfl
   · decide
   · exact hs1
   · exact hs a (by simp) t ht
   · decide
 · simp [Xbg] at ht
   rcases ht with rfl | ht | rfl | ht | rfl
   · decide
   · exact hs a (by simp) t ht
   · exact hs1
   · exact hs b (by simp) t ht
   · decide
 · simp [Xbg] at ht
   rcases ht with rfl | rfl
   · decide
   · exact hs1
 · simp [Xbg] at ht
   rcases ht with rfl | rfl | ht | rfl
   · decide
   · decide
   · exact hs a (by simp) t ht
   · decide
 · simp [Xbg] at ht
   rcases ht with rfl | rfl
   · decide
   · exact hs1
mutual
theorem Xgs : ∀ (e : Ex) (d c : Int) (T : List (List UInt8)), penE e d c = some T → ∀ t ∈ T, t.length ≤ 18
 | .mk k p n s es, d, c, T, h => by
   obtain ⟨k1, k2, h2, h3, xs, hp, hl, rfl⟩ := Xig h
   exact Xps h2 k1 k2 (hl.trans h3) (Xjp es (Xbb k) d c xs hp)
theorem Xjp : ∀ (es : List Ex) (b : Bool) (d c : Int) (xs : List (List (List UInt8))), Xdt es b d c = some xs → ∀ x ∈ xs, ∀ t ∈ x, t.length ≤ 18
 | [], b, d, c, xs, h => by rw [Xdt] at h; cases h; simp
 | e :: es, b, d, c, xs, h => by
   rw [Xdt] at h
   split at h
   · cases h
   · rename_i x h1
     split at h
     · cases h
     · rename_i ys h2
       cases h
       intro y hy
       rcases List.mem_cons.1 hy with rfl | hy
       · split at h1
         · exact Xgs e _ _ _ h1
         · exact Xgs e _ _ _ h1
       · exact Xjp es false d c ys h2 y hy
end
theorem Xqy {C : Ts} (h : lim C = none) : fin C = ([], 23) := by unfold fin; rw [h]
theorem Xlr : fin none = ([], 23) := Xqy rfl
theorem Xiw {T : List (List UInt8)} (h : ¬ fits T) : fin (some T) = ([], 23) := Xqy (by unfold lim; simp [h])
theorem Xql {T : List (List UInt8)} (h : fits T) : fin (some T) = (Xbj T, 0) := by unfold fin lim; simp [h]
def Sh (T : List (List UInt8)) : Prop := ∀ t ∈ T, t.length ≤ 18
def ShO (c : Ts) : Prop := ∀ T, c = some T → Sh T
theorem Sh.app {a b : List (List UInt8)} (ha : Sh a) (hb : Sh b) : Sh (a ++ b) := fun t ht => by
 rcases List.mem_append.1 ht with h | h
 · exact ha t h
 · exact hb t h
theorem Sh.nil : Sh [] := fun t ht => by simp at ht
theorem Sh.cons {t : List UInt8} {a : List (List UInt8)} (h : t.length ≤ 18) (ha : Sh a) : Sh (t :: a) := fun u hu => by
 rcases List.mem_cons.1 hu with rfl | h2
 · exact h
 · exact ha u h2
theorem ShO.cat {a b : Ts} (ha : ShO a) (hb : ShO b) : ShO (cat a b) := fun T hT => by
 obtain ⟨x, y, e1, e2, rfl⟩ := Xbi hT
 exact (ha x e1).app (hb y e2)
theorem ShO.some {T : List (List UInt8)} (h : Sh T) : ShO (some T) := fun U hU => by cases hU; exact h
theorem ShO.none : ShO none := fun U hU => by cases hU
theorem ShO.need {p : Prop} [Decidable p] {c : Ts} (h : p → ShO c) : ShO (need p c) := by
 unfold Go.Proofs.YtodociiaobjfgaaGreatDoor.need
 split
 · rename_i hp; exact h hp
 · exact ShO.none
theorem Sh.flat {xs : List (List (List UInt8))} (h : ∀ x ∈ xs, Sh x) : Sh xs.flatten := fun t ht => by
 obtain ⟨x, hx, h2⟩ := List.mem_flatten.1 ht
 exact h x hx t h2
theorem Sh.commas : ∀ {xs : List (List (List UInt8))}, (∀ x ∈ xs, Sh x) → Sh (commas xs)
 | [], _ => Sh.nil
 | [a], h => h a (by simp)
 | a :: b :: r, h => by
   rw [Go.Proofs.YtodociiaobjfgaaGreatDoor.commas]
   exact (h a (by simp)).app (Sh.cons (by decide) (Sh.commas fun x hx => h x (by simp at hx ⊢; exact .inr hx)))
theorem Xhp {s : List UInt8} (h : Xam s = true) : s.length ≤ 18 := by have := Xnk h; omega
theorem Xrg (t : List UInt8) : ShO (tyT t) := by
 unfold tyT
 split
 · split
   · rename_i h; exact ShO.some (Sh.cons (by decide) (Sh.cons (Xhp h) Sh.nil))
   · exact ShO.none
 · split
   · exact ShO.some (Sh.cons (by decide) (Sh.cons (by decide) (Sh.cons (by decide) Sh.nil)))
   · split
     · rename_i h
       refine ShO.some (Sh.cons ?_ Sh.nil)
       rcases h with rfl | rfl <;> decide
     · exact ShO.none
theorem Xhz (k : Int) : (Xbf k).length ≤ 18 := by unfold Xbf; (repeat' split) <;> decide
theorem Xqs : ∀ (es : List Ex) (d : Int) (xs : List (List (List UInt8))), Xdc es d = some xs → ∀ x ∈ xs, Sh x
 | [], d, xs, h => by rw [Xdc] at h; cases h; simp
 | e :: es, d, xs, h => by
   rw [Xdc] at h
   split at h
   · cases h
   · rename_i x h1
     split at h
     · cases h
     · rename_i ys h2
       cases h
       intro y hy
       rcases List.mem_cons.1 hy with rfl | hy
       · exact Xgs e d 0 _ h1
       · exact Xqs es d ys h2 y hy
theorem Xwn {k : Int} {nm ty : List UInt8} {ex : List Ex} {nb nl : Nat} {xs : List (List (List UInt8))} (h : Xay k nm ty ex nb nl = true) (hx : ∀ x ∈ xs, Sh x) (h3 : ¬ (k = 3 ∨ k = 4)) : Sh (Xbc k nm ty xs) := by
 obtain ⟨k1, k2⟩ := Xem h
 have hf := Sh.flat hx
 have w := Xhz
 have one : ∀ (b : UInt8), Sh [[b]] := fun b => Sh.cons (by simp) Sh.nil
 rcases Xod k1 k2 with rfl | rfl | rfl | rfl | rfl | rfl | rfl | rfl | rfl | rfl | rfl
 all_goals try (exfalso; exact h3 (by omega))
 all_goals simp [Xay] at h
 · simp only [Xbc, reduceIte]
   have ht : Sh ((tyT ty).getD []) := by
    cases e : tyT ty with
    | none => exact Sh.nil
    | some T => exact Xrg ty T e
   exact (((((Sh.cons (w 1) (Sh.cons (Xhp h.1) Sh.nil)).app ht).app (one 61)).app hf).app (one 59))
 · simp only [Xbc, Int.reduceEq, reduceIte]
   refine ((Sh.cons (w 2) Sh.nil).app ?_).app (one 59)
   split
   · rename_i a r
     exact ((hx a (by simp)).app (one 61)).app (Sh.flat fun x hx2 => hx x (by simp [hx2]))
   · exact Sh.nil
 · simp only [Xbc, Int.reduceEq, reduceIte]
   exact ((Sh.cons (w 5) (Sh.cons (Xhp h.1) Sh.nil)).app hf).app (one 59)
 · simp only [Xbc, Int.reduceEq, reduceIte]
   exact ((Sh.cons (w 6) (Sh.cons (Xhp h.1) Sh.nil)).app hf).app (one 59)
 · simp only [Xbc, Int.reduceEq, reduceIte]
   exact ((Sh.cons (w 7) (Sh.cons (Xhp h.1) Sh.nil)).app hf).app (one 59)
 · simp only [Xbc, Int.reduceEq, reduceIte]
   exact Sh.cons (w 8) (Sh.cons (Xhp h.1) (Sh.cons (Xhp h.2.1) (one 59)))
 · simp only [Xbc, Int.reduceEq, reduceIte]
   exact ((Sh.cons (w 9) (Sh.cons (Xhp h.1) Sh.nil)).app hf).app (one 59)
 · simp only [Xbc, Int.reduceEq, reduceIte]
   refine ((((Sh.cons (w 10) Sh.nil).app ?_).app (Sh.cons (Xhp h.1) (one 40))).app (Sh.commas hx)).app (Sh.cons (by decide) (one 59))
   split
   · exact Sh.nil
   · rename_i hty
     exact Sh.cons (Xhp (h.2.1.resolve_left hty)) (one 61)
 · simp only [Xbc, Int.reduceEq, reduceIte]
   exact ((Sh.cons (w 11) Sh.nil).app hf).app (one 59)
theorem Xgo {d : Int} {c : Ts} (h : ShO c) : ShO (Xcv d c) := by
 unfold Xcv
 split
 · exact ShO.cat (ShO.some (Sh.cons (by decide) Sh.nil)) (ShO.cat h (ShO.some (Sh.cons (by decide) Sh.nil)))
 · exact ShO.none
mutual
theorem penS_sh : ∀ (s : Sm) (d : Int), ShO (penS s d)
 | .mk k p nm ty ex bd el, d => by
   intro T hT
   have hb := Xiz bd (d + 1)
   have hl := Xiz el (d + 1)
   obtain ⟨hh, xs, hxs, hc⟩ := Xle hT
   have hx := Xqs _ _ _ hxs
   rcases hc with ⟨hk, rfl⟩ | ⟨hk, B1, hB1, ⟨_, rfl⟩ | ⟨_, B2, hB2, rfl⟩⟩
   · exact Xwn hh hx hk
   · exact (Sh.cons (Xhz k) Sh.nil).app ((Sh.flat hx).app ((Xgo hb B1 hB1).app Sh.nil))
   · exact (Sh.cons (Xhz k) Sh.nil).app ((Sh.flat hx).app ((Xgo hb B1 hB1).app ((Sh.cons (by decide) Sh.nil).app ((Xgo hl B2 hB2).app Sh.nil))))
theorem Xiz : ∀ (ss : List Sm) (d : Int), ShO (Xdd ss d)
 | [], d => by rw [Xdd]; exact ShO.some Sh.nil
 | s :: ss, d => by
   rw [Xdd]
   exact ShO.cat (penS_sh s d) (Xiz ss d)
end
theorem Xqu (p : Pr) : ShO (Xfw p) := by
 unfold Xfw nmT
 split
 · rename_i h; exact ShO.cat (ShO.some (Sh.cons (Xhp h) Sh.nil)) (Xrg _)
 · exact ShO.none
theorem Xqt : ∀ ps : List Pr, ShO (Xek ps)
 | [] => by rw [Xek]; exact ShO.some Sh.nil
 | p :: ps => by rw [Xek]; exact ShO.cat (ShO.cat (Xqu p) (ShO.some (Sh.cons (by decide) Sh.nil))) (Xqt ps)
theorem Xqv : ∀ (ps : List Pr) (i : Nat), ShO (Xdu ps i)
 | [], i => by rw [Xdu]; exact ShO.some Sh.nil
 | p :: ps, i => by
   rw [Xdu]
   refine ShO.cat (ShO.cat (ShO.some ?_) (Xqu p)) (Xqv ps (i + 1))
   split
   · exact Sh.nil
   · exact Sh.cons (by decide) Sh.nil
theorem penD_sh (d : Dc) : ShO (penD d) := by
 unfold penD
 by_cases hn : Xam d.name = true
 · rw [Xho hn, Xbh]
   have h2 : ∀ (t : List UInt8), t.length ≤ 18 → Sh [t, d.name] := fun t ht => Sh.cons ht (Sh.cons (Xhp hn) Sh.nil)
   have h3 : ∀ (t u : List UInt8), t.length ≤ 18 → u.length ≤ 18 → Sh [t, d.name, u] := fun t u ht hu => Sh.cons ht (Sh.cons (Xhp hn) (Sh.cons hu Sh.nil))
   have hb := Xgo (d := 1) (Xiz d.body 1)
   split
   · exact ShO.need fun _ => ShO.some (h3 _ _ (Xhz 5) (by decide))
   split
   · exact ShO.need fun hc => ShO.some (Sh.cons (by decide) (Sh.cons (Xhp hn) (Sh.cons (Xkz (by omega) (by omega)) (Sh.cons (by decide) Sh.nil))))
   split
   · exact ShO.need fun _ => ShO.cat (ShO.some (h3 _ _ (by decide) (by decide))) (ShO.cat (Xqt _) (ShO.some (Sh.cons (by decide) Sh.nil)))
   split
   · exact ShO.need fun _ => ShO.cat (ShO.some (h2 _ (Xhz 1))) (ShO.cat (Xrg _) (ShO.some (Sh.cons (by decide) Sh.nil)))
   split
   · exact ShO.need fun _ => ShO.some (h3 _ _ (by decide) (by decide))
   split
   · exact ShO.need fun _ => ShO.some (h3 _ _ (by decide) (by decide))
   split
   · refine ShO.need fun _ => ShO.cat (ShO.some (h3 _ _ (by decide) (by decide))) (ShO.cat (Xqv _ 0) (ShO.cat (ShO.some (Sh.cons (by decide) Sh.nil)) (ShO.cat ?_ hb)))
     split
     · exact ShO.some Sh.nil
     · exact Xrg _
   split
   · exact ShO.need fun _ => ShO.cat (ShO.some (h2 _ (by decide))) hb
   · exact ShO.none
 · rw [Xdo hn]; exact ShO.none
theorem Xqr : ∀ ds : List Dc, ShO (Xei ds)
 | [] => by rw [Xei]; exact ShO.some Sh.nil
 | d :: ds => by rw [Xei]; exact ShO.cat (penD_sh d) (Xqr ds)
theorem Xvi {ds : List Dc} {j : Nat} (h : j < ds.length) {R : List (List UInt8)} (hR : Xei (ds.drop j) = some R) : ∃ X R2, penD ds[j] = some X ∧ Xei (ds.drop (j + 1)) = some R2 ∧ R = X ++ R2 := by
 rw [Xor h, Xei] at hR
 exact Xbi hR
def prsV : List Pr → List Value
 | p :: ps => .string (Xaa p.name) :: .string (Xaa p.type) :: prsV ps
 | [] => []
theorem Xmc : ∀ ps : List Pr, (prsV ps).length = ps.length * 2
 | [] => rfl
 | p :: ps => by simp [prsV, Xmc ps]; omega
theorem Xju : ∀ (ps : List Pr) (k : Nat) (hk : k < ps.length), (prsV ps)[k * 2]? = some (.string (Xaa ps[k].name))
 | p :: ps, 0, _ => rfl
 | p :: ps, k + 1, hk => by
   rw [show (k + 1) * 2 = k * 2 + 1 + 1 from by omega]
   exact Xju ps k (by simpa using hk)
theorem Xjv : ∀ (ps : List Pr) (k : Nat) (hk : k < ps.length), (prsV ps)[k * 2 + 1]? = some (.string (Xaa ps[k].type))
 | p :: ps, 0, _ => rfl
 | p :: ps, k + 1, hk => by
   rw [show (k + 1) * 2 + 1 = k * 2 + 1 + 1 + 1 from by omega]
   exact Xjv ps k (by simpa using hk)
theorem prsV_one (ps : List Pr) : ∀ u ∈ prsV ps, u.oneCell' = true := by
 induction ps with
 | nil => intro u hu; simp [prsV] at hu
 | cons p ps ih =>
   intro u hu
   simp [prsV] at hu
   rcases hu with rfl | rfl | hu
   · rfl
   · rfl
   · exact ih u hu
theorem Xvx {w : World} {b off : Nat} {ps : List Pr} (h : ∀ (k : Nat) (hk : k < ps.length), w.cell? ⟨b, off + k * 2, none⟩ = some (.string (Xaa ps[k].name)) ∧ w.cell? ⟨b, off + k * 2 + 1, none⟩ = some (.string (Xaa ps[k].type))) :
  ∀ j u, (prsV ps)[j]? = some u → w.cell? ((⟨b, off, none⟩ : Addr).add j) = some u := by
 intro j u hj
 have hlt : j < ps.length * 2 := by
  rw [← Xmc]
  rcases Nat.lt_or_ge j (prsV ps).length with h1 | h1
  · exact h1
  · rw [List.getElem?_eq_none h1] at hj; cases hj
 rw [Xco]
 rcases Nat.mod_two_eq_zero_or_one j with hm | hm
 · have e : j = j / 2 * 2 := by omega
   rw [e, Xju ps (j / 2) (by omega)] at hj
   rw [e, (h (j / 2) (by omega)).1]
   exact hj
 · have e : j = j / 2 * 2 + 1 := by omega
   rw [e, Xjv ps (j / 2) (by omega)] at hj
   rw [e, show off + (j / 2 * 2 + 1) = off + j / 2 * 2 + 1 from by omega, (h (j / 2) (by omega)).2]
   exact hj
theorem info_pr : (Tryz.prog.info? 44).map (fun i => (i.zero, i.size, i.bytes)) = some (some (.agg #[.string ⟨#[]⟩, .string ⟨#[]⟩]), 2, 32) := by kernel_rfl
theorem Xsr {w : World} {base : Nat} {v : Value} {ps : List Pr} (hs : ∀ (k : Nat) (hk : k < ps.length), ps[k].name.length ≤ 140737488355328 ∧ ps[k].type.length ≤ 140737488355328)
  (h : w.ownsRow base 44 2 v ps.length (prsV ps)) : Xcl w (fun b => base ≤ b ∧ b < w.heap.size ∧ v.ownBlock = some b) ps v := by
 have hlt := h.lt
 have hcell : ∀ (g : Nat), v.ownBlock = some g → ∀ (j : Nat) (u : Value), (prsV ps)[j]? = some u → w.cell? ⟨g, 0 + j, none⟩ = some u := fun g hg j u hu => by
  have := h.cells hg j u hu
  rw [Xco] at this
  exact this
 rcases h.2 with ⟨rfl, h2⟩ | ⟨g, cap, cur, rfl, hbg, hg, hc1, hc2, _⟩
 · exact ⟨none, 0, by rw [h2], by omega, by omega, fun k hk => absurd hk (by omega)⟩
 · refine ⟨_, cap, rfl, hc1, by unfold maxLen at hc2; omega, fun k hk => ⟨g, 0, rfl, ⟨hbg, (hlt g rfl).2, rfl⟩, (hs k hk).1, (hs k hk).2, ?_, ?_⟩⟩
   · exact hcell g rfl (k * 2) _ (Xju ps k hk)
   · exact hcell g rfl (k * 2 + 1) _ (Xjv ps k hk)
theorem Xim {ops : Array Oper} {rest : List Oper} {o : Oper} {a : Act} {w : World} {Q : Exit → Act → World → Prop} (hgd : o.guard = none) (s x : Operand)
  (ho : o.op = .call { callee := .builtin .append, args := #[s, x], argTypes := #[39, 39] })
  (g : Nat) (hs : a.eval s = .slice (some ⟨g, 0, none⟩) 0 0) (hg : w.heap[g]? = some (.cells #[] 44 (0, 0))) (hgs : g < w.heap.size) (S : Nat → Prop) (ps : List Pr) (v : Value) (hx : a.eval x = v) (hp : Xcl w S ps v) (hn : ps.length ≤ 1000000)
  (h : ∀ v' w', Xcl w' (fun b => g ≤ b ∧ b < w'.heap.size ∧ (b = g ∨ w.heap.size ≤ b)) ps v' → w.grownBy w' (some g) → wpList Tryz.prog ops Q rest (a.put o.dst v') w') : wpList Tryz.prog ops Q (o :: rest) a w := by
 obtain ⟨i0, hi, hz0, hz1, hz2⟩ := info_parts info_pr
 obtain ⟨A, c, rfl, hc, hM, hA⟩ := hp
 have hrow : w.ownsRow g 44 2 (.slice (some ⟨g, 0, none⟩) 0 0) 0 [] := ⟨rfl, .inr ⟨g, 0, #[], rfl, Nat.le_refl _, hg, Nat.le_refl _, by unfold maxLen; omega, rfl, rfl⟩⟩
 have hsm : ∀ (k : Nat) (hk : k < ps.length), ps[k].name.length ≤ 140737488355328 ∧ ps[k].type.length ≤ 140737488355328 := fun k hk => by
  obtain ⟨_, _, _, _, q1, q2, _⟩ := hA k hk
  exact ⟨q1, q2⟩
 have hfin : ∀ v' w', w'.ownsRow g 44 2 v' (0 + ps.length) ([] ++ prsV ps) → w.grownBy w' (Value.slice (some ⟨g, 0, none⟩) 0 0).ownBlock → (v'.ownBlock = (Value.slice (some ⟨g, 0, none⟩) 0 0).ownBlock ∨ v'.ownBlock = some w.heap.size) → wpList Tryz.prog ops Q rest (a.put o.dst v') w' := by
  intro v' w' h1 h2 h3
  rw [Nat.zero_add, List.nil_append] at h1
  refine h v' w' ((Xsr hsm h1).keep (fun _ _ => rfl) (fun b hb => ⟨hb.1, hb.2.1, ?_⟩)) h2
  rcases h3 with h3 | h3
  · left
    have := hb.2.2
    rw [h3] at this
    simpa [Value.ownBlock] using this.symm
  · right
    have := hb.2.2
    rw [h3] at this
    have e : w.heap.size = b := by simpa using this
    omega
 cases A with
 | none =>
   have h0 : ps = [] := by
    cases ps with
    | nil => rfl
    | cons p ps =>
      obtain ⟨_, _, q, _⟩ := hA 0 (by simp)
      cases q
   subst h0
   have hr : (Builtin.append_ #[39, 39] o.type #[.slice (some ⟨g, 0, none⟩) 0 0, .slice none 0 c]).run Tryz.prog w = .ok (.slice (some ⟨g, 0, none⟩) 0 0) w := by
    simp [Builtin.append_, run_underlying Tryz.underlying39, sizeOf, typeInfo, hi, Builtin.lenOf, Builtin.firstCells, loadCells, loadCellsFrom, storeCells]
   refine wpList_plain hgd fun K hK => ?_
   unfold Oper.wp execOp
   simp only [ho, resolve, invoke, builtin, Sem.run_bind, Sem.run_pure, Result.andThen_ok, List.map_toArray, List.map_cons, List.map_nil, hs, hx, List.length_nil, hr]
   exact hK _ _ (hfin _ w hrow ⟨rfl, rfl, rfl, Nat.le_refl _, fun _ _ _ => rfl⟩ (.inl rfl))
 | some ad =>
   by_cases hz : ps = []
   · subst hz
     exact wpList_append_own_at w hgd s x 39 ho g 44 i0 _ 2 32 Tryz.underlying39 hi hz0 hz1 hz2 rfl (by decide) _ 0 [] hs hrow ad 0 c [] hx rfl (fun j u hj => by simp at hj) (fun u hu => by simp at hu) (by unfold maxLen; omega) (by omega) (by omega) fun v' w' h1 h2 _ h4 => hfin v' w' (by simpa [prsV] using h1) h2 h4
   · have hpos : 0 < ps.length := by
      cases ps with
      | nil => exact absurd rfl hz
      | cons p ps => simp
     obtain ⟨b, off, hb, _⟩ := hA 0 hpos
     injection hb with hb
     subst hb
     have hcells : ∀ (k : Nat) (hk : k < ps.length), w.cell? ⟨b, off + k * 2, none⟩ = some (.string (Xaa ps[k].name)) ∧ w.cell? ⟨b, off + k * 2 + 1, none⟩ = some (.string (Xaa ps[k].type)) := fun k hk => by
      obtain ⟨b', off', e, _, _, _, c0, c1⟩ := hA k hk
      cases e
      exact ⟨c0, c1⟩
     exact wpList_append_own_at w hgd s x 39 ho g 44 i0 _ 2 32 Tryz.underlying39 hi hz0 hz1 hz2 rfl (by decide) _ 0 [] hs hrow ⟨b, off, none⟩ ps.length c (prsV ps) hx (Xmc ps) (Xvx hcells) (prsV_one ps) (by unfold maxLen; omega) (by omega) (by omega) fun v' w' h1 h2 _ h4 => hfin v' w' h1 h2 h4
structure Vd where
 p : Value
 b : Value
def Xcq (s : Dc) (f : Vd) : List Value := [.int .i64 s.kind, .int .i64 s.pl, .int .i64 s.num, .string (Xaa s.name), .string (Xaa s.type), f.p, f.b]
def dcsV : List Dc → List Vd → List Value
 | s :: ss, f :: fs => Xcq s f ++ dcsV ss fs
 | _, _ => []
theorem Xqi : ∀ {ss : List Dc} {fs : List Vd} (s : Dc) (u : Vd), ss.length = fs.length → dcsV (ss ++ [s]) (fs ++ [u]) = dcsV ss fs ++ Xcq s u
 | [], [], s, u, _ => by simp [dcsV]
 | d :: ss, f :: fs, s, u, h => by
   show Xcq d f ++ dcsV (ss ++ [s]) (fs ++ [u]) = _
   rw [Xqi s u (by simpa using h)]
   simp [dcsV]
theorem Xer : ∀ {ss : List Dc} {fs : List Vd} (h : ss.length = fs.length) (k : Nat) (hk : k < ss.length) (i : Nat) (hi : i < 7), (dcsV ss fs)[k * 7 + i]? = (Xcq ss[k] (fs[k]'(by omega)))[i]?
 | s :: ss, f :: fs, h, 0, hk, i, hi => by
   show (Xcq s f ++ dcsV ss fs)[0 * 7 + i]? = _
   rw [Nat.zero_mul, Nat.zero_add, List.getElem?_append_left (by simpa [Xcq] using hi)]
   rfl
 | s :: ss, f :: fs, h, k + 1, hk, i, hi => by
   show (Xcq s f ++ dcsV ss fs)[(k + 1) * 7 + i]? = _
   rw [show (k + 1) * 7 + i = 7 + (k * 7 + i) from by omega, List.getElem?_append_right (by simp [Xcq])]
   rw [show 7 + (k * 7 + i) - (Xcq s f).length = k * 7 + i from by simp [Xcq]]
   exact Xer (by simpa using h) k (by simpa using hk) i hi
theorem Xoo (s : Dc) (u : Vd) (h1 : u.p.oneCell' = true) (h2 : u.b.oneCell' = true) : ∀ x ∈ Xcq s u, x.oneCell' = true := by
 intro x hx
 simp [Xcq] at hx
 rcases hx with rfl | rfl | rfl | rfl | rfl | rfl | rfl
 · rfl
 · rfl
 · rfl
 · rfl
 · rfl
 · exact h1
 · exact h2
theorem Xcl.one {w : World} {S : Nat → Prop} {ps : List Pr} {v : Value} (h : Xcl w S ps v) : v.oneCell' = true := by
 obtain ⟨A, c, rfl, _⟩ := h; rfl
def DcIn (w : World) (S : Nat → Prop) (s : Dc) (f : Vd) : Prop := s.name.length ≤ 140737488355328 ∧ s.type.length ≤ 140737488355328 ∧ Xcl w S s.pairs f.p ∧ Xcc w S s.body f.b
theorem DcIn.keep {w w' : World} {S S' : Nat → Prop} {s : Dc} {f : Vd} (h : DcIn w S s f) (hw : ∀ b, S b → w'.heap[b]? = w.heap[b]?) (hS : ∀ b, S b → S' b) : DcIn w' S' s f :=
 ⟨h.1, h.2.1, h.2.2.1.keep hw hS, h.2.2.2.keep hw hS⟩
def Xfb (w : World) (base : Nat) (v : Value) (ss : List Dc) : Prop :=
 ∃ fs : List Vd, ss.length = fs.length ∧ w.ownsRow base 41 7 v ss.length (dcsV ss fs) ∧
  ∀ (k : Nat) (hk : k < ss.length) (hk' : k < fs.length), DcIn w (fun b => base ≤ b ∧ b < w.heap.size ∧ v.ownBlock ≠ some b) ss[k] fs[k]
theorem Xfb.lt {w : World} {base : Nat} {v : Value} {ss : List Dc} (h : Xfb w base v ss) {b : Nat} (hb : v.ownBlock = some b) : base ≤ b ∧ b < w.heap.size := by
 obtain ⟨fs, _, hown, _⟩ := h
 exact hown.lt b hb
theorem Xfb.dcs {w : World} {base : Nat} {v : Value} {ss : List Dc} (h : Xfb w base v ss) : Xdl w (fun b => base ≤ b ∧ b < w.heap.size) ss v := by
 obtain ⟨fs, hl, hown, hin⟩ := h
 have hlt := hown.lt
 have hcell : ∀ (g : Nat), v.ownBlock = some g → ∀ (j : Nat) (u : Value), (dcsV ss fs)[j]? = some u → w.cell? ⟨g, 0 + j, none⟩ = some u := fun g hg j u hu => by
  have := hown.cells hg j u hu
  rw [Xco] at this
  exact this
 rcases hown.2 with ⟨rfl, h2⟩ | ⟨g, cap, cur, rfl, hbg, hg, hc1, hc2, _⟩
 · have he : ss = [] := List.eq_nil_of_length_eq_zero h2
   subst he
   exact ⟨none, 0, (fun _ => undef), (fun _ => undef), rfl, Nat.le_refl _, by omega, (fun k hk => absurd hk (by simp)), (fun k hk => absurd hk (by simp)), (fun k hk => absurd hk (by simp))⟩
 · have hgd : ∀ (k : Nat) (hk' : k < fs.length), (fs[k]?.getD ⟨undef, undef⟩) = fs[k] := fun k hk' => by rw [List.getElem?_eq_getElem hk']; rfl
   refine ⟨_, cap, (fun k => (fs[k]?.getD ⟨undef, undef⟩).p), (fun k => (fs[k]?.getD ⟨undef, undef⟩).b), rfl, hc1, by unfold maxLen at hc2; omega, (fun k hk => ?_), (fun k hk => ?_), (fun k hk => ?_)⟩
   · have hk' : k < fs.length := by omega
     obtain ⟨a1, a2, _⟩ := hin k hk hk'
     refine ⟨g, 0, rfl, ⟨hbg, (hlt g rfl).2⟩, a1, a2, ?_, ?_, ?_, ?_, ?_, ?_, ?_⟩
     · exact hcell g rfl (k * 7) _ (by have := Xer hl k hk 0 (by omega); rw [Nat.add_zero] at this; rw [this]; rfl)
     · exact hcell g rfl (k * 7 + 1) _ (by rw [Xer hl k hk 1 (by omega)]; rfl)
     · exact hcell g rfl (k * 7 + 2) _ (by rw [Xer hl k hk 2 (by omega)]; rfl)
     · exact hcell g rfl (k * 7 + 3) _ (by rw [Xer hl k hk 3 (by omega)]; rfl)
     · exact hcell g rfl (k * 7 + 4) _ (by rw [Xer hl k hk 4 (by omega)]; rfl)
     · dsimp only; rw [hgd k hk']; exact hcell g rfl (k * 7 + 5) _ (by rw [Xer hl k hk 5 (by omega)]; rfl)
     · dsimp only; rw [hgd k hk']; exact hcell g rfl (k * 7 + 6) _ (by rw [Xer hl k hk 6 (by omega)]; rfl)
   · have hk' : k < fs.length := by omega
     show Xcl w _ ss[k].pairs (fs[k]?.getD ⟨undef, undef⟩).p
     rw [hgd k hk']
     exact (hin k hk hk').2.2.1.keep (fun _ _ => rfl) (fun b hb => ⟨hb.1, hb.2.1⟩)
   · have hk' : k < fs.length := by omega
     show Xcc w _ ss[k].body (fs[k]?.getD ⟨undef, undef⟩).b
     rw [hgd k hk']
     exact (hin k hk hk').2.2.2.keep (fun _ _ => rfl) (fun b hb => ⟨hb.1, hb.2.1⟩)
theorem Xfb.below {w w' : World} {base : Nat} {v : Value} {ss : List Dc} (h : Xfb w base v ss) (hb : Below w.heap.size w w') : Xfb w' base v ss := by
 obtain ⟨fs, hl, hown, hin⟩ := h
 refine ⟨fs, hl, ?_, fun k hk hk' => (hin k hk hk').keep (fun b hb2 => hb.block b hb2.2.1) (fun b hb2 => ⟨hb2.1, Nat.lt_of_lt_of_le hb2.2.1 hb.size, hb2.2.2⟩)⟩
 rcases hown with ⟨h1, h2 | ⟨g, cap, cur, hv, hbg, hg, h3⟩⟩
 · exact ⟨h1, .inl h2⟩
 · refine ⟨h1, .inr ⟨g, cap, cur, hv, hbg, ?_, h3⟩⟩
   have hlt : g < w.heap.size := by
    rcases Nat.lt_or_ge g w.heap.size with hlt | hge
    · exact hlt
    · rw [Array.getElem?_eq_none hge] at hg; cases hg
   exact (hb.block g hlt).trans hg
theorem Xfb.none (w : World) (base : Nat) : Xfb w base (.slice none 0 0) [] :=
 ⟨[], rfl, World.ownsRow_nil _ _ _ _, fun k hk => absurd hk (by simp)⟩
theorem Xfb.set_ {w : World} {base : Nat} {v : Value} {ss : List Dc} (h : Xfb w base v ss) {p : Addr} (hp : p.block < base) (u : Value) : Xfb (w.setCell p u) base v ss := by
 have hbl := h
 obtain ⟨fs, hl, hown, hin⟩ := h
 refine ⟨fs, hl, ?_, fun k hk hk' => (hin k hk hk').keep (fun b hb2 => Below.heap_setCell _ _ _ b (by omega)) (fun b hb2 => ⟨hb2.1, by simpa using hb2.2.1, hb2.2.2⟩)⟩
 rcases hown with ⟨h1, h2 | ⟨g, cap, cur, hv, hbg, hg, h3⟩⟩
 · exact ⟨h1, .inl h2⟩
 · exact ⟨h1, .inr ⟨g, cap, cur, hv, hbg, (Below.heap_setCell _ _ _ g (by omega)).trans hg, h3⟩⟩
theorem info_dc : (Tryz.prog.info? 41).map (fun i => (i.zero, i.size, i.bytes)) = some (some (.agg #[.int .i64 0, .int .i64 0, .int .i64 0, .string ⟨#[]⟩, .string ⟨#[]⟩, .slice none 0 0, .slice none 0 0]), 7, 104) := by kernel_rfl
theorem Xiu {ops : Array Oper} {rest : List Oper} {o : Oper} {a : Act} {w : World} {Q : Exit → Act → World → Prop} (hgd : o.guard = none) (s x : Operand)
  (ho : o.op = .call { callee := .builtin .append, args := #[s, x], argTypes := #[22, 22] })
  (base : Nat) (v : Value) (ss : List Dc) (hs : a.eval s = v) (hown : Xfb w base v ss) (ad : Addr) (c : Nat) (e : Dc) (u : Vd) (hx : a.eval x = .slice (some ad) 1 c)
  (hnews : ∀ j y, (Xcq e u)[j]? = some y → w.cell? (ad.add j) = some y) (hu : DcIn w (fun b => base ≤ b ∧ b < w.heap.size ∧ v.ownBlock ≠ some b) e u) (hb : ss.length ≤ 1000000) (hbase : base ≤ w.heap.size)
  (h : ∀ v' w', Xfb w' base v' (ss ++ [e]) → w.grownBy w' v.ownBlock → wpList Tryz.prog ops Q rest (a.put o.dst v') w') : wpList Tryz.prog ops Q (o :: rest) a w := by
 obtain ⟨i0, hi, hz0, hz1, hz2⟩ := info_parts info_dc
 obtain ⟨fs, hl, hrow, hin⟩ := hown
 refine wpList_append_lies _ hgd s x 22 ho base 41 i0 _ 7 104 Tryz.underlying22 hi hz0 hz1 hz2 rfl (by decide) v ss.length (dcsV ss fs) hs hrow ad 1 c (Xcq e u) hx rfl hnews (Xoo e u hu.2.2.1.one hu.2.2.2.one)
  (by omega) (by unfold maxLen; omega) (by omega) hbase w.heap.size rfl fun g cap w' hown' hgr hat hlt => h _ w' ?_ hgr
 have hkeep : ∀ b, (base ≤ b ∧ b < w.heap.size ∧ v.ownBlock ≠ some b) → w'.heap[b]? = w.heap[b]? := fun b hb => hgr.block b hb.2.1 (fun e => hb.2.2 e.symm)
 have hS : ∀ b, (base ≤ b ∧ b < w.heap.size ∧ v.ownBlock ≠ some b) → (base ≤ b ∧ b < w'.heap.size ∧ (Value.slice (some ⟨g, 0, none⟩) (ss.length + 1) cap).ownBlock ≠ some b) := fun b hb => by
  have hsz := hgr.size
  refine ⟨hb.1, by omega, fun e => ?_⟩
  have e' : g = b := by simpa [Value.ownBlock] using e
  rcases hat with hat | hat
  · exact hb.2.2 (by rw [hat, e'])
  · omega
 refine ⟨fs ++ [u], by simp [hl], ?_, fun k hk hk' => ?_⟩
 · rw [List.length_append, Xqi e u hl]
   exact hown'
 · by_cases hke : k < ss.length
   · have hkf : k < fs.length := by omega
     rw [List.getElem_append_left hke, List.getElem_append_left hkf]
     exact (hin k hke hkf).keep hkeep hS
   · have hk0 : k = ss.length := by simp at hk; omega
     subst hk0
     have e1 : (ss ++ [e])[ss.length] = e := by simp
     have e2 : (fs ++ [u])[ss.length]'hk' = u := by
      rw [List.getElem_append_right (by omega)]
      simp [hl]
     rw [e1, e2]
     exact hu.keep hkeep hS
def Xfk (d : Dc) (deep : Int) : Dc := ⟨d.kind, d.pl, d.num, d.name, d.type, d.pairs, Xcp d.body deep⟩
def Xlg (N : Nat) (d : Dc) : Prop := d.pairs.length ≤ N ∧ d.body.length ≤ N ∧ Xbz N d.body
section
def DcsPost (w : World) (ds : List Dc) (e : Ending) (w' : World) : Prop :=
 ∃ v, e = .returned (.agg #[v]) ∧ Xdl w' (fun b => w.heap.size ≤ b ∧ b < w'.heap.size) ds v ∧ Below w.heap.size w w'
def Xbv (w : World) (g : Nat) (u : Value) : Prop := w.heap[g]? = some (.cells #[u] 24 (0, 0))
section
variable {w w' : World} {g B : Nat} {u : Value}
theorem Xbv.new (w : World) (u : Value) : Xbv (w.alloc (.cells #[u] 24)) w.heap.size u := heap_alloc_new w _
theorem Xbv.below (h : Xbv w g u) (hb : Below B w w') (hg : g < B) : Xbv w' g u := (hb.block g hg).trans h
theorem Xbv.c0 (h : Xbv w g u) : w.cell? ⟨g, 0, none⟩ = some u := by rw [cell_of_row w g 0 _ _ (0, 0) h]; rfl
theorem Xbv.fr (h : Xbv w g u) (j : Nat) : w.frozen? ⟨g, j, none⟩ = false := frozen_of_row w g j _ _ h
theorem Xbv.set (h : Xbv w g u) (x : Value) : Xbv (w.setCell ⟨g, 0, none⟩ x) g x := by
 unfold Xbv at h ⊢
 simp [World.setCell, Array.getElem?_modify, h]
end
set_option maxHeartbeats 4000000 in
set_option maxRecDepth 100000 in
theorem Xud {w0 : World} {B : Nat} {ds : List Dc} {v : Value} (h : Xdl w0 (· < B) ds v) (hsm : ∀ (k : Nat) (hk : k < ds.length), Xlg 1000000 ds[k]) (hn6 : ds.length ≤ 1000000) (deep : Int) (w : World) (hb : Below B w0 w) (hB : B ≤ w.heap.size) (hd0 : -100000 ≤ deep) (hd : deep ≤ 100000) :
  Calls Tryz.prog 6 #[.agg #[v], .int .i64 deep] w (DcsPost w (ds.map (Xfk · deep))) := by
 obtain ⟨A, c, fp, fb, rfl, hc, hM, hA, hp, hbd⟩ := h
 obtain ⟨ns, hns⟩ : ∃ ns, ns = ds.length := ⟨_, rfl⟩
 rw [← hns] at hc hn6 ⊢
 have HNS := lh hns
 have HP := lh hp
 have HBD := lh hbd
 have HHA := lh hA
 have HB0 := lh hb
 have HSM := lh hsm
 clear hns hp hbd hA hb hsm
 go_enter Tryz.func6, Tryz.ntmps6
 go_wp2
 obtain ⟨X, hX⟩ : ∃ X : World, X = ((w.alloc (.cells #[.slice A ns c] 24)).alloc (.cells #[.slice none 0 0] 24)).alloc (.cells #[.slice none 0 0] 24) := ⟨_, rfl⟩
 obtain ⟨g, hg⟩ : ∃ g, g = w.heap.size := ⟨_, rfl⟩
 have hx1 : Xbv X g (.slice A ns c) := by
  rw [hX, hg]
  exact ((Xbv.new w _).below ((Below.refl _ _).alloc (Nat.le_refl _) _) (by simp)).below ((Below.refl _ _).alloc (Nat.le_refl _) _) (by simp; omega)
 have hx2 : Xbv X (g + 1) (.slice none 0 0) := by
  rw [hX, hg]
  have h := (Xbv.new (w.alloc (.cells #[.slice A ns c] 24)) (.slice none 0 0)).below ((Below.refl _ _).alloc (Nat.le_refl _) (.cells #[.slice none 0 0] 24)) (by simp)
  rw [show (w.alloc (.cells #[.slice A ns c] 24)).heap.size = w.heap.size + 1 from by simp] at h
  exact h
 have hx3 : Xbv X (g + 2) (.slice none 0 0) := by
  rw [hX, hg]
  have h := Xbv.new ((w.alloc (.cells #[.slice A ns c] 24)).alloc (.cells #[.slice none 0 0] 24)) (.slice none 0 0)
  rw [show ((w.alloc (.cells #[.slice A ns c] 24)).alloc (.cells #[.slice none 0 0] 24)).heap.size = w.heap.size + 2 from by simp] at h
  exact h
 have hxs : X.heap.size = g + 3 := by rw [hX, hg]; simp
 have hxb : Below g w X := by rw [hX, hg]; exact (((Below.refl _ w).alloc (Nat.le_refl _) _).alloc (by simp) _).alloc (by simp; omega) _
 rw [← hX, ← hg]
 have HX1 := lh hx1
 have HX2 := lh hx2
 have HX3 := lh hx3
 have HXS := lh hxs
 have HXB := lh hxb
 have HG := lh hg
 clear hX hx1 hx2 hx3 hxs hxb hg
 go_loopw [6] (fun i wr => ∃ (j : Nat) (u : Value), j ≤ ns ∧ i = .int .i64 j ∧ Hid (Xbv wr (g + 2) u) ∧ Hid (Xfb wr (g + 3) u ((ds.take j).map (Xfk · deep))) ∧ Hid (Below (g + 2) X wr) ∧ g + 3 ≤ wr.heap.size) (fun i _ => ns - (intOf i).toNat)
 case atStart => exact ⟨0, _, Nat.zero_le _, rfl, HX3, lh (Xfb.none _ _), lh (Below.refl _ _), by have := HXS.out; omega⟩
 case round =>
  obtain ⟨wo, rfl⟩ : ∃ wo : World, wo = wr := ⟨_, rfl⟩
  obtain ⟨j, u, hj, rfl, HU, HO, HBL, hws⟩ := hrel
  have hb1 := HX1.out.below HBL.out (by omega)
  have k0 := hb1.c0
  by_cases hlt : j < ns
  · have hje : j < ds.length := by rw [← HNS.out]; exact hlt
    obtain ⟨b, off, rfl, hbB, hnm, hty, p0, p1, p2, p3, p4, p5, p6⟩ := HHA.out j hje
    have hprs := HP.out j hje
    have hsms := HBD.out j hje
    obtain ⟨t1, t2, t3⟩ := HSM.out j hje
    obtain ⟨A1, c1, hf1, hc1, hM1, -⟩ := HP.out j hje
    obtain ⟨A2, c2, hf2, hc2, hM2⟩ := hsms.slice
    have hcb := Xuc hsms t3 t2
    have hct : (ds.take (j + 1)).map (Xfk · deep) = (ds.take j).map (Xfk · deep) ++ [Xfk ds[j] deep] := by
     rw [List.take_add_one, List.getElem?_eq_getElem hje, Option.toList_some, List.map_append, List.map_singleton]
    rw [hf1] at p5 hprs
    rw [hf2] at p6 hcb
    obtain ⟨Y, hY⟩ : ∃ Y, Y = ds[j] := ⟨_, rfl⟩
    rw [← hY] at p0 p1 p2 p3 p4 p5 p6 hnm hty hc1 hc2 hcb hct t1 hprs
    have hbw : Below B w0 wo := HB0.out.trans ((HXB.out.trans (HBL.out.mono (by omega))).mono (by rw [HG.out]; exact hB))
    have hsx : B ≤ wo.heap.size := by have := HG.out; omega
    have r0 := (hbw.cell (p := ⟨b, off + j * 7, none⟩) hbB).trans p0
    have r1 := (hbw.cell (p := ⟨b, off + j * 7 + 1, none⟩) hbB).trans p1
    have r2 := (hbw.cell (p := ⟨b, off + j * 7 + 2, none⟩) hbB).trans p2
    have r3 := (hbw.cell (p := ⟨b, off + j * 7 + 3, none⟩) hbB).trans p3
    have r4 := (hbw.cell (p := ⟨b, off + j * 7 + 4, none⟩) hbB).trans p4
    have r5 := (hbw.cell (p := ⟨b, off + j * 7 + 5, none⟩) hbB).trans p5
    have r6 := (hbw.cell (p := ⟨b, off + j * 7 + 6, none⟩) hbB).trans p6
    obtain ⟨yk, hyk⟩ : ∃ x, x = Y.kind := ⟨_, rfl⟩
    obtain ⟨yp, hyp⟩ : ∃ x, x = Y.pl := ⟨_, rfl⟩
    obtain ⟨yu, hyu⟩ : ∃ x, x = Y.num := ⟨_, rfl⟩
    obtain ⟨n1, hn1'⟩ : ∃ n1, n1 = Y.pairs.length := ⟨_, rfl⟩
    obtain ⟨m2, hm2⟩ : ∃ m2, m2 = Y.body.length := ⟨_, rfl⟩
    obtain ⟨sn, hsn⟩ : ∃ sn, sn = Xaa Y.name := ⟨_, rfl⟩
    obtain ⟨st, hst⟩ : ∃ st, st = Xaa Y.type := ⟨_, rfl⟩
    have hcells : ∀ p q, Xcq (Xfk Y deep) ⟨p, q⟩ = [.int .i64 yk, .int .i64 yp, .int .i64 yu, .string sn, .string st, p, q] := fun p q => by rw [hyk, hyp, hyu, hsn, hst]; rfl
    rw [← hyk] at r0
    rw [← hyp] at r1
    rw [← hyu] at r2
    rw [← hsn] at r3
    rw [← hst] at r4
    rw [← hn1'] at r5 hc1 hprs t1
    rw [← hm2] at r6 hc2 hcb
    obtain ⟨X1, hX1⟩ : ∃ X1 : World, X1 = wo.alloc (.cells #[.int .i64 yk, .int .i64 yp, .int .i64 yu, .string sn, .string st, .slice A1 n1 c1, .slice A2 m2 c2] 41) := ⟨_, rfl⟩
    obtain ⟨X2, hX2⟩ : ∃ X2 : World, X2 = X1.alloc (.cells #[] 44) := ⟨_, rfl⟩
    have hx1s : X1.heap.size = wo.heap.size + 1 := by rw [hX1]; simp
    have hx2s : X2.heap.size = wo.heap.size + 2 := by rw [hX2]; simp; omega
    have hx1 : Xar X1 wo.heap.size yk yp yu sn st (.slice A1 n1 c1) (.slice A2 m2 c2) := by rw [hX1]; exact Xar.new wo _ _ _ _ _ _ _
    have hx12 : Below X1.heap.size X1 X2 := by rw [hX2]; exact (Below.refl _ X1).alloc (Nat.le_refl _) _
    have hx2 := hx1.below hx12 (by omega)
    have hx1b : Below wo.heap.size wo X1 := by rw [hX1]; exact (Below.refl _ wo).alloc (Nat.le_refl _) _
    have hx2b : Below wo.heap.size wo X2 := hx1b.trans (hx12.mono (by omega))
    have hp2 : Xcl X2 (· < B) Y.pairs (.slice A1 n1 c1) := hprs.keep (fun b hb => (hbw.trans (hx2b.mono hsx)).block b hb) (fun _ hb => hb)
    have hg2 : X2.heap[wo.heap.size + 1]? = some (.cells #[] 44 (0, 0)) := by rw [hX2, ← hx1s]; exact heap_alloc_new X1 _
    have y0 := hx2.c0
    have y5 := hx2.c5
    rw [hX2, hX1] at y0 y5
    have y0' := hx1.c0
    have y5' := hx1.c5
    rw [hX1] at y0' y5'
    have hsz2 : wo.heap.size + 1 < X2.heap.size := by omega
    have hx2c := hx2
    rw [hX2, hX1] at hp2 hg2 hsz2 hx2
    have HSZ2 := lh hsz2
    have HX1E := lh hX1
    have HX2E := lh hX2
    have HX2S := lh hx2s
    have HX2B := lh hx2b
    have HXK := lh hx2
    have HXKC := lh hx2c
    have HP2 := lh hp2
    have HG2 := lh hg2
    have HCB := lh hcb
    have HCT := lh hct
    have HCL := lh hcells
    have HNM := lh hnm
    have HTY := lh hty
    have HT1 := lh t1
    have HN1 := lh hn1'
    clear hX1 hX2 hx1s hx2s hx2b hx2 hx2c hsz2 hx1 hx1b hx12 hp2 hg2 hcb hct hcells hprs hsms t1 t2 t3 hnm hty hyk hyp hyu hn1' hm2 hsn hst hY hf1 hf2 p0 p1 p2 p3 p4 p5 p6 HHA HP HBD HSM
    go_wp2_with (first
     | (at_builtin; go_loud (refine Xim rfl _ _ rfl (wo.heap.size + 1) rfl HG2.out HSZ2.out (· < B) Y.pairs (.slice A1 n1 c1) rfl HP2.out (by rw [← HN1.out]; exact HT1.out) ?_; go_loud (intro v3 w3 hp3 hgr3; obtain ⟨A3, n3, c3, rfl⟩ : ∃ A n c, v3 = .slice A n c := (by obtain ⟨A, c, h, _⟩ := hp3; exact ⟨A, _, c, h⟩); have e3 : Xar w3 wo.heap.size yk yp yu sn st (.slice A1 n1 c1) (.slice A2 m2 c2) := (hgr3.block wo.heap.size (by have := HSZ2.out; omega) (by simp)).trans HXK.out; have f0 := e3.c0; have f5 := e3.c5; have f6 := e3.c6; have f55 := e3.fr 5))))
    rw [← HX1E.out, ← HX2E.out] at hgr3 hp3
    obtain ⟨X4, hX4⟩ : ∃ X4 : World, X4 = w3.setCell ⟨wo.heap.size, 5, none⟩ (.slice A3 n3 c3) := ⟨_, rfl⟩
    rw [← hX4]
    have hs2 := HX2S.out
    have hgs := hgr3.size
    have hw3b : Below wo.heap.size wo w3 := HX2B.out.grown hgr3 (by omega) (fun q hq => by
     have : wo.heap.size + 1 = q := by simpa using hq
     omega)
    have x4s : X4.heap.size = w3.heap.size := by rw [hX4]; simp
    have e4 : Xar X4 wo.heap.size yk yp yu sn st (.slice A3 n3 c3) (.slice A2 m2 c2) := by rw [hX4]; exact e3.set5 _
    have hx4b : Below wo.heap.size wo X4 := by rw [hX4]; exact hw3b.setCell (Nat.le_refl _) _
    have hp4 : Xcl X4 (fun b => wo.heap.size + 1 ≤ b ∧ b < X4.heap.size) Y.pairs (.slice A3 n3 c3) := by
     refine hp3.keep (fun b hb => ?_) (fun b hb => ⟨hb.1, by rw [x4s]; exact hb.2.1⟩)
     rw [hX4]
     exact Below.heap_setCell _ _ _ b (show b ≠ wo.heap.size by omega)
    refine (HCB.out deep X4 (hbw.trans (hx4b.mono hsx)) (by omega) hd0 hd).mono ?_
    rintro e w5 ⟨v5, rfl, hi5, hb5⟩
    obtain ⟨A5, n5, c5, hN5, rfl⟩ : ∃ A n c, Xcc w5 (fun b => X4.heap.size ≤ b ∧ b < w5.heap.size) (Xcp Y.body deep) (.slice A n c) ∧ v5 = .slice A n c := by
     cases hi5 with
     | mk es A c f1 f2 f3 q1 q2 q3 q4 q5 q6 => exact ⟨_, _, _, .mk _ A c f1 f2 f3 q1 q2 q3 q4 q5 q6, rfl⟩
    have hs5 := hb5.size
    have e5 := e4.below hb5 (by omega)
    have hp5 : Xcl w5 (fun b => wo.heap.size + 1 ≤ b ∧ b < w5.heap.size) Y.pairs (.slice A3 n3 c3) := hp4.keep (fun b hb => hb5.block b hb.2) (fun b hb => ⟨hb.1, by omega⟩)
    have hw5b : Below wo.heap.size wo w5 := hx4b.trans (hb5.mono (by omega))
    obtain ⟨X6, hX6⟩ : ∃ X6 : World, X6 = w5.setCell ⟨wo.heap.size, 6, none⟩ (.slice A5 n5 c5) := ⟨_, rfl⟩
    have x6s : X6.heap.size = w5.heap.size := by rw [hX6]; simp
    have hx6b : Below wo.heap.size wo X6 := by rw [hX6]; exact hw5b.setCell (Nat.le_refl _) _
    have hk6 : ∀ b, wo.heap.size + 1 ≤ b ∧ b < w5.heap.size → X6.heap[b]? = w5.heap[b]? := fun b hb => by
     rw [hX6]
     exact Below.heap_setCell _ _ _ b (show b ≠ wo.heap.size by omega)
    obtain ⟨X7, hX7⟩ : ∃ X7 : World, X7 = X6.alloc (.cells #[.int .i64 yk, .int .i64 yp, .int .i64 yu, .string sn, .string st, .slice A3 n3 c3, .slice A5 n5 c5] 41) := ⟨_, rfl⟩
    have x7s : X7.heap.size = w5.heap.size + 1 := by rw [hX7]; simp; omega
    have hx67 : Below X6.heap.size X6 X7 := by rw [hX7]; exact (Below.refl _ X6).alloc (Nat.le_refl _) _
    have hx7b : Below wo.heap.size wo X7 := hx6b.trans (hx67.mono (by omega))
    have hk7 : ∀ b, wo.heap.size + 1 ≤ b ∧ b < w5.heap.size → X7.heap[b]? = w5.heap[b]? := fun b hb => (hx67.block b (by omega)).trans (hk6 b hb)
    have ho7 : Xfb X7 (g + 3) u ((ds.take j).map (Xfk · deep)) := HO.out.below hx7b
    have hnew : ∀ q y, (Xcq (Xfk Y deep) ⟨.slice A3 n3 c3, .slice A5 n5 c5⟩)[q]? = some y → X7.cell? ((⟨w5.heap.size, 0, none⟩ : Addr).add q) = some y := fun q y hq => by
     rw [HCL.out] at hq
     rw [hX7, ← x6s, Xco, Nat.zero_add, cell_of_row _ _ q _ _ (0, 0) (heap_alloc_new X6 _)]
     simpa using hq
    have hS7 : ∀ b, wo.heap.size + 1 ≤ b ∧ b < w5.heap.size → g + 3 ≤ b ∧ b < X7.heap.size ∧ u.ownBlock ≠ some b := fun b hb => ⟨by omega, by omega, fun e => by
     have := (HO.out.lt e).2
     omega⟩
    have hun : DcIn X7 (fun b => g + 3 ≤ b ∧ b < X7.heap.size ∧ u.ownBlock ≠ some b) (Xfk Y deep) ⟨.slice A3 n3 c3, .slice A5 n5 c5⟩ :=
     ⟨HNM.out, HTY.out, hp5.keep hk7 hS7, hN5.keep (fun b hb => hk7 b ⟨by omega, hb.2⟩) (fun b hb => hS7 b ⟨by omega, hb.2⟩)⟩
    have hu6 : Xbv X6 (g + 2) u := HU.out.below hx6b (by omega)
    have hu7 : Xbv X7 (g + 2) u := HU.out.below hx7b (by omega)
    have hx7g : Below (g + 2) X X7 := HBL.out.trans (hx7b.mono (by omega))
    have hg7 : g + 3 < X7.heap.size := by omega
    have hlen : ((ds.take j).map (Xfk · deep)).length ≤ 1000000 := by
     rw [List.length_map, List.length_take]
     omega
    have o6 := hu6.c0
    rw [hX6] at o6
    rw [hX7, hX6] at ho7 hnew hun hu7 hx7g hg7
    have HO7 := lh ho7
    have HNEW := lh hnew
    have HUN := lh hun
    have HU7 := lh hu7
    have HX7G := lh hx7g
    have HG7 := lh hg7
    have HLEN := lh hlen
    clear f0 f5 f6 f55
    have f0 := e5.c0
    have f1 := e5.c1
    have f2 := e5.c2
    have f3 := e5.c3
    have f4 := e5.c4
    have f5 := e5.c5
    have f6 := e5.c6
    have f66 := e5.fr 6
    clear ho7 hnew hun hu6 hu7 hx7g hg7 hlen hS7 hk7 hx7b hx67 x7s hX7 hk6 hx6b x6s hX6 hw5b hp5 e5 hs5 hN5 hi5 hb5 hp4 hx4b e4 x4s hw3b hgs hX4 hgr3 hp3 e3 X7 X6 X4 r0 r1 r2 r3 r4 r5 r6 y0 y5 y0' y5'
    go_wp2_with (first
     | (at_builtin; go_loud (refine Xiu rfl _ _ rfl (g + 3) u ((ds.take j).map (Xfk · deep)) rfl HO7.out ⟨w5.heap.size, 0, none⟩ 1 (Xfk Y deep) ⟨.slice A3 n3 c3, .slice A5 n5 c5⟩ rfl HNEW.out HUN.out HLEN.out (by have := HG7.out; omega) ?_; go_loud (intro v8 w8 hown8 hgr8; obtain ⟨A8, n8, c8, rfl⟩ : ∃ A n c, v8 = .slice A n c := (by obtain ⟨A, c, _, _, h, _⟩ := hown8.dcs; exact ⟨A, _, c, h⟩); have e8 : Xbv w8 (g + 2) u := (hgr8.block (g + 2) (by have := HG7.out; omega) (fun e => by have := (HO.out.lt e.symm).1; omega)).trans HU7.out; have l0 := e8.c0; have l1 := e8.fr 0))))
    go_roundw
    case rel =>
     have hb8 := (HX7G.out.grown hgr8 (by have := HG7.out; omega) (fun q hq => by have := (HO.out.lt hq).1; omega)).setCell (p := ⟨g + 2, 0, none⟩) (Nat.le_refl _) (.slice A8 n8 c8)
     exact ⟨j + 1, _, by omega, by go_num, lh (e8.set _), lh (by rw [HCT.out]; exact hown8.set_ (by simp) _), lh hb8, by have h1 := hgr8.size; have h2 := HG7.out; simp; omega⟩
    case measure => simp [intOf]; omega
  · have hall : (ds.take j).map (Xfk · deep) = ds.map (Xfk · deep) := by rw [List.take_of_length_le (by rw [← HNS.out]; omega)]
    rw [hall] at HO
    obtain ⟨A5, n5, c5, rfl⟩ : ∃ A n c, u = .slice A n c := by
     obtain ⟨A, c, _, _, h, _⟩ := HO.out.dcs
     exact ⟨A, _, c, h⟩
    have hb2 := HX2.out.below HBL.out (by omega)
    have m0 := hb2.c0
    have m1 := hb2.fr 0
    have n0 := HU.out.c0
    clear hall HHA HP HBD HSM
    go_wp2
    have hfin : Xdl (wo.setCell ⟨g + 1, 0, none⟩ (.slice A5 n5 c5)) (fun b => w.heap.size ≤ b ∧ b < (wo.setCell ⟨g + 1, 0, none⟩ (.slice A5 n5 c5)).heap.size) (ds.map (Xfk · deep)) (.slice A5 n5 c5) := by
     refine HO.out.dcs.keep (fun b hb => ?_) (fun b hb => ⟨by have := HG.out; omega, by simpa using hb.2⟩)
     exact Below.heap_setCell _ _ _ b (show b ≠ g + 1 by omega)
    have hbel : Below w.heap.size w (wo.setCell ⟨g + 1, 0, none⟩ (.slice A5 n5 c5)) := by
     rw [← HG.out]
     exact (HXB.out.trans (HBL.out.mono (by omega))).setCell (by simp) _
    exact bodyPost_ret (v := .agg #[.slice A5 n5 c5]) (by simp [results, Tryz.results6, go_sem, m0]) rfl ⟨_, rfl, hfin, hbel⟩
end
def okD (k : Int) (bn em : Bool) (tn : Nat) (num : Int) (nb np : Nat) (own : Int) : Prop :=
  (k = 1) ∧ (own = 3) ∧ (bn = true) ∧ (em = true) ∧ (tn = 0) ∧ (num = 0) ∧ (nb = 0) ∧ (np = 0) ∨
  (k = 2) ∧ (own = 4) ∧ (bn = true) ∧ (em = true) ∧ (tn = 0) ∧ (1 ≤ num ∧ num ≤ 4) ∧ (nb = 0) ∧ (np = 0) ∨
  (k = 4) ∧ (own = 3 + (tn : Int)) ∧ (bn = true) ∧ True ∧ (0 < tn) ∧ (num = 0) ∧ (nb = 0) ∧ (np = 0) ∨
  (k = 5) ∧ (own = 3) ∧ (bn = true) ∧ (em = true) ∧ (tn = 0) ∧ (num = 0) ∧ (nb = 0) ∧ (np = 0) ∨
  (k = 6) ∧ (own = 3) ∧ (bn = true) ∧ (em = true) ∧ (tn = 0) ∧ (num = 0) ∧ (nb = 0) ∧ (np = 0)
def okD3 (k : Int) (bn em : Bool) (tn : Nat) (num : Int) (nb np : Nat) (own : Int) : Prop :=
  (k = 3) ∧ (own = 4) ∧ (bn = true) ∧ (em = true) ∧ (tn = 0) ∧ (num = 0) ∧ (nb = 0) ∧ True
def okD7 (k : Int) (bn em : Bool) (tn : Nat) (num : Int) (nb np : Nat) (own : Int) : Prop :=
  (k = 7) ∧ (own = 4 + (tn : Int)) ∧ (bn = true) ∧ (em = true) ∧ (tn = 0) ∧ (num = 0) ∧ True ∧ True ∨
  (k = 7) ∧ (own = 4 + (tn : Int)) ∧ (bn = true) ∧ (em = false) ∧ (0 < tn) ∧ (num = 0) ∧ True ∧ True
def okD8 (k : Int) (bn em : Bool) (tn : Nat) (num : Int) (nb np : Nat) (own : Int) : Prop :=
  (k = 8) ∧ (own = 2) ∧ (bn = true) ∧ (em = true) ∧ (tn = 0) ∧ (num = 0) ∧ True ∧ (np = 0)
def badD (k : Int) (bn em : Bool) (tn : Nat) (num : Int) (nb np : Nat) : Prop :=
  (k = 1) ∧ (bn = false) ∧ True ∧ True ∧ True ∧ True ∧ True ∨
  (k = 1) ∧ (bn = true) ∧ True ∧ True ∧ (¬ num = 0) ∧ True ∧ True ∨
  (k = 1) ∧ (bn = true) ∧ True ∧ True ∧ (num = 0) ∧ (0 < nb) ∧ True ∨
  (k = 1) ∧ (bn = true) ∧ (em = false) ∧ True ∧ (num = 0) ∧ (nb = 0) ∧ True ∨
  (k = 1) ∧ (bn = true) ∧ (em = true) ∧ (tn = 0) ∧ (num = 0) ∧ (nb = 0) ∧ (0 < np) ∨
  (k = 2) ∧ (bn = false) ∧ True ∧ True ∧ True ∧ True ∧ True ∨
  (k = 2) ∧ (bn = true) ∧ True ∧ True ∧ (num < 1) ∧ True ∧ True ∨
  (k = 2) ∧ (bn = true) ∧ True ∧ True ∧ (1 ≤ num ∧ 4 < num) ∧ True ∧ True ∨
  (k = 2) ∧ (bn = true) ∧ True ∧ True ∧ (1 ≤ num ∧ num ≤ 4) ∧ (0 < nb) ∧ True ∨
  (k = 2) ∧ (bn = true) ∧ (em = false) ∧ True ∧ (1 ≤ num ∧ num ≤ 4) ∧ (nb = 0) ∧ True ∨
  (k = 2) ∧ (bn = true) ∧ (em = true) ∧ (tn = 0) ∧ (1 ≤ num ∧ num ≤ 4) ∧ (nb = 0) ∧ (0 < np) ∨
  (k = 3) ∧ (bn = false) ∧ True ∧ True ∧ True ∧ True ∧ True ∨
  (k = 3) ∧ (bn = true) ∧ True ∧ True ∧ (¬ num = 0) ∧ True ∧ True ∨
  (k = 3) ∧ (bn = true) ∧ True ∧ True ∧ (num = 0) ∧ (0 < nb) ∧ True ∨
  (k = 3) ∧ (bn = true) ∧ (em = false) ∧ True ∧ (num = 0) ∧ (nb = 0) ∧ True ∨
  (k = 4) ∧ (bn = false) ∧ True ∧ True ∧ True ∧ True ∧ True ∨
  (k = 4) ∧ (bn = true) ∧ True ∧ True ∧ (¬ num = 0) ∧ True ∧ True ∨
  (k = 4) ∧ (bn = true) ∧ True ∧ True ∧ (num = 0) ∧ (0 < nb) ∧ True ∨
  (k = 4) ∧ (bn = true) ∧ True ∧ True ∧ (num = 0) ∧ (nb = 0) ∧ (0 < np) ∨
  (k = 4) ∧ (bn = true) ∧ True ∧ (tn = 0) ∧ (num = 0) ∧ (nb = 0) ∧ (np = 0) ∨
  (k = 5) ∧ (bn = false) ∧ True ∧ True ∧ True ∧ True ∧ True ∨
  (k = 5) ∧ (bn = true) ∧ True ∧ True ∧ (¬ num = 0) ∧ True ∧ True ∨
  (k = 5) ∧ (bn = true) ∧ True ∧ True ∧ (num = 0) ∧ (0 < nb) ∧ True ∨
  (k = 5) ∧ (bn = true) ∧ (em = false) ∧ True ∧ (num = 0) ∧ (nb = 0) ∧ True ∨
  (k = 5) ∧ (bn = true) ∧ (em = true) ∧ (tn = 0) ∧ (num = 0) ∧ (nb = 0) ∧ (0 < np) ∨
  (k = 6) ∧ (bn = false) ∧ True ∧ True ∧ True ∧ True ∧ True ∨
  (k = 6) ∧ (bn = true) ∧ True ∧ True ∧ (¬ num = 0) ∧ True ∧ True ∨
  (k = 6) ∧ (bn = true) ∧ True ∧ True ∧ (num = 0) ∧ (0 < nb) ∧ True ∨
  (k = 6) ∧ (bn = true) ∧ (em = false) ∧ True ∧ (num = 0) ∧ (nb = 0) ∧ True ∨
  (k = 6) ∧ (bn = true) ∧ (em = true) ∧ (tn = 0) ∧ (num = 0) ∧ (nb = 0) ∧ (0 < np) ∨
  (k = 7) ∧ (bn = false) ∧ True ∧ True ∧ True ∧ True ∧ True ∨
  (k = 7) ∧ (bn = true) ∧ True ∧ True ∧ (¬ num = 0) ∧ True ∧ True ∨
  (k = 7) ∧ (bn = true) ∧ (em = false) ∧ (tn = 0) ∧ (num = 0) ∧ True ∧ True ∨
  (k = 8) ∧ (bn = false) ∧ True ∧ True ∧ True ∧ True ∧ True ∨
  (k = 8) ∧ (bn = true) ∧ True ∧ True ∧ (¬ num = 0) ∧ True ∧ True ∨
  (k = 8) ∧ (bn = true) ∧ (em = false) ∧ True ∧ (num = 0) ∧ True ∧ True ∨
  (k = 8) ∧ (bn = true) ∧ (em = true) ∧ (tn = 0) ∧ (num = 0) ∧ True ∧ (0 < np)
set_option maxHeartbeats 4000000 in
theorem Xrp {d : Dc} (k1 : 1 ≤ d.kind) (k2 : d.kind ≤ 8) :
  (Xeq d = true ∧ (okD d.kind (Xam d.name) d.type.isEmpty (tyN d.type) d.num d.body.length d.pairs.length ((ownD d : Nat) : Int) ∨ okD3 d.kind (Xam d.name) d.type.isEmpty (tyN d.type) d.num d.body.length d.pairs.length ((ownD d : Nat) : Int) ∨ okD7 d.kind (Xam d.name) d.type.isEmpty (tyN d.type) d.num d.body.length d.pairs.length ((ownD d : Nat) : Int) ∨ okD8 d.kind (Xam d.name) d.type.isEmpty (tyN d.type) d.num d.body.length d.pairs.length ((ownD d : Nat) : Int))) ∨
  (Xeq d = false ∧ badD d.kind (Xam d.name) d.type.isEmpty (tyN d.type) d.num d.body.length d.pairs.length) := by
 obtain ⟨k, p, num, nm, ty, prs, bd⟩ := d
 unfold Xeq ownD
 simp only at k1 k2 ⊢
 have hp := Xpz (t := ty)
 have hty : ty = [] ↔ ty.isEmpty = true := List.isEmpty_iff.symm
 have hn0 : ty.isEmpty = true → tyN ty = 0 := fun h => by rw [List.isEmpty_iff.1 h]; exact Xjd Xxi
 unfold okD okD3 okD7 okD8 badD
 generalize ty.isEmpty = em at *
 simp only [hty, ← hp]
 clear hty hp
 generalize Xam nm = bn at *
 generalize tyN ty = tn at *
 generalize bd.length = nb at *
 generalize prs.length = np at *
 rcases Xqj k1 k2 with rfl | rfl | rfl | rfl | rfl | rfl | rfl | rfl
 · cases bn <;> cases em <;> by_cases b1 : tn = 0 <;> by_cases b2 : num = 0 <;> by_cases b4 : nb = 0 <;> by_cases b5 : np = 0 <;> first | (simp_all; done) | (simp_all; omega)
 · cases bn <;> cases em <;> by_cases b1 : tn = 0 <;> by_cases b2 : num < 1 <;> by_cases b3 : 4 < num <;> by_cases b4 : nb = 0 <;> by_cases b5 : np = 0 <;> first | (simp_all; done) | (simp_all; omega)
 · cases bn <;> cases em <;> by_cases b1 : tn = 0 <;> by_cases b2 : num = 0 <;> by_cases b4 : nb = 0 <;> first | (simp_all; done) | (simp_all; omega)
 · cases bn <;> cases em <;> by_cases b1 : tn = 0 <;> by_cases b2 : num = 0 <;> by_cases b4 : nb = 0 <;> by_cases b5 : np = 0 <;> first | (simp_all; done) | (simp_all; omega)
 · cases bn <;> cases em <;> by_cases b1 : tn = 0 <;> by_cases b2 : num = 0 <;> by_cases b4 : nb = 0 <;> by_cases b5 : np = 0 <;> first | (simp_all; done) | (simp_all; omega)
 · cases bn <;> cases em <;> by_cases b1 : tn = 0 <;> by_cases b2 : num = 0 <;> by_cases b4 : nb = 0 <;> by_cases b5 : np = 0 <;> first | (simp_all; done) | (simp_all; omega)
 · cases bn <;> cases em <;> by_cases b1 : tn = 0 <;> by_cases b2 : num = 0 <;> first | (simp_all; done) | (simp_all; omega)
 · cases bn <;> cases em <;> by_cases b1 : tn = 0 <;> by_cases b2 : num = 0 <;> by_cases b5 : np = 0 <;> first | (simp_all; done) | (simp_all; omega)
def RefB (w0 : World) (B : Nat) (ss : List Sm) (v : Value) : Prop :=
 ∀ (depth left : Int) (w : World), Below B w0 w → B ≤ w.heap.size → 0 ≤ depth → depth ≤ 100 → 0 ≤ left → left ≤ 100000 →
  Calls Tryz.prog 33 #[v, .int .i64 depth, .int .i64 left] w fun e w' => e = .returned (.int .i64 (Xbw ss depth left)) ∧ Below w.heap.size w w'
def RefS (w0 : World) (B : Nat) (s : Sm) (E b l : Value) : Prop :=
 ∀ (depth left : Int) (w : World), Below B w0 w → B ≤ w.heap.size → 0 ≤ depth → depth ≤ 24 → 0 ≤ left → left ≤ 100000 →
  Calls Tryz.prog 49 #[.agg #[.int .i64 s.kind, .int .i64 s.pl, .string (Xaa s.name), .string (Xaa s.type), E, b, l], .int .i64 depth, .int .i64 left] w
   fun e w' => e = .returned (.int .i64 (Xkh s depth left)) ∧ Below w.heap.size w w'
def Xok (w0 : World) (B : Nat) (es : List Ex) (A : Option Addr) : Prop := ∀ (j : Nat) (hj : j < es.length), ∃ b off yk yp yn ys yv, A = some ⟨b, off, none⟩ ∧ b < B ∧
  w0.cell? ⟨b, off + j * 5, none⟩ = some (.int .i64 yk) ∧ w0.cell? ⟨b, off + j * 5 + 1, none⟩ = some (.int .i64 yp) ∧ w0.cell? ⟨b, off + j * 5 + 2, none⟩ = some (.int .i64 yn) ∧ w0.cell? ⟨b, off + j * 5 + 3, none⟩ = some (.string ys) ∧ w0.cell? ⟨b, off + j * 5 + 4, none⟩ = some yv ∧
  yk = es[j].kind ∧ ∀ (d l : Int) (w : World), Below B w0 w → B ≤ w.heap.size → 0 ≤ d → d ≤ 100 → l ≤ 100000 →
   Calls Tryz.prog 62 #[.agg #[.int .i64 yk, .int .i64 yp, .int .i64 yn, .string ys, yv], .int .i64 d, .int .i64 0, .int .i64 l] w fun e w' => e = .returned (.int .i64 (Xdb es[j] d 0 l)) ∧ Below w.heap.size w w'
theorem Xou {w0 : World} {B : Nat} {es : List Ex} {v : Value} (h : Xbm w0 (· < B) es v) (hs : Xbu 40000 es) : ∃ A c, v = .slice A es.length c ∧ Xok w0 B es A := by
 cases h with
 | mk es A c f hc hM hA hr =>
   refine ⟨A, c, rfl, fun j hj => ?_⟩
   obtain ⟨b, off, h1, h2, h3, h4, h5, h6, h7, h8⟩ := hA j hj
   refine ⟨b, off, _, _, _, _, _, h1, h2, h4, h5, h6, h7, h8, rfl, fun d l w a1 a2 a3 a4 a5 => ?_⟩
   have hsj := Xdy (Xde hs j hj)
   have := Xjy (hr j hj) es[j].kind es[j].pl es[j].num d 0 l es[j].name w a1 a2 hsj.1 hsj.2.2 (by omega) a4 (by omega) (by omega) a5
   rw [Ex.eta] at this
   exact this
theorem exsB_le (es : List Ex) (d : Int) {l : Int} (h : 0 ≤ l) : exsB es d l ≤ l := (Xlp es d l).le h
theorem Xgl (es : List Ex) (d : Int) {l : Int} (h : l < 0) : exsB es d l = l := by
 cases es with
 | nil => rw [exsB]
 | cons e es => rw [exsB, if_pos h]
theorem Xjh {es : List Ex} {j : Nat} (hj : j < es.length) (d : Int) {l : Int} (h : 0 ≤ l) : exsB (es.drop j) d l = exsB (es.drop (j + 1)) d (Xdb es[j] d 0 l) := by
 rw [Xln hj, exsB, if_neg (by omega)]
structure StF (w X : World) (g : Nat) (k p : Int) (SN ST : ByteArray) (A A2 A3 : Option Addr) (c m2 m3 nx nb nl tn : Nat) (bn bt bz em : Bool) (fk depth left ow L1 xk : Int) (ex : List Ex) (bd el : List Sm) : Prop where
 HX : Hid (X = w.alloc (.cells #[.int .i64 k, .int .i64 p, .string SN, .string ST, .slice A nx c, .slice A2 nb m2, .slice A3 nl m3] 38))
 HG : Hid (g = w.heap.size)
 HGL : Hid (g < X.heap.size)
 HC : Hid (∀ V : World, Below X.heap.size X V → V.cell? ⟨g, 0, none⟩ = some (.int .i64 k) ∧ V.cell? ⟨g, 2, none⟩ = some (.string SN) ∧ V.cell? ⟨g, 3, none⟩ = some (.string ST) ∧ V.cell? ⟨g, 4, none⟩ = some (.slice A nx c) ∧ V.cell? ⟨g, 5, none⟩ = some (.slice A2 nb m2) ∧ V.cell? ⟨g, 6, none⟩ = some (.slice A3 nl m3))
 HNM : Hid (∀ V, Below X.heap.size X V → Calls Tryz.prog 30 #[.string SN] V fun e w' => e = .returned (.bool bn) ∧ Below X.heap.size X w')
 HNT : Hid (∀ V, Below X.heap.size X V → Calls Tryz.prog 30 #[.string ST] V fun e w' => e = .returned (.bool bt) ∧ Below X.heap.size X w')
 HTY : Hid (∀ V, Below X.heap.size X V → Calls Tryz.prog 31 #[.string ST] V fun e w' => ∃ A' c', e = .returned (.slice A' tn c') ∧ Below X.heap.size X w')
 HXP : Hid (1 ≤ k → k ≤ 11 → ∀ V, Below X.heap.size X V → Calls Tryz.prog 61 #[.int .i64 k] V fun e w' => e = .returned (.int .i64 xk) ∧ Below X.heap.size X w')
 HBD : Hid (∀ l1 V, Below X.heap.size X V → 0 ≤ l1 → l1 ≤ 100000 → Calls Tryz.prog 33 #[.slice A2 nb m2, .int .i64 (depth + 1), .int .i64 l1] V fun e w' => e = .returned (.int .i64 (Xbw bd (depth + 1) l1)) ∧ Below X.heap.size X w')
 HEL : Hid (∀ l1 V, Below X.heap.size X V → 0 ≤ l1 → l1 ≤ 100000 → Calls Tryz.prog 33 #[.slice A3 nl m3, .int .i64 (depth + 1), .int .i64 l1] V fun e w' => e = .returned (.int .i64 (Xbw el (depth + 1) l1)) ∧ Below X.heap.size X w')
 HEX : Hid (∀ (j : Nat) (hj : j < ex.length), ∃ b off yk yp yn ys yv, A = some ⟨b, off, none⟩ ∧ (∀ V, Below X.heap.size X V →
   V.cell? ⟨b, off + j * 5, none⟩ = some (.int .i64 yk) ∧ V.cell? ⟨b, off + j * 5 + 1, none⟩ = some (.int .i64 yp) ∧ V.cell? ⟨b, off + j * 5 + 2, none⟩ = some (.int .i64 yn) ∧ V.cell? ⟨b, off + j * 5 + 3, none⟩ = some (.string ys) ∧ V.cell? ⟨b, off + j * 5 + 4, none⟩ = some yv) ∧
   yk = ex[j].kind ∧ ∀ (l : Int) (V : World), Below X.heap.size X V → l ≤ 100000 →
   Calls Tryz.prog 62 #[.agg #[.int .i64 yk, .int .i64 yp, .int .i64 yn, .string ys, yv], .int .i64 (depth + 1), .int .i64 0, .int .i64 l] V fun e w' => e = .returned (.int .i64 (Xdb ex[j] (depth + 1) 0 l)) ∧ Below X.heap.size X w')
 HEND : Hid (∀ V, Below X.heap.size X V → Below g w V)
 HST : Hid (∀ x : Int, x = left - ow → exsB (ex.drop 0) (depth + 1) x = L1)
 HNX : Hid (nx = ex.length)
 HNB : Hid (nb = bd.length)
 HNL : Hid (nl = el.length)
 HL2 : Hid (∀ l1, 0 ≤ l1 → Xbw bd (depth + 1) l1 ≤ l1)
 HFK : Hid (∀ (h : 0 < ex.length), ex[0].kind = fk)
 hsn : SN.toList.isEmpty = bz
 hse : ST.toList.isEmpty = em
 ht3 : tn ≤ 3
 hd0 : 0 ≤ depth
 hd : depth ≤ 24
 hl0 : 0 ≤ left
 hl1 : left ≤ 100000
 hL1le : L1 ≤ 100000
 hxk : xk = exN k
theorem StF.first {w X : World} {g : Nat} {k p : Int} {SN ST : ByteArray} {A A2 A3 : Option Addr} {c m2 m3 nx nb nl tn : Nat} {bn bt bz em : Bool} {fk depth left ow L1 xk : Int} {ex : List Ex} {bd el : List Sm} (F : StF w X g k p SN ST A A2 A3 c m2 m3 nx nb nl tn bn bt bz em fk depth left ow L1 xk ex bd el) : nx = 0 ∨ ∃ b0 off0, A = some ⟨b0, off0, none⟩ ∧ ∀ V, Below X.heap.size X V → V.cell? ⟨b0, off0, none⟩ = some (.int .i64 fk) := by
 rcases Nat.eq_zero_or_pos nx with h | h
 · exact .inl h
 · obtain ⟨b0, off0, yk, yp, yn, ys, yv, e1, e2, e3, _⟩ := F.HEX.out 0 (by rw [← F.HNX.out]; exact h)
   refine .inr ⟨b0, off0, e1, fun V hV => ?_⟩
   have := (e2 V hV).1
   rw [Nat.zero_mul, Nat.add_zero, e3, F.HFK.out] at this
   exact this
structure DcF (w X : World) (g : Nat) (k p num : Int) (SN ST : ByteArray) (A5 A6 : Option Addr) (m5 m6 np nb tn : Nat) (bn em : Bool) (left ow : Int) (prs : List Pr) (bd : List Sm) : Prop where
 HX : Hid (X = w.alloc (.cells #[.int .i64 k, .int .i64 p, .int .i64 num, .string SN, .string ST, .slice A5 np m5, .slice A6 nb m6] 41))
 HG : Hid (g = w.heap.size)
 HGL : Hid (g < X.heap.size)
 HC : Hid (∀ V : World, Below X.heap.size X V → V.cell? ⟨g, 0, none⟩ = some (.int .i64 k) ∧ V.cell? ⟨g, 2, none⟩ = some (.int .i64 num) ∧ V.cell? ⟨g, 3, none⟩ = some (.string SN) ∧ V.cell? ⟨g, 4, none⟩ = some (.string ST) ∧ V.cell? ⟨g, 5, none⟩ = some (.slice A5 np m5) ∧ V.cell? ⟨g, 6, none⟩ = some (.slice A6 nb m6))
 HNM : Hid (∀ V, Below X.heap.size X V → Calls Tryz.prog 30 #[.string SN] V fun e w' => e = .returned (.bool bn) ∧ Below X.heap.size X w')
 HTY : Hid (∀ V, Below X.heap.size X V → Calls Tryz.prog 31 #[.string ST] V fun e w' => ∃ A' c', e = .returned (.slice A' tn c') ∧ Below X.heap.size X w')
 HPR : Hid (∀ (m l : Int) V, Below X.heap.size X V → 0 ≤ m → m ≤ 100 → -10000000 ≤ l → l ≤ 100000 → Calls Tryz.prog 32 #[.slice A5 np m5, .int .i64 m, .int .i64 l] V fun e w' => e = .returned (.int .i64 (if m < (np : Int) then -1 else Xcn prs l)) ∧ Below X.heap.size X w')
 HBD : Hid (∀ (l : Int) V, Below X.heap.size X V → 0 ≤ l → l ≤ 100000 → Calls Tryz.prog 33 #[.slice A6 nb m6, .int .i64 1, .int .i64 l] V fun e w' => e = .returned (.int .i64 (Xbw bd 1 l)) ∧ Below X.heap.size X w')
 HEND : Hid (∀ V, Below X.heap.size X V → Below g w V)
 HLE : Hid (∀ l : Int, l ≤ 100000 → Xcn prs l ≤ 100000)
 hse : ST.toList.isEmpty = em
 ht3 : tn ≤ 3
 hnp : np ≤ 1000000
 hl0 : 0 ≤ left
 hl1 : left ≤ 100000
end Go.Proofs.YtodociiaobjfgaaGreatDoor
