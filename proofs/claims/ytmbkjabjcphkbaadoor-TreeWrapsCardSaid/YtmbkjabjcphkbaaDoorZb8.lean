/- Xw; Xx; Xy; Ye -/
import Derived.Test.YtmbkjabjcphkbaaDoorZb7
import Derived.Test.YtmbkjabjcphkbaaDoorZb6
section
/- TreeParts holds of every program. -/
set_option linter.unusedVariables false
namespace Go.Proofs.YtmbkjabjcphkbaaDoor
open Go.RowKit

theorem treeParts_walk (w : World) (htab : TabW w) {ds : List Dc} {v : Value} (h : DcsIn w (· < w.heap.size) ds v) (x y : Int) :
    Calls Tryd.prog 5 #[.agg #[v], .int .i64 x, .int .i64 y] w fun r w' => r = .returned (.bool true) ∧ Below w.heap.size w w' := by
  by_cases hw : 40000 < goDs ds 0 40000 60
  · exact treeParts_heavy w htab h hw
  by_cases ho : x < 0 ∨ (ds.length : Int) < y ∨ y < x
  · exact treeParts_out w htab h ho hw
  have h1 : ¬ x < 0 := fun e => ho (.inl e)
  have h2 : ¬ (ds.length : Int) < y := fun e => ho (.inr (.inl e))
  have h3 : ¬ y < x := fun e => ho (.inr (.inr e))
  rcases fin_cases (penP ds) with hf | ⟨T, hl, hft, hf⟩
  · exact treeParts_err w htab h h1 h2 h3 hw hf
  obtain ⟨m, rfl⟩ : ∃ m : Nat, x = (m : Int) := ⟨x.toNat, by omega⟩
  obtain ⟨k, rfl⟩ : ∃ k : Nat, y = (k : Int) := ⟨y.toNat, by omega⟩
  by_cases hne : ds = []
  · have hk : ds.length = 0 := by rw [hne]; rfl
    obtain rfl : k = 0 := by omega
    obtain rfl : m = 0 := by omega
    exact treeParts_nil w htab h hne hw
  · have hxy : m ≤ k := by omega
    have hyn : k ≤ ds.length := by omega
    obtain ⟨a, b, c, fa, fb, fc, ht, la, lb, lc⟩ := parts_plain ds m k hxy hyn hl
    exact treeParts_main w htab h hxy hyn hne hw hft hf fa fb fc ht la lb lc

end Go.Proofs.YtmbkjabjcphkbaaDoor
end
section
/- An expression within another one: its text, plain. -/
set_option linter.unusedVariables false
namespace Go.Proofs.YtmbkjabjcphkbaaDoor
open Go.RowKit

mutual
/-- what is right so deep is right where it is less deep -/
theorem penE_up : ∀ (e : Ex) (d d' c : Int) (T : List (List UInt8)), penE e d c = some T → d' ≤ d → penE e d' c = some T
  | .mk k p n s args, d, d', c, T, h, hd => by
    rw [penE] at h ⊢
    split at h
    · rename_i hc
      rw [if_pos ⟨by omega, hc.2⟩]
      cases hA : penAs args (behindB k) d c with
      | none => rw [hA] at h; cases h
      | some xs => rw [hA] at h; rw [penAs_up args _ d d' c xs hA hd]; exact h
    · cases h
theorem penAs_up : ∀ (es : List Ex) (b : Bool) (d d' c : Int) (X : List (List (List UInt8))), penAs es b d c = some X → d' ≤ d → penAs es b d' c = some X
  | [], b, d, d', c, X, h, hd => by rw [penAs] at h ⊢; exact h
  | e :: es, b, d, d', c, X, h, hd => by
    rw [penAs] at h ⊢
    split at h
    · cases h
    · rename_i x hx
      split at h
      · cases h
      · rename_i xs hxs
        rw [penAs_up es false d d' c xs hxs hd]
        have hx' : (if b = true then penE e d' (c + 1) else penE e (d' + 1) 0) = some x := by
          cases b with
          | true => rw [if_pos rfl] at hx ⊢; exact penE_up e d d' (c + 1) x hx hd
          | false => rw [if_neg (by decide)] at hx ⊢; exact penE_up e (d + 1) (d' + 1) 0 x hx (by omega)
        rw [hx']; exact h
end
theorem shapeE_ne (k n : Int) (s : List UInt8) : ∀ (xs : List (List (List UInt8))), shapeE k n s xs ≠ []
  | [] => by simp only [shapeE]; repeat' (first | split | simp)
  | [a] => by simp only [shapeE]; repeat' (first | split | simp)
  | [a, b] => by simp only [shapeE]; repeat' (first | split | simp)
  | a :: b :: c :: r => by unfold shapeE; simp
theorem penE_ne {e : Ex} {d c : Int} {T : List (List UInt8)} (h : penE e d c = some T) : T ≠ [] := by
  cases e with
  | mk k p n s args =>
    rw [penE] at h
    split at h
    · cases hA : penAs args (behindB k) d c with
      | none => rw [hA] at h; cases h
      | some xs => rw [hA] at h; cases h; exact shapeE_ne _ _ _ _
    · cases h
theorem penAs_one (e : Ex) (d c : Int) : penAs [e] false d c = (penE e (d + 1) 0).map fun x => [x] := by
  rw [penAs, if_neg (by decide)]
  cases penE e (d + 1) 0 with
  | none => rfl
  | some x => rw [penAs]; rfl
theorem wrap_un (e : Ex) : penE (.mk 9 0 0 [45] [e]) 2 0 = (penE e 3 0).map fun a => [[40], [45]] ++ a ++ [[41]] := by
  rw [penE, if_pos ⟨by decide, by decide, rfl⟩, show behindB 9 = false from rfl, penAs_one]
  show Option.map _ (Option.map _ (penE e 3 0)) = _
  cases penE e 3 0 <;> rfl
theorem wrap_len (e : Ex) : penE (.mk 8 0 0 [] [e]) 2 0 = (penE e 3 0).map fun a => [[108, 101, 110], [40]] ++ a ++ [[41]] := by
  rw [penE, if_pos ⟨by decide, by decide, rfl⟩, show behindB 8 = false from rfl, penAs_one]
  show Option.map _ (Option.map _ (penE e 3 0)) = _
  cases penE e 3 0 <;> rfl
theorem fin_no {C : Ts} (h : lim C = none) : fin C = ([], 23) := by unfold fin; rw [h]
theorem lim_no {T : List (List UInt8)} (h : ¬ fits T) : lim (some T) = none := by unfold lim; simp [h]
theorem fin_yes {T : List (List UInt8)} (h : fits T) : fin (some T) = (joinT T, 0) := by unfold fin lim; simp [h]
theorem fin_len (C : Ts) : (fin C).1.length ≤ 16384 := by
  rcases fin_cases C with h | ⟨T, _, hf, h⟩
  · rw [h]; simp
  · rw [h]; exact hf.1
theorem join_un {T : List (List UInt8)} (h : T ≠ []) : joinT ([[40], [45]] ++ T ++ [[41]]) = [40, 32, 45, 32] ++ joinT T ++ [32, 41] := by
  rw [joinT_append (by simp) (by simp), joinT_append (by simp) h]; simp [joinT]
theorem join_len {T : List (List UInt8)} (h : T ≠ []) : joinT ([[108, 101, 110], [40]] ++ T ++ [[41]]) = [108, 101, 110, 32, 40, 32] ++ joinT T ++ [32, 41] := by
  rw [joinT_append (by simp) (by simp), joinT_append (by simp) h]; simp [joinT]
/-- what the three texts are -/
theorem wraps_plain (e : Ex) :
    (fin (penE e 2 0) = ([], 23) ∧ fin (penE (.mk 9 0 0 [45] [e]) 2 0) = ([], 23) ∧ fin (penE (.mk 8 0 0 [] [e]) 2 0) = ([], 23)) ∨
    ∃ s, fin (penE e 2 0) = (s, 0) ∧ s.length ≤ 16384 ∧ (16284 < s.length ∨ (fin (penE (.mk 9 0 0 [45] [e]) 2 0) = ([], 23) ∧ fin (penE (.mk 8 0 0 [] [e]) 2 0) = ([], 23)) ∨
      (fin (penE (.mk 9 0 0 [45] [e]) 2 0) = ([40, 32, 45, 32] ++ s ++ [32, 41], 0) ∧ fin (penE (.mk 8 0 0 [] [e]) 2 0) = ([108, 101, 110, 32, 40, 32] ++ s ++ [32, 41], 0))) := by
  rw [wrap_un, wrap_len]
  cases h3 : penE e 3 0 with
  | none =>
    rcases fin_cases (penE e 2 0) with h | ⟨T, _, hf, h⟩
    · exact .inl ⟨h, rfl, rfl⟩
    · exact .inr ⟨_, h, hf.1, .inr (.inl ⟨rfl, rfl⟩)⟩
  | some T =>
    have h2 := penE_up e 3 2 0 T h3 (by omega)
    have hne := penE_ne h3
    rw [h2]
    show (fin (some T) = _ ∧ fin (some _) = _ ∧ fin (some _) = _) ∨ _
    by_cases hf : fits T
    · refine .inr ⟨_, fin_yes hf, hf.1, ?_⟩
      by_cases hl : 16284 < (joinT T).length
      · exact .inl hl
      · refine .inr ?_
        show (fin (some _) = _ ∧ fin (some _) = _) ∨ (fin (some _) = _ ∧ fin (some _) = _)
        by_cases hc : T.length + 3 ≤ 4096
        · have f1 : fits ([[40], [45]] ++ T ++ [[41]]) := ⟨by rw [join_un hne]; simp; omega, by simp; omega⟩
          have f2 : fits ([[108, 101, 110], [40]] ++ T ++ [[41]]) := ⟨by rw [join_len hne]; simp; omega, by simp; omega⟩
          refine .inr ⟨?_, ?_⟩
          · rw [fin_yes f1, join_un hne]
          · rw [fin_yes f2, join_len hne]
        · refine .inl ⟨fin_no (lim_no fun h => hc ?_), fin_no (lim_no fun h => hc ?_)⟩
          · have := h.2; simp at this; omega
          · have := h.2; simp at this; omega
    · refine .inl ⟨fin_no (lim_no hf), fin_no (lim_no fun h => hf ?_), fin_no (lim_no fun h => hf ?_)⟩
      · exact fits_of_append_r (fits_of_append (b := [[41]]) h)
      · exact fits_of_append_r (fits_of_append (b := [[41]]) h)

end Go.Proofs.YtmbkjabjcphkbaaDoor
end
section
/- The walk of TreeWraps. -/
set_option linter.unusedSimpArgs false
set_option linter.unusedVariables false
namespace Go.Proofs.YtmbkjabjcphkbaaDoor
open Go.RowKit

mutual
theorem smallE_mono {N M : Nat} (h : N ≤ M) : ∀ e : Ex, smallE N e → smallE M e
  | .mk k p n s a, hs => by rw [smallE] at hs ⊢; exact ⟨by omega, by omega, smallEs_mono h a hs.2.2⟩
theorem smallEs_mono {N M : Nat} (h : N ≤ M) : ∀ es : List Ex, smallEs N es → smallEs M es
  | [], _ => by rw [smallEs]; trivial
  | e :: es, hs => by rw [smallEs] at hs ⊢; exact ⟨smallE_mono h e hs.1, smallEs_mono h es hs.2⟩
end
theorem smallEs_up {N M : Nat} {es : List Ex} (hs : smallEs N es) (h : N ≤ M) : smallEs M es := smallEs_mono h es hs
set_option maxHeartbeats 8000000 in
set_option maxRecDepth 100000 in
theorem treeWraps_heavy (w : World) (htab : TabW w) (e : Ex) {v : Value} (h : IsExs w (· < w.heap.size) e.args v) (hnm : e.name.length ≤ 140737488355328) (hw : 20000 < weigh e 20000 300) :
    Calls Tryd.prog 7 #[.agg #[.int .i64 e.kind, .int .i64 e.pl, .int .i64 e.num, .string (strOf e.name), v]] w fun r w' => r = .returned (.bool true) ∧ Below w.heap.size w w' := by
  obtain ⟨A, c, rfl, hlc, hM⟩ := h.slice
  obtain ⟨n, hn⟩ : ∃ n, n = e.args.length := ⟨_, rfl⟩
  rw [← hn] at h hlc ⊢
  have HWE : Hid (∀ wx, Below w.heap.size w wx → Calls Tryd.prog 11 #[.agg #[.int .i64 e.kind, .int .i64 e.pl, .int .i64 e.num, .string (strOf e.name), .slice A n c], .int .i64 20000, .int .i64 300] wx (WeighPost wx (weigh e 20000 300))) := Lib.hid fun wx hb => by
    have := (weigh_any h e.kind e.pl e.num 20000 300 e.name wx hb hb.size hnm (by omega) (by omega) (by omega) (by omega)).1
    rw [Ex.eta] at this
    exact this
  obtain ⟨kk, hkk⟩ : ∃ x, x = e.kind := ⟨_, rfl⟩
  obtain ⟨pp, hpp⟩ : ∃ x, x = e.pl := ⟨_, rfl⟩
  obtain ⟨nn, hnn⟩ : ∃ x, x = e.num := ⟨_, rfl⟩
  obtain ⟨SS, hss⟩ : ∃ x, x = strOf e.name := ⟨_, rfl⟩
  rw [← hkk, ← hpp, ← hnn, ← hss] at HWE ⊢
  obtain ⟨X, hX⟩ : ∃ X : World, X = w.alloc (.cells #[.int .i64 kk, .int .i64 pp, .int .i64 nn, .string SS, .slice A n c] 24) := ⟨_, rfl⟩
  have hbx : Below w.heap.size w X := by rw [hX]; exact (Below.refl _ _).alloc (Nat.le_refl _) _
  have hrow : ExBlk X w.heap.size kk pp nn SS (.slice A n c) := by rw [hX]; exact ExBlk.new _ _ _ _ _ _
  have HAL := Lib.hid (alive_any X (htab.below hbx))
  have HX := Lib.hid hX
  have HBX := Lib.hid hbx
  have HROW := Lib.hid hrow
  have HT := Lib.hid htab
  have HIN := Lib.hid h
  have HK := Lib.hid hkk
  have HP := Lib.hid hpp
  have HN := Lib.hid hnn
  have HSS := Lib.hid hss
  have HLEN := Lib.hid hn
  clear hX hbx hrow htab h hkk hpp hnn hss hn
  have HCL : Hid (∀ wx, Below X.heap.size X wx → wx.cell? ⟨w.heap.size, 0, none⟩ = some (.int .i64 kk) ∧ wx.cell? ⟨w.heap.size, 1, none⟩ = some (.int .i64 pp) ∧ wx.cell? ⟨w.heap.size, 2, none⟩ = some (.int .i64 nn) ∧ wx.cell? ⟨w.heap.size, 3, none⟩ = some (.string SS) ∧ wx.cell? ⟨w.heap.size, 4, none⟩ = some (.slice A n c)) := Lib.hid fun wx hb => by
    have hk : ExBlk wx w.heap.size kk pp nn SS (.slice A n c) := HROW.out.below hb (lt_of_heap HROW.out)
    exact ⟨hk.c0, hk.c1, hk.c2, hk.c3, hk.c4⟩
  go_enter Tryd.func7, Tryd.ntmps7
  go_wp2_with fail
  rw [← HX.out]
  refine HAL.out.mono ?_
  rintro e1 w1 ⟨rfl, hb1⟩
  have HB1 := Lib.hid hb1
  have HD1 := Lib.hid (HBX.out.trans (hb1.mono HBX.out.size))
  obtain ⟨q0, q1, q2, q3, q4⟩ := HCL.out w1 hb1
  clear hb1
  go_wp2_with fail
  refine (HWE.out w1 HD1.out).mono ?_
  rintro e2 w2 ⟨rfl, hb2⟩
  clear q0 q1 q2 q3 q4
  have HB2 := Lib.hid (HB1.out.trans (hb2.mono HB1.out.size))
  have HD2 := Lib.hid (HD1.out.trans (hb2.mono HD1.out.size))
  obtain ⟨q0, q1, q2, q3, q4⟩ := HCL.out w2 HB2.out
  clear hb2
  obtain ⟨G, hG⟩ : ∃ G, G = weigh e 20000 300 := ⟨_, rfl⟩
  rw [← hG] at hw ⊢
  clear hG
  go_wp2
  go_ret
  exact ⟨rfl, HD2.out⟩
set_option maxHeartbeats 8000000 in
set_option maxRecDepth 100000 in
theorem treeWraps_light (w : World) (htab : TabW w) (e : Ex) {v : Value} (h : IsExs w (· < w.heap.size) e.args v) (hnm : e.name.length ≤ 140737488355328) (hw : ¬ 20000 < weigh e 20000 300) :
    Calls Tryd.prog 7 #[.agg #[.int .i64 e.kind, .int .i64 e.pl, .int .i64 e.num, .string (strOf e.name), v]] w fun r w' => r = .returned (.bool true) ∧ Below w.heap.size w w' := by
  obtain ⟨A, c, rfl, hlc, hM⟩ := h.slice
  obtain ⟨n, hn⟩ : ∃ n, n = e.args.length := ⟨_, rfl⟩
  rw [← hn] at h hlc ⊢
  have HWE : Hid (∀ wx, Below w.heap.size w wx → Calls Tryd.prog 11 #[.agg #[.int .i64 e.kind, .int .i64 e.pl, .int .i64 e.num, .string (strOf e.name), .slice A n c], .int .i64 20000, .int .i64 300] wx (WeighPost wx (weigh e 20000 300))) := Lib.hid fun wx hb => by
    have := (weigh_any h e.kind e.pl e.num 20000 300 e.name wx hb hb.size hnm (by omega) (by omega) (by omega) (by omega)).1
    rw [Ex.eta] at this
    exact this
  obtain ⟨kk, hkk⟩ : ∃ x, x = e.kind := ⟨_, rfl⟩
  obtain ⟨pp, hpp⟩ : ∃ x, x = e.pl := ⟨_, rfl⟩
  obtain ⟨nn, hnn⟩ : ∃ x, x = e.num := ⟨_, rfl⟩
  obtain ⟨SS, hss⟩ : ∃ x, x = strOf e.name := ⟨_, rfl⟩
  rw [← hkk, ← hpp, ← hnn, ← hss] at HWE ⊢
  obtain ⟨X, hX⟩ : ∃ X : World, X = w.alloc (.cells #[.int .i64 kk, .int .i64 pp, .int .i64 nn, .string SS, .slice A n c] 24) := ⟨_, rfl⟩
  have hbx : Below w.heap.size w X := by rw [hX]; exact (Below.refl _ _).alloc (Nat.le_refl _) _
  have hrow : ExBlk X w.heap.size kk pp nn SS (.slice A n c) := by rw [hX]; exact ExBlk.new _ _ _ _ _ _
  have HAL := Lib.hid (alive_any X (htab.below hbx))
  have HX := Lib.hid hX
  have HBX := Lib.hid hbx
  have HROW := Lib.hid hrow
  have HT := Lib.hid htab
  have HIN := Lib.hid h
  have HK := Lib.hid hkk
  have HP := Lib.hid hpp
  have HN := Lib.hid hnn
  have HSS := Lib.hid hss
  have HLEN := Lib.hid hn
  clear hX hbx hrow htab h hkk hpp hnn hss hn
  have HCL : Hid (∀ wx, Below X.heap.size X wx → wx.cell? ⟨w.heap.size, 0, none⟩ = some (.int .i64 kk) ∧ wx.cell? ⟨w.heap.size, 1, none⟩ = some (.int .i64 pp) ∧ wx.cell? ⟨w.heap.size, 2, none⟩ = some (.int .i64 nn) ∧ wx.cell? ⟨w.heap.size, 3, none⟩ = some (.string SS) ∧ wx.cell? ⟨w.heap.size, 4, none⟩ = some (.slice A n c)) := Lib.hid fun wx hb => by
    have hk : ExBlk wx w.heap.size kk pp nn SS (.slice A n c) := HROW.out.below hb (lt_of_heap HROW.out)
    exact ⟨hk.c0, hk.c1, hk.c2, hk.c3, hk.c4⟩
  go_enter Tryd.func7, Tryd.ntmps7
  go_wp2_with fail
  rw [← HX.out]
  refine HAL.out.mono ?_
  rintro e1 w1 ⟨rfl, hb1⟩
  have HB1 := Lib.hid hb1
  have HD1 := Lib.hid (HBX.out.trans (hb1.mono HBX.out.size))
  obtain ⟨q0, q1, q2, q3, q4⟩ := HCL.out w1 hb1
  clear hb1
  go_wp2_with fail
  refine (HWE.out w1 HD1.out).mono ?_
  rintro e2 w2 ⟨rfl, hb2⟩
  clear q0 q1 q2 q3 q4
  have HB2 := Lib.hid (HB1.out.trans (hb2.mono HB1.out.size))
  have HD2 := Lib.hid (HD1.out.trans (hb2.mono HD1.out.size))
  obtain ⟨q0, q1, q2, q3, q4⟩ := HCL.out w2 HB2.out
  clear hb2
  obtain ⟨G, hG⟩ : ∃ G, G = weigh e 20000 300 := ⟨_, rfl⟩
  rw [← hG] at hw ⊢
  have hl := weigh_light e 20000 300 301 20000 (by omega) (by omega) (by omega) (by omega)
  have hargs := smallE_args hl.1
  have hcp : copyEs e.args 301 = e.args := by
    have h1 := (copyE_args e 301).2.2.2.2
    rw [hl.2] at h1
    exact h1.symm
  have HCPY : Hid (∀ wx, Below w.heap.size w wx → Calls Tryd.prog 12 #[.agg #[.int .i64 kk, .int .i64 pp, .int .i64 nn, .string SS, .slice A n c], .int .i64 301] wx fun r w' => ∃ A' n' c', r = .returned (.agg #[.int .i64 kk, .int .i64 pp, .int .i64 nn, .string SS, .slice A' n' c']) ∧ IsExs w' (· < w'.heap.size) e.args (.slice A' n' c') ∧ Below wx.heap.size wx w') := Lib.hid fun wx hb => by
    have h1 := copy_any HIN.out (smallEs_up hargs.2.2 (by omega)) (by have := hargs.2.1; omega) kk pp nn 301 SS wx hb hb.size (by omega) (by omega)
    rw [hcp] at h1
    refine h1.mono fun r w' => ?_
    rintro ⟨v', rfl, hi, hbs⟩
    obtain ⟨A', c', rfl, _, _⟩ := hi.slice
    exact ⟨A', _, c', rfl, hi.keep (fun _ _ => rfl) (fun b hlt => hlt.2), hbs⟩
  have hsm : smallEs 40000 e.args := smallEs_up hargs.2.2 (by omega)
  have hnl : e.name.length ≤ 40000 := by have := hargs.1; omega
  obtain ⟨S1, hS1⟩ : ∃ x, x = strOf (fin (penE e 2 0)).1 := ⟨_, rfl⟩
  obtain ⟨E1, hE1⟩ : ∃ x, x = (fin (penE e 2 0)).2 := ⟨_, rfl⟩
  obtain ⟨T1, hT1⟩ : ∃ x, x = strOf (fin (penE (.mk 9 0 0 [45] [e]) 2 0)).1 := ⟨_, rfl⟩
  obtain ⟨F1, hF1⟩ : ∃ x, x = (fin (penE (.mk 9 0 0 [45] [e]) 2 0)).2 := ⟨_, rfl⟩
  obtain ⟨U1, hU1⟩ : ∃ x, x = strOf (fin (penE (.mk 8 0 0 [] [e]) 2 0)).1 := ⟨_, rfl⟩
  obtain ⟨G1, hG1⟩ : ∃ x, x = (fin (penE (.mk 8 0 0 [] [e]) 2 0)).2 := ⟨_, rfl⟩
  have HSE : Hid (∀ wx A' n' c', Below w.heap.size w wx → IsExs wx (· < wx.heap.size) e.args (.slice A' n' c') → Calls Tryd.prog 13 #[.agg #[.int .i64 kk, .int .i64 pp, .int .i64 nn, .string SS, .slice A' n' c']] wx fun r w' => r = .returned (.tuple #[.string S1, .int .i64 E1]) ∧ Below wx.heap.size wx w') := Lib.hid fun wx A' n' c' hb hi => by
    rw [HK.out, HP.out, HN.out, HSS.out, hS1, hE1]
    exact showExpr_any wx (HT.out.below hb) e hi hsm hnl
  have hone : ∀ wx g A' n' c', wx.heap[g]? = some (.cells #[.int .i64 kk, .int .i64 pp, .int .i64 nn, .string SS, .slice A' n' c'] 24 (0, 0)) → IsExs wx (· < wx.heap.size) e.args (.slice A' n' c') → IsExs wx (· < wx.heap.size) [e] (.slice (some ⟨g, 0, none⟩) 1 1) := fun wx g A' n' c' hr hi => by
    rw [HK.out, HP.out, HN.out, HSS.out] at hr
    exact exs_one (lt_of_heap hr) (by omega) hr hi
  have hs1 : smallEs 40000 [e] := by
    rw [smallEs, smallEs]
    refine ⟨?_, trivial⟩
    have := Ex.eta e
    rw [← this, smallE]
    exact ⟨hnl, by have := hargs.2.1; omega, hsm⟩
  have HSU : Hid (∀ wx g A' n' c', Below w.heap.size w wx → wx.heap[g]? = some (.cells #[.int .i64 kk, .int .i64 pp, .int .i64 nn, .string SS, .slice A' n' c'] 24 (0, 0)) → IsExs wx (· < wx.heap.size) e.args (.slice A' n' c') → Calls Tryd.prog 13 #[.agg #[.int .i64 9, .int .i64 0, .int .i64 0, .string ⟨#[45]⟩, .slice (some ⟨g, 0, none⟩) 1 1]] wx fun r w' => r = .returned (.tuple #[.string T1, .int .i64 F1]) ∧ Below wx.heap.size wx w') := Lib.hid fun wx g A' n' c' hb hr hi => by
    rw [hT1, hF1]
    exact showExpr_any wx (HT.out.below hb) (.mk 9 0 0 [45] [e]) (hone wx g A' n' c' hr hi) hs1 (by show ([45] : List UInt8).length ≤ _; simp)
  have HSL : Hid (∀ wx g A' n' c', Below w.heap.size w wx → wx.heap[g]? = some (.cells #[.int .i64 kk, .int .i64 pp, .int .i64 nn, .string SS, .slice A' n' c'] 24 (0, 0)) → IsExs wx (· < wx.heap.size) e.args (.slice A' n' c') → Calls Tryd.prog 13 #[.agg #[.int .i64 8, .int .i64 0, .int .i64 0, .string ⟨#[]⟩, .slice (some ⟨g, 0, none⟩) 1 1]] wx fun r w' => r = .returned (.tuple #[.string U1, .int .i64 G1]) ∧ Below wx.heap.size wx w') := Lib.hid fun wx g A' n' c' hb hr hi => by
    rw [hU1, hG1]
    exact showExpr_any wx (HT.out.below hb) (.mk 8 0 0 [] [e]) (hone wx g A' n' c' hr hi) hs1 (by show ([] : List UInt8).length ≤ _; simp)
  have HD : Hid ((E1 = 23 ∧ F1 = 23 ∧ G1 = 23) ∨ (E1 = 0 ∧ S1.size ≤ 16384 ∧ (16284 < S1.size ∨ (F1 = 23 ∧ G1 = 23) ∨ (F1 = 0 ∧ G1 = 0 ∧ T1 = ⟨#[40, 32, 45, 32]⟩ ++ S1 ++ ⟨#[32, 41]⟩ ∧ U1 = ⟨#[108, 101, 110, 32, 40, 32]⟩ ++ S1 ++ ⟨#[32, 41]⟩)))) := Lib.hid (by
    have hsz : S1.size = (fin (penE e 2 0)).1.length := by rw [hS1, Lib.size_eq, strOf_data]
    rw [hsz, hE1, hF1, hG1, hT1, hU1, hS1]
    rcases wraps_plain e with ⟨f1, f2, f3⟩ | ⟨s, f1, hs, hd⟩
    · rw [f1, f2, f3]; exact .inl ⟨rfl, rfl, rfl⟩
    · rw [f1]
      refine .inr ⟨rfl, hs, ?_⟩
      rcases hd with hd | ⟨f2, f3⟩ | ⟨f2, f3⟩
      · exact .inl hd
      · rw [f2, f3]; exact .inr (.inl ⟨rfl, rfl⟩)
      · rw [f2, f3]; exact .inr (.inr ⟨rfl, rfl, ByteArray.ext (by simp [strOf]), ByteArray.ext (by simp [strOf])⟩))
  clear hG hl hargs hcp hsm hnl hS1 hE1 hT1 hF1 hU1 hG1 hone hs1 hnm hlc hM
  go_wp2_with fail
  refine (HCPY.out w2 HD2.out).mono ?_
  rintro e3 w3 ⟨A3, n3, c3, rfl, hin, hbs⟩
  clear q0 q1 q2 q3 q4
  have HB3 := Lib.hid (HB2.out.trans (hbs.mono HB2.out.size))
  have HD3 := Lib.hid (HD2.out.trans (hbs.mono HD2.out.size))
  obtain ⟨q0, q1, q2, q3, q4⟩ := HCL.out w3 HB3.out
  have HI3 := Lib.hid hin
  clear hin
  clear hbs
  go_wp2_with fail
  refine (HSE.out w3 A3 n3 c3 HD3.out HI3.out).mono ?_
  rintro e4 w4 ⟨rfl, hbs⟩
  clear q0 q1 q2 q3 q4
  have HB4 := Lib.hid (HB3.out.trans (hbs.mono HB3.out.size))
  have HD4 := Lib.hid (HD3.out.trans (hbs.mono HD3.out.size))
  obtain ⟨q0, q1, q2, q3, q4⟩ := HCL.out w4 HB4.out
  clear hbs
  go_wp2_with fail
  refine (HCPY.out w4 HD4.out).mono ?_
  rintro e5 w5 ⟨A5, n5, c5, rfl, hin, hbs⟩
  clear q0 q1 q2 q3 q4
  have HB5 := Lib.hid (HB4.out.trans (hbs.mono HB4.out.size))
  have HD5 := Lib.hid (HD4.out.trans (hbs.mono HD4.out.size))
  obtain ⟨q0, q1, q2, q3, q4⟩ := HCL.out w5 HB5.out
  have HI5 := Lib.hid hin
  clear hin
  clear hbs
  obtain ⟨Y, hY⟩ : ∃ Y : World, Y = w5.alloc (.cells #[.int .i64 kk, .int .i64 pp, .int .i64 nn, .string SS, .slice A5 n5 c5] 24) := ⟨_, rfl⟩
  have hYB : Below w5.heap.size w5 Y := by rw [hY]; exact (Below.refl _ _).alloc (Nat.le_refl _) _
  have hYr : Y.heap[w5.heap.size]? = some (.cells #[.int .i64 kk, .int .i64 pp, .int .i64 nn, .string SS, .slice A5 n5 c5] 24 (0, 0)) := by rw [hY]; exact heap_alloc_new _ _
  have HC := Lib.hid (HSU.out Y w5.heap.size A5 n5 c5 (HD5.out.trans (hYB.mono HD5.out.size)) hYr (HI5.out.keep (fun b hlt => hYB.block b hlt) (fun b hlt => Nat.lt_of_lt_of_le hlt hYB.size)))
  have HYB := Lib.hid hYB
  have HY := Lib.hid hY
  clear hY hYB hYr
  go_wp2_with fail
  rw [← HY.out]
  refine HC.out.mono ?_
  rintro e6 w6 ⟨rfl, hbs⟩
  clear q0 q1 q2 q3 q4
  have hbt := HYB.out.trans (hbs.mono HYB.out.size)
  have HB6 := Lib.hid (HB5.out.trans (hbt.mono HB5.out.size))
  have HD6 := Lib.hid (HD5.out.trans (hbt.mono HD5.out.size))
  obtain ⟨q0, q1, q2, q3, q4⟩ := HCL.out w6 HB6.out
  clear hbs hbt HC HYB HY Y
  go_wp2_with fail
  refine (HCPY.out w6 HD6.out).mono ?_
  rintro e7 w7 ⟨A7, n7, c7, rfl, hin, hbs⟩
  clear q0 q1 q2 q3 q4
  have HB7 := Lib.hid (HB6.out.trans (hbs.mono HB6.out.size))
  have HD7 := Lib.hid (HD6.out.trans (hbs.mono HD6.out.size))
  obtain ⟨q0, q1, q2, q3, q4⟩ := HCL.out w7 HB7.out
  have HI7 := Lib.hid hin
  clear hin
  clear hbs
  obtain ⟨Y, hY⟩ : ∃ Y : World, Y = w7.alloc (.cells #[.int .i64 kk, .int .i64 pp, .int .i64 nn, .string SS, .slice A7 n7 c7] 24) := ⟨_, rfl⟩
  have hYB : Below w7.heap.size w7 Y := by rw [hY]; exact (Below.refl _ _).alloc (Nat.le_refl _) _
  have hYr : Y.heap[w7.heap.size]? = some (.cells #[.int .i64 kk, .int .i64 pp, .int .i64 nn, .string SS, .slice A7 n7 c7] 24 (0, 0)) := by rw [hY]; exact heap_alloc_new _ _
  have HC := Lib.hid (HSL.out Y w7.heap.size A7 n7 c7 (HD7.out.trans (hYB.mono HD7.out.size)) hYr (HI7.out.keep (fun b hlt => hYB.block b hlt) (fun b hlt => Nat.lt_of_lt_of_le hlt hYB.size)))
  have HYB := Lib.hid hYB
  have HY := Lib.hid hY
  clear hY hYB hYr
  go_wp2_with fail
  rw [← HY.out]
  refine HC.out.mono ?_
  rintro e8 w8 ⟨rfl, hbs⟩
  clear q0 q1 q2 q3 q4
  have hbt := HYB.out.trans (hbs.mono HYB.out.size)
  have HB8 := Lib.hid (HB7.out.trans (hbt.mono HB7.out.size))
  have HD8 := Lib.hid (HD7.out.trans (hbt.mono HD7.out.size))
  obtain ⟨q0, q1, q2, q3, q4⟩ := HCL.out w8 HB8.out
  clear hbs hbt HC HYB HY Y
  rcases HD.out with ⟨rfl, rfl, rfl⟩ | ⟨rfl, hs, hd⟩
  · clear q0 q1 q2 q3 q4
    go_wp2
    go_ret
    exact ⟨rfl, HD8.out⟩
  · rcases hd with hd | ⟨rfl, rfl⟩ | ⟨rfl, rfl, hT, hU⟩
    · have hd' : (16284 : Int) < (S1.size : Int) := by omega
      clear q0 q1 q2 q3 q4
      go_wp2
      go_ret
      exact ⟨rfl, HD8.out⟩
    · clear q0 q1 q2 q3 q4
      go_wp2
      all_goals
        go_ret
        exact ⟨rfl, HD8.out⟩
    · have z1 : ¬ 9223372036854775807 < 4 + S1.size := by omega
      have z2 : ¬ 9223372036854775807 < 4 + S1.size + 2 := by omega
      have z3 : ¬ 9223372036854775807 < 6 + S1.size := by omega
      have z4 : ¬ 9223372036854775807 < 6 + S1.size + 2 := by omega
      have y1 : (T1.toList == ((⟨#[40, 32, 45, 32]⟩ : ByteArray) ++ S1 ++ ⟨#[32, 41]⟩).toList) = true := by rw [hT]; exact beq_self_eq_true _
      have y2 : (U1.toList == ((⟨#[108, 101, 110, 32, 40, 32]⟩ : ByteArray) ++ S1 ++ ⟨#[32, 41]⟩).toList) = true := by rw [hU]; exact beq_self_eq_true _
      clear hT hU q0 q1 q2 q3 q4
      go_wp2
      all_goals
        go_ret
        exact ⟨rfl, HD8.out⟩
theorem treeWraps_walk (w : World) (htab : TabW w) (e : Ex) {v : Value} (h : IsExs w (· < w.heap.size) e.args v) (hnm : e.name.length ≤ 140737488355328) :
    Calls Tryd.prog 7 #[.agg #[.int .i64 e.kind, .int .i64 e.pl, .int .i64 e.num, .string (strOf e.name), v]] w fun r w' => r = .returned (.bool true) ∧ Below w.heap.size w w' := by
  by_cases hw : 20000 < weigh e 20000 300
  · exact treeWraps_heavy w htab e h hnm hw
  · exact treeWraps_light w htab e h hnm hw

end Go.Proofs.YtmbkjabjcphkbaaDoor
end
section
/- An expression, out of a row's argument. -/
set_option linter.unusedVariables false
set_option maxRecDepth 100000
namespace Go.Proofs.YtmbkjabjcphkbaaDoor
open Go Go.ChangeShapes Go.WideShapes Go.ChangeAt Go.ChangeMaps Go.RowKit

theorem opens_expr {H : Type} {enc : TypeId × Value → H} {w : World} {base : Nat} {spare : Nat → Bool} {held : Bool} {v : Value} {d : DataW H} {ps : List MemPlace}
    (h : DataW.Trod enc Tryd.prog w base spare held 24 v d ps) (hv : ∃ a b c d e, v = .agg #[a, b, c, d, e]) (hwt : ∀ y ∈ DataW.weights Tryd.prog 24 d, y ≤ 140737488355328) :
    ∃ (x : Ex) (u : Value), v = .agg #[.int .i64 x.kind, .int .i64 x.pl, .int .i64 x.num, .string (strOf x.name), u] ∧ x.name.length ≤ 140737488355328 ∧ IsExs w (· < w.heap.size) x.args u := by
  obtain ⟨a, b, c, e, f, rfl⟩ := hv
  obtain ⟨fuel, h⟩ := h
  obtain ⟨x0, x1, x2, x3, x4, m, hm, hx1, hl, f0, f1, f2, f3, f4⟩ := trod_struct_5 Tryd.underlying24 h
  have hx' : d = .agg [x0.1, x1.1, x2.1, x3.1, x4.1] := hx1
  rw [hx'] at hwt
  simp only [DataW.weights, Tryd.underlying24, List.map_cons, List.map_nil, DataW.weightsEach, List.append_nil] at hwt
  rw [show Tryd.prog.cellsOf 24 = 5 from by kernel_rfl] at hl
  have hc : (Value.agg #[a, b, c, e, f]).cells.toList = [a, b, c, e, f] := by simp [Value.cells]
  rw [hc] at f0 f1 f2 f3 f4
  simp only [show Tryd.prog.cellsOf 3 = 1 from by kernel_rfl, show Tryd.prog.cellsOf 9 = 1 from by kernel_rfl, show Tryd.prog.cellsOf 22 = 1 from by kernel_rfl, List.drop_zero, List.drop_succ_cons, List.take_succ_cons, List.take_zero] at f0 f1 f2 f3 f4
  obtain ⟨k0, hk0, -, -⟩ := DataW.trod_int Tryd.underlying3 f0
  obtain ⟨k1, hk1, -, -⟩ := DataW.trod_int Tryd.underlying3 f1
  obtain ⟨k2, hk2, -, -⟩ := DataW.trod_int Tryd.underlying3 f2
  obtain ⟨s3, hk3, hx3, -⟩ := DataW.trod_string Tryd.underlying9 f3
  obtain rfl : a = .int .i64 k0 := by simpa using hk0
  obtain rfl : b = .int .i64 k1 := by simpa using hk1
  obtain rfl : c = .int .i64 k2 := by simpa using hk2
  obtain rfl : e = .string s3 := by simpa using hk3
  have hw3 : s3.data.toList.length ≤ 140737488355328 := hwt _ (by simp [hx3, DataW.weights])
  obtain ⟨es, hes⟩ := opens_ex m f x4 f4 (fun y hy => hwt y (by simp [hy]))
  exact ⟨.mk k0 k1 k2 s3.data.toList es, f, by simp [Ex.kind, Ex.pl, Ex.num, Ex.name, strOf_back], hw3, hes⟩

end Go.Proofs.YtmbkjabjcphkbaaDoor
end
