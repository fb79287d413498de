/- Ur Us Ut -/
import Derived.Test.YtodociiaobjfgaaGreatDoorVe0
set_option linter.unusedVariables false
set_option linter.unusedSimpArgs false
namespace Go.Proofs.YtodociiaobjfgaaGreatDoor
open Go.RowKit
mutual
theorem Xkn : ∀ (e : Ex) (m d : Int), 0 ≤ m → 1 ≤ Xdg e m d
 | .mk k p n s xs, m, d, h => by
   rw [Xdg]
   split
   · omega
   · have := Xdh xs (1 + (s.length : Int)) m d
     omega
theorem Xdh : ∀ (es : List Ex) (n m d : Int), n ≤ Xbl es n m d
 | [], n, m, d => by rw [Xbl]; exact Int.le_refl _
 | e :: es, n, m, d => by
   rw [Xbl]
   split
   · rename_i hle
     have h1 := Xkn e (m - n) (d - 1) (by omega)
     have h2 := Xdh es (n + Xdg e (m - n) (d - 1)) m d
     omega
   · exact Int.le_refl _
end
mutual
theorem Xkm : ∀ (e : Ex) (m d cd : Int) (N : Nat), Xdg e m d ≤ m → 0 ≤ d → d ≤ cd → m ≤ (N : Int) → Xkd N e ∧ Xds e cd = e
 | .mk k p n s xs, m, d, cd, N, h, h0, h1, h2 => by
   rw [Xdg] at h
   rw [Xkd, Xds]
   split at h
   · omega
   · rename_i hne
     have hm := Xdh xs (1 + (s.length : Int)) m d
     cases xs with
     | nil => exact ⟨⟨by omega, by simp, by rw [Xbu]; trivial⟩, by rw [Xci]⟩
     | cons x xs =>
       have hd : 0 < d := by
        rcases Int.lt_or_le 0 d with h3 | h3
        · exact h3
        · exact absurd ⟨by omega, by simp⟩ hne
       obtain ⟨a1, a2, a3⟩ := Xit (x :: xs) (1 + (s.length : Int)) m d cd N h (by omega) hd h1 h2
       exact ⟨⟨by omega, by omega, a2⟩, by rw [a3]⟩
theorem Xit : ∀ (es : List Ex) (n m d cd : Int) (N : Nat), Xbl es n m d ≤ m → 0 ≤ n → 0 < d → d ≤ cd → m ≤ (N : Int) → n + (es.length : Int) ≤ m ∧ Xbu N es ∧ Xci es cd = es
 | [], n, m, d, cd, N, h, h0, h1, h2, h3 => by
   rw [Xbl] at h
   exact ⟨by simpa using h, by rw [Xbu]; trivial, by rw [Xci]⟩
 | e :: es, n, m, d, cd, N, h, h0, h1, h2, h3 => by
   rw [Xbl] at h
   split at h
   · rename_i hle
     have p1 := Xkn e (m - n) (d - 1) (by omega)
     have p2 := Xdh es (n + Xdg e (m - n) (d - 1)) m d
     obtain ⟨a1, a2⟩ := Xkm e (m - n) (d - 1) (cd - 1) N (by omega) (by omega) (by omega) (by omega)
     obtain ⟨b1, b2, b3⟩ := Xit es _ m d cd N h (by omega) h1 h2 h3
     refine ⟨by simp; omega, by rw [Xbu]; exact ⟨a1, b2⟩, by rw [Xci, if_pos (by omega), a2, b3]⟩
   · omega
end
theorem Xll : ∀ (es : List Ex) (n m d cd : Int) (N : Nat), Xbl es n m d ≤ m → 0 ≤ n → 0 < d → d ≤ cd + 1 → m ≤ (N : Int) → n + (es.length : Int) ≤ m ∧ Xbu N es ∧ es.map (Xds · cd) = es
 | [], n, m, d, cd, N, h, h0, h1, h2, h3 => by
   rw [Xbl] at h
   exact ⟨by simpa using h, by rw [Xbu]; trivial, rfl⟩
 | e :: es, n, m, d, cd, N, h, h0, h1, h2, h3 => by
   rw [Xbl] at h
   split at h
   · rename_i hle
     have p1 := Xkn e (m - n) (d - 1) (by omega)
     have p2 := Xdh es (n + Xdg e (m - n) (d - 1)) m d
     obtain ⟨a1, a2⟩ := Xkm e (m - n) (d - 1) cd N (by omega) (by omega) (by omega) (by omega)
     obtain ⟨b1, b2, b3⟩ := Xll es _ m d cd N h (by omega) h1 h2 h3
     refine ⟨by simp; omega, by rw [Xbu]; exact ⟨a1, b2⟩, by rw [List.map_cons, a2, b3]⟩
   · omega
theorem Xne (s : Sm) (n most deep : Int) : ∃ n2 n3, n2 = Xbl s.exprs (n + (1 + (s.name.length : Int) + (s.type.length : Int))) most 61 ∧
  n3 = (if n2 ≤ most then n2 + Xbs s.body (most - n2) (deep - 1) else n2) ∧ goS s n most deep = if n3 ≤ most then n3 + Xbs s.els (most - n3) (deep - 1) else n3 :=
 ⟨_, _, rfl, rfl, Xux s n most deep rfl rfl⟩
theorem Xec {ss : List Sm} {m d : Int} (hm : 0 ≤ m) (h : 0 ≤ goB ss 0 m d) : 0 ≤ Xbs ss m d := by
 unfold Xbs
 split
 · omega
 · exact h
mutual
theorem Xlt : ∀ (s : Sm) (n m d : Int), n + 1 ≤ goS s n m d
 | .mk k p nm ty ex bd el, n, m, d => by
   obtain ⟨n2, n3, h2, h3, h4⟩ := Xne (.mk k p nm ty ex bd el) n m d
   rw [h4]
   have a2 : n + 1 ≤ n2 := by
    rw [h2]
    have := Xdh ex (n + (1 + (nm.length : Int) + (ty.length : Int))) m 61
    show n + 1 ≤ Xbl ex (n + (1 + (nm.length : Int) + (ty.length : Int))) m 61
    omega
   have a3 : n2 ≤ n3 := by
    rw [h3]
    split
    · have := Xec (ss := bd) (m := m - n2) (d := d - 1) (by omega) (Xgn bd 0 (m - n2) (d - 1))
      show n2 ≤ n2 + Xbs bd (m - n2) (d - 1)
      omega
    · exact Int.le_refl _
   split
   · have := Xec (ss := el) (m := m - n3) (d := d - 1) (by omega) (Xgn el 0 (m - n3) (d - 1))
     show n + 1 ≤ n3 + Xbs el (m - n3) (d - 1)
     omega
   · omega
theorem Xgn : ∀ (ss : List Sm) (n m d : Int), n ≤ goB ss n m d
 | [], n, m, d => by rw [goB]; exact Int.le_refl _
 | s :: ss, n, m, d => by
   rw [goB]
   split
   · have h1 := Xlt s n m d
     have h2 := Xgn ss (goS s n m d) m d
     omega
   · exact Int.le_refl _
end
theorem Xdq (ss : List Sm) (m d : Int) (hm : 0 ≤ m) : 0 ≤ Xbs ss m d := Xec hm (Xgn ss 0 m d)
mutual
theorem Xnd : ∀ (s : Sm) (n m d cd : Int) (N : Nat), goS s n m d ≤ m → 0 ≤ n → 0 < d → d + 60 ≤ cd → m ≤ (N : Int) → Xke N s ∧ Xic s cd = s
 | .mk k p nm ty ex bd el, n, m, d, cd, N, h, h0, hd, h1, h2 => by
   obtain ⟨n2, n3, e2, e3, e4⟩ := Xne (.mk k p nm ty ex bd el) n m d
   rw [e4] at h
   have b3 : n3 ≤ m := by
    by_cases h3 : n3 ≤ m
    · exact h3
    · rw [if_neg h3] at h; exact h
   rw [if_pos b3] at h
   have b2 : n2 ≤ m := by
    by_cases h3 : n2 ≤ m
    · exact h3
    · rw [if_neg h3] at e3; omega
   rw [if_pos b2] at e3
   have b0 : n + (1 + (nm.length : Int) + (ty.length : Int)) ≤ n2 := by
    rw [e2]
    exact Xdh ex (n + (1 + (nm.length : Int) + (ty.length : Int))) m 61
   have b2' : Xbl ex (n + (1 + (nm.length : Int) + (ty.length : Int))) m 61 ≤ m := by
    have e : n2 = Xbl ex (n + (1 + (nm.length : Int) + (ty.length : Int))) m 61 := e2
    omega
   obtain ⟨c1, c2, c3⟩ := Xll ex _ m 61 cd N b2' (by omega) (by omega) (by omega) h2
   have w1 := Xdq bd (m - n2) (d - 1) (by omega)
   have w2 := Xdq el (m - n3) (d - 1) (by omega)
   have e3' : n3 = n2 + Xbs bd (m - n2) (d - 1) := e3
   have h' : n3 + Xbs el (m - n3) (d - 1) ≤ m := h
   obtain ⟨d1, d2, d3⟩ := Xew bd (m - n2) (d - 1) (cd - 1) N (by omega) (by omega) (by omega) (by omega)
   obtain ⟨f1, f2, f3⟩ := Xew el (m - n3) (d - 1) (cd - 1) N (by omega) (by omega) (by omega) (by omega)
   rw [Xke, Xic]
   exact ⟨⟨by omega, by omega, by omega, c2, by omega, d2, by omega, f2⟩, by rw [c3, d3, f3]⟩
theorem Xmy : ∀ (ss : List Sm) (n m d cd : Int) (N : Nat), goB ss n m d ≤ m → 0 ≤ n → 0 < d → d + 60 ≤ cd → m ≤ (N : Int) → n + (ss.length : Int) ≤ m ∧ Xbz N ss ∧ Xcp ss cd = ss
 | [], n, m, d, cd, N, h, h0, hd, h1, h2 => by
   rw [goB] at h
   exact ⟨by simpa using h, by rw [Xbz]; trivial, by rw [Xcp]⟩
 | s :: ss, n, m, d, cd, N, h, h0, hd, h1, h2 => by
   rw [goB] at h
   split at h
   · have p1 := Xlt s n m d
     have p2 := Xgn ss (goS s n m d) m d
     obtain ⟨a1, a2⟩ := Xnd s n m d cd N (by omega) h0 hd h1 h2
     obtain ⟨b1, b2, b3⟩ := Xmy ss _ m d cd N h (by omega) hd h1 h2
     refine ⟨by simp; omega, by rw [Xbz]; exact ⟨a1, b2⟩, by rw [Xcp, if_pos (by omega), a2, b3]⟩
   · omega
theorem Xew : ∀ (ss : List Sm) (m d cd : Int) (N : Nat), Xbs ss m d ≤ m → 0 ≤ d → d + 60 ≤ cd → m ≤ (N : Int) → (ss.length : Int) ≤ m ∧ Xbz N ss ∧ Xcp ss cd = ss
 | [], m, d, cd, N, h, hd, h1, h2 => by
   unfold Xbs at h
   rw [if_neg (by simp), goB] at h
   exact ⟨by simpa using h, by rw [Xbz]; trivial, by rw [Xcp]⟩
 | s :: ss, m, d, cd, N, h, hd, h1, h2 => by
   unfold Xbs at h
   split at h
   · omega
   · rename_i hne
     have hd' : 0 < d := by
      rcases Int.lt_or_le 0 d with h3 | h3
      · exact h3
      · exact absurd ⟨by omega, by simp⟩ hne
     rw [goB] at h
     split at h
     · have p1 := Xlt s 0 m d
       have p2 := Xgn ss (goS s 0 m d) m d
       obtain ⟨a1, a2⟩ := Xnd s 0 m d cd N (by omega) (Int.le_refl _) hd' h1 h2
       obtain ⟨b1, b2, b3⟩ := Xmy ss _ m d cd N h (by omega) hd' h1 h2
       refine ⟨by simp; omega, by rw [Xbz]; exact ⟨a1, b2⟩, by rw [Xcp, if_pos (by omega), a2, b3]⟩
     · omega
end
theorem Xhm : ∀ (ps : List Pr) (n m : Int), n ≤ goP ps n m
 | [], n, m => by rw [goP]; exact Int.le_refl _
 | p :: ps, n, m => by
   rw [goP]
   split
   · have := Xhm ps (n + (1 + (p.name.length : Int) + (p.type.length : Int))) m
     omega
   · exact Int.le_refl _
theorem Xna : ∀ (ps : List Pr) (n m : Int), goP ps n m ≤ m → n + (ps.length : Int) ≤ m
 | [], n, m, h => by rw [goP] at h; simpa using h
 | p :: ps, n, m, h => by
   rw [goP] at h
   split at h
   · have := Xna ps _ m h
     simp
     omega
   · omega
theorem Xpb (s : Dc) (n most deep : Int) : ∃ n2, n2 = goP s.pairs (n + (1 + (s.name.length : Int) + (s.type.length : Int))) most ∧ goD s n most deep = if n2 ≤ most then n2 + Xbs s.body (most - n2) deep else n2 := ⟨_, rfl, rfl⟩
theorem Xls (s : Dc) (n m d : Int) : n + 1 ≤ goD s n m d := by
 obtain ⟨n2, e2, e4⟩ := Xpb s n m d
 have h := Xhm s.pairs (n + (1 + (s.name.length : Int) + (s.type.length : Int))) m
 rw [e4]
 split
 · have := Xdq s.body (m - n2) d (by omega)
   omega
 · omega
theorem Xhl : ∀ (ds : List Dc) (n m d : Int), n ≤ goDs ds n m d
 | [], n, m, d => by rw [goDs]; exact Int.le_refl _
 | s :: ss, n, m, d => by
   rw [goDs]
   split
   · have h1 := Xls s n m d
     have h2 := Xhl ss (goD s n m d) m d
     omega
   · exact Int.le_refl _
theorem Xuu (s : Dc) (n m d cd : Int) (N : Nat) (h : goD s n m d ≤ m) (h0 : 0 ≤ n) (hd : 0 ≤ d) (h1 : d + 60 ≤ cd) (h2 : m ≤ (N : Int)) : Xlg N s ∧ Xfk s cd = s := by
 obtain ⟨n2, e2, e4⟩ := Xpb s n m d
 have hp := Xhm s.pairs (n + (1 + (s.name.length : Int) + (s.type.length : Int))) m
 rw [e4] at h
 have b2 : n2 ≤ m := by
  by_cases h3 : n2 ≤ m
  · exact h3
  · rw [if_neg h3] at h; exact h
 rw [if_pos b2] at h
 have hl := Xna s.pairs _ m (by rw [← e2]; exact b2)
 have hw := Xdq s.body (m - n2) d (by omega)
 obtain ⟨d1, d2, d3⟩ := Xew s.body (m - n2) d cd N (by omega) hd h1 (by omega)
 refine ⟨⟨by omega, by omega, d2⟩, ?_⟩
 unfold Xfk
 rw [d3]
theorem Xkw : ∀ (ds : List Dc) (n m d cd : Int) (N : Nat), goDs ds n m d ≤ m → 0 ≤ n → 0 ≤ d → d + 60 ≤ cd → m ≤ (N : Int) → n + (ds.length : Int) ≤ m ∧ (∀ (k : Nat) (hk : k < ds.length), Xlg N ds[k]) ∧ ds.map (Xfk · cd) = ds
 | [], n, m, d, cd, N, h, h0, hd, h1, h2 => by
   rw [goDs] at h
   exact ⟨by simpa using h, fun k hk => absurd hk (by simp), rfl⟩
 | s :: ss, n, m, d, cd, N, h, h0, hd, h1, h2 => by
   rw [goDs] at h
   split at h
   · have p1 := Xls s n m d
     have p2 := Xhl ss (goD s n m d) m d
     obtain ⟨a1, a2⟩ := Xuu s n m d cd N (by omega) h0 hd h1 h2
     obtain ⟨b1, b2, b3⟩ := Xkw ss _ m d cd N h (by omega) hd h1 h2
     refine ⟨by simp; omega, fun k hk => ?_, by rw [List.map_cons, a2, b3]⟩
     cases k with
     | zero => exact a1
     | succ k => exact b2 k (by simpa using hk)
   · omega
end Go.Proofs.YtodociiaobjfgaaGreatDoor
