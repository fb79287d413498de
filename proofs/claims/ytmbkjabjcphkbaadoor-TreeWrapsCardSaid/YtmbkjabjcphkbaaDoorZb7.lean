/- Xs; Xt; Xu; Xv -/
import Derived.Test.YtmbkjabjcphkbaaDoorZb4
import Derived.Test.YtmbkjabjcphkbaaDoorZb5
section
/- The text of a program in parts. -/
set_option linter.unusedVariables false
namespace Go.Proofs.YtmbkjabjcphkbaaDoor
open Go.RowKit

theorem penDs_append : ∀ (a b : List Dc), penDs (a ++ b) = cat (penDs a) (penDs b)
  | [], b => by rw [List.nil_append, penDs, cat_nil_l]
  | d :: a, b => by rw [List.cons_append, penDs, penDs, penDs_append a b, cat_assoc]
theorem cat_some_inv {a b : Ts} {T : List (List UInt8)} (h : cat a b = some T) : ∃ A B, a = some A ∧ b = some B ∧ T = A ++ B := by
  cases a with
  | none => cases h
  | some A =>
    cases b with
    | none => cases h
    | some B => exact ⟨A, B, rfl, rfl, by simpa [cat] using h.symm⟩
theorem joinT_len_le_r (a b : List (List UInt8)) : (joinT b).length ≤ (joinT (a ++ b)).length := by
  by_cases ha : a = []
  · subst ha; simp
  · by_cases hb : b = []
    · subst hb; simp [joinT]
    · rw [joinT_append ha hb]; simp; omega
theorem fits_of_append_r {a b : List (List UInt8)} (h : fits (a ++ b)) : fits b := by
  refine ⟨Nat.le_trans (joinT_len_le_r a b) h.1, ?_⟩
  have := h.2
  simp at this; omega
/-- two texts with a blank between, where both are there -/
def txt (a b : List UInt8) : List UInt8 := if a = [] ∨ b = [] then a ++ b else a ++ 32 :: b
theorem joinT_ne {T : List (List UInt8)} (hg : ∀ t ∈ T, good t) (h : T ≠ []) : joinT T ≠ [] := by
  match T, h with
  | [t], _ => show t ≠ []; exact good_ne (hg t (by simp))
  | t :: u :: r, _ => simp [joinT]
theorem joinT_txt {A B : List (List UInt8)} (hA : ∀ t ∈ A, good t) (hB : ∀ t ∈ B, good t) : joinT (A ++ B) = txt (joinT A) (joinT B) := by
  unfold txt
  by_cases ha : A = []
  · subst ha; rw [if_pos (.inl rfl)]; rfl
  · by_cases hb : B = []
    · subst hb; rw [if_pos (.inr rfl)]; simp [joinT]
    · rw [if_neg (fun e => e.elim (joinT_ne hA ha) (joinT_ne hB hb)), joinT_append ha hb]
theorem lim_some {C : Ts} {T : List (List UInt8)} (h : lim C = some T) : C = some T ∧ fits T := by
  cases C with
  | none => cases h
  | some U => unfold lim at h; simp only at h; split at h <;> simp_all
/-- the parts of a right program are right, and their texts make up its text -/
theorem parts_plain (ds : List Dc) (x y : Nat) (hxy : x ≤ y) (hy : y ≤ ds.length) {T : List (List UInt8)} (h : lim (penP ds) = some T) :
    ∃ a b c, fin (penP (ds.take x)) = (a, 0) ∧ fin (penP ((ds.take y).drop x)) = (b, 0) ∧ fin (penP (ds.drop y)) = (c, 0) ∧ joinT T = txt (txt a b) c ∧ a.length ≤ 16384 ∧ b.length ≤ 16384 ∧ c.length ≤ 16384 := by
  obtain ⟨h1, hf⟩ := lim_some h
  have hlen : ds.length ≤ 64 := by
    by_cases hl : ds.length ≤ 64
    · exact hl
    · unfold penP at h1; rw [need_no hl] at h1; cases h1
  have h2 : penDs ds = some T := by unfold penP at h1; rwa [need_yes hlen] at h1
  have e1 : ds = (ds.take x ++ (ds.take y).drop x) ++ ds.drop y := by
    have : ds.take x = (ds.take y).take x := by rw [List.take_take]; congr 1; omega
    rw [this, List.take_append_drop, List.take_append_drop]
  rw [e1, penDs_append, penDs_append] at h2
  obtain ⟨AB, C, k1, k2, k3⟩ := cat_some_inv h2
  obtain ⟨A, B, k4, k5, k6⟩ := cat_some_inv k1
  have gA := penDs_good _ A k4
  have gB := penDs_good _ B k5
  have gC := penDs_good _ C k2
  have fAB : fits AB := fits_of_append (b := C) (by rw [← k3]; exact hf)
  have fC : fits C := fits_of_append_r (a := AB) (by rw [← k3]; exact hf)
  have fA : fits A := fits_of_append (b := B) (by rw [← k6]; exact fAB)
  have fB : fits B := fits_of_append_r (a := A) (by rw [← k6]; exact fAB)
  have one : ∀ {l : List Dc} {U : List (List UInt8)}, l.length ≤ 64 → penDs l = some U → fits U → fin (penP l) = (joinT U, 0) := fun hl hu hfu => by
    unfold penP fin lim; rw [need_yes hl, hu]; simp [hfu]
  refine ⟨joinT A, joinT B, joinT C, one (by simp; omega) k4 fA, one (by simp; omega) k5 fB, one (by simp; omega) k2 fC, ?_, fA.1, fB.1, fC.1⟩
  rw [k3, k6, joinT_txt (fun t ht => (List.mem_append.1 ht).elim (gA t) (gB t)) gC, joinT_txt gA gB]
/-- a part of the declarations, in memory -/
theorem DcsIn.part {w : World} {S : Nat → Prop} {ds : List Dc} {b off n c : Nat} (h : DcsIn w S ds (.slice (some ⟨b, off, none⟩) n c)) (x y c' : Nat) (hxy : x ≤ y) (hy : y ≤ ds.length) (hc : y - x ≤ c') (hM : c' ≤ 9223372036854775807) :
    DcsIn w S ((ds.take y).drop x) (.slice (some ⟨b, off + x * 7, none⟩) (y - x) c') := by
  obtain ⟨A, c0, fp, fb, he, _, _, hA, hp, hb⟩ := h
  have hl : ((ds.take y).drop x).length = y - x := by simp; omega
  injection he with he1 he2 he3
  subst he1
  have hg : ∀ (k : Nat) (hk : k < ((ds.take y).drop x).length) (hk' : x + k < ds.length), ((ds.take y).drop x)[k] = ds[x + k] := fun k hk hk' => by simp
  refine ⟨_, c', fun k => fp (x + k), fun k => fb (x + k), by rw [hl], by rw [hl]; exact hc, hM, fun k hk => ?_, fun k hk => ?_, fun k hk => ?_⟩
  · have hk' : x + k < ds.length := by omega
    obtain ⟨b', off', e, hS, h3, h4, c0, c1, c2, c3, c4, c5, c6⟩ := hA (x + k) hk'
    obtain ⟨rfl, rfl⟩ : b' = b ∧ off' = off := by simpa [eq_comm] using e
    rw [hg k hk hk']
    have e7 : off' + x * 7 + k * 7 = off' + (x + k) * 7 := by omega
    exact ⟨b', off' + x * 7, rfl, hS, h3, h4, by rw [e7]; exact c0, by rw [e7]; exact c1, by rw [e7]; exact c2, by rw [e7]; exact c3, by rw [e7]; exact c4, by rw [e7]; exact c5, by rw [e7]; exact c6⟩
  · have hk' : x + k < ds.length := by omega
    rw [hg k hk hk']; exact hp (x + k) hk'
  · have hk' : x + k < ds.length := by omega
    rw [hg k hk hk']; exact hb (x + k) hk'
theorem DcsIn.empty (w : World) (S : Nat → Prop) (A : Option Addr) (c : Nat) (hM : c ≤ 9223372036854775807) : DcsIn w S [] (.slice A 0 c) :=
  ⟨A, c, fun _ => .bool false, fun _ => .bool false, rfl, Nat.zero_le _, hM, fun k hk => absurd hk (by simp), fun k hk => absurd hk (by simp), fun k hk => absurd hk (by simp)⟩

end Go.Proofs.YtmbkjabjcphkbaaDoor
end
section
/- The walk of TreeParts. -/
set_option linter.unusedSimpArgs false
set_option linter.unusedVariables false
namespace Go.Proofs.YtmbkjabjcphkbaaDoor
open Go.RowKit

theorem app_toList (a b : ByteArray) : (a ++ b).toList = a.toList ++ b.toList := by
  rw [ByteArray.toList_eq, ByteArray.toList_eq, ByteArray.toList_eq]; simp
theorem ne_isEmpty {l : List UInt8} (h : ¬ l = []) : l.isEmpty = false := by cases l with
  | nil => exact absurd rfl h
  | cons a r => rfl
theorem sp : (⟨#[32]⟩ : ByteArray).toList = [32] := strOf_toList [32]
set_option maxHeartbeats 8000000 in
set_option maxRecDepth 100000 in
theorem treeParts_main (w : World) (htab : TabW w) {ds : List Dc} {v : Value} (h : DcsIn w (· < w.heap.size) ds v) {x y : Nat} (hxy : x ≤ y) (hyn : y ≤ ds.length) (hne : ds ≠ []) (hw : ¬ 40000 < goDs ds 0 40000 60) {T : List (List UInt8)} (hfit : fits T) (hf : fin (penP ds) = (joinT T, 0)) {ta tb tc : List UInt8} (fa : fin (penP (ds.take x)) = (ta, 0)) (fb : fin (penP ((ds.take y).drop x)) = (tb, 0)) (fc : fin (penP (ds.drop y)) = (tc, 0)) (ht : joinT T = txt (txt ta tb) tc) (la : ta.length ≤ 16384) (lb : tb.length ≤ 16384) (lc : tc.length ≤ 16384) :
    Calls Tryd.prog 5 #[.agg #[v], .int .i64 x, .int .i64 y] w fun r w' => r = .returned (.bool true) ∧ Below w.heap.size w w' := by
  obtain ⟨A, c, _, _, rfl, _⟩ := id h
  obtain ⟨X, hX⟩ : ∃ X : World, X = w.alloc (.cells #[.slice A ds.length c] 39) := ⟨_, rfl⟩
  have hbx : Below w.heap.size w X := by rw [hX]; exact (Below.refl _ _).alloc (Nat.le_refl _) _
  have hrow : X.heap[w.heap.size]? = some (.cells #[.slice A ds.length c] 39 (0, 0)) := by rw [hX]; exact heap_alloc_new _ _
  have hgx : w.heap.size < X.heap.size := lt_of_heap hrow
  have HAL := Lib.hid (alive_any X (htab.below hbx))
  have HX := Lib.hid hX
  have HBX := Lib.hid hbx
  have HIN := Lib.hid h
  have HROW := Lib.hid hrow
  have HT := Lib.hid htab
  have HGX := Lib.hid hgx
  clear hX hbx htab h hrow hgx
  go_enter Tryd.func5, Tryd.ntmps5
  go_wp2_with fail
  rw [← HX.out]
  refine HAL.out.mono ?_
  rintro e1 w1 ⟨rfl, hb1⟩
  have hq1 : w1.heap[w.heap.size]? = some (.cells #[.slice A ds.length c] 39 (0, 0)) := (hb1.block _ HGX.out).trans HROW.out
  have q1 : w1.cell? ⟨w.heap.size, 0, none⟩ = some (.slice A ds.length c) := by rw [cell_of_row w1 _ 0 _ _ (0, 0) hq1]; rfl
  have hbw : Below w.heap.size w w1 := HBX.out.trans (hb1.mono HBX.out.size)
  have HWG := Lib.hid (weighp_any HIN.out 40000 60 w1 hbw hbw.size (by omega) (by omega) (by omega) (by omega))
  have HB1 := Lib.hid hbw
  have HQ1 := Lib.hid hq1
  clear hb1 hq1 hbw
  go_wp2_with fail
  refine HWG.out.mono ?_
  rintro e2 w2 ⟨rfl, hb2⟩
  have hq2 : w2.heap[w.heap.size]? = some (.cells #[.slice A ds.length c] 39 (0, 0)) := (hb2.block _ (lt_of_heap HQ1.out)).trans HQ1.out
  have q2 : w2.cell? ⟨w.heap.size, 0, none⟩ = some (.slice A ds.length c) := by rw [cell_of_row w2 _ 0 _ _ (0, 0) hq2]; rfl
  have HQ2 := Lib.hid hq2
  have HB2 := Lib.hid (HB1.out.trans (hb2.mono HB1.out.size))
  clear hb2 q1 hq2
  obtain ⟨G, hG⟩ : ∃ G, G = goDs ds 0 40000 60 := ⟨_, rfl⟩
  rw [← hG] at hw ⊢
  have hfd : ∀ (A : Option Addr) (n c : Nat) (w : World), (Instr.field 39 (.agg #[.slice A n c]) 0).run Tryd.prog w = .ok (.slice A n c) w := fun _ _ _ _ => by kernel_rfl
  have hl := light_of (ds := ds) (by omega)
  have HCPY : Hid (∀ wx, Below w.heap.size w wx → Calls Tryd.prog 21 #[.agg #[.slice A ds.length c], .int .i64 300] wx fun e w2 => ∃ b o c', e = .returned (.agg #[.slice (some ⟨b, o, none⟩) ds.length c']) ∧ ds.length ≤ c' ∧ c' ≤ 9223372036854775807 ∧ DcsIn w2 (· < w2.heap.size) ds (.slice (some ⟨b, o, none⟩) ds.length c') ∧ Below wx.heap.size wx w2) := Lib.hid fun wx hb => (copy_light HIN.out hl wx hb hb.size).mono fun e w2 => by
    rintro ⟨v', rfl, hin, hbs⟩
    obtain ⟨A', c', fp, fb', rfl, hc', hm', hA', hp', hb'⟩ := id hin
    obtain ⟨b, o, rfl, _⟩ := hA' 0 (by cases ds with | nil => exact absurd rfl hne | cons a r => simp)
    exact ⟨b, o, c', rfl, hc', hm', hin.keep (fun _ _ => rfl) (fun b hlt => hlt.2), hbs⟩
  have HSHOW : Hid (∀ wx (l : List Dc) (v : Value), Below w.heap.size w wx → DcsIn wx (· < wx.heap.size) l v → (∀ d ∈ l, d ∈ ds) → Calls Tryd.prog 20 #[.agg #[v]] wx fun r w' => r = .returned (.tuple #[.string (strOf (fin (penP l)).1), .int .i64 (fin (penP l)).2]) ∧ Below wx.heap.size wx w') := Lib.hid fun wx l v hb hin hsub => show_any wx (HT.out.below hb) hin fun k hk => by
    obtain ⟨i, hi, e⟩ := List.getElem_of_mem (hsub l[k] (List.getElem_mem hk))
    rw [← e]; exact hl.nm i hi
  obtain ⟨n, hn⟩ : ∃ n, n = ds.length := ⟨_, rfl⟩
  rw [← hn] at HCPY hyn q2
  have HN := Lib.hid hn
  have HF := Lib.hid hf
  have FA := Lib.hid fa
  have FB := Lib.hid fb
  have FC := Lib.hid fc
  have HTT := Lib.hid ht
  have HFIT := Lib.hid hfit
  have HC2 := Lib.hid (Below.refl w2.heap.size w2)
  clear hG hl hf fa fb fc ht hfit hn hne
  go_wp2_with fail
  refine ((HCPY.out w2 HB2.out)).mono ?_
  rintro e3 w3 ⟨b3, o3, c3, rfl, hc3, hm3, hin, hbs⟩
  have HB3 := Lib.hid (HB2.out.trans (hbs.mono HB2.out.size))
  have HC3 := Lib.hid (HC2.out.trans (hbs.mono HC2.out.size))
  have HIN3 := Lib.hid hin
  have hxc3 : x ≤ c3 := by omega
  have hyc3 : y ≤ c3 := by omega
  clear hin hbs
  have HSA := Lib.hid (HSHOW.out w3 ds _ HB3.out HIN3.out (fun d hd => hd))
  rw [HF.out] at HSA
  obtain ⟨SL, hSL⟩ : ∃ S, S = strOf (joinT T) := ⟨_, rfl⟩
  have HSA : Hid (Calls Tryd.prog 20 #[.agg #[.slice (some ⟨b3, o3, none⟩) n c3]] w3 fun r w' => r = .returned (.tuple #[.string SL, .int .i64 0]) ∧ Below w3.heap.size w3 w') := by rw [hSL]; exact HSA
  have HSL := Lib.hid hSL
  clear hSL
  go_wp2_with fail
  refine (HSA.out).mono ?_
  rintro e4 w4 ⟨rfl, hbs⟩
  have HB4 := Lib.hid (HB3.out.trans (hbs.mono HB3.out.size))
  have HC4 := Lib.hid (HC3.out.trans (hbs.mono HC3.out.size))
  have hq := (HC4.out.block _ (lt_of_heap HQ2.out)).trans HQ2.out
  have q4 : w4.cell? ⟨w.heap.size, 0, none⟩ = some (.slice A n c) := by rw [cell_of_row w4 _ 0 _ _ (0, 0) hq, ← HN.out]; rfl
  clear hbs hq
  go_wp2_with fail
  refine ((HCPY.out w4 HB4.out)).mono ?_
  rintro e5 w5 ⟨b5, o5, c5, rfl, hc5, hm5, hin, hbs⟩
  have HB5 := Lib.hid (HB4.out.trans (hbs.mono HB4.out.size))
  have HC5 := Lib.hid (HC4.out.trans (hbs.mono HC4.out.size))
  have HIN5 := Lib.hid hin
  have hxc5 : x ≤ c5 := by omega
  have hyc5 : y ≤ c5 := by omega
  clear hin hbs
  have hin6 : DcsIn w5 (· < w5.heap.size) (ds.take x) (.slice (some ⟨b5, o5, none⟩) x c5) := by simpa using DcsIn.part HIN5.out 0 x c5 (Nat.zero_le _) (by rw [← HN.out]; omega) (by omega) hm5
  have HSB := Lib.hid (HSHOW.out w5 _ _ HB5.out hin6 (fun d hd => List.mem_of_mem_take hd))
  rw [FA.out] at HSB
  obtain ⟨SA, hSA⟩ : ∃ S, S = strOf ta := ⟨_, rfl⟩
  have HSB : Hid (Calls Tryd.prog 20 #[.agg #[.slice (some ⟨b5, o5, none⟩) x c5]] w5 fun r w' => r = .returned (.tuple #[.string SA, .int .i64 0]) ∧ Below w5.heap.size w5 w') := by rw [hSA]; exact HSB
  have HSA := Lib.hid hSA
  clear hSA hin6
  go_wp2_with fail
  refine (HSB.out).mono ?_
  rintro e6 w6 ⟨rfl, hbs⟩
  have HB6 := Lib.hid (HB5.out.trans (hbs.mono HB5.out.size))
  have HC6 := Lib.hid (HC5.out.trans (hbs.mono HC5.out.size))
  have hq := (HC6.out.block _ (lt_of_heap HQ2.out)).trans HQ2.out
  have q6 : w6.cell? ⟨w.heap.size, 0, none⟩ = some (.slice A n c) := by rw [cell_of_row w6 _ 0 _ _ (0, 0) hq, ← HN.out]; rfl
  clear hbs hq
  go_wp2_with fail
  refine ((HCPY.out w6 HB6.out)).mono ?_
  rintro e7 w7 ⟨b7, o7, c7, rfl, hc7, hm7, hin, hbs⟩
  have HB7 := Lib.hid (HB6.out.trans (hbs.mono HB6.out.size))
  have HC7 := Lib.hid (HC6.out.trans (hbs.mono HC6.out.size))
  have HIN7 := Lib.hid hin
  have hxc7 : x ≤ c7 := by omega
  have hyc7 : y ≤ c7 := by omega
  clear hin hbs
  go_wp2_with fail
  ·
    have hinE : DcsIn w7 (· < w7.heap.size) ((ds.take y).drop x) (.slice (some ⟨b7, o7, none⟩) (y - x) 0) := by
      have e1 : y - x = 0 := by omega
      have e2 : (ds.take y).drop x = [] := List.eq_nil_of_length_eq_zero (by have := HN.out; simp; omega)
      rw [e1, e2]
      exact DcsIn.empty _ _ _ _ (by omega)
    have HSB := Lib.hid (HSHOW.out w7 _ _ HB7.out hinE (fun d hd => List.mem_of_mem_take (List.mem_of_mem_drop hd)))
    rw [FB.out] at HSB
    obtain ⟨SB, hSSB⟩ : ∃ S, S = strOf tb := ⟨_, rfl⟩
    have HSB : Hid (Calls Tryd.prog 20 #[.agg #[.slice (some ⟨b7, o7, none⟩) (y - x) 0]] w7 fun r w' => r = .returned (.tuple #[.string SB, .int .i64 0]) ∧ Below w7.heap.size w7 w') := by rw [hSSB]; exact HSB
    have HSSB := Lib.hid hSSB
    clear hSSB hinE
    refine (HSB.out).mono ?_
    rintro e8 w8 ⟨rfl, hbs⟩
    have HB8 := Lib.hid (HB7.out.trans (hbs.mono HB7.out.size))
    have HC8 := Lib.hid (HC7.out.trans (hbs.mono HC7.out.size))
    have hq := (HC8.out.block _ (lt_of_heap HQ2.out)).trans HQ2.out
    have q8 : w8.cell? ⟨w.heap.size, 0, none⟩ = some (.slice A n c) := by rw [cell_of_row w8 _ 0 _ _ (0, 0) hq, ← HN.out]; rfl
    clear hbs hq
    go_wp2_with fail
    refine ((HCPY.out w8 HB8.out)).mono ?_
    rintro e9 w9 ⟨b9, o9, c9, rfl, hc9, hm9, hin, hbs⟩
    have HB9 := Lib.hid (HB8.out.trans (hbs.mono HB8.out.size))
    have HC9 := Lib.hid (HC8.out.trans (hbs.mono HC8.out.size))
    have HIN9 := Lib.hid hin
    have hxc9 : x ≤ c9 := by omega
    have hyc9 : y ≤ c9 := by omega
    clear hin hbs
    go_wp2_with fail
    ·
      have hinE : DcsIn w9 (· < w9.heap.size) (ds.drop y) (.slice (some ⟨b9, o9, none⟩) (n - y) 0) := by
        have e1 : n - y = 0 := by omega
        have e2 : ds.drop y = [] := List.eq_nil_of_length_eq_zero (by have := HN.out; simp; omega)
        rw [e1, e2]
        exact DcsIn.empty _ _ _ _ (by omega)
      have HSB := Lib.hid (HSHOW.out w9 _ _ HB9.out hinE (fun d hd => List.mem_of_mem_drop hd))
      rw [FC.out] at HSB
      obtain ⟨SC, hSSC⟩ : ∃ S, S = strOf tc := ⟨_, rfl⟩
      have HSB : Hid (Calls Tryd.prog 20 #[.agg #[.slice (some ⟨b9, o9, none⟩) (n - y) 0]] w9 fun r w' => r = .returned (.tuple #[.string SC, .int .i64 0]) ∧ Below w9.heap.size w9 w') := by rw [hSSC]; exact HSB
      have HSSC := Lib.hid hSSC
      clear hSSC hinE
      refine HSB.out.mono ?_
      rintro e10 w10 ⟨rfl, hbs⟩
      have HB10 := Lib.hid (HB9.out.trans (hbs.mono HB9.out.size))
      clear hbs
      clear q8
      have eA : SA.toList = ta := by rw [HSA.out, strOf_toList]
      have eB : SB.toList = tb := by rw [HSSB.out, strOf_toList]
      have eC : SC.toList = tc := by rw [HSSC.out, strOf_toList]
      have eL : SL.toList = joinT T := by rw [HSL.out, strOf_toList]
      have zA : SA.size ≤ 16384 := by rw [HSA.out, Lib.size_eq, strOf_data]; exact la
      have zB : SB.size ≤ 16384 := by rw [HSSB.out, Lib.size_eq, strOf_data]; exact lb
      have zC : SC.size ≤ 16384 := by rw [HSSC.out, Lib.size_eq, strOf_data]; exact lc
      have f0 : ¬ 9223372036854775807 < SA.size + SB.size := by omega
      have f1 : ¬ 9223372036854775807 < SA.size + SB.size + SC.size := by omega
      have f2 : ¬ 9223372036854775807 < SA.size + 1 := by omega
      have f3 : ¬ 9223372036854775807 < SA.size + 1 + SB.size := by omega
      have f4 : ¬ 9223372036854775807 < SA.size + SB.size + 1 := by omega
      have f5 : ¬ 9223372036854775807 < SA.size + SB.size + 1 + SC.size := by omega
      have f6 : ¬ 9223372036854775807 < SA.size + 1 + SB.size + 1 := by omega
      have f7 : ¬ 9223372036854775807 < SA.size + 1 + SB.size + SC.size := by omega
      have f8 : ¬ 9223372036854775807 < SA.size + 1 + SB.size + 1 + SC.size := by omega
      by_cases hA : ta = []
      ·
        by_cases hB : tb = []
        ·
          by_cases hC : tc = []
          ·
            have a1 : SA.toList = [] := by rw [eA]; exact hA
            have b1 : SB.toList = [] := by rw [eB]; exact hB
            have c1 : SC.toList = [] := by rw [eC]; exact hC
            have s1 : (SA ++ SB).toList = [] := by simp only [app_toList, eA, eB, sp]; simp [hA, hB]
            have a2 : SA.toList.isEmpty = true := List.isEmpty_iff.2 a1
            have b2 : SB.toList.isEmpty = true := List.isEmpty_iff.2 b1
            have s2 : (SA ++ SB).toList.isEmpty = true := List.isEmpty_iff.2 s1
            have c2 : SC.toList.isEmpty = true := List.isEmpty_iff.2 c1
            have HPX := Lib.hid (show ((SA ++ SB ++ SC).toList == SL.toList) = true by simp only [app_toList, eA, eB, eC, eL, HTT.out, sp]; simp [txt, hA, hB, hC])
            clear hA hB hC eA eB eC eL zA zB zC
            go_wp2
            all_goals
              go_ret
              exact ⟨by rw [HPX.out]; rfl, HB10.out⟩
          ·
            have a1 : SA.toList = [] := by rw [eA]; exact hA
            have b1 : SB.toList = [] := by rw [eB]; exact hB
            have c1 : ¬ SC.toList = [] := by rw [eC]; exact hC
            have s1 : (SA ++ SB).toList = [] := by simp only [app_toList, eA, eB, sp]; simp [hA, hB]
            have a2 : SA.toList.isEmpty = true := List.isEmpty_iff.2 a1
            have b2 : SB.toList.isEmpty = true := List.isEmpty_iff.2 b1
            have s2 : (SA ++ SB).toList.isEmpty = true := List.isEmpty_iff.2 s1
            have c2 : SC.toList.isEmpty = false := ne_isEmpty c1
            have HPX := Lib.hid (show ((SA ++ SB ++ SC).toList == SL.toList) = true by simp only [app_toList, eA, eB, eC, eL, HTT.out, sp]; simp [txt, hA, hB, hC])
            clear hA hB hC eA eB eC eL zA zB zC
            go_wp2
            all_goals
              go_ret
              exact ⟨by rw [HPX.out]; rfl, HB10.out⟩
        ·
          by_cases hC : tc = []
          ·
            have a1 : SA.toList = [] := by rw [eA]; exact hA
            have b1 : ¬ SB.toList = [] := by rw [eB]; exact hB
            have c1 : SC.toList = [] := by rw [eC]; exact hC
            have s1 : ¬ (SA ++ SB).toList = [] := by simp only [app_toList, eA, eB, sp]; simp [hA, hB]
            have a2 : SA.toList.isEmpty = true := List.isEmpty_iff.2 a1
            have b2 : SB.toList.isEmpty = false := ne_isEmpty b1
            have s2 : (SA ++ SB).toList.isEmpty = false := ne_isEmpty s1
            have c2 : SC.toList.isEmpty = true := List.isEmpty_iff.2 c1
            have HPX := Lib.hid (show ((SA ++ SB ++ SC).toList == SL.toList) = true by simp only [app_toList, eA, eB, eC, eL, HTT.out, sp]; simp [txt, hA, hB, hC])
            clear hA hB hC eA eB eC eL zA zB zC
            go_wp2
            all_goals
              go_ret
              exact ⟨by rw [HPX.out]; rfl, HB10.out⟩
          ·
            have a1 : SA.toList = [] := by rw [eA]; exact hA
            have b1 : ¬ SB.toList = [] := by rw [eB]; exact hB
            have c1 : ¬ SC.toList = [] := by rw [eC]; exact hC
            have s1 : ¬ (SA ++ SB).toList = [] := by simp only [app_toList, eA, eB, sp]; simp [hA, hB]
            have a2 : SA.toList.isEmpty = true := List.isEmpty_iff.2 a1
            have b2 : SB.toList.isEmpty = false := ne_isEmpty b1
            have s2 : (SA ++ SB).toList.isEmpty = false := ne_isEmpty s1
            have c2 : SC.toList.isEmpty = false := ne_isEmpty c1
            have HPX := Lib.hid (show ((SA ++ SB ++ ⟨#[32]⟩ ++ SC).toList == SL.toList) = true by simp only [app_toList, eA, eB, eC, eL, HTT.out, sp]; simp [txt, hA, hB, hC])
            clear hA hB hC eA eB eC eL zA zB zC
            go_wp2
            all_goals
              go_ret
              exact ⟨by rw [HPX.out]; rfl, HB10.out⟩
      ·
        by_cases hB : tb = []
        ·
          by_cases hC : tc = []
          ·
            have a1 : ¬ SA.toList = [] := by rw [eA]; exact hA
            have b1 : SB.toList = [] := by rw [eB]; exact hB
            have c1 : SC.toList = [] := by rw [eC]; exact hC
            have s1 : ¬ (SA ++ SB).toList = [] := by simp only [app_toList, eA, eB, sp]; simp [hA, hB]
            have a2 : SA.toList.isEmpty = false := ne_isEmpty a1
            have b2 : SB.toList.isEmpty = true := List.isEmpty_iff.2 b1
            have s2 : (SA ++ SB).toList.isEmpty = false := ne_isEmpty s1
            have c2 : SC.toList.isEmpty = true := List.isEmpty_iff.2 c1
            have HPX := Lib.hid (show ((SA ++ SB ++ SC).toList == SL.toList) = true by simp only [app_toList, eA, eB, eC, eL, HTT.out, sp]; simp [txt, hA, hB, hC])
            clear hA hB hC eA eB eC eL zA zB zC
            go_wp2
            all_goals
              go_ret
              exact ⟨by rw [HPX.out]; rfl, HB10.out⟩
          ·
            have a1 : ¬ SA.toList = [] := by rw [eA]; exact hA
            have b1 : SB.toList = [] := by rw [eB]; exact hB
            have c1 : ¬ SC.toList = [] := by rw [eC]; exact hC
            have s1 : ¬ (SA ++ SB).toList = [] := by simp only [app_toList, eA, eB, sp]; simp [hA, hB]
            have a2 : SA.toList.isEmpty = false := ne_isEmpty a1
            have b2 : SB.toList.isEmpty = true := List.isEmpty_iff.2 b1
            have s2 : (SA ++ SB).toList.isEmpty = false := ne_isEmpty s1
            have c2 : SC.toList.isEmpty = false := ne_isEmpty c1
            have HPX := Lib.hid (show ((SA ++ SB ++ ⟨#[32]⟩ ++ SC).toList == SL.toList) = true by simp only [app_toList, eA, eB, eC, eL, HTT.out, sp]; simp [txt, hA, hB, hC])
            clear hA hB hC eA eB eC eL zA zB zC
            go_wp2
            all_goals
              go_ret
              exact ⟨by rw [HPX.out]; rfl, HB10.out⟩
        ·
          by_cases hC : tc = []
          ·
            have a1 : ¬ SA.toList = [] := by rw [eA]; exact hA
            have b1 : ¬ SB.toList = [] := by rw [eB]; exact hB
            have c1 : SC.toList = [] := by rw [eC]; exact hC
            have s1 : ¬ (SA ++ ⟨#[32]⟩ ++ SB).toList = [] := by simp only [app_toList, eA, eB, sp]; simp [hA, hB]
            have a2 : SA.toList.isEmpty = false := ne_isEmpty a1
            have b2 : SB.toList.isEmpty = false := ne_isEmpty b1
            have s2 : (SA ++ ⟨#[32]⟩ ++ SB).toList.isEmpty = false := ne_isEmpty s1
            have c2 : SC.toList.isEmpty = true := List.isEmpty_iff.2 c1
            have HPX := Lib.hid (show ((SA ++ ⟨#[32]⟩ ++ SB ++ SC).toList == SL.toList) = true by simp only [app_toList, eA, eB, eC, eL, HTT.out, sp]; simp [txt, hA, hB, hC])
            clear hA hB hC eA eB eC eL zA zB zC
            go_wp2
            all_goals
              go_ret
              exact ⟨by rw [HPX.out]; rfl, HB10.out⟩
          ·
            have a1 : ¬ SA.toList = [] := by rw [eA]; exact hA
            have b1 : ¬ SB.toList = [] := by rw [eB]; exact hB
            have c1 : ¬ SC.toList = [] := by rw [eC]; exact hC
            have s1 : ¬ (SA ++ ⟨#[32]⟩ ++ SB).toList = [] := by simp only [app_toList, eA, eB, sp]; simp [hA, hB]
            have a2 : SA.toList.isEmpty = false := ne_isEmpty a1
            have b2 : SB.toList.isEmpty = false := ne_isEmpty b1
            have s2 : (SA ++ ⟨#[32]⟩ ++ SB).toList.isEmpty = false := ne_isEmpty s1
            have c2 : SC.toList.isEmpty = false := ne_isEmpty c1
            have HPX := Lib.hid (show ((SA ++ ⟨#[32]⟩ ++ SB ++ ⟨#[32]⟩ ++ SC).toList == SL.toList) = true by simp only [app_toList, eA, eB, eC, eL, HTT.out, sp]; simp [txt, hA, hB, hC])
            clear hA hB hC eA eB eC eL zA zB zC
            go_wp2
            all_goals
              go_ret
              exact ⟨by rw [HPX.out]; rfl, HB10.out⟩

    ·
      have hinE : DcsIn w9 (· < w9.heap.size) (ds.drop y) (.slice (some ⟨b9, o9 + y * 7, none⟩) (n - y) (c9 - y)) := by have h := DcsIn.part HIN9.out y ds.length (c9 - y) (by rw [← HN.out]; omega) (Nat.le_refl _) (by rw [← HN.out]; omega) (by omega); rw [List.take_of_length_le (Nat.le_refl _), ← HN.out] at h; exact h
      have HSB := Lib.hid (HSHOW.out w9 _ _ HB9.out hinE (fun d hd => List.mem_of_mem_drop hd))
      rw [FC.out] at HSB
      obtain ⟨SC, hSSC⟩ : ∃ S, S = strOf tc := ⟨_, rfl⟩
      have HSB : Hid (Calls Tryd.prog 20 #[.agg #[.slice (some ⟨b9, o9 + y * 7, none⟩) (n - y) (c9 - y)]] w9 fun r w' => r = .returned (.tuple #[.string SC, .int .i64 0]) ∧ Below w9.heap.size w9 w') := by rw [hSSC]; exact HSB
      have HSSC := Lib.hid hSSC
      clear hSSC hinE
      refine HSB.out.mono ?_
      rintro e10 w10 ⟨rfl, hbs⟩
      have HB10 := Lib.hid (HB9.out.trans (hbs.mono HB9.out.size))
      clear hbs
      clear q8
      have eA : SA.toList = ta := by rw [HSA.out, strOf_toList]
      have eB : SB.toList = tb := by rw [HSSB.out, strOf_toList]
      have eC : SC.toList = tc := by rw [HSSC.out, strOf_toList]
      have eL : SL.toList = joinT T := by rw [HSL.out, strOf_toList]
      have zA : SA.size ≤ 16384 := by rw [HSA.out, Lib.size_eq, strOf_data]; exact la
      have zB : SB.size ≤ 16384 := by rw [HSSB.out, Lib.size_eq, strOf_data]; exact lb
      have zC : SC.size ≤ 16384 := by rw [HSSC.out, Lib.size_eq, strOf_data]; exact lc
      have f0 : ¬ 9223372036854775807 < SA.size + SB.size := by omega
      have f1 : ¬ 9223372036854775807 < SA.size + SB.size + SC.size := by omega
      have f2 : ¬ 9223372036854775807 < SA.size + 1 := by omega
      have f3 : ¬ 9223372036854775807 < SA.size + 1 + SB.size := by omega
      have f4 : ¬ 9223372036854775807 < SA.size + SB.size + 1 := by omega
      have f5 : ¬ 9223372036854775807 < SA.size + SB.size + 1 + SC.size := by omega
      have f6 : ¬ 9223372036854775807 < SA.size + 1 + SB.size + 1 := by omega
      have f7 : ¬ 9223372036854775807 < SA.size + 1 + SB.size + SC.size := by omega
      have f8 : ¬ 9223372036854775807 < SA.size + 1 + SB.size + 1 + SC.size := by omega
      by_cases hA : ta = []
      ·
        by_cases hB : tb = []
        ·
          by_cases hC : tc = []
          ·
            have a1 : SA.toList = [] := by rw [eA]; exact hA
            have b1 : SB.toList = [] := by rw [eB]; exact hB
            have c1 : SC.toList = [] := by rw [eC]; exact hC
            have s1 : (SA ++ SB).toList = [] := by simp only [app_toList, eA, eB, sp]; simp [hA, hB]
            have a2 : SA.toList.isEmpty = true := List.isEmpty_iff.2 a1
            have b2 : SB.toList.isEmpty = true := List.isEmpty_iff.2 b1
            have s2 : (SA ++ SB).toList.isEmpty = true := List.isEmpty_iff.2 s1
            have c2 : SC.toList.isEmpty = true := List.isEmpty_iff.2 c1
            have HPX := Lib.hid (show ((SA ++ SB ++ SC).toList == SL.toList) = true by simp only [app_toList, eA, eB, eC, eL, HTT.out, sp]; simp [txt, hA, hB, hC])
            clear hA hB hC eA eB eC eL zA zB zC
            go_wp2
            all_goals
              go_ret
              exact ⟨by rw [HPX.out]; rfl, HB10.out⟩
          ·
            have a1 : SA.toList = [] := by rw [eA]; exact hA
            have b1 : SB.toList = [] := by rw [eB]; exact hB
            have c1 : ¬ SC.toList = [] := by rw [eC]; exact hC
            have s1 : (SA ++ SB).toList = [] := by simp only [app_toList, eA, eB, sp]; simp [hA, hB]
            have a2 : SA.toList.isEmpty = true := List.isEmpty_iff.2 a1
            have b2 : SB.toList.isEmpty = true := List.isEmpty_iff.2 b1
            have s2 : (SA ++ SB).toList.isEmpty = true := List.isEmpty_iff.2 s1
            have c2 : SC.toList.isEmpty = false := ne_isEmpty c1
            have HPX := Lib.hid (show ((SA ++ SB ++ SC).toList == SL.toList) = true by simp only [app_toList, eA, eB, eC, eL, HTT.out, sp]; simp [txt, hA, hB, hC])
            clear hA hB hC eA eB eC eL zA zB zC
            go_wp2
            all_goals
              go_ret
              exact ⟨by rw [HPX.out]; rfl, HB10.out⟩
        ·
          by_cases hC : tc = []
          ·
            have a1 : SA.toList = [] := by rw [eA]; exact hA
            have b1 : ¬ SB.toList = [] := by rw [eB]; exact hB
            have c1 : SC.toList = [] := by rw [eC]; exact hC
            have s1 : ¬ (SA ++ SB).toList = [] := by simp only [app_toList, eA, eB, sp]; simp [hA, hB]
            have a2 : SA.toList.isEmpty = true := List.isEmpty_iff.2 a1
            have b2 : SB.toList.isEmpty = false := ne_isEmpty b1
            have s2 : (SA ++ SB).toList.isEmpty = false := ne_isEmpty s1
            have c2 : SC.toList.isEmpty = true := List.isEmpty_iff.2 c1
            have HPX := Lib.hid (show ((SA ++ SB ++ SC).toList == SL.toList) = true by simp only [app_toList, eA, eB, eC, eL, HTT.out, sp]; simp [txt, hA, hB, hC])
            clear hA hB hC eA eB eC eL zA zB zC
            go_wp2
            all_goals
              go_ret
              exact ⟨by rw [HPX.out]; rfl, HB10.out⟩
          ·
            have a1 : SA.toList = [] := by rw [eA]; exact hA
            have b1 : ¬ SB.toList = [] := by rw [eB]; exact hB
            have c1 : ¬ SC.toList = [] := by rw [eC]; exact hC
            have s1 : ¬ (SA ++ SB).toList = [] := by simp only [app_toList, eA, eB, sp]; simp [hA, hB]
            have a2 : SA.toList.isEmpty = true := List.isEmpty_iff.2 a1
            have b2 : SB.toList.isEmpty = false := ne_isEmpty b1
            have s2 : (SA ++ SB).toList.isEmpty = false := ne_isEmpty s1
            have c2 : SC.toList.isEmpty = false := ne_isEmpty c1
            have HPX := Lib.hid (show ((SA ++ SB ++ ⟨#[32]⟩ ++ SC).toList == SL.toList) = true by simp only [app_toList, eA, eB, eC, eL, HTT.out, sp]; simp [txt, hA, hB, hC])
            clear hA hB hC eA eB eC eL zA zB zC
            go_wp2
            all_goals
              go_ret
              exact ⟨by rw [HPX.out]; rfl, HB10.out⟩
      ·
        by_cases hB : tb = []
        ·
          by_cases hC : tc = []
          ·
            have a1 : ¬ SA.toList = [] := by rw [eA]; exact hA
            have b1 : SB.toList = [] := by rw [eB]; exact hB
            have c1 : SC.toList = [] := by rw [eC]; exact hC
            have s1 : ¬ (SA ++ SB).toList = [] := by simp only [app_toList, eA, eB, sp]; simp [hA, hB]
            have a2 : SA.toList.isEmpty = false := ne_isEmpty a1
            have b2 : SB.toList.isEmpty = true := List.isEmpty_iff.2 b1
            have s2 : (SA ++ SB).toList.isEmpty = false := ne_isEmpty s1
            have c2 : SC.toList.isEmpty = true := List.isEmpty_iff.2 c1
            have HPX := Lib.hid (show ((SA ++ SB ++ SC).toList == SL.toList) = true by simp only [app_toList, eA, eB, eC, eL, HTT.out, sp]; simp [txt, hA, hB, hC])
            clear hA hB hC eA eB eC eL zA zB zC
            go_wp2
            all_goals
              go_ret
              exact ⟨by rw [HPX.out]; rfl, HB10.out⟩
          ·
            have a1 : ¬ SA.toList = [] := by rw [eA]; exact hA
            have b1 : SB.toList = [] := by rw [eB]; exact hB
            have c1 : ¬ SC.toList = [] := by rw [eC]; exact hC
            have s1 : ¬ (SA ++ SB).toList = [] := by simp only [app_toList, eA, eB, sp]; simp [hA, hB]
            have a2 : SA.toList.isEmpty = false := ne_isEmpty a1
            have b2 : SB.toList.isEmpty = true := List.isEmpty_iff.2 b1
            have s2 : (SA ++ SB).toList.isEmpty = false := ne_isEmpty s1
            have c2 : SC.toList.isEmpty = false := ne_isEmpty c1
            have HPX := Lib.hid (show ((SA ++ SB ++ ⟨#[32]⟩ ++ SC).toList == SL.toList) = true by simp only [app_toList, eA, eB, eC, eL, HTT.out, sp]; simp [txt, hA, hB, hC])
            clear hA hB hC eA eB eC eL zA zB zC
            go_wp2
            all_goals
              go_ret
              exact ⟨by rw [HPX.out]; rfl, HB10.out⟩
        ·
          by_cases hC : tc = []
          ·
            have a1 : ¬ SA.toList = [] := by rw [eA]; exact hA
            have b1 : ¬ SB.toList = [] := by rw [eB]; exact hB
            have c1 : SC.toList = [] := by rw [eC]; exact hC
            have s1 : ¬ (SA ++ ⟨#[32]⟩ ++ SB).toList = [] := by simp only [app_toList, eA, eB, sp]; simp [hA, hB]
            have a2 : SA.toList.isEmpty = false := ne_isEmpty a1
            have b2 : SB.toList.isEmpty = false := ne_isEmpty b1
            have s2 : (SA ++ ⟨#[32]⟩ ++ SB).toList.isEmpty = false := ne_isEmpty s1
            have c2 : SC.toList.isEmpty = true := List.isEmpty_iff.2 c1
            have HPX := Lib.hid (show ((SA ++ ⟨#[32]⟩ ++ SB ++ SC).toList == SL.toList) = true by simp only [app_toList, eA, eB, eC, eL, HTT.out, sp]; simp [txt, hA, hB, hC])
            clear hA hB hC eA eB eC eL zA zB zC
            go_wp2
            all_goals
              go_ret
              exact ⟨by rw [HPX.out]; rfl, HB10.out⟩
          ·
            have a1 : ¬ SA.toList = [] := by rw [eA]; exact hA
            have b1 : ¬ SB.toList = [] := by rw [eB]; exact hB
            have c1 : ¬ SC.toList = [] := by rw [eC]; exact hC
            have s1 : ¬ (SA ++ ⟨#[32]⟩ ++ SB).toList = [] := by simp only [app_toList, eA, eB, sp]; simp [hA, hB]
            have a2 : SA.toList.isEmpty = false := ne_isEmpty a1
            have b2 : SB.toList.isEmpty = false := ne_isEmpty b1
            have s2 : (SA ++ ⟨#[32]⟩ ++ SB).toList.isEmpty = false := ne_isEmpty s1
            have c2 : SC.toList.isEmpty = false := ne_isEmpty c1
            have HPX := Lib.hid (show ((SA ++ ⟨#[32]⟩ ++ SB ++ ⟨#[32]⟩ ++ SC).toList == SL.toList) = true by simp only [app_toList, eA, eB, eC, eL, HTT.out, sp]; simp [txt, hA, hB, hC])
            clear hA hB hC eA eB eC eL zA zB zC
            go_wp2
            all_goals
              go_ret
              exact ⟨by rw [HPX.out]; rfl, HB10.out⟩


  ·
    have hinE : DcsIn w7 (· < w7.heap.size) ((ds.take y).drop x) (.slice (some ⟨b7, o7 + x * 7, none⟩) (y - x) (c7 - x)) := DcsIn.part HIN7.out x y (c7 - x) hxy (by rw [← HN.out]; omega) (by omega) (by omega)
    have HSB := Lib.hid (HSHOW.out w7 _ _ HB7.out hinE (fun d hd => List.mem_of_mem_take (List.mem_of_mem_drop hd)))
    rw [FB.out] at HSB
    obtain ⟨SB, hSSB⟩ : ∃ S, S = strOf tb := ⟨_, rfl⟩
    have HSB : Hid (Calls Tryd.prog 20 #[.agg #[.slice (some ⟨b7, o7 + x * 7, none⟩) (y - x) (c7 - x)]] w7 fun r w' => r = .returned (.tuple #[.string SB, .int .i64 0]) ∧ Below w7.heap.size w7 w') := by rw [hSSB]; exact HSB
    have HSSB := Lib.hid hSSB
    clear hSSB hinE
    refine (HSB.out).mono ?_
    rintro e8 w8 ⟨rfl, hbs⟩
    have HB8 := Lib.hid (HB7.out.trans (hbs.mono HB7.out.size))
    have HC8 := Lib.hid (HC7.out.trans (hbs.mono HC7.out.size))
    have hq := (HC8.out.block _ (lt_of_heap HQ2.out)).trans HQ2.out
    have q8 : w8.cell? ⟨w.heap.size, 0, none⟩ = some (.slice A n c) := by rw [cell_of_row w8 _ 0 _ _ (0, 0) hq, ← HN.out]; rfl
    clear hbs hq
    go_wp2_with fail
    refine ((HCPY.out w8 HB8.out)).mono ?_
    rintro e9 w9 ⟨b9, o9, c9, rfl, hc9, hm9, hin, hbs⟩
    have HB9 := Lib.hid (HB8.out.trans (hbs.mono HB8.out.size))
    have HC9 := Lib.hid (HC8.out.trans (hbs.mono HC8.out.size))
    have HIN9 := Lib.hid hin
    have hxc9 : x ≤ c9 := by omega
    have hyc9 : y ≤ c9 := by omega
    clear hin hbs
    go_wp2_with fail
    ·
      have hinE : DcsIn w9 (· < w9.heap.size) (ds.drop y) (.slice (some ⟨b9, o9, none⟩) (n - y) 0) := by
        have e1 : n - y = 0 := by omega
        have e2 : ds.drop y = [] := List.eq_nil_of_length_eq_zero (by have := HN.out; simp; omega)
        rw [e1, e2]
        exact DcsIn.empty _ _ _ _ (by omega)
      have HSB := Lib.hid (HSHOW.out w9 _ _ HB9.out hinE (fun d hd => List.mem_of_mem_drop hd))
      rw [FC.out] at HSB
      obtain ⟨SC, hSSC⟩ : ∃ S, S = strOf tc := ⟨_, rfl⟩
      have HSB : Hid (Calls Tryd.prog 20 #[.agg #[.slice (some ⟨b9, o9, none⟩) (n - y) 0]] w9 fun r w' => r = .returned (.tuple #[.string SC, .int .i64 0]) ∧ Below w9.heap.size w9 w') := by rw [hSSC]; exact HSB
      have HSSC := Lib.hid hSSC
      clear hSSC hinE
      refine HSB.out.mono ?_
      rintro e10 w10 ⟨rfl, hbs⟩
      have HB10 := Lib.hid (HB9.out.trans (hbs.mono HB9.out.size))
      clear hbs
      clear q8
      have eA : SA.toList = ta := by rw [HSA.out, strOf_toList]
      have eB : SB.toList = tb := by rw [HSSB.out, strOf_toList]
      have eC : SC.toList = tc := by rw [HSSC.out, strOf_toList]
      have eL : SL.toList = joinT T := by rw [HSL.out, strOf_toList]
      have zA : SA.size ≤ 16384 := by rw [HSA.out, Lib.size_eq, strOf_data]; exact la
      have zB : SB.size ≤ 16384 := by rw [HSSB.out, Lib.size_eq, strOf_data]; exact lb
      have zC : SC.size ≤ 16384 := by rw [HSSC.out, Lib.size_eq, strOf_data]; exact lc
      have f0 : ¬ 9223372036854775807 < SA.size + SB.size := by omega
      have f1 : ¬ 9223372036854775807 < SA.size + SB.size + SC.size := by omega
      have f2 : ¬ 9223372036854775807 < SA.size + 1 := by omega
      have f3 : ¬ 9223372036854775807 < SA.size + 1 + SB.size := by omega
      have f4 : ¬ 9223372036854775807 < SA.size + SB.size + 1 := by omega
      have f5 : ¬ 9223372036854775807 < SA.size + SB.size + 1 + SC.size := by omega
      have f6 : ¬ 9223372036854775807 < SA.size + 1 + SB.size + 1 := by omega
      have f7 : ¬ 9223372036854775807 < SA.size + 1 + SB.size + SC.size := by omega
      have f8 : ¬ 9223372036854775807 < SA.size + 1 + SB.size + 1 + SC.size := by omega
      by_cases hA : ta = []
      ·
        by_cases hB : tb = []
        ·
          by_cases hC : tc = []
          ·
            have a1 : SA.toList = [] := by rw [eA]; exact hA
            have b1 : SB.toList = [] := by rw [eB]; exact hB
            have c1 : SC.toList = [] := by rw [eC]; exact hC
            have s1 : (SA ++ SB).toList = [] := by simp only [app_toList, eA, eB, sp]; simp [hA, hB]
            have a2 : SA.toList.isEmpty = true := List.isEmpty_iff.2 a1
            have b2 : SB.toList.isEmpty = true := List.isEmpty_iff.2 b1
            have s2 : (SA ++ SB).toList.isEmpty = true := List.isEmpty_iff.2 s1
            have c2 : SC.toList.isEmpty = true := List.isEmpty_iff.2 c1
            have HPX := Lib.hid (show ((SA ++ SB ++ SC).toList == SL.toList) = true by simp only [app_toList, eA, eB, eC, eL, HTT.out, sp]; simp [txt, hA, hB, hC])
            clear hA hB hC eA eB eC eL zA zB zC
            go_wp2
            all_goals
              go_ret
              exact ⟨by rw [HPX.out]; rfl, HB10.out⟩
          ·
            have a1 : SA.toList = [] := by rw [eA]; exact hA
            have b1 : SB.toList = [] := by rw [eB]; exact hB
            have c1 : ¬ SC.toList = [] := by rw [eC]; exact hC
            have s1 : (SA ++ SB).toList = [] := by simp only [app_toList, eA, eB, sp]; simp [hA, hB]
            have a2 : SA.toList.isEmpty = true := List.isEmpty_iff.2 a1
            have b2 : SB.toList.isEmpty = true := List.isEmpty_iff.2 b1
            have s2 : (SA ++ SB).toList.isEmpty = true := List.isEmpty_iff.2 s1
            have c2 : SC.toList.isEmpty = false := ne_isEmpty c1
            have HPX := Lib.hid (show ((SA ++ SB ++ SC).toList == SL.toList) = true by simp only [app_toList, eA, eB, eC, eL, HTT.out, sp]; simp [txt, hA, hB, hC])
            clear hA hB hC eA eB eC eL zA zB zC
            go_wp2
            all_goals
              go_ret
              exact ⟨by rw [HPX.out]; rfl, HB10.out⟩
        ·
          by_cases hC : tc = []
          ·
            have a1 : SA.toList = [] := by rw [eA]; exact hA
            have b1 : ¬ SB.toList = [] := by rw [eB]; exact hB
            have c1 : SC.toList = [] := by rw [eC]; exact hC
            have s1 : ¬ (SA ++ SB).toList = [] := by simp only [app_toList, eA, eB, sp]; simp [hA, hB]
            have a2 : SA.toList.isEmpty = true := List.isEmpty_iff.2 a1
            have b2 : SB.toList.isEmpty = false := ne_isEmpty b1
            have s2 : (SA ++ SB).toList.isEmpty = false := ne_isEmpty s1
            have c2 : SC.toList.isEmpty = true := List.isEmpty_iff.2 c1
            have HPX := Lib.hid (show ((SA ++ SB ++ SC).toList == SL.toList) = true by simp only [app_toList, eA, eB, eC, eL, HTT.out, sp]; simp [txt, hA, hB, hC])
            clear hA hB hC eA eB eC eL zA zB zC
            go_wp2
            all_goals
              go_ret
              exact ⟨by rw [HPX.out]; rfl, HB10.out⟩
          ·
            have a1 : SA.toList = [] := by rw [eA]; exact hA
            have b1 : ¬ SB.toList = [] := by rw [eB]; exact hB
            have c1 : ¬ SC.toList = [] := by rw [eC]; exact hC
            have s1 : ¬ (SA ++ SB).toList = [] := by simp only [app_toList, eA, eB, sp]; simp [hA, hB]
            have a2 : SA.toList.isEmpty = true := List.isEmpty_iff.2 a1
            have b2 : SB.toList.isEmpty = false := ne_isEmpty b1
            have s2 : (SA ++ SB).toList.isEmpty = false := ne_isEmpty s1
            have c2 : SC.toList.isEmpty = false := ne_isEmpty c1
            have HPX := Lib.hid (show ((SA ++ SB ++ ⟨#[32]⟩ ++ SC).toList == SL.toList) = true by simp only [app_toList, eA, eB, eC, eL, HTT.out, sp]; simp [txt, hA, hB, hC])
            clear hA hB hC eA eB eC eL zA zB zC
            go_wp2
            all_goals
              go_ret
              exact ⟨by rw [HPX.out]; rfl, HB10.out⟩
      ·
        by_cases hB : tb = []
        ·
          by_cases hC : tc = []
          ·
            have a1 : ¬ SA.toList = [] := by rw [eA]; exact hA
            have b1 : SB.toList = [] := by rw [eB]; exact hB
            have c1 : SC.toList = [] := by rw [eC]; exact hC
            have s1 : ¬ (SA ++ SB).toList = [] := by simp only [app_toList, eA, eB, sp]; simp [hA, hB]
            have a2 : SA.toList.isEmpty = false := ne_isEmpty a1
            have b2 : SB.toList.isEmpty = true := List.isEmpty_iff.2 b1
            have s2 : (SA ++ SB).toList.isEmpty = false := ne_isEmpty s1
            have c2 : SC.toList.isEmpty = true := List.isEmpty_iff.2 c1
            have HPX := Lib.hid (show ((SA ++ SB ++ SC).toList == SL.toList) = true by simp only [app_toList, eA, eB, eC, eL, HTT.out, sp]; simp [txt, hA, hB, hC])
            clear hA hB hC eA eB eC eL zA zB zC
            go_wp2
            all_goals
              go_ret
              exact ⟨by rw [HPX.out]; rfl, HB10.out⟩
          ·
            have a1 : ¬ SA.toList = [] := by rw [eA]; exact hA
            have b1 : SB.toList = [] := by rw [eB]; exact hB
            have c1 : ¬ SC.toList = [] := by rw [eC]; exact hC
            have s1 : ¬ (SA ++ SB).toList = [] := by simp only [app_toList, eA, eB, sp]; simp [hA, hB]
            have a2 : SA.toList.isEmpty = false := ne_isEmpty a1
            have b2 : SB.toList.isEmpty = true := List.isEmpty_iff.2 b1
            have s2 : (SA ++ SB).toList.isEmpty = false := ne_isEmpty s1
            have c2 : SC.toList.isEmpty = false := ne_isEmpty c1
            have HPX := Lib.hid (show ((SA ++ SB ++ ⟨#[32]⟩ ++ SC).toList == SL.toList) = true by simp only [app_toList, eA, eB, eC, eL, HTT.out, sp]; simp [txt, hA, hB, hC])
            clear hA hB hC eA eB eC eL zA zB zC
            go_wp2
            all_goals
              go_ret
              exact ⟨by rw [HPX.out]; rfl, HB10.out⟩
        ·
          by_cases hC : tc = []
          ·
            have a1 : ¬ SA.toList = [] := by rw [eA]; exact hA
            have b1 : ¬ SB.toList = [] := by rw [eB]; exact hB
            have c1 : SC.toList = [] := by rw [eC]; exact hC
            have s1 : ¬ (SA ++ ⟨#[32]⟩ ++ SB).toList = [] := by simp only [app_toList, eA, eB, sp]; simp [hA, hB]
            have a2 : SA.toList.isEmpty = false := ne_isEmpty a1
            have b2 : SB.toList.isEmpty = false := ne_isEmpty b1
            have s2 : (SA ++ ⟨#[32]⟩ ++ SB).toList.isEmpty = false := ne_isEmpty s1
            have c2 : SC.toList.isEmpty = true := List.isEmpty_iff.2 c1
            have HPX := Lib.hid (show ((SA ++ ⟨#[32]⟩ ++ SB ++ SC).toList == SL.toList) = true by simp only [app_toList, eA, eB, eC, eL, HTT.out, sp]; simp [txt, hA, hB, hC])
            clear hA hB hC eA eB eC eL zA zB zC
            go_wp2
            all_goals
              go_ret
              exact ⟨by rw [HPX.out]; rfl, HB10.out⟩
          ·
            have a1 : ¬ SA.toList = [] := by rw [eA]; exact hA
            have b1 : ¬ SB.toList = [] := by rw [eB]; exact hB
            have c1 : ¬ SC.toList = [] := by rw [eC]; exact hC
            have s1 : ¬ (SA ++ ⟨#[32]⟩ ++ SB).toList = [] := by simp only [app_toList, eA, eB, sp]; simp [hA, hB]
            have a2 : SA.toList.isEmpty = false := ne_isEmpty a1
            have b2 : SB.toList.isEmpty = false := ne_isEmpty b1
            have s2 : (SA ++ ⟨#[32]⟩ ++ SB).toList.isEmpty = false := ne_isEmpty s1
            have c2 : SC.toList.isEmpty = false := ne_isEmpty c1
            have HPX := Lib.hid (show ((SA ++ ⟨#[32]⟩ ++ SB ++ ⟨#[32]⟩ ++ SC).toList == SL.toList) = true by simp only [app_toList, eA, eB, eC, eL, HTT.out, sp]; simp [txt, hA, hB, hC])
            clear hA hB hC eA eB eC eL zA zB zC
            go_wp2
            all_goals
              go_ret
              exact ⟨by rw [HPX.out]; rfl, HB10.out⟩

    ·
      have hinE : DcsIn w9 (· < w9.heap.size) (ds.drop y) (.slice (some ⟨b9, o9 + y * 7, none⟩) (n - y) (c9 - y)) := by have h := DcsIn.part HIN9.out y ds.length (c9 - y) (by rw [← HN.out]; omega) (Nat.le_refl _) (by rw [← HN.out]; omega) (by omega); rw [List.take_of_length_le (Nat.le_refl _), ← HN.out] at h; exact h
      have HSB := Lib.hid (HSHOW.out w9 _ _ HB9.out hinE (fun d hd => List.mem_of_mem_drop hd))
      rw [FC.out] at HSB
      obtain ⟨SC, hSSC⟩ : ∃ S, S = strOf tc := ⟨_, rfl⟩
      have HSB : Hid (Calls Tryd.prog 20 #[.agg #[.slice (some ⟨b9, o9 + y * 7, none⟩) (n - y) (c9 - y)]] w9 fun r w' => r = .returned (.tuple #[.string SC, .int .i64 0]) ∧ Below w9.heap.size w9 w') := by rw [hSSC]; exact HSB
      have HSSC := Lib.hid hSSC
      clear hSSC hinE
      refine HSB.out.mono ?_
      rintro e10 w10 ⟨rfl, hbs⟩
      have HB10 := Lib.hid (HB9.out.trans (hbs.mono HB9.out.size))
      clear hbs
      clear q8
      have eA : SA.toList = ta := by rw [HSA.out, strOf_toList]
      have eB : SB.toList = tb := by rw [HSSB.out, strOf_toList]
      have eC : SC.toList = tc := by rw [HSSC.out, strOf_toList]
      have eL : SL.toList = joinT T := by rw [HSL.out, strOf_toList]
      have zA : SA.size ≤ 16384 := by rw [HSA.out, Lib.size_eq, strOf_data]; exact la
      have zB : SB.size ≤ 16384 := by rw [HSSB.out, Lib.size_eq, strOf_data]; exact lb
      have zC : SC.size ≤ 16384 := by rw [HSSC.out, Lib.size_eq, strOf_data]; exact lc
      have f0 : ¬ 9223372036854775807 < SA.size + SB.size := by omega
      have f1 : ¬ 9223372036854775807 < SA.size + SB.size + SC.size := by omega
      have f2 : ¬ 9223372036854775807 < SA.size + 1 := by omega
      have f3 : ¬ 9223372036854775807 < SA.size + 1 + SB.size := by omega
      have f4 : ¬ 9223372036854775807 < SA.size + SB.size + 1 := by omega
      have f5 : ¬ 9223372036854775807 < SA.size + SB.size + 1 + SC.size := by omega
      have f6 : ¬ 9223372036854775807 < SA.size + 1 + SB.size + 1 := by omega
      have f7 : ¬ 9223372036854775807 < SA.size + 1 + SB.size + SC.size := by omega
      have f8 : ¬ 9223372036854775807 < SA.size + 1 + SB.size + 1 + SC.size := by omega
      by_cases hA : ta = []
      ·
        by_cases hB : tb = []
        ·
          by_cases hC : tc = []
          ·
            have a1 : SA.toList = [] := by rw [eA]; exact hA
            have b1 : SB.toList = [] := by rw [eB]; exact hB
            have c1 : SC.toList = [] := by rw [eC]; exact hC
            have s1 : (SA ++ SB).toList = [] := by simp only [app_toList, eA, eB, sp]; simp [hA, hB]
            have a2 : SA.toList.isEmpty = true := List.isEmpty_iff.2 a1
            have b2 : SB.toList.isEmpty = true := List.isEmpty_iff.2 b1
            have s2 : (SA ++ SB).toList.isEmpty = true := List.isEmpty_iff.2 s1
            have c2 : SC.toList.isEmpty = true := List.isEmpty_iff.2 c1
            have HPX := Lib.hid (show ((SA ++ SB ++ SC).toList == SL.toList) = true by simp only [app_toList, eA, eB, eC, eL, HTT.out, sp]; simp [txt, hA, hB, hC])
            clear hA hB hC eA eB eC eL zA zB zC
            go_wp2
            all_goals
              go_ret
              exact ⟨by rw [HPX.out]; rfl, HB10.out⟩
          ·
            have a1 : SA.toList = [] := by rw [eA]; exact hA
            have b1 : SB.toList = [] := by rw [eB]; exact hB
            have c1 : ¬ SC.toList = [] := by rw [eC]; exact hC
            have s1 : (SA ++ SB).toList = [] := by simp only [app_toList, eA, eB, sp]; simp [hA, hB]
            have a2 : SA.toList.isEmpty = true := List.isEmpty_iff.2 a1
            have b2 : SB.toList.isEmpty = true := List.isEmpty_iff.2 b1
            have s2 : (SA ++ SB).toList.isEmpty = true := List.isEmpty_iff.2 s1
            have c2 : SC.toList.isEmpty = false := ne_isEmpty c1
            have HPX := Lib.hid (show ((SA ++ SB ++ SC).toList == SL.toList) = true by simp only [app_toList, eA, eB, eC, eL, HTT.out, sp]; simp [txt, hA, hB, hC])
            clear hA hB hC eA eB eC eL zA zB zC
            go_wp2
            all_goals
              go_ret
              exact ⟨by rw [HPX.out]; rfl, HB10.out⟩
        ·
          by_cases hC : tc = []
          ·
            have a1 : SA.toList = [] := by rw [eA]; exact hA
            have b1 : ¬ SB.toList = [] := by rw [eB]; exact hB
            have c1 : SC.toList = [] := by rw [eC]; exact hC
            have s1 : ¬ (SA ++ SB).toList = [] := by simp only [app_toList, eA, eB, sp]; simp [hA, hB]
            have a2 : SA.toList.isEmpty = true := List.isEmpty_iff.2 a1
            have b2 : SB.toList.isEmpty = false := ne_isEmpty b1
            have s2 : (SA ++ SB).toList.isEmpty = false := ne_isEmpty s1
            have c2 : SC.toList.isEmpty = true := List.isEmpty_iff.2 c1
            have HPX := Lib.hid (show ((SA ++ SB ++ SC).toList == SL.toList) = true by simp only [app_toList, eA, eB, eC, eL, HTT.out, sp]; simp [txt, hA, hB, hC])
            clear hA hB hC eA eB eC eL zA zB zC
            go_wp2
            all_goals
              go_ret
              exact ⟨by rw [HPX.out]; rfl, HB10.out⟩
          ·
            have a1 : SA.toList = [] := by rw [eA]; exact hA
            have b1 : ¬ SB.toList = [] := by rw [eB]; exact hB
            have c1 : ¬ SC.toList = [] := by rw [eC]; exact hC
            have s1 : ¬ (SA ++ SB).toList = [] := by simp only [app_toList, eA, eB, sp]; simp [hA, hB]
            have a2 : SA.toList.isEmpty = true := List.isEmpty_iff.2 a1
            have b2 : SB.toList.isEmpty = false := ne_isEmpty b1
            have s2 : (SA ++ SB).toList.isEmpty = false := ne_isEmpty s1
            have c2 : SC.toList.isEmpty = false := ne_isEmpty c1
            have HPX := Lib.hid (show ((SA ++ SB ++ ⟨#[32]⟩ ++ SC).toList == SL.toList) = true by simp only [app_toList, eA, eB, eC, eL, HTT.out, sp]; simp [txt, hA, hB, hC])
            clear hA hB hC eA eB eC eL zA zB zC
            go_wp2
            all_goals
              go_ret
              exact ⟨by rw [HPX.out]; rfl, HB10.out⟩
      ·
        by_cases hB : tb = []
        ·
          by_cases hC : tc = []
          ·
            have a1 : ¬ SA.toList = [] := by rw [eA]; exact hA
            have b1 : SB.toList = [] := by rw [eB]; exact hB
            have c1 : SC.toList = [] := by rw [eC]; exact hC
            have s1 : ¬ (SA ++ SB).toList = [] := by simp only [app_toList, eA, eB, sp]; simp [hA, hB]
            have a2 : SA.toList.isEmpty = false := ne_isEmpty a1
            have b2 : SB.toList.isEmpty = true := List.isEmpty_iff.2 b1
            have s2 : (SA ++ SB).toList.isEmpty = false := ne_isEmpty s1
            have c2 : SC.toList.isEmpty = true := List.isEmpty_iff.2 c1
            have HPX := Lib.hid (show ((SA ++ SB ++ SC).toList == SL.toList) = true by simp only [app_toList, eA, eB, eC, eL, HTT.out, sp]; simp [txt, hA, hB, hC])
            clear hA hB hC eA eB eC eL zA zB zC
            go_wp2
            all_goals
              go_ret
              exact ⟨by rw [HPX.out]; rfl, HB10.out⟩
          ·
            have a1 : ¬ SA.toList = [] := by rw [eA]; exact hA
            have b1 : SB.toList = [] := by rw [eB]; exact hB
            have c1 : ¬ SC.toList = [] := by rw [eC]; exact hC
            have s1 : ¬ (SA ++ SB).toList = [] := by simp only [app_toList, eA, eB, sp]; simp [hA, hB]
            have a2 : SA.toList.isEmpty = false := ne_isEmpty a1
            have b2 : SB.toList.isEmpty = true := List.isEmpty_iff.2 b1
            have s2 : (SA ++ SB).toList.isEmpty = false := ne_isEmpty s1
            have c2 : SC.toList.isEmpty = false := ne_isEmpty c1
            have HPX := Lib.hid (show ((SA ++ SB ++ ⟨#[32]⟩ ++ SC).toList == SL.toList) = true by simp only [app_toList, eA, eB, eC, eL, HTT.out, sp]; simp [txt, hA, hB, hC])
            clear hA hB hC eA eB eC eL zA zB zC
            go_wp2
            all_goals
              go_ret
              exact ⟨by rw [HPX.out]; rfl, HB10.out⟩
        ·
          by_cases hC : tc = []
          ·
            have a1 : ¬ SA.toList = [] := by rw [eA]; exact hA
            have b1 : ¬ SB.toList = [] := by rw [eB]; exact hB
            have c1 : SC.toList = [] := by rw [eC]; exact hC
            have s1 : ¬ (SA ++ ⟨#[32]⟩ ++ SB).toList = [] := by simp only [app_toList, eA, eB, sp]; simp [hA, hB]
            have a2 : SA.toList.isEmpty = false := ne_isEmpty a1
            have b2 : SB.toList.isEmpty = false := ne_isEmpty b1
            have s2 : (SA ++ ⟨#[32]⟩ ++ SB).toList.isEmpty = false := ne_isEmpty s1
            have c2 : SC.toList.isEmpty = true := List.isEmpty_iff.2 c1
            have HPX := Lib.hid (show ((SA ++ ⟨#[32]⟩ ++ SB ++ SC).toList == SL.toList) = true by simp only [app_toList, eA, eB, eC, eL, HTT.out, sp]; simp [txt, hA, hB, hC])
            clear hA hB hC eA eB eC eL zA zB zC
            go_wp2
            all_goals
              go_ret
              exact ⟨by rw [HPX.out]; rfl, HB10.out⟩
          ·
            have a1 : ¬ SA.toList = [] := by rw [eA]; exact hA
            have b1 : ¬ SB.toList = [] := by rw [eB]; exact hB
            have c1 : ¬ SC.toList = [] := by rw [eC]; exact hC
            have s1 : ¬ (SA ++ ⟨#[32]⟩ ++ SB).toList = [] := by simp only [app_toList, eA, eB, sp]; simp [hA, hB]
            have a2 : SA.toList.isEmpty = false := ne_isEmpty a1
            have b2 : SB.toList.isEmpty = false := ne_isEmpty b1
            have s2 : (SA ++ ⟨#[32]⟩ ++ SB).toList.isEmpty = false := ne_isEmpty s1
            have c2 : SC.toList.isEmpty = false := ne_isEmpty c1
            have HPX := Lib.hid (show ((SA ++ ⟨#[32]⟩ ++ SB ++ ⟨#[32]⟩ ++ SC).toList == SL.toList) = true by simp only [app_toList, eA, eB, eC, eL, HTT.out, sp]; simp [txt, hA, hB, hC])
            clear hA hB hC eA eB eC eL zA zB zC
            go_wp2
            all_goals
              go_ret
              exact ⟨by rw [HPX.out]; rfl, HB10.out⟩



end Go.Proofs.YtmbkjabjcphkbaaDoor
end
section
/- TreeParts where it answers at once. -/
set_option linter.unusedVariables false
namespace Go.Proofs.YtmbkjabjcphkbaaDoor
open Go.RowKit

set_option maxHeartbeats 8000000 in
set_option maxRecDepth 100000 in
theorem treeParts_heavy (w : World) (htab : TabW w) {ds : List Dc} {v : Value} (h : DcsIn w (· < w.heap.size) ds v) {x y : Int} (hw : 40000 < goDs ds 0 40000 60) :
    Calls Tryd.prog 5 #[.agg #[v], .int .i64 x, .int .i64 y] w fun r w' => r = .returned (.bool true) ∧ Below w.heap.size w w' := by
  obtain ⟨A, c, _, _, rfl, _⟩ := id h
  obtain ⟨X, hX⟩ : ∃ X : World, X = w.alloc (.cells #[.slice A ds.length c] 39) := ⟨_, rfl⟩
  have hbx : Below w.heap.size w X := by rw [hX]; exact (Below.refl _ _).alloc (Nat.le_refl _) _
  have hrow : X.heap[w.heap.size]? = some (.cells #[.slice A ds.length c] 39 (0, 0)) := by rw [hX]; exact heap_alloc_new _ _
  have hgx : w.heap.size < X.heap.size := lt_of_heap hrow
  have HAL := Lib.hid (alive_any X (htab.below hbx))
  have HX := Lib.hid hX
  have HBX := Lib.hid hbx
  have HIN := Lib.hid h
  have HROW := Lib.hid hrow
  have HT := Lib.hid htab
  have HGX := Lib.hid hgx
  clear hX hbx htab h hrow hgx
  go_enter Tryd.func5, Tryd.ntmps5
  go_wp2_with fail
  rw [← HX.out]
  refine HAL.out.mono ?_
  rintro e1 w1 ⟨rfl, hb1⟩
  have hq1 : w1.heap[w.heap.size]? = some (.cells #[.slice A ds.length c] 39 (0, 0)) := (hb1.block _ HGX.out).trans HROW.out
  have q1 : w1.cell? ⟨w.heap.size, 0, none⟩ = some (.slice A ds.length c) := by rw [cell_of_row w1 _ 0 _ _ (0, 0) hq1]; rfl
  have hbw : Below w.heap.size w w1 := HBX.out.trans (hb1.mono HBX.out.size)
  have HWG := Lib.hid (weighp_any HIN.out 40000 60 w1 hbw hbw.size (by omega) (by omega) (by omega) (by omega))
  have HB1 := Lib.hid hbw
  have HQ1 := Lib.hid hq1
  clear hb1 hq1 hbw
  go_wp2_with fail
  refine HWG.out.mono ?_
  rintro e2 w2 ⟨rfl, hb2⟩
  have hq2 : w2.heap[w.heap.size]? = some (.cells #[.slice A ds.length c] 39 (0, 0)) := (hb2.block _ (lt_of_heap HQ1.out)).trans HQ1.out
  have q2 : w2.cell? ⟨w.heap.size, 0, none⟩ = some (.slice A ds.length c) := by rw [cell_of_row w2 _ 0 _ _ (0, 0) hq2]; rfl
  have HQ2 := Lib.hid hq2
  have HB2 := Lib.hid (HB1.out.trans (hb2.mono HB1.out.size))
  clear hb2 q1 hq2
  obtain ⟨G, hG⟩ : ∃ G, G = goDs ds 0 40000 60 := ⟨_, rfl⟩
  rw [← hG] at hw ⊢
  clear hG
  go_wp2
  go_ret
  exact ⟨rfl, HB2.out⟩
set_option maxHeartbeats 8000000 in
set_option maxRecDepth 100000 in
theorem treeParts_out (w : World) (htab : TabW w) {ds : List Dc} {v : Value} (h : DcsIn w (· < w.heap.size) ds v) {x y : Int} (hx : x < 0 ∨ (ds.length : Int) < y ∨ y < x) (hw : ¬ 40000 < goDs ds 0 40000 60) :
    Calls Tryd.prog 5 #[.agg #[v], .int .i64 x, .int .i64 y] w fun r w' => r = .returned (.bool true) ∧ Below w.heap.size w w' := by
  obtain ⟨A, c, _, _, rfl, _⟩ := id h
  obtain ⟨X, hX⟩ : ∃ X : World, X = w.alloc (.cells #[.slice A ds.length c] 39) := ⟨_, rfl⟩
  have hbx : Below w.heap.size w X := by rw [hX]; exact (Below.refl _ _).alloc (Nat.le_refl _) _
  have hrow : X.heap[w.heap.size]? = some (.cells #[.slice A ds.length c] 39 (0, 0)) := by rw [hX]; exact heap_alloc_new _ _
  have hgx : w.heap.size < X.heap.size := lt_of_heap hrow
  have HAL := Lib.hid (alive_any X (htab.below hbx))
  have HX := Lib.hid hX
  have HBX := Lib.hid hbx
  have HIN := Lib.hid h
  have HROW := Lib.hid hrow
  have HT := Lib.hid htab
  have HGX := Lib.hid hgx
  clear hX hbx htab h hrow hgx
  go_enter Tryd.func5, Tryd.ntmps5
  go_wp2_with fail
  rw [← HX.out]
  refine HAL.out.mono ?_
  rintro e1 w1 ⟨rfl, hb1⟩
  have hq1 : w1.heap[w.heap.size]? = some (.cells #[.slice A ds.length c] 39 (0, 0)) := (hb1.block _ HGX.out).trans HROW.out
  have q1 : w1.cell? ⟨w.heap.size, 0, none⟩ = some (.slice A ds.length c) := by rw [cell_of_row w1 _ 0 _ _ (0, 0) hq1]; rfl
  have hbw : Below w.heap.size w w1 := HBX.out.trans (hb1.mono HBX.out.size)
  have HWG := Lib.hid (weighp_any HIN.out 40000 60 w1 hbw hbw.size (by omega) (by omega) (by omega) (by omega))
  have HB1 := Lib.hid hbw
  have HQ1 := Lib.hid hq1
  clear hb1 hq1 hbw
  go_wp2_with fail
  refine HWG.out.mono ?_
  rintro e2 w2 ⟨rfl, hb2⟩
  have hq2 : w2.heap[w.heap.size]? = some (.cells #[.slice A ds.length c] 39 (0, 0)) := (hb2.block _ (lt_of_heap HQ1.out)).trans HQ1.out
  have q2 : w2.cell? ⟨w.heap.size, 0, none⟩ = some (.slice A ds.length c) := by rw [cell_of_row w2 _ 0 _ _ (0, 0) hq2]; rfl
  have HQ2 := Lib.hid hq2
  have HB2 := Lib.hid (HB1.out.trans (hb2.mono HB1.out.size))
  clear hb2 q1 hq2
  obtain ⟨G, hG⟩ : ∃ G, G = goDs ds 0 40000 60 := ⟨_, rfl⟩
  rw [← hG] at hw ⊢
  clear hG
  obtain ⟨n, hn⟩ : ∃ n, n = ds.length := ⟨_, rfl⟩
  rw [← hn] at hx q2
  have HN := Lib.hid hn
  clear hn
  by_cases h1 : x < 0
  · clear hx
    go_wp2
    go_ret
    exact ⟨rfl, HB2.out⟩
  · by_cases h2 : (n : Int) < y
    · clear hx
      go_wp2
      go_ret
      exact ⟨rfl, HB2.out⟩
    · have h3 : y < x := by omega
      clear hx
      go_wp2
      go_ret
      exact ⟨rfl, HB2.out⟩
set_option maxHeartbeats 8000000 in
set_option maxRecDepth 100000 in
theorem treeParts_err (w : World) (htab : TabW w) {ds : List Dc} {v : Value} (h : DcsIn w (· < w.heap.size) ds v) {x y : Int} (h1 : ¬ x < 0) (h2 : ¬ (ds.length : Int) < y) (h3 : ¬ y < x) (hw : ¬ 40000 < goDs ds 0 40000 60) (hf : fin (penP ds) = ([], 23)) :
    Calls Tryd.prog 5 #[.agg #[v], .int .i64 x, .int .i64 y] w fun r w' => r = .returned (.bool true) ∧ Below w.heap.size w w' := by
  obtain ⟨A, c, _, _, rfl, _⟩ := id h
  obtain ⟨X, hX⟩ : ∃ X : World, X = w.alloc (.cells #[.slice A ds.length c] 39) := ⟨_, rfl⟩
  have hbx : Below w.heap.size w X := by rw [hX]; exact (Below.refl _ _).alloc (Nat.le_refl _) _
  have hrow : X.heap[w.heap.size]? = some (.cells #[.slice A ds.length c] 39 (0, 0)) := by rw [hX]; exact heap_alloc_new _ _
  have hgx : w.heap.size < X.heap.size := lt_of_heap hrow
  have HAL := Lib.hid (alive_any X (htab.below hbx))
  have HX := Lib.hid hX
  have HBX := Lib.hid hbx
  have HIN := Lib.hid h
  have HROW := Lib.hid hrow
  have HT := Lib.hid htab
  have HGX := Lib.hid hgx
  clear hX hbx htab h hrow hgx
  go_enter Tryd.func5, Tryd.ntmps5
  go_wp2_with fail
  rw [← HX.out]
  refine HAL.out.mono ?_
  rintro e1 w1 ⟨rfl, hb1⟩
  have hq1 : w1.heap[w.heap.size]? = some (.cells #[.slice A ds.length c] 39 (0, 0)) := (hb1.block _ HGX.out).trans HROW.out
  have q1 : w1.cell? ⟨w.heap.size, 0, none⟩ = some (.slice A ds.length c) := by rw [cell_of_row w1 _ 0 _ _ (0, 0) hq1]; rfl
  have hbw : Below w.heap.size w w1 := HBX.out.trans (hb1.mono HBX.out.size)
  have HWG := Lib.hid (weighp_any HIN.out 40000 60 w1 hbw hbw.size (by omega) (by omega) (by omega) (by omega))
  have HB1 := Lib.hid hbw
  have HQ1 := Lib.hid hq1
  clear hb1 hq1 hbw
  go_wp2_with fail
  refine HWG.out.mono ?_
  rintro e2 w2 ⟨rfl, hb2⟩
  have hq2 : w2.heap[w.heap.size]? = some (.cells #[.slice A ds.length c] 39 (0, 0)) := (hb2.block _ (lt_of_heap HQ1.out)).trans HQ1.out
  have q2 : w2.cell? ⟨w.heap.size, 0, none⟩ = some (.slice A ds.length c) := by rw [cell_of_row w2 _ 0 _ _ (0, 0) hq2]; rfl
  have HQ2 := Lib.hid hq2
  have HB2 := Lib.hid (HB1.out.trans (hb2.mono HB1.out.size))
  clear hb2 q1 hq2
  obtain ⟨G, hG⟩ : ∃ G, G = goDs ds 0 40000 60 := ⟨_, rfl⟩
  rw [← hG] at hw ⊢
  have hl := light_of (ds := ds) (by omega)
  have HCP := Lib.hid (copy_light HIN.out hl w2 HB2.out HB2.out.size)
  have HL := Lib.hid hl
  have HF := Lib.hid hf
  obtain ⟨n, hn⟩ : ∃ n, n = ds.length := ⟨_, rfl⟩
  have HN := Lib.hid hn
  rw [← hn] at h2 q2 HCP
  clear hG hl hf hn
  go_wp2_with fail
  refine HCP.out.mono ?_
  rintro e3 w3 ⟨v', rfl, hin3, hb3⟩
  have hb30 := HB2.out.trans (hb3.mono HB2.out.size)
  have HSH := Lib.hid (show_any w3 (HT.out.below hb30) (hin3.keep (fun _ _ => rfl) (fun b hlt => hlt.2)) HL.out.nm)
  rw [HF.out] at HSH
  have HB3 := Lib.hid hb30
  clear hb30 hin3 hb3 q2
  go_wp2_with fail
  refine HSH.out.mono ?_
  rintro e4 w4 ⟨rfl, hb4⟩
  have HB4 := Lib.hid (HB3.out.trans (hb4.mono HB3.out.size))
  clear hb4
  go_wp2
  go_ret
  exact ⟨rfl, HB4.out⟩

end Go.Proofs.YtmbkjabjcphkbaaDoor
end
section
/- TreeParts of a program without declarations. -/
set_option linter.unusedVariables false
namespace Go.Proofs.YtmbkjabjcphkbaaDoor
open Go.RowKit

set_option maxHeartbeats 8000000 in
set_option maxRecDepth 100000 in
theorem treeParts_nil (w : World) (htab : TabW w) {ds : List Dc} {v : Value} (h : DcsIn w (· < w.heap.size) ds v) (hds : ds = []) (hw : ¬ 40000 < goDs ds 0 40000 60) :
    Calls Tryd.prog 5 #[.agg #[v], .int .i64 0, .int .i64 0] w fun r w' => r = .returned (.bool true) ∧ Below w.heap.size w w' := by
  have HD1 := Lib.hid hds
  clear hds
  obtain ⟨A, c, _, _, rfl, _⟩ := id h
  obtain ⟨X, hX⟩ : ∃ X : World, X = w.alloc (.cells #[.slice A ds.length c] 39) := ⟨_, rfl⟩
  have hbx : Below w.heap.size w X := by rw [hX]; exact (Below.refl _ _).alloc (Nat.le_refl _) _
  have hrow : X.heap[w.heap.size]? = some (.cells #[.slice A ds.length c] 39 (0, 0)) := by rw [hX]; exact heap_alloc_new _ _
  have hgx : w.heap.size < X.heap.size := lt_of_heap hrow
  have HAL := Lib.hid (alive_any X (htab.below hbx))
  have HX := Lib.hid hX
  have HBX := Lib.hid hbx
  have HIN := Lib.hid h
  have HROW := Lib.hid hrow
  have HT := Lib.hid htab
  have HGX := Lib.hid hgx
  clear hX hbx htab h hrow hgx
  go_enter Tryd.func5, Tryd.ntmps5
  go_wp2_with fail
  rw [← HX.out]
  refine HAL.out.mono ?_
  rintro e1 w1 ⟨rfl, hb1⟩
  have hq1 : w1.heap[w.heap.size]? = some (.cells #[.slice A ds.length c] 39 (0, 0)) := (hb1.block _ HGX.out).trans HROW.out
  have q1 : w1.cell? ⟨w.heap.size, 0, none⟩ = some (.slice A ds.length c) := by rw [cell_of_row w1 _ 0 _ _ (0, 0) hq1]; rfl
  have hbw : Below w.heap.size w w1 := HBX.out.trans (hb1.mono HBX.out.size)
  have HWG := Lib.hid (weighp_any HIN.out 40000 60 w1 hbw hbw.size (by omega) (by omega) (by omega) (by omega))
  have HB1 := Lib.hid hbw
  have HQ1 := Lib.hid hq1
  clear hb1 hq1 hbw
  go_wp2_with fail
  refine HWG.out.mono ?_
  rintro e2 w2 ⟨rfl, hb2⟩
  have hq2 : w2.heap[w.heap.size]? = some (.cells #[.slice A ds.length c] 39 (0, 0)) := (hb2.block _ (lt_of_heap HQ1.out)).trans HQ1.out
  have q2 : w2.cell? ⟨w.heap.size, 0, none⟩ = some (.slice A ds.length c) := by rw [cell_of_row w2 _ 0 _ _ (0, 0) hq2]; rfl
  have HQ2 := Lib.hid hq2
  have HB2 := Lib.hid (HB1.out.trans (hb2.mono HB1.out.size))
  clear hb2 q1 hq2
  obtain ⟨G, hG⟩ : ∃ G, G = goDs ds 0 40000 60 := ⟨_, rfl⟩
  rw [← hG] at hw ⊢
  have hl := light_of (ds := ds) (by omega)
  have HCPY : Hid (∀ wx, Below w.heap.size w wx → Calls Tryd.prog 21 #[.agg #[.slice A ds.length c], .int .i64 300] wx fun e w2 => ∃ A' c', e = .returned (.agg #[.slice A' 0 c']) ∧ c' ≤ 9223372036854775807 ∧ Below wx.heap.size wx w2) := Lib.hid fun wx hb => (copy_light HIN.out hl wx hb hb.size).mono fun e w2 => by
    rintro ⟨v', rfl, hin, hbs⟩
    obtain ⟨A', c', fp, fb', rfl, hc', hm', hA', hp', hb'⟩ := id hin
    exact ⟨A', c', by rw [HD1.out]; rfl, hm', hbs⟩
  have HSHOW : Hid (∀ wx (A : Option Addr) (c : Nat), Below w.heap.size w wx → c ≤ 9223372036854775807 → Calls Tryd.prog 20 #[.agg #[.slice A 0 c]] wx fun r w' => r = .returned (.tuple #[.string ⟨#[]⟩, .int .i64 0]) ∧ Below wx.heap.size wx w') := Lib.hid fun wx A c hb hc => by
    have h := show_any wx (HT.out.below hb) (DcsIn.empty wx (· < wx.heap.size) A c hc) (fun k hk => absurd hk (by simp))
    rw [show fin (penP []) = ([], 0) by decide +kernel] at h
    exact h
  have hn : ds.length = 0 := by rw [HD1.out]; rfl
  rw [hn] at q2
  have HDS := Lib.hid hn
  have hfd : ∀ (A : Option Addr) (n c : Nat) (w : World), (Instr.field 39 (.agg #[.slice A n c]) 0).run Tryd.prog w = .ok (.slice A n c) w := fun _ _ _ _ => by kernel_rfl
  clear hG hl hn
  go_wp2_with fail
  rw [HDS.out] at HCPY
  refine ((HCPY.out w2 HB2.out)).mono ?_
  rintro e3 w3 ⟨A3, c3, rfl, hm3, hbs⟩
  have HB3 := Lib.hid (HB2.out.trans (hbs.mono HB2.out.size))
  have HC3 := Lib.hid hbs
  clear hbs
  go_wp2_with fail
  refine (HSHOW.out w3 A3 c3 HB3.out hm3).mono ?_
  rintro e4 w4 ⟨rfl, hbs⟩
  have HB4 := Lib.hid (HB3.out.trans (hbs.mono HB3.out.size))
  have HC4 := Lib.hid (HC3.out.trans (hbs.mono HC3.out.size))
  have hq := (HC3.out.trans (hbs.mono HC3.out.size)).block _ (lt_of_heap HQ2.out) |>.trans HQ2.out
  have q4 : w4.cell? ⟨w.heap.size, 0, none⟩ = some (.slice A 0 c) := by rw [cell_of_row w4 _ 0 _ _ (0, 0) hq, HDS.out]; rfl
  clear hbs hq
  go_wp2_with fail
  refine ((HCPY.out w4 HB4.out)).mono ?_
  rintro e5 w5 ⟨A5, c5, rfl, hm5, hbs⟩
  have HB5 := Lib.hid (HB4.out.trans (hbs.mono HB4.out.size))
  have HC5 := Lib.hid (HC4.out.trans (hbs.mono HC4.out.size))
  clear hbs
  cases A5 with
  | none =>
    go_wp2_with fail
    refine (HSHOW.out w5 none c5 HB5.out hm5).mono ?_
    rintro e6 w6 ⟨rfl, hbs⟩
    have HB6 := Lib.hid (HB5.out.trans (hbs.mono HB5.out.size))
    have HC6 := Lib.hid (HC5.out.trans (hbs.mono HC5.out.size))
    have hq := (HC6.out.block _ (lt_of_heap HQ2.out)).trans HQ2.out
    have q6 : w6.cell? ⟨w.heap.size, 0, none⟩ = some (.slice A 0 c) := by rw [cell_of_row w6 _ 0 _ _ (0, 0) hq, HDS.out]; rfl
    clear hbs hq
    go_wp2_with fail
    refine ((HCPY.out w6 HB6.out)).mono ?_
    rintro e7 w7 ⟨A7, c7, rfl, hm7, hbs⟩
    have HB7 := Lib.hid (HB6.out.trans (hbs.mono HB6.out.size))
    have HC7 := Lib.hid (HC6.out.trans (hbs.mono HC6.out.size))
    clear hbs
    cases A7 with
    | none =>
      go_wp2_with fail
      refine (HSHOW.out w7 none c7 HB7.out hm7).mono ?_
      rintro e8 w8 ⟨rfl, hbs⟩
      have HB8 := Lib.hid (HB7.out.trans (hbs.mono HB7.out.size))
      have HC8 := Lib.hid (HC7.out.trans (hbs.mono HC7.out.size))
      have hq := (HC8.out.block _ (lt_of_heap HQ2.out)).trans HQ2.out
      have q8 : w8.cell? ⟨w.heap.size, 0, none⟩ = some (.slice A 0 c) := by rw [cell_of_row w8 _ 0 _ _ (0, 0) hq, HDS.out]; rfl
      clear hbs hq
      go_wp2_with fail
      refine ((HCPY.out w8 HB8.out)).mono ?_
      rintro e9 w9 ⟨A9, c9, rfl, hm9, hbs⟩
      have HB9 := Lib.hid (HB8.out.trans (hbs.mono HB8.out.size))
      have HC9 := Lib.hid (HC8.out.trans (hbs.mono HC8.out.size))
      clear hbs
      cases A9 with
      | none =>
        go_wp2_with fail
        refine (HSHOW.out w9 none c9 HB9.out hm9).mono ?_
        rintro e10 w10 ⟨rfl, hbs⟩
        have HB10 := Lib.hid (HB9.out.trans (hbs.mono HB9.out.size))
        have HC10 := Lib.hid (HC9.out.trans (hbs.mono HC9.out.size))
        have hq := (HC10.out.block _ (lt_of_heap HQ2.out)).trans HQ2.out
        have q10 : w10.cell? ⟨w.heap.size, 0, none⟩ = some (.slice A 0 c) := by rw [cell_of_row w10 _ 0 _ _ (0, 0) hq, HDS.out]; rfl
        clear hbs hq
        go_wp2
        all_goals
          go_ret
          exact ⟨by kernel_rfl, HB10.out⟩
      | some a9 =>
        go_wp2_with fail
        refine (HSHOW.out w9 (some a9) c9 HB9.out hm9).mono ?_
        rintro e10 w10 ⟨rfl, hbs⟩
        have HB10 := Lib.hid (HB9.out.trans (hbs.mono HB9.out.size))
        have HC10 := Lib.hid (HC9.out.trans (hbs.mono HC9.out.size))
        have hq := (HC10.out.block _ (lt_of_heap HQ2.out)).trans HQ2.out
        have q10 : w10.cell? ⟨w.heap.size, 0, none⟩ = some (.slice A 0 c) := by rw [cell_of_row w10 _ 0 _ _ (0, 0) hq, HDS.out]; rfl
        clear hbs hq
        go_wp2
        all_goals
          go_ret
          exact ⟨by kernel_rfl, HB10.out⟩
    | some a7 =>
      go_wp2_with fail
      refine (HSHOW.out w7 (some a7) c7 HB7.out hm7).mono ?_
      rintro e8 w8 ⟨rfl, hbs⟩
      have HB8 := Lib.hid (HB7.out.trans (hbs.mono HB7.out.size))
      have HC8 := Lib.hid (HC7.out.trans (hbs.mono HC7.out.size))
      have hq := (HC8.out.block _ (lt_of_heap HQ2.out)).trans HQ2.out
      have q8 : w8.cell? ⟨w.heap.size, 0, none⟩ = some (.slice A 0 c) := by rw [cell_of_row w8 _ 0 _ _ (0, 0) hq, HDS.out]; rfl
      clear hbs hq
      go_wp2_with fail
      refine ((HCPY.out w8 HB8.out)).mono ?_
      rintro e9 w9 ⟨A9, c9, rfl, hm9, hbs⟩
      have HB9 := Lib.hid (HB8.out.trans (hbs.mono HB8.out.size))
      have HC9 := Lib.hid (HC8.out.trans (hbs.mono HC8.out.size))
      clear hbs
      cases A9 with
      | none =>
        go_wp2_with fail
        refine (HSHOW.out w9 none c9 HB9.out hm9).mono ?_
        rintro e10 w10 ⟨rfl, hbs⟩
        have HB10 := Lib.hid (HB9.out.trans (hbs.mono HB9.out.size))
        have HC10 := Lib.hid (HC9.out.trans (hbs.mono HC9.out.size))
        have hq := (HC10.out.block _ (lt_of_heap HQ2.out)).trans HQ2.out
        have q10 : w10.cell? ⟨w.heap.size, 0, none⟩ = some (.slice A 0 c) := by rw [cell_of_row w10 _ 0 _ _ (0, 0) hq, HDS.out]; rfl
        clear hbs hq
        go_wp2
        all_goals
          go_ret
          exact ⟨by kernel_rfl, HB10.out⟩
      | some a9 =>
        go_wp2_with fail
        refine (HSHOW.out w9 (some a9) c9 HB9.out hm9).mono ?_
        rintro e10 w10 ⟨rfl, hbs⟩
        have HB10 := Lib.hid (HB9.out.trans (hbs.mono HB9.out.size))
        have HC10 := Lib.hid (HC9.out.trans (hbs.mono HC9.out.size))
        have hq := (HC10.out.block _ (lt_of_heap HQ2.out)).trans HQ2.out
        have q10 : w10.cell? ⟨w.heap.size, 0, none⟩ = some (.slice A 0 c) := by rw [cell_of_row w10 _ 0 _ _ (0, 0) hq, HDS.out]; rfl
        clear hbs hq
        go_wp2
        all_goals
          go_ret
          exact ⟨by kernel_rfl, HB10.out⟩
  | some a5 =>
    go_wp2_with fail
    refine (HSHOW.out w5 (some a5) c5 HB5.out hm5).mono ?_
    rintro e6 w6 ⟨rfl, hbs⟩
    have HB6 := Lib.hid (HB5.out.trans (hbs.mono HB5.out.size))
    have HC6 := Lib.hid (HC5.out.trans (hbs.mono HC5.out.size))
    have hq := (HC6.out.block _ (lt_of_heap HQ2.out)).trans HQ2.out
    have q6 : w6.cell? ⟨w.heap.size, 0, none⟩ = some (.slice A 0 c) := by rw [cell_of_row w6 _ 0 _ _ (0, 0) hq, HDS.out]; rfl
    clear hbs hq
    go_wp2_with fail
    refine ((HCPY.out w6 HB6.out)).mono ?_
    rintro e7 w7 ⟨A7, c7, rfl, hm7, hbs⟩
    have HB7 := Lib.hid (HB6.out.trans (hbs.mono HB6.out.size))
    have HC7 := Lib.hid (HC6.out.trans (hbs.mono HC6.out.size))
    clear hbs
    cases A7 with
    | none =>
      go_wp2_with fail
      refine (HSHOW.out w7 none c7 HB7.out hm7).mono ?_
      rintro e8 w8 ⟨rfl, hbs⟩
      have HB8 := Lib.hid (HB7.out.trans (hbs.mono HB7.out.size))
      have HC8 := Lib.hid (HC7.out.trans (hbs.mono HC7.out.size))
      have hq := (HC8.out.block _ (lt_of_heap HQ2.out)).trans HQ2.out
      have q8 : w8.cell? ⟨w.heap.size, 0, none⟩ = some (.slice A 0 c) := by rw [cell_of_row w8 _ 0 _ _ (0, 0) hq, HDS.out]; rfl
      clear hbs hq
      go_wp2_with fail
      refine ((HCPY.out w8 HB8.out)).mono ?_
      rintro e9 w9 ⟨A9, c9, rfl, hm9, hbs⟩
      have HB9 := Lib.hid (HB8.out.trans (hbs.mono HB8.out.size))
      have HC9 := Lib.hid (HC8.out.trans (hbs.mono HC8.out.size))
      clear hbs
      cases A9 with
      | none =>
        go_wp2_with fail
        refine (HSHOW.out w9 none c9 HB9.out hm9).mono ?_
        rintro e10 w10 ⟨rfl, hbs⟩
        have HB10 := Lib.hid (HB9.out.trans (hbs.mono HB9.out.size))
        have HC10 := Lib.hid (HC9.out.trans (hbs.mono HC9.out.size))
        have hq := (HC10.out.block _ (lt_of_heap HQ2.out)).trans HQ2.out
        have q10 : w10.cell? ⟨w.heap.size, 0, none⟩ = some (.slice A 0 c) := by rw [cell_of_row w10 _ 0 _ _ (0, 0) hq, HDS.out]; rfl
        clear hbs hq
        go_wp2
        all_goals
          go_ret
          exact ⟨by kernel_rfl, HB10.out⟩
      | some a9 =>
        go_wp2_with fail
        refine (HSHOW.out w9 (some a9) c9 HB9.out hm9).mono ?_
        rintro e10 w10 ⟨rfl, hbs⟩
        have HB10 := Lib.hid (HB9.out.trans (hbs.mono HB9.out.size))
        have HC10 := Lib.hid (HC9.out.trans (hbs.mono HC9.out.size))
        have hq := (HC10.out.block _ (lt_of_heap HQ2.out)).trans HQ2.out
        have q10 : w10.cell? ⟨w.heap.size, 0, none⟩ = some (.slice A 0 c) := by rw [cell_of_row w10 _ 0 _ _ (0, 0) hq, HDS.out]; rfl
        clear hbs hq
        go_wp2
        all_goals
          go_ret
          exact ⟨by kernel_rfl, HB10.out⟩
    | some a7 =>
      go_wp2_with fail
      refine (HSHOW.out w7 (some a7) c7 HB7.out hm7).mono ?_
      rintro e8 w8 ⟨rfl, hbs⟩
      have HB8 := Lib.hid (HB7.out.trans (hbs.mono HB7.out.size))
      have HC8 := Lib.hid (HC7.out.trans (hbs.mono HC7.out.size))
      have hq := (HC8.out.block _ (lt_of_heap HQ2.out)).trans HQ2.out
      have q8 : w8.cell? ⟨w.heap.size, 0, none⟩ = some (.slice A 0 c) := by rw [cell_of_row w8 _ 0 _ _ (0, 0) hq, HDS.out]; rfl
      clear hbs hq
      go_wp2_with fail
      refine ((HCPY.out w8 HB8.out)).mono ?_
      rintro e9 w9 ⟨A9, c9, rfl, hm9, hbs⟩
      have HB9 := Lib.hid (HB8.out.trans (hbs.mono HB8.out.size))
      have HC9 := Lib.hid (HC8.out.trans (hbs.mono HC8.out.size))
      clear hbs
      cases A9 with
      | none =>
        go_wp2_with fail
        refine (HSHOW.out w9 none c9 HB9.out hm9).mono ?_
        rintro e10 w10 ⟨rfl, hbs⟩
        have HB10 := Lib.hid (HB9.out.trans (hbs.mono HB9.out.size))
        have HC10 := Lib.hid (HC9.out.trans (hbs.mono HC9.out.size))
        have hq := (HC10.out.block _ (lt_of_heap HQ2.out)).trans HQ2.out
        have q10 : w10.cell? ⟨w.heap.size, 0, none⟩ = some (.slice A 0 c) := by rw [cell_of_row w10 _ 0 _ _ (0, 0) hq, HDS.out]; rfl
        clear hbs hq
        go_wp2
        all_goals
          go_ret
          exact ⟨by kernel_rfl, HB10.out⟩
      | some a9 =>
        go_wp2_with fail
        refine (HSHOW.out w9 (some a9) c9 HB9.out hm9).mono ?_
        rintro e10 w10 ⟨rfl, hbs⟩
        have HB10 := Lib.hid (HB9.out.trans (hbs.mono HB9.out.size))
        have HC10 := Lib.hid (HC9.out.trans (hbs.mono HC9.out.size))
        have hq := (HC10.out.block _ (lt_of_heap HQ2.out)).trans HQ2.out
        have q10 : w10.cell? ⟨w.heap.size, 0, none⟩ = some (.slice A 0 c) := by rw [cell_of_row w10 _ 0 _ _ (0, 0) hq, HDS.out]; rfl
        clear hbs hq
        go_wp2
        all_goals
          go_ret
          exact ⟨by kernel_rfl, HB10.out⟩

end Go.Proofs.YtmbkjabjcphkbaaDoor
end
