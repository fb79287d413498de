/- What is proved: for every two texts the law ParseBehind returns true and leaves its arguments as they were, in every world in which the tables and sentinels that the row lists stand as the program lays them; no other condition. -/
import Derived.Test.YtkmpnlbppdekaaaDoorZe4
import Derived.Test.YtkmpnlbppdekaaaDoorZf1
import Derived.Maps.AppendAt
import Derived.Test.YtkmpnlbppdekaaaDoorTie
import Derived.Test.YtkmpnlbppdekaaaDoorCards
import Derived.LaidMore
import Derived.LaidOnce
import Derived.Handed
import Derived.Stop.LaidErr
import Derived.Lib.LaidTab
import Derived.SevenTiedAt
import Derived.JoinedOf
import Derived.Test.YtkmpnlbppdekaaaDoorRows
import Derived.ProofKit
import Derived.Deep.Slices
import Derived.OpenShut
import Derived.ChangeMaps5
import Derived.Shelf.Small.Strs
import Derived.Shelf.LaysM
import Derived.Shelf.Strconv.Clone
import Derived.Shelf.Strings.Search1
import Derived.Shelf.Strings.Prefix
import Derived.WalkKit
import Derived.WalkSpells
import Derived.WalkLawsBesides
import Derived.Lib.Hide
import Derived.Lib.IndexAny
import Derived.OwnWalk
import Derived.Deep.AppendLies
import Derived.Laws.AppendOwnNone
import Derived.Deep.QuietTactic
import Derived.BigQuiet
import Derived.StillTailTactics
import Derived.IntWalk
import Derived.Lib.ItoaNum
import Derived.Recover
import Derived.Lib.AppendStr
import Derived.Lib.BufferRead
import Derived.Shelf.Small.Wraps
import Derived.Shelf.Strconv.Itoa0
import Derived.Shelf.Strconv.Itoa1
import Derived.Shelf.Strconv.Itoa2
import Derived.Shelf.Strconv.Itoa3
import Derived.Shelf.Slices.Turned
import Derived.Lib.AppendIntMem
import Derived.Shelf.Strconv.Atoi
import Derived.Lib.AtoiErrMem
import Derived.Deep.RegionHeld3
import Derived.Deep.RegionLaw
import Derived.Laws.EntriesVeiled
import Derived.Deep.Cut
set_option linter.unusedVariables false
set_option linter.unusedSimpArgs false
namespace Go.Proofs.YtkmpnlbppdekaaaDoor
open Go.RowKit

theorem dcs_of_row {w : World} {S : Nat → Prop} {base : Nat} {v : Value} {ss : List Dc} {fs : List Vd} (hl : ss.length = fs.length) (hown : w.ownsRow base 38 7 v ss.length (dcsV ss fs)) (hin : ∀ (k : Nat) (hk : k < ss.length) (hk' : k < fs.length), DcIn w S ss[k] fs[k]) : DcsIn w (fun b => S b ∨ v.ownBlock = some b) ss v := by
  have hcell : ∀ (g : Nat), v.ownBlock = some g → ∀ (j : Nat) (u : Value), (dcsV ss fs)[j]? = some u → w.cell? ⟨g, 0 + j, none⟩ = some u := fun g hg j u hu => by
    have := hown.cells hg j u hu
    rw [add_pl] at this
    exact this
  rcases hown.2 with ⟨rfl, h2⟩ | ⟨g, cap, cur, rfl, hbg, hg, hc1, hc2, _⟩
  · have he : ss = [] := List.eq_nil_of_length_eq_zero h2
    subst he
    exact ⟨none, 0, (fun _ => undef), (fun _ => undef), rfl, Nat.le_refl _, by omega, (fun k hk => absurd hk (by simp)), (fun k hk => absurd hk (by simp)), (fun k hk => absurd hk (by simp))⟩
  · have hgd : ∀ (k : Nat) (hk' : k < fs.length), (fs[k]?.getD ⟨undef, undef⟩) = fs[k] := fun k hk' => by rw [List.getElem?_eq_getElem hk']; rfl
    refine ⟨_, cap, (fun k => (fs[k]?.getD ⟨undef, undef⟩).p), (fun k => (fs[k]?.getD ⟨undef, undef⟩).b), rfl, hc1, by unfold maxLen at hc2; omega, (fun k hk => ?_), (fun k hk => ?_), (fun k hk => ?_)⟩
    · have hk' : k < fs.length := by omega
      obtain ⟨a1, a2, _⟩ := hin k hk hk'
      refine ⟨g, 0, rfl, .inr rfl, a1, a2, ?_, ?_, ?_, ?_, ?_, ?_, ?_⟩
      · exact hcell g rfl (k * 7) _ (by have := dcsV_get hl k hk 0 (by omega); rw [Nat.add_zero] at this; rw [this]; rfl)
      · exact hcell g rfl (k * 7 + 1) _ (by rw [dcsV_get hl k hk 1 (by omega)]; rfl)
      · exact hcell g rfl (k * 7 + 2) _ (by rw [dcsV_get hl k hk 2 (by omega)]; rfl)
      · exact hcell g rfl (k * 7 + 3) _ (by rw [dcsV_get hl k hk 3 (by omega)]; rfl)
      · exact hcell g rfl (k * 7 + 4) _ (by rw [dcsV_get hl k hk 4 (by omega)]; rfl)
      · dsimp only; rw [hgd k hk']; exact hcell g rfl (k * 7 + 5) _ (by rw [dcsV_get hl k hk 5 (by omega)]; rfl)
      · dsimp only; rw [hgd k hk']; exact hcell g rfl (k * 7 + 6) _ (by rw [dcsV_get hl k hk 6 (by omega)]; rfl)
    · have hk' : k < fs.length := by omega
      show PrsIn w _ ss[k].pairs (fs[k]?.getD ⟨undef, undef⟩).p
      rw [hgd k hk']
      exact (hin k hk hk').2.2.1.keep (fun _ _ => rfl) (fun b hb => .inl hb)
    · have hk' : k < fs.length := by omega
      show IsSms w _ ss[k].body (fs[k]?.getD ⟨undef, undef⟩).b
      rw [hgd k hk']
      exact (hin k hk hk').2.2.2.keep (fun _ _ => rfl) (fun b hb => .inl hb)
theorem dcsV_app2 : ∀ {ss ts : List Dc} {fs gs : List Vd}, ss.length = fs.length → dcsV (ss ++ ts) (fs ++ gs) = dcsV ss fs ++ dcsV ts gs
  | [], ts, [], gs, _ => rfl
  | d :: ss, ts, f :: fs, gs, h => by
    show dcCells d f ++ dcsV (ss ++ ts) (fs ++ gs) = (dcCells d f ++ dcsV ss fs) ++ dcsV ts gs
    rw [dcsV_app2 (by simpa using h), List.append_assoc]
theorem dcsV_one {w : World} {S : Nat → Prop} : ∀ {ss : List Dc} {fs : List Vd}, (∀ (k : Nat) (hk : k < ss.length) (hk' : k < fs.length), DcIn w S ss[k] fs[k]) → ∀ u ∈ dcsV ss fs, u.oneCell' = true
  | [], _, _, u, hu => by simp [dcsV] at hu
  | s :: ss, [], _, u, hu => by simp [dcsV] at hu
  | s :: ss, f :: fs, h, u, hu => by
    have h0 : DcIn w S s f := h 0 (by simp) (by simp)
    rcases List.mem_append.1 (show u ∈ dcCells s f ++ dcsV ss fs from hu) with hu | hu
    · exact dcCells_one s f h0.2.2.1.one h0.2.2.2.one u hu
    · exact dcsV_one (ss := ss) (fs := fs) (fun k hk hk' => h (k + 1) (by simpa using hk) (by simpa using hk')) u hu
/-- append of a whole list of declarations -/
theorem wpList_append_dcs {ops : Array Oper} {rest : List Oper} {o : Oper} {a : Act} {W : World} {Q : Exit → Act → World → Prop} (hgd : o.guard = none) (s x : Operand)
    (ho : o.op = .call { callee := .builtin .append, args := #[s, x], argTypes := #[23, 23] })
    {w2 w3 : World} {base base2 : Nat} {v u : Value} {ss ts : List Dc} (hs : a.eval s = v) (hx : a.eval x = u) (h1 : OwnDc w2 base v ss) (h2 : OwnDc w3 base2 u ts)
    (hk1 : ∀ b, b < w2.heap.size → W.heap[b]? = w2.heap[b]?) (hk2 : ∀ b, b < w3.heap.size → W.heap[b]? = w3.heap[b]?) (h12 : w2.heap.size ≤ base2) (hW : w3.heap.size ≤ W.heap.size) (hw2 : w2.heap.size ≤ W.heap.size) (hb : base ≤ W.heap.size)
    (n1 : ss.length ≤ 10000) (n2 : ts.length ≤ 10000)
    (h : ∀ v' w', DcsIn w' (fun b => (base ≤ b ∧ b < w2.heap.size) ∨ (base2 ≤ b ∧ b < w3.heap.size) ∨ (b = W.heap.size ∧ b < w'.heap.size)) (ss ++ ts) v' → W.grownBy w' v.ownBlock → wpList Tryd.prog ops Q rest (a.put o.dst v') w') : wpList Tryd.prog ops Q (o :: rest) a W := by
  obtain ⟨i0, hi, hz0, hz1, hz2⟩ := info_parts info_dc
  have hlt1 := fun b hb => OwnDc.lt h1 (b := b) hb
  obtain ⟨fs, hl, hrow, hin⟩ := h1
  have hrow' := ownsRow_keep hrow (w' := W) (fun b hb _ => hk1 b hb)
  have hin' : ∀ (k : Nat) (hk : k < ss.length) (hk' : k < fs.length), DcIn W (fun b => (base ≤ b ∧ b < w2.heap.size) ∧ v.ownBlock ≠ some b) ss[k] fs[k] := fun k hk hk' => (hin k hk hk').keep (fun b hb => hk1 b hb.2.1) (fun b hb => ⟨⟨hb.1, hb.2.1⟩, hb.2.2⟩)
  obtain ⟨gs, hl2, hrow2, hin2⟩ := h2
  have hrow2' := ownsRow_keep hrow2 (w' := W) (fun b hb _ => hk2 b hb)
  have hfin : ∀ v' w', w'.ownsRow base 38 7 v' (ss.length + ts.length) (dcsV ss fs ++ dcsV ts gs) → W.grownBy w' v.ownBlock → (v'.ownBlock = v.ownBlock ∨ v'.ownBlock = some W.heap.size) → wpList Tryd.prog ops Q rest (a.put o.dst v') w' := fun v' w' g1 g2 g3 => by
    refine h v' w' ?_ g2
    have hl3 : (ss ++ ts).length = (fs ++ gs).length := by simp [hl, hl2]
    rw [← dcsV_app2 hl, ← List.length_append] at g1
    refine DcsIn.keep (dcs_of_row (S := fun b => (base ≤ b ∧ b < w2.heap.size) ∨ (base2 ≤ b ∧ b < w3.heap.size)) hl3 g1 fun k hk hk' => ?_) (fun _ _ => rfl) (fun b hb => ?_)
    · by_cases hke : k < ss.length
      · have hkf : k < fs.length := by omega
        rw [List.getElem_append_left hke, List.getElem_append_left hkf]
        exact (hin' k hke hkf).keep (fun b hb => g2.block b (by have := hb.1.2; omega) (fun e => hb.2 e.symm)) (fun b hb => .inl hb.1)
      · have hk2' : k - ss.length < ts.length := by rw [List.length_append] at hk; omega
        have := hin2 (k - ss.length) hk2' (by omega)
        rw [List.getElem_append_right (by omega), List.getElem_append_right (by omega)]
        simp only [← hl]
        exact this.keep (fun b hb => (g2.block b (by have := hb.2.1; omega) (fun e => by have := hlt1 b e.symm; have := hb.1; omega)).trans (hk2 b hb.2.1)) (fun b hb => .inr ⟨hb.1, hb.2.1⟩)
    · rcases hb with hb | hb
      · rcases hb with hb | hb
        · exact .inl hb
        · exact .inr (.inl hb)
      · have hb' := (g1.lt b hb).2
        rcases g3 with g3 | g3
        · rw [g3] at hb; exact .inl (hlt1 b hb)
        · rw [g3] at hb; exact .inr (.inr ⟨(Option.some.inj hb).symm, hb'⟩)
  rcases hrow2.2 with ⟨rfl, hm⟩ | ⟨g, cap, cur, rfl, -, -, -, -⟩
  · have h0 : ts = [] := List.eq_nil_of_length_eq_zero hm
    subst h0
    have hr : (Builtin.append_ #[23, 23] o.type #[v, .slice none 0 0]).run Tryd.prog W = .ok v W := by
      rcases hrow.2 with ⟨rfl, -⟩ | ⟨g, cap, cur, rfl, -, -, hc, -⟩
      · simp [Builtin.append_, run_underlying Tryd.underlying23, sizeOf, typeInfo, hi, Builtin.lenOf, Builtin.firstCells, loadCells, loadCellsFrom, storeCells]
      · simp [Builtin.append_, run_underlying Tryd.underlying23, sizeOf, typeInfo, hi, Builtin.lenOf, Builtin.firstCells, loadCells, loadCellsFrom, storeCells, hc]
    refine wpList_plain hgd fun K hK => ?_
    unfold Oper.wp execOp
    simp only [ho, resolve, invoke, builtin, Sem.run_bind, Sem.run_pure, Result.andThen_ok, List.map_toArray, List.map_cons, List.map_nil, hs, hx, hr]
    refine hK _ _ (hfin _ W ?_ ⟨rfl, rfl, rfl, Nat.le_refl _, fun _ _ _ => rfl⟩ (.inl rfl))
    have e : dcsV [] gs = [] := by cases gs <;> rfl
    rw [e, List.append_nil]
    exact hrow'
  · exact wpList_append_own_at W hgd s x 23 ho base 38 i0 _ 7 104 Tryd.underlying23 hi hz0 hz1 hz2 rfl (by decide) v ss.length (dcsV ss fs) hs hrow' ⟨g, 0, none⟩ ts.length cap (dcsV ts gs) hx hrow2.1 (hrow2'.cells (g := g) rfl) (dcsV_one hin2) (by unfold maxLen; omega) (by omega) hb fun v' w' g1 g2 _ g4 => hfin v' w' g1 g2 g4

theorem until_len (L : Nat) : ∀ (m k : Nat) (us : List Tok) (ds : List Dc) (r : List Tok), untilM [] 0 (declM L) m k us = .ok ds r → ds.length ≤ us.length
  | 0, k, us, ds, r, h => by cases h
  | m + 1, k, us, ds, r, h => by
    by_cases hc : k < 0 ∨ tx us ≠ []
    · rw [untilM_go hc] at h
      obtain ⟨d, r1, h1, h2⟩ := Rd.bind_ok h
      obtain ⟨ds2, h3, rfl⟩ := Rd.map_ok h2
      have h4 := declM_lt k us d r1 h1
      have h5 := until_len L m (k + 1) r1 ds2 r h3
      simp only [List.length_cons]
      omega
    · rw [untilM.eq_def] at h
      dsimp only at h
      rw [if_neg hc] at h
      cases us with
      | nil => cases h; simp
      | cons t r2 => cases h; simp
theorem prog_len {s : List UInt8} {ds : List Dc} {p : Nat} (h : progM s = (ds, p, 0)) : ds.length ≤ 4096 := by
  obtain ⟨us, h1, h2, -⟩ := prog_ok h rfl
  exact Nat.le_trans (until_len _ _ _ _ _ _ h2) (toks_count h1)
theorem programO (s : ByteArray) (hs : s.size ≤ 40000) {ds : List Dc} {p c : Nat} (h : progM s.data.toList = (ds, p, c)) (w : World) : Calls Tryd.prog 7 #[.string s] w fun e w' => ∃ A k, e = .returned (.tuple #[.agg #[.slice A ds.length k], .int .i64 (p : Nat), .int .i64 (c : Nat)]) ∧ OwnDc w' w.heap.size (.slice A ds.length k) ds ∧ Below w.heap.size w w' := by
  refine (program_any s hs w).mono ?_
  rintro e w' ⟨v, rfl, ⟨A, n, k, rfl, ho⟩, hb⟩
  simp only [h] at ho ⊢
  obtain ⟨A', k', hv⟩ := OwnDc.slice ho
  cases hv
  exact ⟨A, k, rfl, ho, hb⟩
theorem nl_str (a b : ByteArray) : (a ++ ⟨#[10]⟩ ++ b).data.toList = a.data.toList ++ 10 :: b.data.toList := by simp
theorem nl_size {a b C : ByteArray} (hC : C = a ++ ⟨#[10]⟩ ++ b) : C.size = a.size + 1 + b.size := by
  rw [Lib.size_eq, hC, nl_str, Lib.size_eq, Lib.size_eq]
  simp; omega


set_option maxRecDepth 100000 in
set_option maxHeartbeats 4000000 in
theorem parseBehind_all (w : World) (a b C : ByteArray) (hC : Hid (C = a ++ ⟨#[10]⟩ ++ b)) (ha : a.size ≤ 7000) (hb : b.size ≤ 7000) {x y z : List Dc} {p q r c d f : Nat} (h1 : progM a.data.toList = (x, p, c)) (h2 : progM b.data.toList = (y, q, d)) (h3 : progM C.data.toList = (z, r, f)) (hcase : c ≠ 0 ∨ (c = 0 ∧ d ≠ 0) ∨ (c = 0 ∧ d = 0 ∧ f = 22 ∧ 64 < x.length + y.length ∧ x.length ≤ 4096 ∧ y.length ≤ 4096) ∨ (c = 0 ∧ d = 0 ∧ f = 12) ∨ (c = 0 ∧ d = 0 ∧ f = 0 ∧ x.length ≤ 4096 ∧ y.length ≤ 4096 ∧ likeDs false (x ++ y) z)) : Calls Tryd.prog 5 #[.string a, .string b] w fun e w' => e = .returned (.bool true) ∧ Below w.heap.size w w' := by
  have hCe := hC.out.symm
  have hcs : C.size ≤ 40000 := by have := nl_size hC.out; omega
  have hq1 : ¬ 9223372036854775807 < a.size + 1 := by omega
  have hq2 : ¬ 9223372036854775807 < a.size + 1 + b.size := by omega
  have d1 : (decide ((7000 : Int) < (a.size : Nat))) = false := decide_eq_false (by omega)
  have d2 : (decide ((7000 : Int) < (b.size : Nat))) = false := decide_eq_false (by omega)
  have HCASE := Lib.hid hcase
  clear hcase
  have HC1 := Lib.hid (programO a (by omega) h1)
  have HC2 := Lib.hid (programO b (by omega) h2)
  have HC3 := Lib.hid (programO C hcs h3)
  clear h1 h2 h3 hC hcs ha hb
  go_enter Tryd.func5, Tryd.ntmps5
  go_wp2_with fail
  refine (alive4_any w).mono ?_
  rintro e w1 ⟨rfl, hb1⟩
  have HB1 := Lib.hid hb1
  clear hb1
  go_wp2_with fail
  refine (HC1.out _).mono ?_
  rintro e w2 ⟨A1, k1, rfl, ho1, hb2⟩
  have HB2 := Lib.hid (HB1.out.trans (hb2.mono HB1.out.size))
  have HO1 := Lib.hid ho1
  have HS1 := Lib.hid hb2.size
  clear hb2 ho1
  go_wp2_with fail
  obtain ⟨gx, hgx⟩ : ∃ g, g = w2.heap.size := ⟨_, rfl⟩
  obtain ⟨X1, hX1⟩ : ∃ X, X = w2.alloc (.cells #[.slice A1 x.length k1] 25) := ⟨_, rfl⟩
  have rx1 : X1.heap[gx]? = some (.cells #[.slice A1 x.length k1] 25 (0, 0)) := by rw [hX1, hgx]; exact heap_alloc_new _ _
  have hbX1 : Below w2.heap.size w2 X1 := by rw [hX1]; exact below_new _ _
  have hsX1 : X1.heap.size = gx + 1 := by rw [hX1, hgx]; simp
  rw [← hX1, ← hgx]
  clear hX1
  refine (HC2.out _).mono ?_
  rintro e w3 ⟨A2, k2, rfl, ho2, hb3⟩
  have hb23 := hbX1.trans (hb3.mono hbX1.size)
  have HB3 := Lib.hid (HB2.out.trans (hb23.mono HB2.out.size))
  have rx3 := Lib.hid ((hb3.block gx (lt_of_heap rx1)).trans rx1)
  have HO2 := Lib.hid ho2
  have HB23 := Lib.hid hb23
  have HSX1 := Lib.hid hsX1
  have HS3 := Lib.hid hb3.size
  have HGX := Lib.hid hgx
  clear hb3 ho2 hb23 hsX1 rx1 hbX1 hgx
  go_wp2_with fail
  obtain ⟨gy, hgy⟩ : ∃ g, g = w3.heap.size := ⟨_, rfl⟩
  obtain ⟨X2, hX2⟩ : ∃ X, X = w3.alloc (.cells #[.slice A2 y.length k2] 25) := ⟨_, rfl⟩
  have ry2 : X2.heap[gy]? = some (.cells #[.slice A2 y.length k2] 25 (0, 0)) := by rw [hX2, hgy]; exact heap_alloc_new _ _
  have hbX2 : Below w3.heap.size w3 X2 := by rw [hX2]; exact below_new _ _
  have hsX2 : X2.heap.size = gy + 1 := by rw [hX2, hgy]; simp
  rw [← hX2, ← hgy]
  clear hX2
  refine (HC3.out _).mono ?_
  rintro e w4 ⟨A3, k3, rfl, ho3, hb4⟩
  have hb34 := hbX2.trans (hb4.mono hbX2.size)
  have HB4 := Lib.hid (HB3.out.trans (hb34.mono HB3.out.size))
  have rx4 := (hb34.block gx (lt_of_heap rx3.out)).trans rx3.out
  have ry4 := (hb4.block gy (lt_of_heap ry2)).trans ry2
  have HO3 := Lib.hid ho3
  have HB34 := Lib.hid hb34
  have HSX2 := Lib.hid hsX2
  have HS4 := Lib.hid hb4.size
  have HGY := Lib.hid hgy
  have tx := lt_of_heap rx4
  have ty := lt_of_heap ry4
  have qx := cell_of_row w4 gx 0 _ _ (0, 0) rx4
  have qy := cell_of_row w4 gy 0 _ _ (0, 0) ry4
  simp at qx qy
  have HEND := Lib.hid (HB4.out.alloc HB4.out.size (.cells #[.slice A3 z.length k3] 25))
  clear hb4 ho3 hb34 hsX2 ry2 hbX2 hgy HC1 HC2 HC3
  rcases HCASE.out with hc | ⟨rfl, hd⟩ | ⟨rfl, rfl, rfl, hn, hx, hy⟩ | ⟨rfl, rfl, rfl⟩ | ⟨rfl, rfl, rfl, hx, hy, hxyz⟩
  · have hc0 : (((c : Nat) : Int) != 0) = true := by simp; omega
    go_wp2
    go_ret
    exact ⟨rfl, HEND.out⟩
  · have hd0 : (((d : Nat) : Int) != 0) = true := by simp; omega
    go_wp2
    go_ret
    exact ⟨rfl, HEND.out⟩
  · have hwr : IntKind.i64.wrap (((x.length : Nat) : Int) + ((y.length : Nat) : Int)) = ((x.length : Nat) : Int) + ((y.length : Nat) : Int) := IntWalk.i64_in _ ⟨by omega, by omega⟩
    have hgt : (decide ((64 : Int) < ((x.length : Nat) : Int) + ((y.length : Nat) : Int))) = true := decide_eq_true (by omega)
    go_wp2
    go_ret
    exact ⟨rfl, HEND.out⟩
  · go_wp2
    go_ret
    exact ⟨rfl, HEND.out⟩
  have HXYZ := Lib.hid hxyz
  have HX := Lib.hid hx
  have HY := Lib.hid hy
  clear hxyz hx hy HCASE
  have hY : Below w4.heap.size w4 ((w4.alloc (.cells #[.slice A3 z.length k3] 25)).alloc (.cells #[.slice A1 x.length k1] 25)) := (below_new _ _).alloc (by simp) _
  obtain ⟨Y, hYe⟩ : ∃ Y, Y = (w4.alloc (.cells #[.slice A3 z.length k3] 25)).alloc (.cells #[.slice A1 x.length k1] 25) := ⟨_, rfl⟩
  have hYs : Y.heap.size = w4.heap.size + 1 + 1 := by rw [hYe]; simp
  have hYz : Y.heap[w4.heap.size]? = some (.cells #[.slice A3 z.length k3] 25 (0, 0)) := by rw [hYe]; exact ((below_new _ _).block _ (by simp)).trans (heap_alloc_new _ _)
  have hYa : Y.heap[w4.heap.size + 1]? = some (.cells #[.slice A1 x.length k1] 25 (0, 0)) := by
    rw [hYe]
    have h := heap_alloc_new (w4.alloc (.cells #[.slice A3 z.length k3] 25)) (.cells #[.slice A1 x.length k1] 25)
    rw [show (w4.alloc (.cells #[.slice A3 z.length k3] 25)).heap.size = w4.heap.size + 1 from by simp] at h
    exact h
  rw [← hYe] at hY
  have s12 := HB23.out.size
  have s34 := HB34.out.size
  have s1 := HS1.out
  have s3 := HS3.out
  have s4 := HS4.out
  have sx1 := HSX1.out
  have sx2 := HSX2.out
  have sgx := HGX.out
  have sgy := HGY.out
  have HK2 := Lib.hid (show ∀ b, b < w3.heap.size → Y.heap[b]? = w3.heap[b]? from fun b hb => (hY.block b (by omega)).trans (HB34.out.block b hb))
  have HK1 := Lib.hid (show ∀ b, b < w2.heap.size → Y.heap[b]? = w2.heap[b]? from fun b hb => (HK2.out b (by omega)).trans (HB23.out.block b hb))
  have HROW := Lib.hid (show ∀ b, (Value.slice A1 x.length k1).ownBlock = some b → w1.heap.size ≤ b ∧ b < w2.heap.size from fun b hb => OwnDc.lt HO1.out hb)
  have HL : Hid (w2.heap.size ≤ X1.heap.size ∧ w3.heap.size ≤ Y.heap.size ∧ w2.heap.size ≤ Y.heap.size ∧ w1.heap.size ≤ Y.heap.size ∧ x.length ≤ 10000 ∧ y.length ≤ 10000) := Lib.hid ⟨by omega, by omega, by omega, by omega, by have := HX.out; omega, by have := HY.out; omega⟩
  have HW : Hid (w.heap.size ≤ w1.heap.size) := Lib.hid HB1.out.size
  have HYB : Hid (Below w.heap.size w Y) := Lib.hid (HB4.out.trans (hY.mono HB4.out.size))
  have HYZ := Lib.hid hYz
  have HYA := Lib.hid hYa
  have HYS := Lib.hid hYs
  have HY4 := Lib.hid hY
  have HX2 := Lib.hid (show w2.heap.size ≤ X2.heap.size ∧ w3.heap.size ≤ X2.heap.size from ⟨by omega, by omega⟩)
  clear s12 s34 s1 s3 s4 sx1 sx2 sgx sgy hYz hYa hYs hY
  subst hYe
  go_wp2_with (at_builtin; refine wpList_append_dcs rfl _ _ rfl rfl rfl HO1.out HO2.out HK1.out HK2.out HL.out.1 HL.out.2.1 HL.out.2.2.1 HL.out.2.2.2.1 HL.out.2.2.2.2.1 HL.out.2.2.2.2.2 ?_; intro v5 w5 hd5 hgr5; (have hd5' := hd5); (obtain ⟨A5, c5, _, _, rfl, -⟩ := hd5'); have ra5 := (hgr5.block (w4.heap.size + 1) (by simp) (fun e => by have h8 := HROW.out _ e.symm; have h9 := HX2.out; have h7 := HS4.out; omega)).trans HYA.out; have rz5 := (hgr5.block w4.heap.size (by simp; omega) (fun e => by have h8 := HROW.out _ e.symm; have h9 := HX2.out; have h7 := HS4.out; omega)).trans HYZ.out; have qa := cell_of_row w5 (w4.heap.size + 1) 0 _ _ (0, 0) ra5; have fa := frozen_of_row w5 (w4.heap.size + 1) 0 _ _ ra5; have qz := cell_of_row w5 w4.heap.size 0 _ _ (0, 0) rz5; simp at qa qz; have HD5 := Lib.hid hd5; have HG5 := Lib.hid hgr5; have TA := lt_of_heap ra5; clear hd5 hgr5 ra5 rz5 qx qy rx4 ry4)
  obtain ⟨W6, hW6⟩ : ∃ W6, W6 = w5.setCell ⟨w4.heap.size + 1, 0, none⟩ (.slice A5 (x.length + y.length) c5) := ⟨_, rfl⟩
  have hk6 : ∀ b, b ≠ w4.heap.size + 1 → W6.heap[b]? = w5.heap[b]? := fun b hb => by rw [hW6]; exact Below.heap_setCell _ _ _ _ (fun e => hb e)
  rw [← hW6]
  have hs6 : W6.heap.size = w5.heap.size := by rw [hW6]; simp
  have hg5 := HG5.out
  have sz5 := hg5.size
  have hys := HYS.out
  have h8 := HX2.out
  have h7 := HS4.out
  have h9 := HL.out.1
  have e1 : DcsIn W6 (· < W6.heap.size) (x ++ y) (.slice A5 (x ++ y).length c5) := DcsIn.keep HD5.out (fun b hb => hk6 b (by omega)) (fun b hb => by show b < _; omega)
  have e2 : DcsIn W6 (· < W6.heap.size) z (.slice A3 z.length k3) := DcsIn.keep (OwnDc.dcs HO3.out) (fun b hb => (hk6 b (by omega)).trans ((hg5.block b (by omega) (fun e => by have := HROW.out b e.symm; omega)).trans (HY4.out.block b hb.2))) (fun b hb => by show b < _; omega)
  have hB6 : Below w.heap.size w W6 := by
    refine HYB.out.trans ⟨?_, ?_, ?_, by omega, fun b hb => (hk6 b (by have := HB4.out.size; omega)).trans (hg5.block b (by have := HB4.out.size; omega) (fun e => by have := HROW.out b e.symm; have := HW.out; omega))⟩
    all_goals (rw [hW6]; first | exact hg5.os | exact hg5.tape | exact hg5.output)
  have HSP : Hid (Calls Tryd.prog 10 #[.agg #[.slice A5 (x.length + y.length) c5], .agg #[.slice A3 z.length k3], .bool false, .int .i64 300] W6 fun e w' => e = .returned (.bool true) ∧ Below W6.heap.size W6 w') := Lib.hid (by
    have h := samepL_any e1 e2 false HXYZ.out 300 W6 (Below.refl _ _) (Nat.le_refl _) (by omega) (by omega)
    rw [List.length_append] at h
    exact h)
  have HEND6 := Lib.hid hB6
  clear e1 e2 hB6 hk6 hW6 hs6 hg5 sz5 hys h8 h7 h9 qa qz fa HEND
  refine HSP.out.mono ?_
  rintro e w7 ⟨rfl, hb7⟩
  go_wp2
  go_ret
  exact ⟨rfl, HEND6.out.trans (hb7.mono HEND6.out.size)⟩

theorem parseBehind_walk (w : World) (a b : ByteArray) : Calls Tryd.prog 5 #[.string a, .string b] w fun e w' => e = .returned (.bool true) ∧ Below w.heap.size w w' := by
  by_cases hl : 7000 < a.size ∨ 7000 < b.size
  · by_cases ha : 7000 < a.size
    · have h1 : (decide ((7000 : Int) < (a.size : Nat))) = true := decide_eq_true (by omega)
      go_enter Tryd.func5, Tryd.ntmps5
      go_wp2_with fail
      refine (alive4_any w).mono ?_
      rintro e w1 ⟨rfl, hb1⟩
      go_wp2
      go_ret
      exact ⟨rfl, hb1⟩
    · have h1 : (decide ((7000 : Int) < (a.size : Nat))) = false := decide_eq_false (by omega)
      have h2 : (decide ((7000 : Int) < (b.size : Nat))) = true := decide_eq_true (by omega)
      go_enter Tryd.func5, Tryd.ntmps5
      go_wp2_with fail
      refine (alive4_any w).mono ?_
      rintro e w1 ⟨rfl, hb1⟩
      go_wp2
      go_ret
      exact ⟨rfl, hb1⟩
  · obtain ⟨C, hC⟩ : ∃ C, C = a ++ ⟨#[10]⟩ ++ b := ⟨_, rfl⟩
    have hCt : C.data.toList = a.data.toList ++ 10 :: b.data.toList := by rw [hC, nl_str]
    have ha : a.size ≤ 7000 := by omega
    have hb : b.size ≤ 7000 := by omega
    have hsl : a.data.toList.length + b.data.toList.length ≤ 16383 := by rw [← Lib.size_eq, ← Lib.size_eq]; omega
    obtain ⟨x, p, c, h1⟩ : ∃ x p c, progM a.data.toList = (x, p, c) := ⟨_, _, _, rfl⟩
    obtain ⟨y, q, d, h2⟩ : ∃ x p c, progM b.data.toList = (x, p, c) := ⟨_, _, _, rfl⟩
    obtain ⟨z, r, f, h3⟩ : ∃ x p c, progM C.data.toList = (x, p, c) := ⟨_, _, _, rfl⟩
    by_cases hc : c = 0
    · by_cases hd : d = 0
      · subst hc
        subst hd
        have l1 := prog_len h1
        have l2 := prog_len h2
        rcases prog_both hsl h1 h2 with ⟨z', h4, h5⟩ | ⟨h4, p', h5⟩ | ⟨p', h4⟩
        · rw [← hCt, h3] at h4
          simp only [Prod.mk.injEq] at h4
          obtain ⟨rfl, rfl, rfl⟩ := h4
          exact parseBehind_all w a b C (Lib.hid hC) ha hb h1 h2 h3 (.inr (.inr (.inr (.inr ⟨rfl, rfl, rfl, l1, l2, h5⟩))))
        · rw [← hCt, h3] at h5
          simp only [Prod.mk.injEq] at h5
          obtain ⟨rfl, rfl, rfl⟩ := h5
          exact parseBehind_all w a b C (Lib.hid hC) ha hb h1 h2 h3 (.inr (.inr (.inl ⟨rfl, rfl, rfl, h4, l1, l2⟩)))
        · rw [← hCt, h3] at h4
          simp only [Prod.mk.injEq] at h4
          obtain ⟨rfl, rfl, rfl⟩ := h4
          exact parseBehind_all w a b C (Lib.hid hC) ha hb h1 h2 h3 (.inr (.inr (.inr (.inl ⟨rfl, rfl, rfl⟩))))
      · exact parseBehind_all w a b C (Lib.hid hC) ha hb h1 h2 h3 (.inr (.inl ⟨hc, hd⟩))
    · exact parseBehind_all w a b C (Lib.hid hC) ha hb h1 h2 h3 (.inl hc)

section
open Go Go.ChangeShapes Go.WideShapes Go.ChangeAt Go.ChangeMaps Go.RowKit

theorem shutTB {H : Type} {enc : TypeId × Value → H} {W : World} {base : Nat} {sp : Nat → Bool} {held : Bool} (b : Bool) : DataW.Trod enc Tryd.prog W base sp held 4 (.bool b) (.lit (.bool b)) [] :=
  ⟨1, by simp [DataW.trod, Value.cells, Tryd.underlying4]⟩
set_option maxRecDepth 100000 in
theorem parseBehind_lifted (os : Os) (started : os.Started) (H : Type) (enc : TypeId × Value → H) :
    ReturnsInHanded {} Tryd.checked os 5 .any (fun w args => (Rows.parseBehindSpec.pre enc Tryd.prog Tryd.f5 Rows.parseBehindRow.domain false w args ∧ laidMetH Tryd.prog laidL w) ∧ sizedMet enc Tryd.prog Tryd.f5 (OpenSpec.ofChange Rows.parseBehindSpec) false w args)
      (Rows.parseBehindSpec.post enc Tryd.prog Tryd.f5 false true false false) := by
  refine returnsInHanded_of_change_and (C := Tryd.checked) (X := fun w _ => laidMetH Tryd.prog laidL w) (fun _ _ _ hh h => h.of_heap hh) ownKnob_none started (by kernel_rfl) Tryd.func5
    (ChangeSpec.witness_shaped (enc := enc) (C := Tryd.checked) (os := os) (X := fun w _ => laidMetH Tryd.prog laidL w) false (World.doorLaid Tryd.prog 200 os) #[.string ⟨#[]⟩, .string ⟨#[]⟩] 8 rfl (World.shaped_of_RefB (by kernel_rfl) (by kernel_rfl)) (by kernel_rfl) (by kernel_rfl) (by kernel_rfl) (door_met os _)) ?_
  intro W base args ds gs before hval0 hW _ hwt hL _
  have hval : ∀ (j : Nat) t v, Tryd.f5.params[j]? = some t → args[j]? = some v → Value.okWide Tryd.prog W .any base t v := hval0
  have hW' := hW
  obtain ⟨p, q, hA0, hV, rfl, _, _⟩ := hW
  have hA : DataW.TrodAll enc Tryd.prog W 0 (fun _ => true) true Tryd.f5.params.toList args.toList ds p := hA0
  rw [Tryd.params5] at hA hval
  obtain ⟨v0, vs0, d0, ds0, p0, q0, hargs, rfl, rfl, h0, r0⟩ := trodAll_cons hA
  obtain ⟨v1, vs1, d1, ds1, p1, q1, rfl, rfl, rfl, h1, r1⟩ := trodAll_cons r0
  obtain ⟨rfl, rfl, rfl⟩ := trodAll_nil r1
  obtain rfl : args = #[v0, v1] := by cases args; simp_all
  obtain ⟨rfl, rfl⟩ := trodVars_none hV
  obtain ⟨x0, rfl, rfl, rfl, w0⟩ := open_string Tryd.underlying9 (hval 0 9 v0 rfl rfl) h0
  obtain ⟨x1, rfl, rfl, rfl, w1⟩ := open_string Tryd.underlying9 (hval 1 9 v1 rfl rfl) h1
  clear hA0 hval0
  simp only [List.append_nil] at hW'
  have hlt := fun x hx => hW'.lt x hx
  refine (parseBehind_walk W x0 x1).mono fun e W' ⟨he, hb⟩ => ?_
  subst he
  exact ⟨_, rfl, _, _, _, [], _, [], hW', trodAll_mk1 (shutTB _), (trodAll_cons_mk (shut_string Tryd.underlying9 w0) (trodAll_cons_mk (shut_string Tryd.underlying9 w1) trodAll_mk0)), rfl, hb.frame _, fun h => by cases h⟩

theorem parseBehind_holds : Rows.ParseBehindSaid :=
  OpenClaim.holds_of_wide 5 Tryd.f5 rfl rfl rfl rfl rfl rfl rfl ⟨rfl, rfl, rfl, rfl, rfl⟩ rfl rfl rfl rfl rfl (by kernel_rfl) Tryd.func5 (by kernel_rfl)
    (of_decide_eq_true (by kernel_rfl)) (by unfold Func.isWrapper; first | (rw [if_pos (by decide +kernel)]; kernel_rfl) | (rw [if_neg (by decide +kernel)]; exact ⟨rfl, rfl⟩))
    (fun os started H enc _ => parseBehind_lifted os started H enc)

theorem parseBehind_card_holds : Rows.ParseBehindCardSaid :=
  Claim7.holds_tied_plain_at .later [] [.data, .data, .data, .sentinel, .sentinel] true (true, "9e61747805e5a0e9f88a82d6fc0c4c75832224f27e25dc4f036e2a236c44f526") true
    parseBehind_holds (fun _ h => by cases h) (by kernel_rfl) (fun _ h => by cases h) parseBehind_row_tie rfl ⟨rfl, rfl⟩ (by kernel_rfl) rfl
    (fun f fn hf hfn => by
      obtain rfl : f = 5 := Option.some.inj ((show Tryd.prog.funcNamed "portcullis/portcullislaw04.ParseBehind" = some 5 by kernel_rfl).symm.trans hf) |>.symm
      obtain rfl : fn = Tryd.f5 := (Option.some.inj (Tryd.func5.symm.trans hfn)).symm
      exact ⟨by kernel_rfl, fun j t ht => by
        rw [Tryd.params5] at ht
        have hm : t ∈ [9, 9] := by simpa using Array.mem_of_getElem? ht
        have hall : ([9, 9].all fun u => !Tryd.prog.wantsStandIn u) = true := by kernel_rfl
        exact (show Tryd.prog.wantsStandIn t = false by simpa using List.all_eq_true.1 hall t hm)⟩)
    (by kernel_rfl)
end

end Go.Proofs.YtkmpnlbppdekaaaDoor
