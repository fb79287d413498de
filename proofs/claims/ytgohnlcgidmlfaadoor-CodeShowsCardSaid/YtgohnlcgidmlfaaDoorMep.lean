/- Package code: an operation's line. -/
import Derived.Test.YtgohnlcgidmlfaaDoorMeo
set_option linter.unusedVariables false
set_option linter.unusedSimpArgs false
namespace Go.Proofs.YtgohnlcgidmlfaaDoor
open Go.RowKit

/-- the parts of an operation's line -/
def opPts (j : Int) (nm : List UInt8) (O : Opx) : List Pt := [.n j, .s nm, .n O.a, .n O.b, .n O.c, .n O.d, .n O.e, .n O.f, .n O.k, .l O.args]
def wayPts (O : Opx) : List Pt := if O.kind = 23 then [] else if O.kind = 21 then [.s [45, 62], .n O.next, .n O.els] else [.s [45, 62], .n O.next]
theorem info_any : (Tryd.prog.info? 20).map (fun i => (i.zero, i.size, i.bytes)) = some (some .nilIface, 1, 16) := by kernel_rfl

def c10L (j : Int) (nm : List UInt8) (O : Opx) (z : Value) : List Value := [.iface 3 (.int .i64 j), .iface 9 (.string (bs nm)), .iface 3 (.int .i64 O.a), .iface 3 (.int .i64 O.b), .iface 3 (.int .i64 O.c), .iface 3 (.int .i64 O.d), .iface 3 (.int .i64 O.e), .iface 3 (.int .i64 O.f), .iface 3 (.int .i64 O.k), .iface 25 z]
def n2L (O : Opx) : List Value := [.iface 9 (.string ⟨#[45, 62]⟩), .iface 3 (.int .i64 O.next)]
def n3L (O : Opx) : List Value := [.iface 9 (.string ⟨#[45, 62]⟩), .iface 3 (.int .i64 O.next), .iface 3 (.int .i64 O.els)]
theorem news_new (w : World) (cs : List Value) (t : TypeId) : ∀ j u, cs[j]? = some u → (w.alloc (.cells cs.toArray t)).cell? ((⟨w.heap.size, 0, none⟩ : Addr).add j) = some u := by
  intro j u hj
  rw [add_none, Nat.zero_add, cell_of_row _ _ j _ _ (0, 0) (heap_alloc_new w _)]
  simpa using hj
theorem liesP_own {w : World} {base : Nat} {S : Nat → Prop} {v : Value} {ps : List Pt} {cells : List Value} (h : w.ownsRow base 20 1 v ps.length cells) (hl : cells.length = ps.length) (hm : ps.length ≤ 1000)
    (hq : ∀ (k : Nat) (hk : k < ps.length) (hk' : k < cells.length), PtQ w S ps[k] [cells[k]]) : Lies KP w (fun b => S b ∨ v.ownBlock = some b) ps v := by
  rcases h.2 with ⟨rfl, h2⟩ | ⟨g, cap, cur, rfl, hbg, hg, hc1, hc2, _⟩
  · have : ps = [] := List.eq_nil_of_length_eq_zero h2
    subst this
    exact Lies.nil _ _
  · refine ⟨_, cap, fun k => [cells[k]?.getD undef], rfl, hc1, by unfold maxLen at hc2; omega, by omega, fun k hk => ?_⟩
    have hk' : k < cells.length := by omega
    refine ⟨g, 0, rfl, .inr rfl, ?_, fun i hi => ?_⟩
    · dsimp only
      rw [List.getElem?_eq_getElem hk']
      exact KP.keep (hq k hk hk') (fun _ _ => rfl) (fun b hb => .inl hb)
    · obtain rfl : i = 0 := Nat.lt_one_iff.1 hi
      have := h.cells (g := g) rfl k cells[k] (List.getElem?_eq_getElem hk')
      rw [add_none] at this
      dsimp only
      rw [List.getElem?_eq_getElem hk']
      simpa [KP] using this
theorem ptQ_left {W : World} {S : Nat → Prop} {a b : List Pt} {c d : List Value} {k : Nat} (ha : k < a.length) (hc : k < c.length) (h : PtQ W S a[k] [c[k]]) (hk : k < (a ++ b).length) (hk' : k < (c ++ d).length) : PtQ W S (a ++ b)[k] [(c ++ d)[k]] := by
  rw [List.getElem_append_left ha, List.getElem_append_left hc]
  exact h
theorem Pg.keep {w w' : World} {B g : Nat} {ts : List UInt8} (h : Pg w B g ts) (hb : Below w.heap.size w w') : Pg w' B g ts := by
  obtain ⟨sv, h1, h2, h3, h4⟩ := h
  refine ⟨sv, (hb.block g (heap_lt h1)).trans h1, ⟨h2.1, ?_⟩, h3, Nat.le_trans h4 hb.size⟩
  rcases h2.2 with h5 | ⟨g', cap, cur, hv, hbg, hg, h6⟩
  · exact .inl h5
  · exact .inr ⟨g', cap, cur, hv, hbg, (hb.block g' (heap_lt hg)).trans hg, h6⟩
theorem Went.of {w w' : World} {B g : Nat} (hb : Below w.heap.size w w') (hB : B ≤ w.heap.size) : Went B g w w' :=
  ⟨hb.os, hb.tape, hb.output, hb.size, fun b hlt _ => hb.block b (by omega), fun k o hk _ _ => (hb.block k (heap_lt hk)).trans hk⟩
/-- a line of parts that lie in a row of the call's own, above the page -/
theorem line_own {w W : World} {B g base : Nat} {ts : List UInt8} {ps : List Pt} {cells : List Value} {S : Nat → Prop} {v : Value} (hp : Pg w B g ts) (hb : Below w.heap.size w W) (hbase : w.heap.size ≤ base)
    (hK : ∀ w', Went B g w w' → ∀ b, S b → w'.heap[b]? = w.heap[b]?) {n : Nat} (ho : W.ownsRow base 20 1 v n cells) (hn : n = ps.length) (hl : cells.length = ps.length) (hm : ps.length ≤ 1000)
    (hq : ∀ (k : Nat) (hk : k < ps.length) (hk' : k < cells.length), PtQ W S ps[k] [cells[k]]) (hw : ts.length + ptsW ps ≤ 900000000) (hne : ptsT ps ≠ [])
    (htab : Lib.TabBelow Tryd.prog g w "internal/strconv.uint64pow10" .u64 Lib.pow10Tab) :
    Calls Tryd.prog 39 #[.pointer (some ⟨g, 0, none⟩), v] W fun e w' => e = .returned (.tuple #[]) ∧ Pg w' B g (ts ++ lineT ps) ∧ Went B g w w' := by
  subst hn
  have hBw : B ≤ w.heap.size := by obtain ⟨_, _, _, _, h4⟩ := hp; exact h4
  have hgB : g < B := by obtain ⟨_, _, _, h3, _⟩ := hp; exact h3
  have hWt : Went B g w W := Went.of hb hBw
  refine (line_any (hp.keep hb) (liesP_own ho hl hm hq) (fun w' hw' b hS => ?_) hw hne (htab.on (hWt.bel hgB))).mono fun e w' ⟨h1, h2, h3⟩ => ⟨h1, h2, hWt.trans h3⟩
  rcases hS with hS | hS
  · rw [hK w' (hWt.trans hw') b hS, hK W hWt b hS]
  · rcases ho.2 with ⟨rfl, _⟩ | ⟨g', cap, cur, rfl, hbg, hg, _⟩
    · simp [Value.ownBlock] at hS
    · simp [Value.ownBlock] at hS
      subst hS
      rw [hg]
      exact hw'.others _ _ hg (fun e => by have := Option.some.inj e; omega) (fun c fz e => by injection e with _ e2 _; exact absurd e2 (by decide))

set_option maxHeartbeats 4000000 in
set_option maxRecDepth 100000 in
theorem op_any {w : World} {B g : Nat} {ts : List UInt8} {O : Opx} {S : Nat → Prop} {z : Value} {nm : List UInt8} {kd : Nat} (j : Int) (hj : In64 j) (hp : Pg w B g ts) (h : Lies KI w S O.args z) (ho : O.In) (hai : ∀ x ∈ O.args, In64 x)
    (hK : ∀ w', Went B g w w' → ∀ b, S b → w'.heap[b]? = w.heap[b]?) (hkd : O.kind = (kd : Int)) (hk1 : 1 ≤ kd) (hk2 : kd < 24) (hgs : 0 < g)
    (hn : w.cell? ⟨0, kd, none⟩ = some (.string (bs nm))) (hnl : nm.length ≤ 100) (hw : ts.length + ptsW (opPts j nm O ++ wayPts O) ≤ 900000000)
    (htab : Lib.TabBelow Tryd.prog g w "internal/strconv.uint64pow10" .u64 Lib.pow10Tab) :
    Calls Tryd.prog 40 #[.pointer (some ⟨g, 0, none⟩), .int .i64 j, .agg #[.int .i64 O.kind, .int .i64 O.a, .int .i64 O.b, .int .i64 O.c, .int .i64 O.d, .int .i64 O.e, .int .i64 O.f, .int .i64 O.k, z, .int .i64 O.next, .int .i64 O.els, .int .i64 O.pl]] w fun e w' => e = .returned (.tuple #[]) ∧ Pg w' B g (ts ++ lineT (opPts j nm O ++ wayPts O)) ∧ Went B g w w' := by
  obtain ⟨A10, c10, rfl, -, -⟩ := h.form
  obtain ⟨n10, hn10⟩ : ∃ n, n = O.args.length := ⟨_, rfl⟩
  rw [← hn10, hkd]
  obtain ⟨X, hX⟩ : ∃ X : World, X = w.alloc (.cells #[.int .i64 (kd : Int), .int .i64 O.a, .int .i64 O.b, .int .i64 O.c, .int .i64 O.d, .int .i64 O.e, .int .i64 O.f, .int .i64 O.k, .slice A10 n10 c10, .int .i64 O.next, .int .i64 O.els, .int .i64 O.pl] 42) := ⟨_, rfl⟩
  obtain ⟨P, hP⟩ : ∃ P, P = w.heap.size := ⟨_, rfl⟩
  have hx1 : OpBlk X P O (.slice A10 n10 c10) := by
    rw [hX, hP, ← hkd]
    exact OpBlk.new w O _
  have hxs : X.heap.size = P + 1 := by rw [hX, hP, asz]
  obtain ⟨q0, q1, q2, q3, q4, q5, q6, q7, q8, q9, q10, q11⟩ := hx1.all
  rw [hkd] at q0
  have hgP : g < P := by obtain ⟨sv, h1, _⟩ := hp; rw [hP]; exact heap_lt h1
  have hnx : X.cell? ⟨0, kd, none⟩ = some (.string (bs nm)) := by rw [← hn, hX]; exact World.cell?_of_block (Below.heap_alloc _ _ _ (by show 0 < w.heap.size; omega))
  have i1 : (0 : Int) ≤ (kd : Int) := by omega
  have i2 : (kd : Int) < 24 := by omega
  have HX := Lib.hid hX
  have HPE := Lib.hid hP
  have HX1 := Lib.hid hx1
  have HXS := Lib.hid hxs
  have HP := Lib.hid hp
  rw [← hn10] at h
  have HH := Lib.hid h
  have HK := Lib.hid hK
  have HO := Lib.hid ho
  have HN10 := Lib.hid hn10
  have HWW := Lib.hid hw
  have HT := Lib.hid htab
  clear hX hP hx1 hxs hp h hK ho hn10 hn hw htab
  go_enter Tryd.func40, Tryd.ntmps40
  go_wp2
  rw [← HX.out, ← HPE.out]
  go_cut [6] from 7 to 38 (fun v wx => v = .slice (some ⟨P + 1, 0, none⟩) 10 10 ∧ wx = (X.alloc (.cells #[.iface 3 (.int .i64 j), .iface 9 (.string (bs nm)), .iface 3 (.int .i64 O.a), .iface 3 (.int .i64 O.b), .iface 3 (.int .i64 O.c), .iface 3 (.int .i64 O.d), .iface 3 (.int .i64 O.e), .iface 3 (.int .i64 O.f), .iface 3 (.int .i64 O.k), .iface 25 (.slice A10 n10 c10)] 20)).drew)
  case first =>
    go_region_held3 (fun w' => w'.cell? ⟨P, 0, none⟩ = some (.int .i64 (kd : Int)) ∧ w'.cell? ⟨P, 1, none⟩ = some (.int .i64 O.a) ∧ w'.cell? ⟨P, 2, none⟩ = some (.int .i64 O.b) ∧ w'.cell? ⟨P, 3, none⟩ = some (.int .i64 O.c) ∧ w'.cell? ⟨P, 4, none⟩ = some (.int .i64 O.d) ∧ w'.cell? ⟨P, 5, none⟩ = some (.int .i64 O.e) ∧ w'.cell? ⟨P, 6, none⟩ = some (.int .i64 O.f) ∧ w'.cell? ⟨P, 7, none⟩ = some (.int .i64 O.k) ∧ w'.cell? ⟨P, 8, none⟩ = some (.slice A10 n10 c10) ∧ w'.cell? ⟨0, kd, none⟩ = some (.string (bs nm))) (first | exact ⟨q0, q1, q2, q3, q4, q5, q6, q7, q8, hnx⟩ | go_keep) (fail)
    all_goals
      go_wp2_with fail
      go_meet
      exact ⟨by rw [HXS.out], rfl⟩
  case rest =>
    obtain ⟨rfl, rfl⟩ := hcut
    have hXS := HXS.out
    obtain ⟨W1, hW1⟩ : ∃ W1 : World, W1 = (X.alloc (.cells #[.iface 3 (.int .i64 j), .iface 9 (.string (bs nm)), .iface 3 (.int .i64 O.a), .iface 3 (.int .i64 O.b), .iface 3 (.int .i64 O.c), .iface 3 (.int .i64 O.d), .iface 3 (.int .i64 O.e), .iface 3 (.int .i64 O.f), .iface 3 (.int .i64 O.k), .iface 25 (.slice A10 n10 c10)] 20)).drew := ⟨_, rfl⟩
    have hb1 : Below (P + 1) X W1 := by rw [hW1]; exact ((Below.refl _ X).alloc (by omega) _).drew
    have hws : W1.heap.size = P + 2 := by rw [hW1]; show (X.alloc _).heap.size = _; rw [asz, hXS]
    have hrow : W1.heap[P + 1]? = some (.cells #[.iface 3 (.int .i64 j), .iface 9 (.string (bs nm)), .iface 3 (.int .i64 O.a), .iface 3 (.int .i64 O.b), .iface 3 (.int .i64 O.c), .iface 3 (.int .i64 O.d), .iface 3 (.int .i64 O.e), .iface 3 (.int .i64 O.f), .iface 3 (.int .i64 O.k), .iface 25 (.slice A10 n10 c10)] 20 (0, 0)) := by rw [hW1]; show (X.alloc _).heap[P + 1]? = _; rw [← hXS]; exact heap_alloc_new X _
    have ho1 : W1.ownsRow (P + 1) 20 1 (.slice (some ⟨P + 1, 0, none⟩) 10 10) 10 (c10L j nm O (.slice A10 n10 c10)) := ⟨rfl, .inr ⟨P + 1, 10, _, rfl, Nat.le_refl _, hrow, Nat.le_refl _, by unfold maxLen; omega, rfl, rfl⟩⟩
    have hbw : Below w.heap.size w W1 := by
      have h1 := HX.out
      have h2 : Below w.heap.size w X := by rw [h1]; exact (Below.refl _ w).alloc (Nat.le_refl _) _
      exact h2.trans (hb1.mono (by have := HPE.out; omega))
    obtain ⟨r0, -, -, -, -, -, -, -, -, r9, r10, -⟩ := (HX1.out.below hb1 (by omega)).all
    rw [hkd] at r0
    obtain ⟨i0, hi0, hz0, hz1, hz2⟩ := info_parts info_any
    have HI := Lib.hid (And.intro hi0 (And.intro hz0 (And.intro hz1 hz2)))
    have HO1 := Lib.hid ho1
    have HW1S := Lib.hid hws
    have HBW := Lib.hid hbw
    rw [← hW1]
    have hq10 : ∀ (W : World), Below w.heap.size w W → ∀ (k : Nat) (hk : k < 10), PtQ W S ((opPts j nm O)[k]'(by simp [opPts]; exact hk)) [(c10L j nm O (.slice A10 n10 c10))[k]'hk] := fun W hbW k hk => by
      have hu : Lies KI W S O.args (.slice A10 n10 c10) := HH.out.keep (fun b hb => HK.out W (Went.of hbW (by obtain ⟨_, _, _, _, h4⟩ := HP.out; exact h4)) b hb) (fun _ h => h)
      have hc : k = 0 ∨ k = 1 ∨ k = 2 ∨ k = 3 ∨ k = 4 ∨ k = 5 ∨ k = 6 ∨ k = 7 ∨ k = 8 ∨ k = 9 := by omega
      rcases hc with rfl | rfl | rfl | rfl | rfl | rfl | rfl | rfl | rfl | rfl
      · exact ⟨rfl, hj⟩
      · exact ⟨rfl, by omega⟩
      · exact ⟨rfl, HO.out.a⟩
      · exact ⟨rfl, HO.out.b⟩
      · exact ⟨rfl, HO.out.c⟩
      · exact ⟨rfl, HO.out.d⟩
      · exact ⟨rfl, HO.out.e⟩
      · exact ⟨rfl, HO.out.f⟩
      · exact ⟨rfl, HO.out.k⟩
      · exact ⟨_, rfl, hu, hai⟩
    have HQ := Lib.hid hq10
    clear hW1 hb1 hws hrow ho1 hbw hi0 hz0 hz1 hz2 hq10 hXS q0 q1 q2 q3 q4 q5 q6 q7 q8 q9 q10 q11 hnx HX HX1
    by_cases h23 : kd = 23
    · subst h23
      have hwp : wayPts O = [] := by unfold wayPts; rw [hkd]; rfl
      have hcall := line_own (S := S) (ps := opPts j nm O) HP.out HBW.out (by have := HPE.out; omega) HK.out HO1.out (by simp [opPts]) (by simp [c10L, opPts]) (by simp [opPts]) (fun k hk hk' => HQ.out W1 HBW.out k (by simpa [opPts] using hk)) (by have := HWW.out; rw [hwp, List.append_nil] at this; exact this) (by simp [opPts, ptsT, ptT]) HT.out
      have HC := Lib.hid hcall
      have HWP := Lib.hid hwp
      clear hcall hwp
      go_wp2_with fail
      with_reducible refine HC.out.mono ?_
      rintro e w2 ⟨rfl, h2, h3⟩
      have H2 := Lib.hid h2
      have H3 := Lib.hid h3
      clear h2 h3 HC
      go_wp2
      go_end0
      exact ⟨rfl, by rw [HWP.out, List.append_nil]; exact H2.out, H3.out⟩
    · have g23 : ((kd : Int) != 23) = true := by simp; omega
      have hn23 : ¬ (kd : Int) = 23 := by omega
      by_cases h21 : kd = 21
      · subst h21
        have hwp : wayPts O = [.s [45, 62], .n O.next, .n O.els] := by unfold wayPts; rw [hkd]; rfl
        have HWP := Lib.hid hwp
        have HCL : Hid (∀ (W : World) (v : Value), Below w.heap.size w W → W.ownsRow (P + 1) 20 1 v 13 (c10L j nm O (.slice A10 n10 c10) ++ n3L O) → Calls Tryd.prog 39 #[.pointer (some ⟨g, 0, none⟩), v] W fun e w' => e = .returned (.tuple #[]) ∧ Pg w' B g (ts ++ lineT (opPts j nm O ++ [.s [45, 62], .n O.next, .n O.els])) ∧ Went B g w w') := Lib.hid (fun W v hbW hown => line_own (S := S) (ps := opPts j nm O ++ [.s [45, 62], .n O.next, .n O.els]) HP.out hbW (by have := HPE.out; omega) HK.out hown (by simp [opPts]) (by simp [c10L, n2L, n3L, opPts]) (by simp [opPts]) (fun k hk hk' => by
            by_cases h10 : k < 10
            · exact ptQ_left (by simp [opPts]; exact h10) (by simp [c10L]; exact h10) (HQ.out W hbW k h10) hk hk'
            · have hc : k = 10 ∨ k = 11 ∨ k = 12 := by simp [opPts] at hk; omega
              rcases hc with rfl | rfl | rfl
              · exact ⟨rfl, by simp⟩
              · exact ⟨rfl, HO.out.next⟩
              · exact ⟨rfl, HO.out.els⟩) (by have := HWW.out; rw [HWP.out] at this; exact this) (by simp [opPts, ptsT, ptT]) HT.out)
        clear hwp HQ
        go_wp2_with (first
          | (at_builtin; go_loud (refine wpList_append_own_at (W1.alloc (.cells #[.iface 9 (.string ⟨#[45, 62]⟩), .iface 3 (.int .i64 O.next), .iface 3 (.int .i64 O.els)] 20)) rfl _ _ _ rfl (P + 1) 20 i0 .nilIface 1 16 Tryd.underlying77 HI.out.1 HI.out.2.1 HI.out.2.2.1 HI.out.2.2.2 rfl (by decide) (.slice (some ⟨P + 1, 0, none⟩) 10 10) 10 (c10L j nm O (.slice A10 n10 c10)) rfl (HO1.out.alloc _) ⟨W1.heap.size, 0, none⟩ 3 3 (n3L O) rfl rfl (news_new W1 (n3L O) _) (by simp [n3L, Value.oneCell']) (by unfold maxLen; omega) (by omega) (by have := HW1S.out; rw [asz]; omega) ?_; go_loud (intro v3 w3 ho3 hg3 _ hat3; obtain ⟨A3, n3, c3, rfl⟩ := own_slice ho3; have HO3 := Lib.hid ho3; have hbl3 : Below w.heap.size w w3 := ((HBW.out.alloc (by have := HW1S.out; have := HPE.out; omega) _).grown hg3 (by have := HW1S.out; have := HPE.out; rw [asz]; omega) (fun k hk => by have : P + 1 = k := (by simpa [Value.ownBlock] using hk); have := HPE.out; omega)); have HBL3 := Lib.hid hbl3; clear ho3 hg3 hbl3 hat3))))
        have HCC := Lib.hid (HCL.out w3 _ HBL3.out HO3.out)
        clear HCL
        go_wp2_with fail
        with_reducible refine HCC.out.mono ?_
        rintro e w4 ⟨rfl, h2, h3⟩
        have H2 := Lib.hid h2
        have H3 := Lib.hid h3
        clear h2 h3 HCC
        go_wp2
        go_end0
        exact ⟨rfl, by rw [HWP.out]; exact H2.out, H3.out⟩
      · have g21 : ((kd : Int) != 21) = true := by simp; omega
        have hn21 : ¬ (kd : Int) = 21 := by omega
        have hwp : wayPts O = [.s [45, 62], .n O.next] := by unfold wayPts; rw [hkd, if_neg hn23, if_neg hn21]
        have HWP := Lib.hid hwp
        have HCL : Hid (∀ (W : World) (v : Value), Below w.heap.size w W → W.ownsRow (P + 1) 20 1 v 12 (c10L j nm O (.slice A10 n10 c10) ++ n2L O) → Calls Tryd.prog 39 #[.pointer (some ⟨g, 0, none⟩), v] W fun e w' => e = .returned (.tuple #[]) ∧ Pg w' B g (ts ++ lineT (opPts j nm O ++ [.s [45, 62], .n O.next])) ∧ Went B g w w') := Lib.hid (fun W v hbW hown => line_own (S := S) (ps := opPts j nm O ++ [.s [45, 62], .n O.next]) HP.out hbW (by have := HPE.out; omega) HK.out hown (by simp [opPts]) (by simp [c10L, n2L, n3L, opPts]) (by simp [opPts]) (fun k hk hk' => by
            by_cases h10 : k < 10
            · exact ptQ_left (by simp [opPts]; exact h10) (by simp [c10L]; exact h10) (HQ.out W hbW k h10) hk hk'
            · have hc : k = 10 ∨ k = 11 := by simp [opPts] at hk; omega
              rcases hc with rfl | rfl
              · exact ⟨rfl, by simp⟩
              · exact ⟨rfl, HO.out.next⟩) (by have := HWW.out; rw [HWP.out] at this; exact this) (by simp [opPts, ptsT, ptT]) HT.out)
        clear hwp HQ
        go_wp2_with (first
          | (at_builtin; go_loud (refine wpList_append_own_at (W1.alloc (.cells #[.iface 9 (.string ⟨#[45, 62]⟩), .iface 3 (.int .i64 O.next)] 20)) rfl _ _ _ rfl (P + 1) 20 i0 .nilIface 1 16 Tryd.underlying77 HI.out.1 HI.out.2.1 HI.out.2.2.1 HI.out.2.2.2 rfl (by decide) (.slice (some ⟨P + 1, 0, none⟩) 10 10) 10 (c10L j nm O (.slice A10 n10 c10)) rfl (HO1.out.alloc _) ⟨W1.heap.size, 0, none⟩ 2 2 (n2L O) rfl rfl (news_new W1 (n2L O) _) (by simp [n2L, Value.oneCell']) (by unfold maxLen; omega) (by omega) (by have := HW1S.out; rw [asz]; omega) ?_; go_loud (intro v3 w3 ho3 hg3 _ hat3; obtain ⟨A3, n3, c3, rfl⟩ := own_slice ho3; have HO3 := Lib.hid ho3; have hbl3 : Below w.heap.size w w3 := ((HBW.out.alloc (by have := HW1S.out; have := HPE.out; omega) _).grown hg3 (by have := HW1S.out; have := HPE.out; rw [asz]; omega) (fun k hk => by have : P + 1 = k := (by simpa [Value.ownBlock] using hk); have := HPE.out; omega)); have HBL3 := Lib.hid hbl3; clear ho3 hg3 hbl3 hat3))))
        have HCC := Lib.hid (HCL.out w3 _ HBL3.out HO3.out)
        clear HCL
        go_wp2_with fail
        with_reducible refine HCC.out.mono ?_
        rintro e w4 ⟨rfl, h2, h3⟩
        have H2 := Lib.hid h2
        have H3 := Lib.hid h3
        clear h2 h3 HCC
        go_wp2
        go_end0
        exact ⟨rfl, by rw [HWP.out]; exact H2.out, H3.out⟩

end Go.Proofs.YtgohnlcgidmlfaaDoor
