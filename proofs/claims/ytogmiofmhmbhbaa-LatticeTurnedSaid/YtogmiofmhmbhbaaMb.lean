/- The walk of LatticeAgain. -/
import Derived.Test.YtogmiofmhmbhbaaMz
import Derived.Test.YtogmiofmhmbhbaaPe
import Derived.Deep.RegionLaw
namespace Go.Proofs.Ytogmiofmhmbhbaa
open Go.RowKit

/-- append of one edge, as a step of a region that draws -/
theorem step_append_edge {ops : Array Oper} {o : Oper} {a : Act} {w : World} {K : Act → World → Prop} {Q : Exit → Act → World → Prop} {E : Prop}
    (hg : o.guard = none) (s x : Operand) (hop : o.op = Op.call { callee := Callee.builtin Builtin.append, args := #[s, x], argTypes := #[22, 22] })
    (base : Nat) (v : Value) (xs : List (Int × Int)) (hs : a.eval s = v) (hown : OwnEdges w base v xs) (ad : Addr) (c : Nat) (e : Int × Int) (hx : a.eval x = .slice (some ad) 1 c)
    (hnews : ∀ j u, (edgesV [e])[j]? = some u → w.cell? (ad.add j) = some u) (hb : xs.length ≤ 100000) (hbase : base ≤ w.heap.size)
    (h : ∀ v' w', OwnEdges w' base v' (xs ++ [e]) → w.grownBy w' v.ownBlock → K (a.put o.dst v') w') :
    if Region.wanted o (yielded ops a.tmps) = true then Oper.wp Try.prog o a w K Q else E := by
  have hw : Region.wanted o (yielded ops a.tmps) = true := by simp [Region.wanted, hg]
  rw [if_pos hw]
  obtain ⟨i0, hi, hz0, hz1, hz2⟩ := info_parts info_edge
  refine wp_append_own _ s x 22 hop base 47 i0 (.agg #[.int .i64 0, .int .i64 0]) 2 16 Try.underlying22 hi hz0 hz1 hz2 rfl (by decide) v xs.length (edgesV xs) hs hown ad 1 c (edgesV [e]) hx rfl hnews
    (edgesV_cell _) (by unfold maxLen; omega) (by omega) hbase fun v' w' hown' hgr _ => h v' w' ?_ hgr
  unfold OwnEdges
  rw [List.length_append, edgesV_app]
  exact hown'

/-- append of a row of edges -/
theorem wpList_append_edges {ops : Array Oper} {rest : List Oper} {o : Oper} {a : Act} {w : World} {Q : Exit → Act → World → Prop} (hgd : o.guard = none) (s x : Operand)
    (ho : o.op = .call { callee := .builtin .append, args := #[s, x], argTypes := #[22, 22] })
    (base : Nat) (v : Value) (xs : List (Int × Int)) (hs : a.eval s = v) (hown : OwnEdges w base v xs) (B off m c : Nat) (A : Option Addr) (es : List (Int × Int)) (hx : a.eval x = .slice A m c)
    (hE : EdgesIn w B A off es) (hm : es.length = m) (hn : A = none → m = 0 ∧ c = 0) (hb : xs.length ≤ 100000) (hb2 : m ≤ 100000) (hbase : base ≤ w.heap.size)
    (h : ∀ v' w', OwnEdges w' base v' (xs ++ es) → w.grownBy w' v.ownBlock → wpList Try.prog ops Q rest (a.put o.dst v') w') : wpList Try.prog ops Q (o :: rest) a w := by
  obtain ⟨i0, hi, hz0, hz1, hz2⟩ := info_parts info_edge
  cases A with
  | none =>
    obtain ⟨rfl, rfl⟩ := hn rfl
    obtain rfl : es = [] := List.eq_nil_of_length_eq_zero hm
    exact wpList_append_own_none hgd s x 22 ho base 47 i0 2 Try.underlying22 hi v xs.length (edgesV xs) hs hown hx (h v w (by simpa using hown) (World.grownBy.refl w _))
  | some ad =>
    refine wpList_append_own _ hgd s x 22 ho base 47 i0 (.agg #[.int .i64 0, .int .i64 0]) 2 16 Try.underlying22 hi hz0 hz1 hz2 rfl (by decide) v xs.length (edgesV xs) hs hown ad m c (edgesV es) hx (by rw [edgesV_len, hm])
      hE.news (edgesV_cell _) (by unfold maxLen; omega) (by omega) hbase fun v' w' hown' hgr _ => h v' w' ?_ hgr
    unfold OwnEdges
    rw [List.length_append, edgesV_app, hm]
    exact hown'

theorem one_edge {w : World} {e : Int × Int} {g : Nat} (hg : g = w.heap.size) : ∀ j u, (edgesV [e])[j]? = some u → (w.alloc (.cells #[.int .i64 e.1, .int .i64 e.2] 47)).cell? ((⟨g, 0, none⟩ : Addr).add j) = some u := by
  subst hg
  intro j u hu
  have hr := heap_alloc_new w (.cells #[.int .i64 e.1, .int .i64 e.2] 47)
  rw [add_pl, Nat.zero_add, cell_of_row _ _ j _ _ (0, 0) hr]
  simpa [edgesV] using hu

theorem OwnEdges.alloc {w : World} {base : Nat} {v : Value} {es : List (Int × Int)} (h : OwnEdges w base v es) (o : Obj) : OwnEdges (w.alloc o) base v es := World.ownsRow.alloc h o

theorem OwnEdges.below {w w' : World} {base : Nat} {v : Value} {es : List (Int × Int)} (h : OwnEdges w base v es) (hb : Below w.heap.size w w') : OwnEdges w' base v es := by
  unfold OwnEdges at h ⊢
  refine ⟨h.1, ?_⟩
  rcases h.2 with hn | ⟨g, cap, cur, hv, hg, hgg, rest⟩
  · exact .inl hn
  · exact .inr ⟨g, cap, cur, hv, hg, (hb.block g (Array.getElem?_eq_some_iff.1 hgg).1).trans hgg, rest⟩
theorem new_out {w w' : World} {n : Int} {es : List (Int × Int)} {e : Ending} (h : NewPost w n es e w') (hn : ¬ (1 ≤ n ∧ n ≤ 8)) : e = .returned (.tuple #[.pointer none, .int .i64 22]) := by
  rcases h.2 with ⟨_, x⟩ | ⟨h1, h2, _⟩ | ⟨h1, h2, _⟩ | ⟨h1, h2, _⟩
  · exact x
  · exact absurd ⟨h1, h2⟩ hn
  · exact absurd ⟨h1, h2⟩ hn
  · exact absurd ⟨h1, h2⟩ hn
theorem new_wrong {w w' : World} {n : Int} {es : List (Int × Int)} {e : Ending} (h : NewPost w n es e w') (h1 : 1 ≤ n) (h8 : n ≤ 8) (hb : badEs n es = true) : e = .returned (.tuple #[.pointer none, .int .i64 30]) := by
  rcases h.2 with ⟨x, _⟩ | ⟨_, _, _, x⟩ | ⟨_, _, x, _⟩ | ⟨_, _, x, _⟩
  · exact absurd ⟨h1, h8⟩ x
  · exact x
  · rw [hb] at x; cases x
  · rw [hb] at x; cases x
theorem new_no {w w' : World} {n : Int} {es : List (Int × Int)} {e : Ending} (h : NewPost w n es e w') (h1 : 1 ≤ n) (h8 : n ≤ 8) (hb : badEs n es = false) (hl : latB (reachL n.toNat es) (turnedL (reachL n.toNat es)) = false) : e = .returned (.tuple #[.pointer none, .int .i64 31]) := by
  rcases h.2 with ⟨x, _⟩ | ⟨_, _, x, _⟩ | ⟨_, _, _, _, x⟩ | ⟨_, _, _, x, _⟩
  · exact absurd ⟨h1, h8⟩ x
  · rw [hb] at x; cases x
  · exact x
  · rw [hl] at x; cases x
theorem new_yes {w w' : World} {n : Int} {es : List (Int × Int)} {e : Ending} (h : NewPost w n es e w') (h1 : 1 ≤ n) (h8 : n ≤ 8) (hb : badEs n es = false) (hl : latB (reachL n.toNat es) (turnedL (reachL n.toNat es)) = true) :
    ∃ h gu gv, w.heap.size ≤ h ∧ w.heap.size ≤ gu ∧ w.heap.size ≤ gv ∧ OrdAt w' h gu gv n.toNat (reachL n.toNat es) (turnedL (reachL n.toNat es)) ∧ e = .returned (.tuple #[.pointer (some ⟨h, 0, none⟩), .int .i64 0]) := by
  rcases h.2 with ⟨x, _⟩ | ⟨_, _, x, _⟩ | ⟨_, _, _, x, _⟩ | ⟨_, _, _, _, x⟩
  · exact absurd ⟨h1, h8⟩ x
  · rw [hb] at x; cases x
  · rw [hl] at x; cases x
  · exact x

set_option maxRecDepth 100000 in
set_option maxHeartbeats 4000000 in
theorem again_walk (w : World) (n : Int) (m cap off : Nat) (A : Option Addr) (es : List (Int × Int)) (hA : EdgesIn w w.heap.size A off es) (hm : es.length = m) (hn : A = none → m = 0 ∧ cap = 0) :
    Calls Try.prog 9 #[.int .i64 n, .slice A m cap] w (LawPost w) := by
  have HM := Lib.hid hm
  have HNO := Lib.hid hn
  clear hm hn
  by_cases h200 : 100 < m
  · go_enter Try.func9, Try.ntmps9
    go_wp2_with fail
    refine (alive_any _).mono ?_
    rintro e w1 ⟨rfl, hb1⟩
    go_wp2
    go_ret
    exact ⟨rfl, hb1⟩
  · go_enter Try.func9, Try.ntmps9
    go_wp2_with fail
    refine (alive_any _).mono ?_
    rintro e w1 ⟨rfl, hb1⟩
    have hs1 := hb1.size
    have hE1 := (hA.below hb1)
    go_wp2_with fail
    refine (copies_any _ m cap off A es (hE1.more hs1) HM.out (by omega)).mono ?_
    rintro e w2 ⟨v, rfl, hv, hb2⟩
    obtain ⟨B, hB⟩ : ∃ B, B = w1.heap.size := ⟨_, rfl⟩
    rw [← hB] at hv hb2
    have HB := Lib.hid hB
    clear hB
    go_wp2
    go_loopw [6, 5] (fun i s5 wr => ∃ t : Nat, t ≤ m ∧ i = .int .i64 t ∧ OwnEdges wr B s5 (agOut es t) ∧ Below B w1 wr) (fun i _ _ => m - (intOf i).toNat)
    case atStart => exact ⟨0, Nat.zero_le _, rfl, hv, hb2⟩
    case round =>
      obtain ⟨t, ht, rfl, hown, hb⟩ := hrel
      rename_i s5
      by_cases hlt : t < m
      · go_wp2
        go_loopw [7, 5] (fun i s5 wl => ∃ k : Nat, k ≤ m ∧ i = .int .i64 k ∧ OwnEdges wl B s5 (agIn es t k (agOut es t)) ∧ Below B w1 wl) (fun i _ _ => m - (intOf i).toNat)
        case atStart => exact ⟨0, Nat.zero_le _, rfl, hown, hb⟩
        case round =>
          obtain ⟨k, hk, rfl, hown2, hb2⟩ := hrel
          by_cases hltk : k < m
          · have hEr := (hE1.more (show w.heap.size ≤ B by rw [HB.out]; exact hs1)).below hb2
            obtain ⟨b, rfl, hbb, ht0, ht1⟩ := hEr t (by rw [HM.out]; exact hlt)
            obtain ⟨b', hb'', _, hk0, hk1⟩ := hEr k (by rw [HM.out]; exact hltk)
            obtain rfl : b = b' := by injection hb'' with hb''; injection hb''
            obtain ⟨x0, hx0⟩ : ∃ x, x = (ge es t).1 := ⟨_, rfl⟩
            obtain ⟨x1, hx1⟩ : ∃ x, x = (ge es t).2 := ⟨_, rfl⟩
            obtain ⟨y0, hy0⟩ : ∃ x, x = (ge es k).1 := ⟨_, rfl⟩
            obtain ⟨y1, hy1⟩ : ∃ x, x = (ge es k).2 := ⟨_, rfl⟩
            rw [← hx0] at ht0
            rw [← hx1] at ht1
            rw [← hy0] at hk0
            rw [← hy1] at hk1
            have hlen : (agIn es t k (agOut es t)).length ≤ 100000 := by
              have := agIn_len es t k (agOut es t)
              have := agOut_len es t
              rw [HM.out] at this
              have : t * m ≤ 100 * 100 := Nat.mul_le_mul (by omega) (by omega)
              omega
            have HSY : Hid (agIn es t (k + 1) (agOut es t) = if x1 = y0 then agIn es t k (agOut es t) ++ [(x0, y1)] else agIn es t k (agOut es t)) := by rw [hx0, hx1, hy0, hy1]; exact rfl
            obtain ⟨xs, hxs⟩ : ∃ xs, xs = agIn es t k (agOut es t) := ⟨_, rfl⟩
            rw [← hxs] at hown2 hlen HSY
            have hBr : B ≤ wr.heap.size := by have := hb2.size; rw [HB.out]; exact this
            have HOWN := Lib.hid hown2
            clear hb'' hx0 hx1 hy0 hy1 hxs hown2
            by_cases hxy : x1 = y0
            · have HS : Hid (agIn es t (k + 1) (agOut es t) = xs ++ [(x0, y1)]) := Lib.hid (HSY.out.trans (if_pos hxy))
              have HN2 := Lib.hid (one_edge (w := wr) (e := (x0, y1)) (g := wr.heap.size) rfl)
              subst hxy
              go_wp2
              go_region
              all_goals
                go_wp2
                go_region_law (refine step_append_edge rfl _ _ rfl B _ xs rfl (by exact HOWN.out.alloc _) ⟨wr.heap.size, 0, none⟩ 1 (x0, y1) rfl (by exact HN2.out) hlen (by simp; omega) ?_; intro v' w3 hown3 hgr)
              all_goals
                go_wp2
                go_roundw
                case rel => exact ⟨k + 1, by omega, by go_num, by rw [HS.out]; exact hown3, by
                  refine Below.grown ?_ hgr (by simp; omega) (fun g hg => (HOWN.out.lt g hg).1)
                  repeat (first | exact hb2.alloc hBr _ | refine Below.drew ?_)⟩
                case measure => simp [intOf]; omega
            · have HS : Hid (agIn es t (k + 1) (agOut es t) = xs) := Lib.hid (HSY.out.trans (if_neg hxy))
              have hne : (x1 == y0) = false := beq_eq_false_iff_ne.2 hxy
              clear hxy
              go_wp2
              go_region
              all_goals
                go_wp2
                go_roundw
                case rel => exact ⟨k + 1, by omega, by go_num, by rw [HS.out]; exact HOWN.out, by
                  repeat (first | exact hb2 | refine Below.drew ?_)⟩
                case measure => simp [intOf]; omega
          · obtain rfl : k = m := by omega
            have HK : Hid (agOut es (t + 1) = agIn es t k (agOut es t)) := Lib.hid (by rw [← HM.out]; rfl)
            go_wp2
            go_roundw
            case rel => exact ⟨t + 1, by omega, by go_num, by rw [HK.out]; exact hown2, hb2⟩
            case measure => simp [intOf]; omega
      · obtain rfl : t = m := by omega
        have HK : Hid (agOut es t ++ es = moreL es) := Lib.hid (by rw [← HM.out]; rfl)
        have hlen : (agOut es t).length ≤ 100000 := by
          have := agOut_len es t
          rw [HM.out] at this
          have : t * t ≤ 100 * 100 := Nat.mul_le_mul (by omega) (by omega)
          omega
        have hEr := (hE1.more (show w.heap.size ≤ B by rw [HB.out]; exact hs1)).below hb
        have hBr : B ≤ wr.heap.size := by have := hb.size; rw [HB.out]; exact this
        have HOWN := Lib.hid hown
        clear hown
        go_wp2_with (at_builtin; refine wpList_append_edges rfl _ _ rfl B _ (agOut es t) rfl HOWN.out B off t cap A es rfl hEr HM.out HNO.out hlen (by omega) hBr ?_; intro v2 w3 hown3 hgr)
        have hb3 : Below B w1 w3 := hb.grown hgr hBr (fun g hg => (HOWN.out.lt g hg).1)
        have hbw3 : Below w.heap.size w w3 := hb1.trans (hb3.mono (by rw [HB.out]; exact hs1))
        have hs3 := hbw3.size
        rw [HK.out] at hown3
        obtain ⟨A2, c2, hv2, _⟩ := hown3.edges
        subst hv2
        clear hb hb3 hEr hgr HOWN hE1 hBr
        refine (copies_any _ t cap off A es ((hA.below hbw3).more hs3) HM.out (by omega)).mono ?_
        rintro e w4 ⟨v3, rfl, hv3, hb4⟩
        obtain ⟨A3, c3, rfl, hE3⟩ := hv3.edges
        have hown4 := hown3.below hb4
        have hbw4 : Below w.heap.size w w4 := hbw3.trans (hb4.mono hs3)
        have hs4 := hbw4.size
        rw [HM.out]
        go_wp2_with fail
        refine (new_any _ n t c3 A3 es hE3 HM.out (by omega)).mono ?_
        rintro e w5 hp5
        have hbw5 : Below w.heap.size w w5 := hbw4.trans (hp5.1.mono hs4)
        have hs5 := hbw5.size
        have hown5 := hown4.below hp5.1
        obtain ⟨A5, c5, hv5, hE5⟩ := hown5.edges
        obtain ⟨rfl, _, rfl⟩ : A5 = A2 ∧ True ∧ c5 = c2 := by
          simp only [Value.slice.injEq] at hv5
          exact ⟨hv5.1.symm, trivial, hv5.2.2.symm⟩
        have hlm : (moreL es).length ≤ 4611686018427387904 := by
          have := moreL_len es
          rw [HM.out] at this
          have : t * t ≤ 100 * 100 := Nat.mul_le_mul (by omega) (by omega)
          omega
        have HLM := Lib.hid hlm
        obtain ⟨q, hq⟩ : ∃ q, q = (moreL es).length := ⟨_, rfl⟩
        rw [← hq]
        have HQ := Lib.hid hq.symm
        have HQ2 : Hid (q ≤ 4611686018427387904) := Lib.hid (by rw [hq]; exact hlm)
        have HE5 := Lib.hid hE5
        clear hv5 hown5 hown4 hown3 hv3 hE3 hb4 hlm hq hE5
        rcases hp5.2 with ⟨hno, rfl⟩ | ⟨h1, h8, hbad, rfl⟩ | ⟨h1, h8, hbad, hlat, rfl⟩ | ⟨h1, h8, hbad, hlat, h, gu, gv, hh, hu, hv, o, rfl⟩
        · have HNO2 := Lib.hid hno
          clear hno
          go_wp2_with fail
          refine (new_any _ n q c5 A5 (moreL es) HE5.out HQ.out HQ2.out).mono ?_
          rintro e w6 hp6
          obtain rfl := new_out hp6 HNO2.out
          go_wp2
          go_ret
          exact ⟨rfl, hbw5.trans (hp6.1.mono hs5)⟩
        · have HBD := Lib.hid hbad
          clear hbad
          go_wp2_with fail
          refine (new_any _ n q c5 A5 (moreL es) HE5.out HQ.out HQ2.out).mono ?_
          rintro e w6 hp6
          obtain rfl := new_wrong hp6 h1 h8 (by rw [badEs_more]; exact HBD.out)
          go_wp2
          go_ret
          exact ⟨rfl, hbw5.trans (hp6.1.mono hs5)⟩
        · have HBD := Lib.hid hbad
          have HLT := Lib.hid hlat
          have HRE : Hid (RightEs n.toNat es) := Lib.hid (fun e he => by have := badEs_no hbad e he; omega)
          clear hbad hlat
          go_wp2_with fail
          refine (new_any _ n q c5 A5 (moreL es) HE5.out HQ.out HQ2.out).mono ?_
          rintro e w6 hp6
          obtain rfl := new_no hp6 h1 h8 (by rw [badEs_more]; exact HBD.out) (by rw [reach_more _ _ HRE.out]; exact HLT.out)
          go_wp2
          go_ret
          exact ⟨rfl, hbw5.trans (hp6.1.mono hs5)⟩
        · have HBD := Lib.hid hbad
          have HLT := Lib.hid hlat
          have HRE : Hid (RightEs n.toNat es) := Lib.hid (fun e he => by have := badEs_no hbad e he; omega)
          have HLA := Lib.hid (new_latt h1 hbad hlat).2
          clear hbad hlat
          go_wp2_with fail
          refine (new_any _ n q c5 A5 (moreL es) HE5.out HQ.out HQ2.out).mono ?_
          rintro e w6 hp6
          obtain ⟨h2, gu2, gv2, hh2, hu2, hv2, o2, rfl⟩ := new_yes hp6 h1 h8 (by rw [badEs_more]; exact HBD.out) (by rw [reach_more _ _ HRE.out]; exact HLT.out)
          rw [reach_more _ _ HRE.out] at o2
          have hol := o.lt
          have o6 := o.below hp6.1 hol.1 hol.2.1 hol.2.2
          have hbw6 : Below w.heap.size w w6 := hbw5.trans (hp6.1.mono hs5)
          have hs6 := hbw6.size
          obtain ⟨nn, rfl⟩ := Int.eq_ofNat_of_zero_le (show 0 ≤ n by omega)
          rw [Int.toNat_natCast] at o6 o2 HLA
          obtain ⟨U, hU⟩ : ∃ U, U = reachL nn es := ⟨_, rfl⟩
          rw [← hU] at o6 o2 HLA
          obtain ⟨D, hD⟩ : ∃ D, D = turnedL U := ⟨_, rfl⟩
          rw [← hD] at o6 o2 HLA
          clear hU hD hp5 hp6 o hol hh hu hv hh2 hu2 hv2 HE5 HQ HQ2 HLM HBD HLT HRE
          go_wp2
          go_loopw [12] (fun i wr => ∃ x : Nat, x ≤ nn ∧ i = .int .i64 x ∧ Below w6.heap.size w6 wr) (fun i _ => nn - (intOf i).toNat)
          case atStart => exact ⟨0, Nat.zero_le _, rfl, Below.refl _ _⟩
          case round =>
            obtain ⟨x, hx, rfl, hbx⟩ := hrel
            by_cases hltx : x < nn
            · go_wp2
              go_loopw [13] (fun i wr => ∃ y : Nat, y ≤ nn ∧ i = .int .i64 y ∧ Below w6.heap.size w6 wr) (fun i _ => nn - (intOf i).toNat)
              case atStart => exact ⟨0, Nat.zero_le _, rfl, hbx⟩
              case round =>
                obtain ⟨y, hy, rfl, hby⟩ := hrel
                by_cases hlty : y < nn
                · have l6 := o6.lt
                  have l2 := o2.lt
                  have p6 := o6.below hby l6.1 l6.2.1 l6.2.2
                  have p2 := o2.below hby l2.1 l2.2.1 l2.2.2
                  have hsy := hby.size
                  clear l6 l2
                  go_wp2_with fail
                  refine (most_in _ h gu gv nn U D p6 x y hltx hlty).mono ?_
                  rintro e w' ⟨rfl, rfl⟩
                  go_wp2_with fail
                  refine (most_in _ h2 gu2 gv2 nn U D p2 x y hltx hlty).mono ?_
                  rintro e w' ⟨rfl, rfl⟩
                  go_wp2_with fail
                  refine (join_on w6 w6.heap.size _ h gu gv nn U D p6 hby hsy HLA.out x y hltx hlty _ (by simp)).mono ?_
                  rintro e w7 ⟨rfl, q6, hb7, hs7⟩
                  have q2 := o2.below hb7 o2.lt.1 o2.lt.2.1 o2.lt.2.2
                  go_wp2_with fail
                  refine (join_on w6 w6.heap.size _ h2 gu2 gv2 nn U D q2 hb7 hs7 HLA.out x y hltx hlty _ (by simp)).mono ?_
                  rintro e w8 ⟨rfl, _, hb8, _⟩
                  go_wp2
                  go_roundw
                  case rel => exact ⟨y + 1, by omega, by go_num, hb8⟩
                  case measure => simp [intOf]; omega
                · obtain rfl : y = nn := by omega
                  go_wp2
                  go_roundw
                  case rel => exact ⟨x + 1, by omega, by go_num, hby⟩
                  case measure => simp [intOf]; omega
            · obtain rfl : x = nn := by omega
              have l6 := o6.lt
              have l2 := o2.lt
              have p6 := o6.below hbx l6.1 l6.2.1 l6.2.2
              have hsx := hbx.size
              go_wp2_with fail
              refine (chain_any _ h gu gv x U D p6).mono ?_
              rintro e w7 ⟨g1, n1, rfl, hg1, hc1, hb7⟩
              have hb67 : Below w6.heap.size w6 w7 := hbx.trans (hb7.mono hsx)
              have p2 := o2.below hb67 l2.1 l2.2.1 l2.2.2
              have hs7 := hb67.size
              go_wp2_with fail
              refine (chain_any _ h2 gu2 gv2 x U D p2).mono ?_
              rintro e w8 ⟨g2, n2, rfl, hg2, hc2, hb8⟩
              have hi1 := hc1.ints.2
              have hi2 := hc2.ints.2
              have hi1' : Ints w8 (some ⟨g1, 0, none⟩) (chainL D) := fun k hk => by
                obtain ⟨b, hb, hcell⟩ := hi1 k hk
                obtain rfl : g1 = b := by injection hb with hb; injection hb
                exact ⟨g1, rfl, (hb8.cell (p := ⟨g1, k, none⟩) (hc1.lt g1 rfl).2).trans hcell⟩
              have hb68 : Below w6.heap.size w6 w8 := hb67.trans (hb8.mono hs7)
              have hcl := chainL_len D
              have hld := o6.ld
              have h88 := o6.n8
              have HI1 := Lib.hid hi1'
              have HI2 := Lib.hid hi2
              obtain ⟨ml, hml⟩ : ∃ ml, ml = (chainL D).length := ⟨_, rfl⟩
              rw [← hml]
              have HML := Lib.hid hml.symm
              have HM8 : Hid (ml ≤ 8) := Lib.hid (by rw [hml]; omega)
              clear hi1 hi1' hi2 hc1 hc2 hml hcl hld
              go_wp2_with fail
              refine (sameints_yes _ ml n1 n2 _ _ (chainL D) HI1.out HI2.out HML.out (by have := HM8.out; omega)).mono ?_
              rintro e w9 ⟨rfl, hdr⟩
              go_wp2
              go_ret
              exact ⟨rfl, hbw6.trans ((hb68.trans hdr.below).mono hs6)⟩

end Go.Proofs.Ytogmiofmhmbhbaa
