/- The walks of copies, CopyInts and SameInts. -/
import Derived.Test.YtogmiofmhmbhbaaLh
import Derived.Laws.AppendOwnNone
namespace Go.Proofs.Ytogmiofmhmbhbaa
open Go.RowKit

theorem add_pl (b off i : Nat) : (⟨b, off, none⟩ : Addr).add i = ⟨b, off + i, none⟩ := by unfold Addr.add; split <;> simp_all
def edgesV (es : List (Int × Int)) : List Value := es.flatMap fun e => [.int .i64 e.1, .int .i64 e.2]
theorem edgesV_len (es : List (Int × Int)) : (edgesV es).length = es.length * 2 := by
  induction es with
  | nil => rfl
  | cons e es ih => show (_ :: _ :: edgesV es).length = _; simp [ih]; omega
theorem edgesV_app (es fs : List (Int × Int)) : edgesV (es ++ fs) = edgesV es ++ edgesV fs := by simp [edgesV]
theorem edgesV_get : ∀ (es : List (Int × Int)) (k : Nat), k < es.length → (edgesV es)[k * 2]? = some (.int .i64 (ge es k).1) ∧ (edgesV es)[k * 2 + 1]? = some (.int .i64 (ge es k).2)
  | [], k, h => absurd h (by simp)
  | e :: es, 0, _ => by constructor <;> rfl
  | e :: es, k + 1, h => by
    have ih := edgesV_get es k (by simpa using h)
    have e1 : ge (e :: es) (k + 1) = ge es k := by unfold ge; simp
    rw [e1]
    have e2 : edgesV (e :: es) = .int .i64 e.1 :: .int .i64 e.2 :: edgesV es := rfl
    rw [e2, show (k + 1) * 2 = k * 2 + 2 from by omega, show k * 2 + 2 + 1 = (k * 2 + 1) + 2 from by omega]
    simpa using ih
theorem edgesV_cell (es : List (Int × Int)) : ∀ u ∈ edgesV es, u.oneCell' = true := by
  intro u hu
  simp only [edgesV, List.mem_flatMap] at hu
  obtain ⟨e, _, hu⟩ := hu
  simp at hu
  rcases hu with rfl | rfl <;> rfl

/-- the edges es lie at A from place off on, in blocks below B -/
def EdgesIn (w : World) (B : Nat) (A : Option Addr) (off : Nat) (es : List (Int × Int)) : Prop :=
  ∀ k, k < es.length → ∃ b, A = some ⟨b, off, none⟩ ∧ b < B ∧ w.cell? ⟨b, off + k * 2, none⟩ = some (.int .i64 (ge es k).1) ∧ w.cell? ⟨b, off + k * 2 + 1, none⟩ = some (.int .i64 (ge es k).2)
theorem EdgesIn.below {w w' : World} {B off : Nat} {A : Option Addr} {es : List (Int × Int)} (h : EdgesIn w B A off es) (hb : Below B w w') : EdgesIn w' B A off es := by
  intro k hk
  obtain ⟨b, hA, hlt, h0, h1⟩ := h k hk
  exact ⟨b, hA, hlt, (hb.cell (p := ⟨b, off + k * 2, none⟩) hlt).trans h0, (hb.cell (p := ⟨b, off + k * 2 + 1, none⟩) hlt).trans h1⟩
theorem EdgesIn.more {w : World} {B B' off : Nat} {A : Option Addr} {es : List (Int × Int)} (h : EdgesIn w B A off es) (hB : B ≤ B') : EdgesIn w B' A off es := by
  intro k hk
  obtain ⟨b, hA, hlt, h0, h1⟩ := h k hk
  exact ⟨b, hA, by omega, h0, h1⟩
theorem EdgesIn.news {w : World} {B off : Nat} {ad : Addr} {es : List (Int × Int)} (h : EdgesIn w B (some ad) off es) : ∀ j u, (edgesV es)[j]? = some u → w.cell? (ad.add j) = some u := by
  intro j u hu
  have hj : j < es.length * 2 := by
    rw [← edgesV_len]; exact (List.getElem?_eq_some_iff.1 hu).1
  obtain ⟨b, hA, _, h0, h1⟩ := h (j / 2) (by omega)
  obtain ⟨g0, g1⟩ := edgesV_get es (j / 2) (by omega)
  obtain rfl := Option.some.inj hA
  rcases (by omega : j = j / 2 * 2 ∨ j = j / 2 * 2 + 1) with e | e
  · rw [e, g0] at hu
    rw [add_pl, e]
    exact h0.trans hu
  · rw [e, g1] at hu
    rw [add_pl, e, ← Nat.add_assoc]
    exact h1.trans hu

/-- the slice v of the edges es lies in the call's own memory from base on -/
def OwnEdges (w : World) (base : Nat) (v : Value) (es : List (Int × Int)) : Prop := w.ownsRow base 47 2 v es.length (edgesV es)
theorem OwnEdges.edges {w : World} {base : Nat} {v : Value} {es : List (Int × Int)} (h : OwnEdges w base v es) : ∃ A c, v = .slice A es.length c ∧ Edges w w.heap.size A es := by
  have hlt := h.lt
  unfold OwnEdges at h
  rcases h.2 with ⟨rfl, h2⟩ | ⟨g, cap, cur, rfl, _, hg, _⟩
  · exact ⟨none, 0, by rw [h2], fun k hk => absurd hk (by omega)⟩
  · refine ⟨some ⟨g, 0, none⟩, cap, rfl, fun k hk => ⟨g, rfl, (hlt g rfl).2, ?_, ?_⟩⟩
    · have := h.cells (g := g) rfl _ _ (edgesV_get es k hk).1
      rw [add_pl] at this
      simpa using this
    · have := h.cells (g := g) rfl _ _ (edgesV_get es k hk).2
      rw [add_pl] at this
      simpa using this

theorem info_edge : (Try.prog.info? 47).map (fun i => (i.zero, i.size, i.bytes)) = some (some (.agg #[.int .i64 0, .int .i64 0]), 2, 16) := by kernel_rfl

def CopiesPost (w : World) (es : List (Int × Int)) (e : Ending) (w' : World) : Prop :=
  ∃ v, e = .returned v ∧ OwnEdges w' w.heap.size v es ∧ Below w.heap.size w w'

set_option maxHeartbeats 400000 in
theorem copies_any (w : World) (m c off : Nat) (A : Option Addr) (es : List (Int × Int)) (hA : EdgesIn w w.heap.size A off es) (hm : es.length = m) (h2 : m ≤ 200) :
    Calls Try.prog 11 #[.slice A m c] w (CopiesPost w es) := by
  have HM := Lib.hid hm
  clear hm
  obtain ⟨i0, hi, hz0, hz1, hz2⟩ := info_parts info_edge
  cases A with
  | none =>
    have hm0 : m = 0 := by
      rcases Nat.eq_zero_or_pos m with h0 | h0
      · exact h0
      · obtain ⟨b, hA, _⟩ := hA 0 (by rw [HM.out]; exact h0)
        cases hA
    go_enter Try.func11, Try.ntmps11
    obtain rfl : es = [] := List.eq_nil_of_length_eq_zero (by rw [HM.out]; exact hm0)
    subst hm0
    go_wp2
    go_ret
    exact ⟨_, rfl, World.ownsRow_lit (e := 47) (size := 2) w #[] 0 (Nat.le_refl _) (by unfold maxLen; omega) rfl, (Below.refl _ _).alloc (Nat.le_refl _) _⟩
  | some ad =>
    have hA1 := hA.below ((Below.refl w.heap.size w).alloc (Nat.le_refl _) (.cells #[] 47))
    have HN := Lib.hid hA1.news
    have HO := Lib.hid (World.ownsRow_lit (e := 47) (size := 2) w #[] 0 (Nat.le_refl _) (by unfold maxLen; omega) rfl)
    go_enter Try.func11, Try.ntmps11
    go_wp2_with (at_builtin; refine wpList_append_own _ rfl _ _ 22 rfl w.heap.size 47 i0 (.agg #[.int .i64 0, .int .i64 0]) 2 16 Try.underlying22 hi hz0 hz1 hz2 rfl (by decide) _ 0 [] rfl HO.out ad m c (edgesV es) rfl (by rw [edgesV_len, HM.out]) HN.out (edgesV_cell es) (by unfold maxLen; omega) (by omega) (by simp) ?_; intro v' w1 hown hgr _)
    go_ret
    exact ⟨_, rfl, by unfold OwnEdges; rw [HM.out]; simpa using hown, ((Below.refl _ _).alloc (Nat.le_refl _) _).grown hgr (by simp) (fun k hk => by have e : some w.heap.size = some k := hk; injection e with e; omega)⟩

/-- the list zs lies at A from place off on, in blocks below B -/
def IntsIn (w : World) (B : Nat) (A : Option Addr) (off : Nat) (zs : List Int) : Prop :=
  ∀ k, k < zs.length → ∃ b, A = some ⟨b, off, none⟩ ∧ b < B ∧ w.cell? ⟨b, off + k, none⟩ = some (.int .i64 (gi zs k))
theorem IntsIn.below {w w' : World} {B off : Nat} {A : Option Addr} {zs : List Int} (h : IntsIn w B A off zs) (hb : Below B w w') : IntsIn w' B A off zs := by
  intro k hk
  obtain ⟨b, hA, hlt, h0⟩ := h k hk
  exact ⟨b, hA, hlt, (hb.cell (p := ⟨b, off + k, none⟩) hlt).trans h0⟩
theorem IntsIn.news {w : World} {B off : Nat} {ad : Addr} {zs : List Int} (h : IntsIn w B (some ad) off zs) : ∀ j u, (intsV zs)[j]? = some u → w.cell? (ad.add j) = some u := by
  intro j u hu
  have hj : j < zs.length := by
    rw [← intsV_len]; exact (List.getElem?_eq_some_iff.1 hu).1
  obtain ⟨b, hA, _, h0⟩ := h j hj
  obtain rfl := Option.some.inj hA
  rw [intsV_get zs j hj] at hu
  rw [add_pl]
  exact h0.trans hu
theorem intsV_cell (zs : List Int) : ∀ u ∈ intsV zs, u.oneCell' = true := by
  intro u hu
  simp only [intsV, List.mem_map] at hu
  obtain ⟨z, _, rfl⟩ := hu
  rfl

def CopyIntsPost (w : World) (zs : List Int) (e : Ending) (w' : World) : Prop :=
  ∃ A c, e = .returned (.slice A zs.length c) ∧ OwnInts w' w.heap.size (.slice A zs.length c) zs ∧ Below w.heap.size w w'

set_option maxHeartbeats 400000 in
theorem copyints_any (w : World) (m c off : Nat) (A : Option Addr) (zs : List Int) (hA : IntsIn w w.heap.size A off zs) (hm : zs.length = m) (h2 : m ≤ 200) :
    Calls Try.prog 29 #[.slice A m c] w (CopyIntsPost w zs) := by
  have HM := Lib.hid hm
  clear hm
  obtain ⟨i0, hi, hz0, hz1, hz2⟩ := info_parts info_int
  cases A with
  | none =>
    have hm0 : m = 0 := by
      rcases Nat.eq_zero_or_pos m with h0 | h0
      · exact h0
      · obtain ⟨b, hA, _⟩ := hA 0 (by rw [HM.out]; exact h0)
        cases hA
    obtain rfl : zs = [] := List.eq_nil_of_length_eq_zero (by rw [HM.out]; exact hm0)
    subst hm0
    go_enter Try.func29, Try.ntmps29
    go_wp2
    go_ret
    exact ⟨_, _, rfl, World.ownsRow_lit (e := 3) (size := 1) w #[] 0 (Nat.le_refl _) (by unfold maxLen; omega) rfl, (Below.refl _ _).alloc (Nat.le_refl _) _⟩
  | some ad =>
    have hA1 := hA.below ((Below.refl w.heap.size w).alloc (Nat.le_refl _) (.cells #[] 3))
    have HN := Lib.hid hA1.news
    have HO := Lib.hid (World.ownsRow_lit (e := 3) (size := 1) w #[] 0 (Nat.le_refl _) (by unfold maxLen; omega) rfl)
    go_enter Try.func29, Try.ntmps29
    go_wp2_with (at_builtin; refine wpList_append_own _ rfl _ _ 38 rfl w.heap.size 3 i0 (.int .i64 0) 1 8 Try.underlying38 hi hz0 hz1 hz2 rfl (by decide) _ 0 [] rfl HO.out ad m c (intsV zs) rfl (by rw [intsV_len, HM.out]; omega) HN.out (intsV_cell zs) (by unfold maxLen; omega) (by omega) (by simp) ?_; intro v' w1 hown hgr _)
    go_ret
    have hown2 : OwnInts w1 w.heap.size v' zs := by unfold OwnInts; rw [HM.out]; simpa using hown
    have hv : ∃ A c, v' = .slice A zs.length c := by
      rcases hown2.2 with ⟨rfl, h0⟩ | ⟨g, cap, _, rfl, _⟩
      · exact ⟨none, 0, by rw [h0]⟩
      · exact ⟨_, cap, rfl⟩
    obtain ⟨A', c', rfl⟩ := hv
    exact ⟨A', c', rfl, hown2, ((Below.refl _ _).alloc (Nat.le_refl _) _).grown hgr (by simp) (fun k hk => by have e : some w.heap.size = some k := hk; injection e with e; omega)⟩

/-- are the two lists the same? -/
theorem same_ints (xs ys : List Int) (hl : xs.length = ys.length) (h : ∀ j, j < xs.length → gi xs j = gi ys j) : xs = ys := by
  apply List.ext_getElem hl
  intro i h1 h2
  have := h i h1
  unfold gi at this
  simpa [h1, h2] using this

/-- nothing but draws -/
def Drawn (w w' : World) : Prop := ∃ nq, w' = w.drewN nq
theorem Drawn.below {w w' : World} {B : Nat} (h : Drawn w w') : Below B w w' := by
  obtain ⟨nq, rfl⟩ := h
  exact ⟨rfl, rfl, rfl, Nat.le_refl _, fun _ _ => rfl⟩
theorem Drawn.refl (w : World) : Drawn w w := ⟨0, rfl⟩
theorem Drawn.drew {w w' : World} (h : Drawn w w') : Drawn w w'.drew := by
  obtain ⟨nq, rfl⟩ := h
  exact ⟨nq + 1, rfl⟩

set_option maxHeartbeats 400000 in
theorem sameints_yes (w : World) (m c d : Nat) (A D : Option Addr) (zs : List Int) (hA : Ints w A zs) (hD : Ints w D zs) (hm : zs.length = m) (hm2 : m ≤ 4611686018427387904) :
    Calls Try.prog 24 #[.slice A m c, .slice D m d] w fun e w' => e = .returned (.bool true) ∧ Drawn w w' := by
  have HM := Lib.hid hm
  clear hm
  go_enter Try.func24, Try.ntmps24
  go_wp2
  go_loopw [5] (fun i wr => ∃ k : Nat, k ≤ m ∧ i = .int .i64 k ∧ Drawn w wr) (fun i _ => m - (intOf i).toNat)
  case atStart => exact ⟨0, Nat.zero_le _, rfl, Drawn.refl w⟩
  case round =>
    obtain ⟨k, hk, rfl, hq⟩ := hrel
    by_cases hlt : k < m
    · obtain ⟨b, rfl, hc⟩ := hA k (by rw [HM.out]; exact hlt)
      obtain ⟨b', rfl, hc'⟩ := hD k (by rw [HM.out]; exact hlt)
      have hc1 := (hq.below (B := b + 1)).cell (p := ⟨b, k, none⟩) (by simp)
      have hc2 := (hq.below (B := b' + 1)).cell (p := ⟨b', k, none⟩) (by simp)
      rw [hc] at hc1
      rw [hc'] at hc2
      clear hc hc'
      go_wp2
      go_region
      all_goals
        go_wp2
        go_roundw
        case rel => exact ⟨k + 1, by omega, by go_num, hq.drew⟩
        case measure => simp [intOf]; omega
    · go_wp2
      go_ret
      exact ⟨rfl, hq⟩

end Go.Proofs.Ytogmiofmhmbhbaa
