/- We -/
import Derived.Test.YtihjdfbdpcghdaaDoorZc8
import Derived.IntWalk
set_option linter.unusedVariables false
namespace Go.Proofs.YtihjdfbdpcghdaaDoor
open Go.RowKit
theorem need_iff {p q : Prop} [Decidable p] [Decidable q] (h : p ↔ q) (c : Ts) : need p c = need q c := by
  by_cases hp : p
  · rw [need_yes hp, need_yes (h.1 hp)]
  · rw [need_no hp, need_no (fun e => hp (h.2 e))]
theorem st_new {w X : World} {g Bc Ba : Nat} {k p d : Int} {nm ty : List UInt8} {V bv ev : Value} (hX : X = ((w.alloc (.cells #[penV Bc Ba] 50)).alloc (.cells #[.int .i64 k, .int .i64 p, .string (strOf nm), .string (strOf ty), V, bv, ev] 39)).alloc (.cells #[.int .i64 d] 3))
    (hg : g = w.heap.size) : StFr X g Bc Ba k p nm ty V bv ev d ∧ X.heap.size = g + 3 := by
  subst hg
  refine ⟨⟨?_, ?_, ?_⟩, by rw [hX]; simp⟩
  · rw [hX, Below.heap_alloc _ _ _ (by simp; omega), Below.heap_alloc _ _ _ (by simp)]; exact heap_alloc_new _ _
  · unfold SmBlk
    rw [hX, Below.heap_alloc _ _ _ (by simp)]
    have := heap_alloc_new (w.alloc (.cells #[penV Bc Ba] 50)) (.cells #[.int .i64 k, .int .i64 p, .string (strOf nm), .string (strOf ty), V, bv, ev] 39)
    simpa using this
  · rw [hX]
    have := heap_alloc_new ((w.alloc (.cells #[penV Bc Ba] 50)).alloc (.cells #[.int .i64 k, .int .i64 p, .string (strOf nm), .string (strOf ty), V, bv, ev] 39)) (.cells #[.int .i64 d] 3)
    simpa using this
section
variable {w0 w : World} {g Bc Ba B : Nat} {k p : Int} {nm ty : List UInt8} {V bv ev u : Value} {d : Int} {T : List (List UInt8)} {ex : List Ex}
theorem stn_yes (hf : StFr w g Bc Ba k p nm ty V bv ev d) (hs : nm.length ≤ 40000) (hn : nameB nm = true) :
    Calls Tryd.prog 70 #[.pointer (some ⟨g + 1, 0, none⟩)] w fun e w' => e = .returned (.string (strOf nm)) ∧ Chg (fun b => b = g + 1) w w' ∧ StFr w' g Bc Ba k p [] ty V bv ev d := by
  have hc := hf.sm.c2
  have hz := hf.sm.fr 2
  have hsz : (strOf nm).size ≤ 40000 := by rw [Lib.size_eq, strOf_data]; exact hs
  have HN := Lib.hid (takeName_yes ⟨g + 1, 2, none⟩ (strOf nm) w hc hz hsz hn)
  clear hc hz hsz hn hs
  go_enter Tryd.func70, Tryd.ntmps70
  go_wp2_with fail
  refine HN.out.mono ?_
  rintro e w1 ⟨rfl, wm, hb, hw⟩
  have HB := Lib.hid hb
  clear hb
  go_wp2_with fail
  go_ret
  refine ⟨rfl, ?_, ?_⟩
  · exact (Chg.of_below HB.out).setCell _ _ (fun _ => rfl)
  · exact (hf.below HB.out).set2 []
theorem stn_no (hf : StFr w g Bc Ba k p nm ty V bv ev d) (hs : nm.length ≤ 40000) (hn : nameB nm = false) :
    Calls Tryd.prog 70 #[.pointer (some ⟨g + 1, 0, none⟩)] w fun e w' => e = boom ∧ Below w.heap.size w w' := by
  have hc := hf.sm.c2
  have hsz : (strOf nm).size ≤ 40000 := by rw [Lib.size_eq, strOf_data]; exact hs
  have HN := Lib.hid (takeName_no ⟨g + 1, 2, none⟩ (strOf nm) w hc hsz hn)
  clear hc hsz hn hs
  go_enter Tryd.func70, Tryd.ntmps70
  go_wp2_with fail
  refine HN.out.mono ?_
  rintro e w1 ⟨rfl, hb⟩
  have HB := Lib.hid hb
  clear hb
  unfold boom
  go_wp2
  exact ⟨rfl, rfl, HB.out⟩
theorem stt_yes (hf : StFr w g Bc Ba k p nm ty V bv ev d) (hs : ty.length ≤ 40000) (hn : nameB ty = true) :
    Calls Tryd.prog 29 #[.pointer (some ⟨g + 1, 3, none⟩)] w fun e w' => e = .returned (.string (strOf ty)) ∧ Chg (fun b => b = g + 1) w w' ∧ StFr w' g Bc Ba k p nm [] V bv ev d := by
  have hsz : (strOf ty).size ≤ 40000 := by rw [Lib.size_eq, strOf_data]; exact hs
  refine (takeName_yes ⟨g + 1, 3, none⟩ (strOf ty) w hf.sm.c3 (hf.sm.fr 3) hsz hn).mono ?_
  rintro e w' ⟨rfl, w1, hb, rfl⟩
  exact ⟨rfl, (Chg.of_below hb).setCell _ _ (fun _ => rfl), (hf.below hb).set3 []⟩
theorem stt_no (hf : StFr w g Bc Ba k p nm ty V bv ev d) (hs : ty.length ≤ 40000) (hn : nameB ty = false) :
    Calls Tryd.prog 29 #[.pointer (some ⟨g + 1, 3, none⟩)] w fun e w' => e = boom ∧ Below w.heap.size w w' :=
  takeName_no ⟨g + 1, 3, none⟩ (strOf ty) w hf.sm.c3 (by rw [Lib.size_eq, strOf_data]; exact hs) hn
theorem stt_take (hf : StFr w g Bc Ba k p nm ty V bv ev d) :
    Calls Tryd.prog 44 #[.pointer (some ⟨g + 1, 3, none⟩)] w fun e w' => e = .returned (.string (strOf ty)) ∧ Chg (fun b => b = g + 1) w w' ∧ StFr w' g Bc Ba k p nm [] V bv ev d := by
  refine (take_string ⟨g + 1, 3, none⟩ (strOf ty) w hf.sm.c3 (hf.sm.fr 3)).mono ?_
  rintro e w' ⟨rfl, rfl⟩
  exact ⟨rfl, (Chg.refl _ w).setCell _ _ (fun _ => rfl), hf.set3 []⟩
theorem stx_take {A : Option Addr} {m c : Nat} (hf : StFr w g Bc Ba k p nm ty (.slice A m c) bv ev d) :
    Calls Tryd.prog 74 #[.pointer (some ⟨g + 1, 4, none⟩)] w fun e w' => e = .returned (.slice A m c) ∧ Chg (fun b => b = g + 1) w w' ∧ StFr w' g Bc Ba k p nm ty (.slice none 0 0) bv ev d := by
  refine (take_exprs ⟨g + 1, 4, none⟩ A m c w hf.sm.c4 (hf.sm.fr 4)).mono ?_
  rintro e w' ⟨rfl, rfl⟩
  exact ⟨rfl, (Chg.refl _ w).setCell _ _ (fun _ => rfl), hf.set4 _⟩
theorem StPost.alloc_ {w w' : World} {o : Obj} {rest : List Ex} {R : Ts} {e : Ending} (h : StPost w0 (w.alloc o) g Bc Ba B u k p nm ty bv ev d rest R e w') : StPost w0 w g Bc Ba B u k p nm ty bv ev d rest R e w' := by
  have ha : ∀ P, Chg P w (w.alloc o) := fun P => (Chg.refl P w).alloc o
  cases R with
  | none => exact ⟨h.1, (ha _).trans h.2 (fun _ _ hx => hx)⟩
  | some T' =>
    obtain ⟨h1, u', V', h2, h3, h4, h5, h6⟩ := h
    refine ⟨h1, u', V', h2, fun b hb => ?_, (ha _).trans h4 (fun _ _ hx => hx), h5, h6⟩
    rcases h3 b hb with h | h
    · exact .inl h
    · right; simp at h; omega
theorem ste_new (hb : Below B w0 w) (hB : B ≤ g) (hg1 : Bc < g) (hg2 : Ba < g) (hp : PenAt w Bc Ba B u T) (hf : StFr w g Bc Ba k p nm ty V bv ev d) (hr : Reads w0 B ex V) (hd0 : 0 ≤ d) (hd : d ≤ 50) (ts : List (List UInt8)) (hl : ∀ t ∈ ts, t.length ≤ 40000) (hn : ts.length ≤ 1000) :
    Calls Tryd.prog 71 #[.slice (some ⟨w.heap.size, 0, none⟩) ts.length ts.length, .pointer (some ⟨g, 0, none⟩), .pointer (some ⟨g + 1, 0, none⟩), .pointer (some ⟨g + 1 + 1, 0, none⟩)] (w.alloc (.cells (strCells ts) 9))
      (StPost w0 w g Bc Ba B u k p nm ty bv ev d ex.tail (adv T (argC ex d ts))) := by
  have hBw : B ≤ w.heap.size := Nat.le_trans hB (Nat.le_of_lt (hf.lt (.inl rfl)))
  have hb' : Below B w0 (w.alloc (.cells (strCells ts) 9)) := hb.alloc hBw _
  have hf' : StFr (w.alloc (.cells (strCells ts) 9)) g Bc Ba k p nm ty V bv ev d := hf.below ((Below.refl _ w).alloc (Nat.le_refl _) _)
  have hs := strs_new w (fun b => Mine Bc Ba u b ∨ b = g + 1) ts hl (by omega) (fun hm => by
    rcases hm with hm | hm
    · have := (hp.mine hm).2; omega
    · have := hf.lt (b := g + 1) (.inr (.inl rfl)); omega)
  cases ex with
  | nil => exact (ste_no hb' hB hg1 hg2 (hp.alloc _) hf' hr hd0 hd ts _ hs).mono fun e w' h => h.alloc_
  | cons e es => exact (ste_yes hb' hB hg1 hg2 (hp.alloc _) hf' hr hd0 hd ts _ hs).mono fun e w' h => h.alloc_
theorem ste_nil (hb : Below B w0 w) (hB : B ≤ g) (hg1 : Bc < g) (hg2 : Ba < g) (hp : PenAt w Bc Ba B u T) (hf : StFr w g Bc Ba k p nm ty V bv ev d) (hr : Reads w0 B ex V) (hd0 : 0 ≤ d) (hd : d ≤ 50) :
    Calls Tryd.prog 71 #[.slice none 0 0, .pointer (some ⟨g, 0, none⟩), .pointer (some ⟨g + 1, 0, none⟩), .pointer (some ⟨g + 1 + 1, 0, none⟩)] w
      (StPost w0 w g Bc Ba B u k p nm ty bv ev d ex.tail (adv T (argC ex d []))) := by
  have hs : StrsAt w (fun b => Mine Bc Ba u b ∨ b = g + 1) (.slice none 0 0) [] := ⟨none, 0, rfl, Nat.le_refl _, by omega, fun k hk => absurd hk (by simp)⟩
  cases ex with
  | nil => exact ste_no hb hB hg1 hg2 hp hf hr hd0 hd [] _ hs
  | cons e es => exact ste_yes hb hB hg1 hg2 hp hf hr hd0 hd [] _ hs
end
end Go.Proofs.YtihjdfbdpcghdaaDoor
