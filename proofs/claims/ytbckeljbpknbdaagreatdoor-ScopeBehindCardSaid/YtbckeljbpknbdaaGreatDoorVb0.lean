/- Ff Fg -/
import Derived.Test.YtbckeljbpknbdaaGreatDoorVa3
import Derived.Test.YtbckeljbpknbdaaGreatDoorVa7
import Derived.Deep.Cut
set_option linter.unusedVariables false
set_option linter.unusedSimpArgs false
namespace Go.Proofs.YtbckeljbpknbdaaGreatDoor
open Go.RowKit
section
structure Xav (w : World) (B R L E : Nat) (D kd U m : Int) (s : ByteArray) (Z : World) (v : Value) (us : List Tok) : Prop where
 lo : w.heap.size + 3 ≤ E
 hB : B ≤ w.heap.size
 r0 : Z.heap[w.heap.size]? = some (.cells #[.pointer (some ⟨R, 0, none⟩)] 52 (0, 0))
 r1 : Z.heap[w.heap.size + 1]? = some (.cells #[.int .i64 D] 3 (0, 0))
 res : Z.heap[w.heap.size + 1 + 1]? = some (.cells #[.int .i64 0, .int .i64 0, .int .i64 0, .string ⟨#[]⟩, .slice none 0 0] 152 (0, 0))
 row : Z.heap[E]? = some (.cells #[.int .i64 kd, .int .i64 U, .int .i64 m, .string s, v] 152 (0, 0))
 arg : Z.heap[E + 1]? = some (.cells #[.func (.func 132) #[] #[.pointer (some ⟨E, 0, none⟩), .pointer (some ⟨w.heap.size, 0, none⟩), .pointer (some ⟨w.heap.size + 1, 0, none⟩)]] 1 (0, 0))
 rd : RdAt Z B R L us
 chg : Chg (fun b => b = R) w Z
theorem Yfm {w : World} {g : Nat} {a b c d e : Value} {t : TypeId} (h : w.heap[g]? = some (.cells #[a, b, c, d, e] t (0, 0))) (i : Nat) (u : Value) : (w.setCell ⟨g, i, none⟩ u).heap[g]? = some (.cells ((#[a, b, c, d, e] : Array Value).setIfInBounds i u) t (0, 0)) := by
 simp [World.setCell, Array.getElem?_modify, h]
section
variable {w Z Z' : World} {B R L E : Nat} {D kd U m : Int} {s : ByteArray} {v : Value} {xs : List Ex} {us us' : List Tok}
theorem Xav.put (h : Xav w B R L E D kd U m s Z v us) (i : Nat) (u : Value) {kd' U' m' : Int} {s' : ByteArray} {v' : Value} (hr : (#[.int .i64 kd, .int .i64 U, .int .i64 m, .string s, v] : Array Value).setIfInBounds i u = #[.int .i64 kd', .int .i64 U', .int .i64 m', .string s', v']) : Xav w B R L E D kd' U' m' s' (Z.setCell ⟨E, i, none⟩ u) v' us := by
 have hlo := h.lo
 have hB := h.hB
 have hrow := Yfm h.row i u
 rw [hr] at hrow
 refine ⟨h.lo, h.hB, ?_, ?_, ?_, hrow, ?_, h.rd.setCell _ _ (by show B ≤ E; omega), h.chg.setCell _ _ fun e => by have : E < w.heap.size := e; omega⟩
 · rw [Below.heap_setCell _ _ _ _ (by show _ ≠ E; omega)]; exact h.r0
 · rw [Below.heap_setCell _ _ _ _ (by show _ ≠ E; omega)]; exact h.r1
 · rw [Below.heap_setCell _ _ _ _ (by show _ ≠ E; omega)]; exact h.res
 · rw [Below.heap_setCell _ _ _ _ (by show _ ≠ E; omega)]; exact h.arg
theorem Xds {P : Nat → Prop} {lo E i : Nat} {u : Value} (hP : ∀ b, P b → lo ≤ b) (hE : E < lo) (h : Xaf Z P lo v xs) : Xaf (Z.setCell ⟨E, i, none⟩ u) P lo v xs := Xaf.keep h (by simp [World.setCell]) fun b hb hx => Below.heap_setCell _ _ _ _ (by
  show b ≠ E
  rcases hx with hx | hx
  · have := hP b hx; omega
  · have := (h.lt hx).1; omega)
theorem Xav.setK (h : Xav w B R L E D kd U m s Z v us) (k : Int) : Xav w B R L E D k U m s (Z.setCell ⟨E, 0, none⟩ (.int .i64 k)) v us := h.put 0 _ rfl
theorem Xav.setM (h : Xav w B R L E D kd U m s Z v us) (k : Int) : Xav w B R L E D kd U k s (Z.setCell ⟨E, 2, none⟩ (.int .i64 k)) v us := h.put 2 _ rfl
theorem Xav.setS (h : Xav w B R L E D kd U m s Z v us) (k : ByteArray) : Xav w B R L E D kd U m k (Z.setCell ⟨E, 3, none⟩ (.string k)) v us := h.put 3 _ rfl
theorem Xav.keep (h : Xav w B R L E D kd U m s Z v us) (hk : ∀ b, b < E + 2 → b ≠ R → Z'.heap[b]? = Z.heap[b]?) (hr : RdAt Z' B R L us') (hc : Chg (fun b => b = R) w Z') : Xav w B R L E D kd U m s Z' v us' := by
 have hlo := h.lo
 have hB := h.hB
 have hR := hr.lt
 exact ⟨h.lo, h.hB, (hk _ (by omega) (by omega)).trans h.r0, (hk _ (by omega) (by omega)).trans h.r1, (hk _ (by omega) (by omega)).trans h.res, (hk _ (by omega) (by omega)).trans h.row, (hk _ (by omega) (by omega)).trans h.arg, hr, hc⟩
theorem Xav.step (h : Xav w B R L E D kd U m s Z v us) (hr : RdAt Z' B R L us') (hc : Chg (fun b => b = R) Z Z') : Xav w B R L E D kd U m s Z' v us' :=
 h.keep (fun b hb hn => hc.block b (by have := Xac h.arg; omega) hn) hr (h.chg.up hc)
theorem Xav.cells (h : Xav w B R L E D kd U m s Z v us) : Z.cell? ⟨w.heap.size, 0, none⟩ = some (.pointer (some ⟨R, 0, none⟩)) ∧ Z.cell? ⟨w.heap.size + 1, 0, none⟩ = some (.int .i64 D) ∧
  Z.cell? ⟨E + 1, 0, none⟩ = some (.func (.func 132) #[] #[.pointer (some ⟨E, 0, none⟩), .pointer (some ⟨w.heap.size, 0, none⟩), .pointer (some ⟨w.heap.size + 1, 0, none⟩)]) :=
 ⟨by rw [cell_of_row Z _ 0 _ _ (0, 0) h.r0]; rfl, by rw [cell_of_row Z _ 0 _ _ (0, 0) h.r1]; rfl, by rw [cell_of_row Z _ 0 _ _ (0, 0) h.arg]; rfl⟩
theorem Xav.rows (h : Xav w B R L E D kd U m s Z v us) : Z.cell? ⟨E, 0, none⟩ = some (.int .i64 kd) ∧ Z.cell? ⟨E, 1, none⟩ = some (.int .i64 U) ∧ Z.cell? ⟨E, 2, none⟩ = some (.int .i64 m) ∧ Z.cell? ⟨E, 3, none⟩ = some (.string s) ∧ Z.cell? ⟨E, 4, none⟩ = some v ∧
  Z.frozen? ⟨E, 0, none⟩ = false ∧ Z.frozen? ⟨E, 1, none⟩ = false ∧ Z.frozen? ⟨E, 2, none⟩ = false ∧ Z.frozen? ⟨E, 3, none⟩ = false ∧ Z.frozen? ⟨E, 4, none⟩ = false := row5 h.row
theorem Xav.ress (h : Xav w B R L E D kd U m s Z v us) : Z.cell? ⟨w.heap.size + 1 + 1, 0, none⟩ = some (.int .i64 0) ∧ Z.cell? ⟨w.heap.size + 1 + 1, 1, none⟩ = some (.int .i64 0) ∧ Z.cell? ⟨w.heap.size + 1 + 1, 2, none⟩ = some (.int .i64 0) ∧ Z.cell? ⟨w.heap.size + 1 + 1, 3, none⟩ = some (.string ⟨#[]⟩) ∧ Z.cell? ⟨w.heap.size + 1 + 1, 4, none⟩ = some (.slice none 0 0) ∧
  Z.frozen? ⟨w.heap.size + 1 + 1, 0, none⟩ = false ∧ Z.frozen? ⟨w.heap.size + 1 + 1, 1, none⟩ = false ∧ Z.frozen? ⟨w.heap.size + 1 + 1, 2, none⟩ = false ∧ Z.frozen? ⟨w.heap.size + 1 + 1, 3, none⟩ = false ∧ Z.frozen? ⟨w.heap.size + 1 + 1, 4, none⟩ = false := row5 h.res
theorem Xav.ok (h0 : w.heap.size + 3 ≤ E) (hB : B ≤ w.heap.size) : FrOk w B R L (E + 2) w.heap.size (w.heap.size + 1) ⟨E, 4, none⟩ D (Xav w B R L E D kd U m s) where
 rd h := h.rd
 size h := by have := Xac h.arg; omega
 chg h := h.chg
 c0 h := h.cells.1
 c1 h := h.cells.2.1
 cv h := h.rows.2.2.2.2.1
 fz h := h.rows.2.2.2.2.2.2.2.2.2
 keep h hk _ hr hc := h.keep hk hr hc
 put v' h := h.put 4 _ rfl
 l0 := by omega
 l1 := by omega
 lv := by show E < E + 2; omega
 lB := by omega
 lw := by omega
 n0 := by show E ≠ _; omega
 n1 := by show E ≠ _; omega
theorem Xav.done (h : Xav w B R L E D kd U m s Z v us) (ho : Xaf Z (fun b => E + 2 ≤ b) (E + 2) v xs) {x : Ex} (hk : kd = x.kind) (hu : U = x.pl) (hm : m = x.num) (hs : s = Xab x.name) (hn : x.name.length ≤ 16384) (hx : xs = x.args) :
  Xaj (ExB w.heap.size) w B R L (.ok x us) (.returned (.agg #[.int .i64 kd, .int .i64 U, .int .i64 m, .string s, v]))
   (((((Z.setCell ⟨w.heap.size + 1 + 1, 0, none⟩ (.int .i64 kd)).setCell ⟨w.heap.size + 1 + 1, 1, none⟩ (.int .i64 U)).setCell ⟨w.heap.size + 1 + 1, 2, none⟩ (.int .i64 m)).setCell ⟨w.heap.size + 1 + 1, 3, none⟩ (.string s)).setCell ⟨w.heap.size + 1 + 1, 4, none⟩ v) := by
 subst hk hu hm hs hx
 have hc : Chg (fun b => b = w.heap.size + 1 + 1) Z (((((Z.setCell ⟨w.heap.size + 1 + 1, 0, none⟩ (.int .i64 x.kind)).setCell ⟨w.heap.size + 1 + 1, 1, none⟩ (.int .i64 x.pl)).setCell ⟨w.heap.size + 1 + 1, 2, none⟩ (.int .i64 x.num)).setCell ⟨w.heap.size + 1 + 1, 3, none⟩ (.string (Xab x.name))).setCell ⟨w.heap.size + 1 + 1, 4, none⟩ v) :=
  (((((Chg.refl (fun b => b = w.heap.size + 1 + 1) Z).setCell _ _ fun _ => rfl).setCell _ _ fun _ => rfl).setCell _ _ fun _ => rfl).setCell _ _ fun _ => rfl).setCell _ _ fun _ => rfl
 have hlo := h.lo
 have hB := h.hB
 have hlt := Xac h.row
 have hR := h.rd.lt
 refine ⟨⟨_, rfl, v, rfl, hn, ?_⟩, h.rd.keep fun b hb => hc.block b (by omega) (by omega), h.chg.trans hc fun b hb e => by omega⟩
 have h1 := Xaf.exsQ (Q := fun b => E + 2 ≤ b) ho (fun b hb => hb) (fun b hb => hb)
 exact h1.keep (fun b hb => hc.block b hb.2 (by have := hb.1; omega)) fun b hb => ⟨by have := hb.1; omega, Nat.lt_of_lt_of_le hb.2 hc.size⟩
theorem Xck {X w1 Y : World} {r : List Tok} (hB : B ≤ w.heap.size) (hR : R < w.heap.size) (hX : X = ((w.alloc (.cells #[.pointer (some ⟨R, 0, none⟩)] 52)).alloc (.cells #[.int .i64 D] 3)).alloc (.cells #[.int .i64 0, .int .i64 0, .int .i64 0, .string ⟨#[]⟩, .slice none 0 0] 152))
  (hr : RdAt w1 B R L r) (hc : Chg (fun b => b = R) X w1) (o : Obj) (hY : Y = ((w1.alloc o).alloc (.cells #[.int .i64 0, .int .i64 U, .int .i64 0, .string ⟨#[]⟩, .slice none 0 0] 152)).alloc
    (.cells #[.func (.func 132) #[] #[.pointer (some ⟨w1.heap.size + 1, 0, none⟩), .pointer (some ⟨w.heap.size, 0, none⟩), .pointer (some ⟨w.heap.size + 1, 0, none⟩)]] 1)) :
  Xav w B R L (w1.heap.size + 1) D 0 U 0 ⟨#[]⟩ Y (.slice none 0 0) r ∧ Y.heap[w1.heap.size]? = some o ∧ Below w1.heap.size w1 Y := by
 have hxs : X.heap.size = w.heap.size + 3 := by rw [hX]; simp
 have hbX : Below w.heap.size w X := by rw [hX]; exact ((Xae _ _).alloc (by simp) _).alloc (by simp; omega) _
 have hs1 := hc.size
 have hbY : Below w1.heap.size w1 Y := by rw [hY]; exact ((Xae _ _).alloc (by simp) _).alloc (by simp; omega) _
 have x0 : X.heap[w.heap.size]? = some (.cells #[.pointer (some ⟨R, 0, none⟩)] 52 (0, 0)) := by
  rw [hX, Below.heap_alloc _ _ _ (by simp; omega), Below.heap_alloc _ _ _ (by simp)]; exact heap_alloc_new _ _
 have x1 : X.heap[w.heap.size + 1]? = some (.cells #[.int .i64 D] 3 (0, 0)) := by
  rw [hX, Below.heap_alloc _ _ _ (by simp)]
  have := heap_alloc_new (w.alloc (.cells #[.pointer (some ⟨R, 0, none⟩)] 52)) (.cells #[.int .i64 D] 3)
  simpa using this
 have x2 : X.heap[w.heap.size + 1 + 1]? = some (.cells #[.int .i64 0, .int .i64 0, .int .i64 0, .string ⟨#[]⟩, .slice none 0 0] 152 (0, 0)) := by
  rw [hX]
  have := heap_alloc_new ((w.alloc (.cells #[.pointer (some ⟨R, 0, none⟩)] 52)).alloc (.cells #[.int .i64 D] 3)) (.cells #[.int .i64 0, .int .i64 0, .int .i64 0, .string ⟨#[]⟩, .slice none 0 0] 152)
  simpa using this
 have hk : ∀ g o, g < w.heap.size + 3 → g ≠ R → X.heap[g]? = some o → Y.heap[g]? = some o := fun g o h1 h2 h3 => (hbY.block g (by omega)).trans (hc.row h3 h2)
 refine ⟨⟨by omega, hB, hk _ _ (by omega) (by omega) x0, hk _ _ (by omega) (by omega) x1, hk _ _ (by omega) (by omega) x2, ?_, ?_, hr.below' (by omega) hbY, (Xbf hbX hc).up (Chg.of_below hbY)⟩, ?_, hbY⟩
 · rw [hY, Below.heap_alloc _ _ _ (by simp)]
   have := heap_alloc_new (w1.alloc o) (.cells #[.int .i64 0, .int .i64 U, .int .i64 0, .string ⟨#[]⟩, .slice none 0 0] 152)
   simpa using this
 · rw [hY]
   have := heap_alloc_new ((w1.alloc o).alloc (.cells #[.int .i64 0, .int .i64 U, .int .i64 0, .string ⟨#[]⟩, .slice none 0 0] 152)) (.cells #[.func (.func 132) #[] #[.pointer (some ⟨w1.heap.size + 1, 0, none⟩), .pointer (some ⟨w.heap.size, 0, none⟩), .pointer (some ⟨w.heap.size + 1, 0, none⟩)]] 1)
   simpa using this
 · rw [hY, Below.heap_alloc _ _ _ (by simp; omega), Below.heap_alloc _ _ _ (by simp)]; exact heap_alloc_new _ _
end
set_option maxRecDepth 100000 in
set_option maxHeartbeats 1000000 in
theorem br_any {w Z : World} {B R L E n : Nat} {D kd U m : Int} {s : ByteArray} {v : Value} {us : List Tok} (h : Xav w B R L E D kd U m s Z v us) {xs : List Ex} (hown : Xaf Z (fun b => E + 2 ≤ b) (E + 2) v xs) (hxs : xs.length ≤ 100) (hD0 : 0 ≤ D) (hD1 : D ≤ 24)
  (hE : ∀ (w : World) (us : List Tok), RdAt w B R L us → B ≤ w.heap.size → Calls Tryz.prog 110 #[.pointer (some ⟨R, 0, none⟩), .int .i64 (D + 1)] w (Xaj (ExB w.heap.size) w B R L (Xah L n us))) :
  Calls Tryz.prog 133 #[.pointer (some ⟨w.heap.size, 0, none⟩), .pointer (some ⟨E + 1, 0, none⟩)] Z (Xgv w R (E + 2) (Xav w B R L E D kd U m s) xs (brM L (Xah L n) us)) := by
 obtain ⟨q0, q1, q2⟩ := h.cells
 have HF0 := lh h
 have HO0 := lh hown
 have HE := lh hE
 have HM0 := lh (brM.eq_1 L (Xah L n) us)
 have HSZ : ∀ Z v us, Xav w B R L E D kd U m s Z v us → B ≤ Z.heap.size := fun _ _ _ h => by have := Xac h.arg; have := h.lo; have := h.hB; omega
 have HSZ := lh HSZ
 have HRL : Hid (R < E + 2) := lh (by have := h.rd.lt; have := h.hB; have := h.lo; omega)
 clear h hown hE
 go_enter Tryz.func133, Tryz.ntmps133
 go_wp2_with fail
 refine (Xan HF0.out.rd (HSZ.out _ _ _ HF0.out) [[40]] (by simp) (by decide)).mono ?_
 rintro e w1 hp
 cases hx : Xal L [[40]] us with
 | bad p c =>
   have HM1 := lh (HM0.out.trans (Xam hx))
   rw [hx] at hp
   obtain ⟨rfl, hc⟩ := hp
   have HC1 := lh (HF0.out.chg.up hc)
   clear hx hc
   unfold Xag
   go_wp2
   rw [HM1.out]
   exact ⟨rfl, rfl, HC1.out⟩
 | ok a1 u1 =>
   have HM1 := lh (HM0.out.trans (Xap hx))
   rw [hx] at hp
   obtain ⟨⟨v1, rfl, hv⟩, hr, hc⟩ := hp
   have HF1 := lh (HF0.out.step hr hc)
   have HO1 := lh (Xaq (fun b hb e => by have := HRL.out; omega) HRL.out HO0.out hc)
   clear hx hr hc hv q0 q1 q2
   obtain ⟨q0, q1, q2⟩ := HF1.out.cells
   go_wp2_with fail
   refine (Xmw (Xav.ok HF1.out.lo HF1.out.hB) HF1.out HO1.out hxs hD0 hD1 HE.out).mono ?_
   rintro e w2 hp
   cases hx : Xah L n u1 with
   | bad p c =>
     have HM2 := lh (HM1.out.trans (Xam hx))
     rw [hx] at hp
     obtain ⟨rfl, hc⟩ := hp
     have HC2 := lh hc
     clear hx hc
     unfold Xag
     go_wp2
     rw [HM2.out]
     exact ⟨rfl, rfl, HC2.out⟩
   | ok a2 u2 =>
     have HM2 := lh (HM1.out.trans (Xap hx))
     rw [hx] at hp
     obtain ⟨rfl, A, z, c, hf, ho⟩ := hp
     have HF2 := lh hf
     have HO2 := lh ho
     clear hx hf ho q0 q1 q2
     obtain ⟨q0, q1, q2⟩ := HF2.out.cells
     go_wp2_with fail
     refine (Xan HF2.out.rd (HSZ.out _ _ _ HF2.out) [[41]] (by simp) (by decide)).mono ?_
     rintro e w3 hp
     cases hx : Xal L [[41]] u2 with
     | bad p c =>
       have HM3 := lh (HM2.out.trans (Xbc hx))
       rw [hx] at hp
       obtain ⟨rfl, hc⟩ := hp
       have HC3 := lh (HF2.out.chg.up hc)
       clear hx hc
       unfold Xag
       go_wp2
       rw [HM3.out]
       exact ⟨rfl, rfl, HC3.out⟩
     | ok a3 u3 =>
       have HM3 := lh (HM2.out.trans (Xbi hx))
       rw [hx] at hp
       obtain ⟨⟨v3, rfl, hv⟩, hr, hc⟩ := hp
       have HF3 := lh (HF2.out.step hr hc)
       have HO3 := lh (Xaq (fun b hb e => by have := HRL.out; omega) HRL.out HO2.out hc)
       clear hx hr hc hv
       go_wp2
       go_end0
       rw [HM3.out]
       exact ⟨rfl, A, z, c, HF3.out, HO3.out⟩
end
set_option maxRecDepth 100000 in
set_option maxHeartbeats 4000000 in
theorem Xzr {w : World} {B R L n : Nat} {t : Tok} {r : List Tok} (h : RdAt w B R L (t :: r)) (hB : B ≤ w.heap.size) (D : Int) (hD0 : 0 ≤ D) (hD1 : D ≤ 24)
  (hE : ∀ (w : World) (us : List Tok), RdAt w B R L us → B ≤ w.heap.size → Calls Tryz.prog 110 #[.pointer (some ⟨R, 0, none⟩), .int .i64 (D + 1)] w (Xaj (ExB w.heap.size) w B R L (Xah L n us))) (ht : t.text = [116, 114, 117, 101])
  {T : Rd Ex} (hM : T = .ok (.mk 2 t.pl 1 [] []) r) : Calls Tryz.prog 125 #[.pointer (some ⟨R, 0, none⟩), .int .i64 D] w (Xaj (ExB w.heap.size) w B R L T) := by
 have HHR := lh h
 obtain ⟨X, hX⟩ : ∃ X : World, X = ((w.alloc (.cells #[.pointer (some ⟨R, 0, none⟩)] 52)).alloc (.cells #[.int .i64 D] 3)).alloc (.cells #[.int .i64 0, .int .i64 0, .int .i64 0, .string ⟨#[]⟩, .slice none 0 0] 152) := ⟨_, rfl⟩
 have hbX : Below w.heap.size w X := by rw [hX]; exact ((Xae _ _).alloc (by simp) _).alloc (by simp; omega) _
 have hx0 : X.cell? ⟨w.heap.size, 0, none⟩ = some (.pointer (some ⟨R, 0, none⟩)) := by
  rw [hX]
  have h0 : (w.alloc (.cells #[.pointer (some ⟨R, 0, none⟩)] 52)).cell? ⟨w.heap.size, 0, none⟩ = some (.pointer (some ⟨R, 0, none⟩)) := by
   rw [cell_of_row _ _ 0 _ _ (0, 0) (heap_alloc_new w _)]; rfl
  exact Xaa (Xaa h0 _) _
 have HP := lh (Xbn (h.below' hB hbX) (Nat.le_trans hB hbX.size))
 obtain ⟨K, hK⟩ : ∃ K : Int, K = (t.kind : Nat) := ⟨_, rfl⟩
 obtain ⟨S, hS⟩ : ∃ S, S = Xab t.text := ⟨_, rfl⟩
 obtain ⟨U, hU⟩ : ∃ U : Int, U = (t.pl : Nat) := ⟨_, rfl⟩
 rw [← hK, ← hS, ← hU] at HP
 have HX := lh hX
 have HB := lh hB
 have HRW := lh (show R < w.heap.size by have := h.lt; omega)
 have HU := lh hU
 have HE := lh hE
 have HS := lh hS
 have HK := lh hK
 have hst : S.toList = [116, 114, 117, 101] := by rw [hS, Xad, ht]
 have HM := lh hM
 clear h hB hbX hU hX hE hS hK hM ht
 go_enter Tryz.func125, Tryz.ntmps125
 go_wp2_with fail
 rw [← HX.out]
 refine HP.out.mono ?_
 rintro e w1 ⟨rfl, hr, hc⟩
 have HR1 := lh hr
 have HC1 := lh hc
 clear hr hc hx0
 go_upto_region 5 with (fail)
 obtain ⟨Y, hY⟩ : ∃ Y : World, Y = ((w1.alloc (.cells #[.int .i64 K, .string S, .int .i64 U] 76)).alloc (.cells #[.int .i64 0, .int .i64 U, .int .i64 0, .string ⟨#[]⟩, .slice none 0 0] 152)).alloc
    (.cells #[.func (.func 132) #[] #[.pointer (some ⟨w1.heap.size + 1, 0, none⟩), .pointer (some ⟨w.heap.size, 0, none⟩), .pointer (some ⟨w.heap.size + 1, 0, none⟩)]] 1) := ⟨_, rfl⟩
 rw [← hY]
 obtain ⟨hf, ht0, hbY⟩ := Xck HB.out HRW.out HX.out HR1.out HC1.out _ hY
 have HFR : Hid (Y.heap[w1.heap.size]? = some (.cells #[.int .i64 K, .string S, .int .i64 U] 76 (0, 0))) := lh ht0
 obtain ⟨k0, k1, k2, -⟩ := row3 ht0
 have HF0 := lh hf
 have HO0 : Hid (Xaf Y (fun b => w1.heap.size + 1 + 2 ≤ b) (w1.heap.size + 1 + 2) (.slice none 0 0) []) := lh (Xaf.nil _ _ _)
 obtain ⟨q0, q1, q2⟩ := hf.cells
 obtain ⟨a0, a1, a2, a3, a4, z0, z1, z2, z3, z4⟩ := hf.rows
 obtain ⟨b0, b1, b2, b3, b4, f0, f1, f2, f3, f4⟩ := hf.ress
 clear hf ht0 hbY hY
 go_upto_region 34 with (fail)
 obtain ⟨Z, hZ⟩ : ∃ Z : World, Z = ((Y.setCell ⟨w1.heap.size + 1, 0, none⟩ (.int .i64 2)).setCell ⟨w1.heap.size + 1, 2, none⟩ (.int .i64 1)) := ⟨_, rfl⟩
 rw [← hZ]
 have HFZ : Hid (Xav w B R L (w1.heap.size + 1) D 2 U 1 ⟨#[]⟩ Z (.slice none 0 0) _) := lh (by rw [hZ]; exact ((HF0.out.setK 2).setM 1))
 have HOZ : Hid (Xaf Z (fun b => w1.heap.size + 1 + 2 ≤ b) (w1.heap.size + 1 + 2) (.slice none 0 0) []) := lh (by rw [hZ]; exact (Xds (fun b hb => hb) (by omega) (Xds (fun b hb => hb) (by omega) HO0.out)))
 clear hZ a0 a1 a2 a3 a4 z0 z1 z2 z3 z4 b0 b1 b2 b3 b4 f0 f1 f2 f3 f4
 obtain ⟨a0, a1, a2, a3, a4, -⟩ := HFZ.out.rows
 obtain ⟨b0, b1, b2, b3, b4, f0, f1, f2, f3, f4⟩ := HFZ.out.ress
 go_wp2
 refine bodyPost_ret (v := .agg #[.int .i64 2, .int .i64 U, .int .i64 1, .string ⟨#[]⟩, (.slice none 0 0)]) ?_ rfl ?_
 · clear HFZ HOZ
   simp [results, Tryz.results125, go_sem, b0, b1, b2, b3, b4]
 · rw [HM.out]
   exact HFZ.out.done HOZ.out rfl HU.out rfl rfl (by simp [Ex.name]) rfl
set_option maxRecDepth 100000 in
set_option maxHeartbeats 4000000 in
theorem Xvf {w : World} {B R L n : Nat} {t : Tok} {r : List Tok} (h : RdAt w B R L (t :: r)) (hB : B ≤ w.heap.size) (D : Int) (hD0 : 0 ≤ D) (hD1 : D ≤ 24)
  (hE : ∀ (w : World) (us : List Tok), RdAt w B R L us → B ≤ w.heap.size → Calls Tryz.prog 110 #[.pointer (some ⟨R, 0, none⟩), .int .i64 (D + 1)] w (Xaj (ExB w.heap.size) w B R L (Xah L n us))) (ht : t.text = [102, 97, 108, 115, 101])
  {T : Rd Ex} (hM : T = .ok (.mk 2 t.pl 0 [] []) r) : Calls Tryz.prog 125 #[.pointer (some ⟨R, 0, none⟩), .int .i64 D] w (Xaj (ExB w.heap.size) w B R L T) := by
 have HHR := lh h
 obtain ⟨X, hX⟩ : ∃ X : World, X = ((w.alloc (.cells #[.pointer (some ⟨R, 0, none⟩)] 52)).alloc (.cells #[.int .i64 D] 3)).alloc (.cells #[.int .i64 0, .int .i64 0, .int .i64 0, .string ⟨#[]⟩, .slice none 0 0] 152) := ⟨_, rfl⟩
 have hbX : Below w.heap.size w X := by rw [hX]; exact ((Xae _ _).alloc (by simp) _).alloc (by simp; omega) _
 have hx0 : X.cell? ⟨w.heap.size, 0, none⟩ = some (.pointer (some ⟨R, 0, none⟩)) := by
  rw [hX]
  have h0 : (w.alloc (.cells #[.pointer (some ⟨R, 0, none⟩)] 52)).cell? ⟨w.heap.size, 0, none⟩ = some (.pointer (some ⟨R, 0, none⟩)) := by
   rw [cell_of_row _ _ 0 _ _ (0, 0) (heap_alloc_new w _)]; rfl
  exact Xaa (Xaa h0 _) _
 have HP := lh (Xbn (h.below' hB hbX) (Nat.le_trans hB hbX.size))
 obtain ⟨K, hK⟩ : ∃ K : Int, K = (t.kind : Nat) := ⟨_, rfl⟩
 obtain ⟨S, hS⟩ : ∃ S, S = Xab t.text := ⟨_, rfl⟩
 obtain ⟨U, hU⟩ : ∃ U : Int, U = (t.pl : Nat) := ⟨_, rfl⟩
 rw [← hK, ← hS, ← hU] at HP
 have HX := lh hX
 have HB := lh hB
 have HRW := lh (show R < w.heap.size by have := h.lt; omega)
 have HU := lh hU
 have HE := lh hE
 have HS := lh hS
 have HK := lh hK
 have hst : S.toList = [102, 97, 108, 115, 101] := by rw [hS, Xad, ht]
 have HM := lh hM
 clear h hB hbX hU hX hE hS hK hM ht
 go_enter Tryz.func125, Tryz.ntmps125
 go_wp2_with fail
 rw [← HX.out]
 refine HP.out.mono ?_
 rintro e w1 ⟨rfl, hr, hc⟩
 have HR1 := lh hr
 have HC1 := lh hc
 clear hr hc hx0
 go_upto_region 5 with (fail)
 obtain ⟨Y, hY⟩ : ∃ Y : World, Y = ((w1.alloc (.cells #[.int .i64 K, .string S, .int .i64 U] 76)).alloc (.cells #[.int .i64 0, .int .i64 U, .int .i64 0, .string ⟨#[]⟩, .slice none 0 0] 152)).alloc
    (.cells #[.func (.func 132) #[] #[.pointer (some ⟨w1.heap.size + 1, 0, none⟩), .pointer (some ⟨w.heap.size, 0, none⟩), .pointer (some ⟨w.heap.size + 1, 0, none⟩)]] 1) := ⟨_, rfl⟩
 rw [← hY]
 obtain ⟨hf, ht0, hbY⟩ := Xck HB.out HRW.out HX.out HR1.out HC1.out _ hY
 have HFR : Hid (Y.heap[w1.heap.size]? = some (.cells #[.int .i64 K, .string S, .int .i64 U] 76 (0, 0))) := lh ht0
 obtain ⟨k0, k1, k2, -⟩ := row3 ht0
 have HF0 := lh hf
 have HO0 : Hid (Xaf Y (fun b => w1.heap.size + 1 + 2 ≤ b) (w1.heap.size + 1 + 2) (.slice none 0 0) []) := lh (Xaf.nil _ _ _)
 obtain ⟨q0, q1, q2⟩ := hf.cells
 obtain ⟨a0, a1, a2, a3, a4, z0, z1, z2, z3, z4⟩ := hf.rows
 obtain ⟨b0, b1, b2, b3, b4, f0, f1, f2, f3, f4⟩ := hf.ress
 clear hf ht0 hbY hY
 go_upto_region 34 with (fail)
 obtain ⟨Z, hZ⟩ : ∃ Z : World, Z = (Y.setCell ⟨w1.heap.size + 1, 0, none⟩ (.int .i64 2)) := ⟨_, rfl⟩
 rw [← hZ]
 have HFZ : Hid (Xav w B R L (w1.heap.size + 1) D 2 U 0 ⟨#[]⟩ Z (.slice none 0 0) _) := lh (by rw [hZ]; exact (HF0.out.setK 2))
 have HOZ : Hid (Xaf Z (fun b => w1.heap.size + 1 + 2 ≤ b) (w1.heap.size + 1 + 2) (.slice none 0 0) []) := lh (by rw [hZ]; exact (Xds (fun b hb => hb) (by omega) HO0.out))
 clear hZ a0 a1 a2 a3 a4 z0 z1 z2 z3 z4 b0 b1 b2 b3 b4 f0 f1 f2 f3 f4
 obtain ⟨a0, a1, a2, a3, a4, -⟩ := HFZ.out.rows
 obtain ⟨b0, b1, b2, b3, b4, f0, f1, f2, f3, f4⟩ := HFZ.out.ress
 go_wp2
 refine bodyPost_ret (v := .agg #[.int .i64 2, .int .i64 U, .int .i64 0, .string ⟨#[]⟩, (.slice none 0 0)]) ?_ rfl ?_
 · clear HFZ HOZ
   simp [results, Tryz.results125, go_sem, b0, b1, b2, b3, b4]
 · rw [HM.out]
   exact HFZ.out.done HOZ.out rfl HU.out rfl rfl (by simp [Ex.name]) rfl
set_option maxRecDepth 100000 in
set_option maxHeartbeats 4000000 in
theorem Yda {w : World} {B R L n : Nat} {t : Tok} {r : List Tok} (h : RdAt w B R L (t :: r)) (hB : B ≤ w.heap.size) (D : Int) (hD0 : 0 ≤ D) (hD1 : D ≤ 24)
  (hE : ∀ (w : World) (us : List Tok), RdAt w B R L us → B ≤ w.heap.size → Calls Tryz.prog 110 #[.pointer (some ⟨R, 0, none⟩), .int .i64 (D + 1)] w (Xaj (ExB w.heap.size) w B R L (Xah L n us))) (ht : t.text = [110, 105, 108])
  {T : Rd Ex} (hM : T = .ok (.mk 3 t.pl 0 [] []) r) : Calls Tryz.prog 125 #[.pointer (some ⟨R, 0, none⟩), .int .i64 D] w (Xaj (ExB w.heap.size) w B R L T) := by
 have HHR := lh h
 obtain ⟨X, hX⟩ : ∃ X : World, X = ((w.alloc (.cells #[.pointer (some ⟨R, 0, none⟩)] 52)).alloc (.cells #[.int .i64 D] 3)).alloc (.cells #[.int .i64 0, .int .i64 0, .int .i64 0, .string ⟨#[]⟩, .slice none 0 0] 152) := ⟨_, rfl⟩
 have hbX : Below w.heap.size w X := by rw [hX]; exact ((Xae _ _).alloc (by simp) _).alloc (by simp; omega) _
 have hx0 : X.cell? ⟨w.heap.size, 0, none⟩ = some (.pointer (some ⟨R, 0, none⟩)) := by
  rw [hX]
  have h0 : (w.alloc (.cells #[.pointer (some ⟨R, 0, none⟩)] 52)).cell? ⟨w.heap.size, 0, none⟩ = some (.pointer (some ⟨R, 0, none⟩)) := by
   rw [cell_of_row _ _ 0 _ _ (0, 0) (heap_alloc_new w _)]; rfl
  exact Xaa (Xaa h0 _) _
 have HP := lh (Xbn (h.below' hB hbX) (Nat.le_trans hB hbX.size))
 obtain ⟨K, hK⟩ : ∃ K : Int, K = (t.kind : Nat) := ⟨_, rfl⟩
 obtain ⟨S, hS⟩ : ∃ S, S = Xab t.text := ⟨_, rfl⟩
 obtain ⟨U, hU⟩ : ∃ U : Int, U = (t.pl : Nat) := ⟨_, rfl⟩
 rw [← hK, ← hS, ← hU] at HP
 have HX := lh hX
 have HB := lh hB
 have HRW := lh (show R < w.heap.size by have := h.lt; omega)
 have HU := lh hU
 have HE := lh hE
 have HS := lh hS
 have HK := lh hK
 have hst : S.toList = [110, 105, 108] := by rw [hS, Xad, ht]
 have HM := lh hM
 clear h hB hbX hU hX hE hS hK hM ht
 go_enter Tryz.func125, Tryz.ntmps125
 go_wp2_with fail
 rw [← HX.out]
 refine HP.out.mono ?_
 rintro e w1 ⟨rfl, hr, hc⟩
 have HR1 := lh hr
 have HC1 := lh hc
 clear hr hc hx0
 go_upto_region 5 with (fail)
 obtain ⟨Y, hY⟩ : ∃ Y : World, Y = ((w1.alloc (.cells #[.int .i64 K, .string S, .int .i64 U] 76)).alloc (.cells #[.int .i64 0, .int .i64 U, .int .i64 0, .string ⟨#[]⟩, .slice none 0 0] 152)).alloc
    (.cells #[.func (.func 132) #[] #[.pointer (some ⟨w1.heap.size + 1, 0, none⟩), .pointer (some ⟨w.heap.size, 0, none⟩), .pointer (some ⟨w.heap.size + 1, 0, none⟩)]] 1) := ⟨_, rfl⟩
 rw [← hY]
 obtain ⟨hf, ht0, hbY⟩ := Xck HB.out HRW.out HX.out HR1.out HC1.out _ hY
 have HFR : Hid (Y.heap[w1.heap.size]? = some (.cells #[.int .i64 K, .string S, .int .i64 U] 76 (0, 0))) := lh ht0
 obtain ⟨k0, k1, k2, -⟩ := row3 ht0
 have HF0 := lh hf
 have HO0 : Hid (Xaf Y (fun b => w1.heap.size + 1 + 2 ≤ b) (w1.heap.size + 1 + 2) (.slice none 0 0) []) := lh (Xaf.nil _ _ _)
 obtain ⟨q0, q1, q2⟩ := hf.cells
 obtain ⟨a0, a1, a2, a3, a4, z0, z1, z2, z3, z4⟩ := hf.rows
 obtain ⟨b0, b1, b2, b3, b4, f0, f1, f2, f3, f4⟩ := hf.ress
 clear hf ht0 hbY hY
 go_upto_region 34 with (fail)
 obtain ⟨Z, hZ⟩ : ∃ Z : World, Z = (Y.setCell ⟨w1.heap.size + 1, 0, none⟩ (.int .i64 3)) := ⟨_, rfl⟩
 rw [← hZ]
 have HFZ : Hid (Xav w B R L (w1.heap.size + 1) D 3 U 0 ⟨#[]⟩ Z (.slice none 0 0) _) := lh (by rw [hZ]; exact (HF0.out.setK 3))
 have HOZ : Hid (Xaf Z (fun b => w1.heap.size + 1 + 2 ≤ b) (w1.heap.size + 1 + 2) (.slice none 0 0) []) := lh (by rw [hZ]; exact (Xds (fun b hb => hb) (by omega) HO0.out))
 clear hZ a0 a1 a2 a3 a4 z0 z1 z2 z3 z4 b0 b1 b2 b3 b4 f0 f1 f2 f3 f4
 obtain ⟨a0, a1, a2, a3, a4, -⟩ := HFZ.out.rows
 obtain ⟨b0, b1, b2, b3, b4, f0, f1, f2, f3, f4⟩ := HFZ.out.ress
 go_wp2
 refine bodyPost_ret (v := .agg #[.int .i64 3, .int .i64 U, .int .i64 0, .string ⟨#[]⟩, (.slice none 0 0)]) ?_ rfl ?_
 · clear HFZ HOZ
   simp [results, Tryz.results125, go_sem, b0, b1, b2, b3, b4]
 · rw [HM.out]
   exact HFZ.out.done HOZ.out rfl HU.out rfl rfl (by simp [Ex.name]) rfl
end Go.Proofs.YtbckeljbpknbdaaGreatDoor
