/- Plain lists and numbers: what Chain and Height compute. -/
import Derived.Test.YtogmiofmhmbhbaaPu
namespace Go.Proofs.Ytogmiofmhmbhbaa

def anot (a b : Nat) : Nat := a &&& (18446744073709551615 - b)
/-- may the level k come next, behind those of dn? -/
def nextB (down : List Nat) (dn k : Nat) : Bool := anot (gd down k) dn == pw k
def pick (down : List Nat) (dn : Nat) : Option Nat := (List.range down.length).find? (nextB down dn)
def chStep (down : List Nat) (s : List Int × Nat) : List Int × Nat := match pick down s.2 with | some k => (s.1 ++ [(k : Int)], s.2 ||| pw k) | none => s
def chTo (down : List Nat) : Nat → List Int × Nat
  | 0 => ([], 0)
  | i + 1 => chStep down (chTo down i)
def chainL (down : List Nat) : List Int := (chTo down down.length).1

theorem pick_hit {down : List Nat} {dn k : Nat} (hk : k < down.length) (h : nextB down dn k = true) (ho : ∀ j, j < k → nextB down dn j = false) : pick down dn = some k := by
  unfold pick
  rw [List.find?_eq_some_iff_getElem]
  refine ⟨h, k, by simpa using hk, by simp, fun j hj => ?_⟩
  have := ho j hj
  simp [this]
theorem pick_miss {down : List Nat} {dn : Nat} (ho : ∀ j, j < down.length → nextB down dn j = false) : pick down dn = none := by
  unfold pick
  rw [List.find?_eq_none]
  intro x hx
  rw [List.mem_range] at hx
  simp [ho x hx]
theorem pick_lt {down : List Nat} {dn k : Nat} (h : pick down dn = some k) : k < down.length := by
  have := List.mem_of_find?_eq_some h
  simpa using this
theorem chTo_hit {down : List Nat} {i k : Nat} (h : pick down (chTo down i).2 = some k) : chTo down (i + 1) = ((chTo down i).1 ++ [(k : Int)], (chTo down i).2 ||| pw k) := by
  show chStep down (chTo down i) = _
  unfold chStep; rw [h]
theorem chTo_miss {down : List Nat} {i : Nat} (h : pick down (chTo down i).2 = none) : chTo down (i + 1) = chTo down i := by
  show chStep down (chTo down i) = _
  unfold chStep; rw [h]
theorem chTo_len (down : List Nat) (i : Nat) : (chTo down i).1.length ≤ i := by
  induction i with
  | zero => simp [chTo]
  | succ i ih =>
    cases h : pick down (chTo down i).2 with
    | none => rw [chTo_miss h]; omega
    | some k => rw [chTo_hit h]; simp; omega
theorem chTo_bd (down : List Nat) (h8 : down.length ≤ 8) (i : Nat) : (chTo down i).2 < 256 := by
  induction i with
  | zero => simp [chTo]
  | succ i ih =>
    cases h : pick down (chTo down i).2 with
    | none => rw [chTo_miss h]; exact ih
    | some k => rw [chTo_hit h]; exact or_256 ih (pw_256 (by have := pick_lt h; omega))
theorem chTo_range (down : List Nat) (i : Nat) : ∀ z ∈ (chTo down i).1, 0 ≤ z ∧ z < down.length := by
  induction i with
  | zero => simp [chTo]
  | succ i ih =>
    cases h : pick down (chTo down i).2 with
    | none => rw [chTo_miss h]; exact ih
    | some k =>
      rw [chTo_hit h]
      intro z hz
      rcases List.mem_append.1 hz with hz | hz
      · exact ih z hz
      · have := pick_lt h
        simp at hz
        omega
theorem chainL_len (down : List Nat) : (chainL down).length ≤ down.length := chTo_len ..
theorem chainL_range (down : List Nat) : ∀ z ∈ chainL down, 0 ≤ z ∧ z < down.length := chTo_range down _

/-! What Height computes. -/
def hgS (up : List Nat) (l : Nat) (hs : List Nat) (b : Nat) : List Nat := if (gd up b).testBit l then hs.set l (max (gd hs l) (gd hs b)) else hs
def hgIn (up : List Nat) (l : Nat) : Nat → List Nat → List Nat
  | 0, hs => hs
  | k + 1, hs => hgS up l (hgIn up l k hs) k
def hgStep (up : List Nat) (s : List Nat × Nat) (z : Int) : List Nat × Nat :=
  let h1 := hgIn up z.toNat up.length s.1
  (h1.set z.toNat (gd h1 z.toNat + 1), max s.2 (gd h1 z.toNat + 1))
def hgTo (up : List Nat) (zs : List Int) : List Nat × Nat := zs.foldl (hgStep up) (List.replicate up.length 0, 0)
def heightL (up down : List Nat) : Nat := (hgTo up (chainL down)).2
def Le (t : Nat) (hs : List Nat) : Prop := ∀ x ∈ hs, x ≤ t
theorem Le.gd {t : Nat} {hs : List Nat} (h : Le t hs) (k : Nat) : gd hs k ≤ t := by
  have := gd_bound (k := k) (B := t + 1) (by omega) (fun x hx => by have := h x hx; omega)
  omega
theorem Le.set {t : Nat} {hs : List Nat} (h : Le t hs) (i : Nat) {v : Nat} (hv : v ≤ t) : Le t (hs.set i v) := by
  intro x hx
  rcases List.mem_or_eq_of_mem_set hx with hx | rfl
  · exact h x hx
  · exact hv
theorem Le.mono {t t' : Nat} {hs : List Nat} (h : Le t hs) (ht : t ≤ t') : Le t' hs := fun x hx => Nat.le_trans (h x hx) ht
theorem hgS_len (up : List Nat) (l : Nat) (hs : List Nat) (b : Nat) : (hgS up l hs b).length = hs.length := by unfold hgS; split <;> simp
theorem hgIn_len (up : List Nat) (l k : Nat) (hs : List Nat) : (hgIn up l k hs).length = hs.length := by
  induction k with
  | zero => rfl
  | succ k ih => show (hgS up l (hgIn up l k hs) k).length = _; rw [hgS_len, ih]
theorem hgS_le {t : Nat} (up : List Nat) (l : Nat) {hs : List Nat} (b : Nat) (h : Le t hs) : Le t (hgS up l hs b) := by
  unfold hgS; split
  · exact h.set _ (by have := h.gd l; have := h.gd b; omega)
  · exact h
theorem hgIn_le {t : Nat} (up : List Nat) (l k : Nat) {hs : List Nat} (h : Le t hs) : Le t (hgIn up l k hs) := by
  induction k with
  | zero => exact h
  | succ k ih => exact hgS_le up l k ih
theorem hgTo_succ (up : List Nat) (zs : List Int) (k : Nat) (h : k < zs.length) : hgTo up (zs.take (k + 1)) = hgStep up (hgTo up (zs.take k)) (gi zs k) := by
  unfold hgTo; rw [take_gi zs k h, List.foldl_append]; rfl
theorem hgTo_len (up : List Nat) (zs : List Int) (k : Nat) (hk : k ≤ zs.length) : (hgTo up (zs.take k)).1.length = up.length := by
  induction k with
  | zero => simp [hgTo]
  | succ k ih => rw [hgTo_succ up zs k (by omega)]; simp [hgStep, hgIn_len, ih (by omega)]
theorem hgTo_le (up : List Nat) (zs : List Int) (k : Nat) (hk : k ≤ zs.length) : Le k (hgTo up (zs.take k)).1 ∧ (hgTo up (zs.take k)).2 ≤ k := by
  induction k with
  | zero =>
    refine ⟨fun x hx => ?_, by simp [hgTo]⟩
    simp [hgTo] at hx
    omega
  | succ k ih =>
    obtain ⟨h1, h2⟩ := ih (by omega)
    rw [hgTo_succ up zs k (by omega)]
    have h3 := hgIn_le up (gi zs k).toNat up.length h1
    have h4 := h3.gd (gi zs k).toNat
    refine ⟨(h3.mono (by omega)).set _ (by omega), ?_⟩
    simp only [hgStep]; omega
theorem gi_mem {zs : List Int} {k : Nat} (h : k < zs.length) : gi zs k ∈ zs := by
  have : gi zs k = zs[k] := by unfold gi; simp [h]
  rw [this]; exact List.getElem_mem h

end Go.Proofs.Ytogmiofmhmbhbaa
