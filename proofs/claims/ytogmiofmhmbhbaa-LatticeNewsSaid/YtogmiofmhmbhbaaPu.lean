/- Plain lists and numbers: what the functions of package lattice compute. -/
namespace Go.Proofs.Ytogmiofmhmbhbaa

/-- the k-th of a list, 0 behind its end -/
def gd (xs : List Nat) (k : Nat) : Nat := xs.getD k 0
theorem gd_lt {xs : List Nat} {k : Nat} (h : k < xs.length) : gd xs k = xs[k] := by
  unfold gd; simp [h]
theorem gd_mem {xs : List Nat} {k : Nat} (h : k < xs.length) : gd xs k ∈ xs := by
  rw [gd_lt h]; exact List.getElem_mem h
theorem gd_bound {xs : List Nat} {k B : Nat} (hB : 0 < B) (h : ∀ x ∈ xs, x < B) : gd xs k < B := by
  by_cases hk : k < xs.length
  · exact h _ (gd_mem hk)
  · unfold gd; simp [hk]; exact hB
theorem gd_set (xs : List Nat) (i k v : Nat) (hi : i < xs.length) : gd (xs.set i v) k = if i = k then v else gd xs k := by
  unfold gd
  simp only [List.getD_eq_getElem?_getD, List.getElem?_set]
  by_cases h : i = k
  · subst h; simp [hi]
  · simp [h]

/-- where a value first stands, -1: nowhere -/
def idx (xs : List Nat) (c : Nat) : Int := match xs.findIdx? (· == c) with | some k => k | none => -1

theorem idx_hit {xs : List Nat} {c k : Nat} (hk : k < xs.length) (h : gd xs k = c) (ho : ∀ j, j < k → gd xs j ≠ c) : idx xs c = k := by
  have e : xs.findIdx? (· == c) = some k := by
    rw [List.findIdx?_eq_some_iff_getElem]
    refine ⟨hk, by rw [gd_lt hk] at h; simp [h], fun j hj => ?_⟩
    have := ho j hj
    rw [gd_lt (by omega)] at this
    simpa using this
  unfold idx; rw [e]
theorem idx_miss {xs : List Nat} {c : Nat} (ho : ∀ j, j < xs.length → gd xs j ≠ c) : idx xs c = -1 := by
  have e : xs.findIdx? (· == c) = none := by
    rw [List.findIdx?_eq_none_iff]
    intro x hx
    obtain ⟨j, hj, rfl⟩ := List.getElem_of_mem hx
    have := ho j hj
    rw [gd_lt hj] at this
    simpa using this
  unfold idx; rw [e]
theorem idx_range (xs : List Nat) (c : Nat) : -1 ≤ idx xs c ∧ idx xs c < xs.length := by
  unfold idx
  split
  · next k h =>
    rw [List.findIdx?_eq_some_iff_getElem] at h
    obtain ⟨hk, _⟩ := h
    omega
  · omega

def gi (zs : List Int) (k : Nat) : Int := zs.getD k 0
def pw (n : Nat) : Nat := 2 ^ n
/-- the set of all levels -/
def full (n : Nat) : Nat := 2 ^ n - 1
theorem full_le (n : Nat) (h : n ≤ 8) : full n ≤ 255 := by
  have : 2 ^ n ≤ 2 ^ 8 := Nat.pow_le_pow_right (by omega) h
  unfold full; omega
/-- what the sets of all levels of a list have in common -/
def commonStep (xs : List Nat) (acc : Nat) (z : Int) : Nat := if 0 ≤ z ∧ z < xs.length then acc &&& gd xs z.toNat else acc
def common (xs : List Nat) (zs : List Int) : Nat := zs.foldl (commonStep xs) (full xs.length)

theorem take_gi (zs : List Int) (k : Nat) (h : k < zs.length) : zs.take (k + 1) = zs.take k ++ [gi zs k] := by
  rw [List.take_succ_eq_append_getElem h]; unfold gi; simp [h]
theorem common_in (xs : List Nat) (zs : List Int) (n k acc z : Nat) (hk : k < zs.length) (hn : xs.length = n) (hz : z < n) (e : gi zs k = z) (h : acc = (zs.take k).foldl (commonStep xs) (full n)) :
    acc &&& gd xs z = (zs.take (k + 1)).foldl (commonStep xs) (full n) := by
  rw [take_gi zs k hk, List.foldl_append, ← h, e]
  have : ((z : Int) < (xs.length : Int)) := by omega
  simp [commonStep, this]
theorem common_out (xs : List Nat) (zs : List Int) (n k acc : Nat) (hk : k < zs.length) (hn : xs.length = n) (hz : ¬ (0 ≤ gi zs k ∧ gi zs k < n)) (h : acc = (zs.take k).foldl (commonStep xs) (full n)) :
    acc = (zs.take (k + 1)).foldl (commonStep xs) (full n) := by
  rw [take_gi zs k hk, List.foldl_append, ← h]
  simp only [List.foldl_cons, List.foldl_nil, commonStep]
  rw [if_neg (by rw [hn]; exact hz)]
theorem common_all (xs : List Nat) (zs : List Int) (n k acc : Nat) (hk : zs.length ≤ k) (hn : xs.length = n) (h : acc = (zs.take k).foldl (commonStep xs) (full n)) : common xs zs = acc := by
  rw [h, List.take_of_length_le hk, common, hn]

/-- is a at most b? -/
def mst (up : List Nat) (a b : Int) : Bool := decide (0 ≤ a ∧ 0 ≤ b ∧ a < up.length ∧ b < up.length) && (gd up a.toNat).testBit b.toNat
theorem mst_in (up : List Nat) (a b : Nat) (ha : a < up.length) (hb : b < up.length) : mst up a b = (gd up a).testBit b := by
  have h1 : ((a : Int) < (up.length : Int)) := by omega
  have h2 : ((b : Int) < (up.length : Int)) := by omega
  simp [mst, h1, h2]
theorem mst_out (up : List Nat) (a b : Int) (h : ¬ (0 ≤ a ∧ 0 ≤ b ∧ a < up.length ∧ b < up.length)) : mst up a b = false := by
  unfold mst; rw [decide_eq_false h]; rfl
/-- the level of what the sets of a list have in common; 0 if there is none -/
def lev (xs : List Nat) (zs : List Int) : Int := max (idx xs (common xs zs)) 0

/-! What 'reach' and 'turned' compute. -/
def initL (n k : Nat) : List Nat := (List.range n).map fun i => if i < k then pw i else 0
theorem initL_zero (n : Nat) : initL n 0 = List.replicate n 0 := by
  apply List.ext_getElem?; intro i
  by_cases hi : i < n <;> simp [initL, hi]
theorem initL_len (n k : Nat) : (initL n k).length = n := by simp [initL]
theorem initL_succ (n k : Nat) (h : k < n) : (initL n k).set k (pw k) = initL n (k + 1) := by
  apply List.ext_getElem?
  intro i
  rw [List.getElem?_set]
  by_cases e : k = i
  · subst e; simp [initL, h]
  · by_cases hi : i < n
    · have : (i < k) ↔ (i < k + 1) := by omega
      simp [initL, e, hi, this]
    · simp [initL, e, hi]
def addE (xs : List Nat) (e : Int × Int) : List Nat := xs.set e.1.toNat (gd xs e.1.toNat ||| pw e.2.toNat)
def addEs (xs : List Nat) (es : List (Int × Int)) : List Nat := es.foldl addE xs
def rowS (m : Nat) (xs : List Nat) (l : Nat) : List Nat := if (gd xs l).testBit m then xs.set l (gd xs l ||| gd xs m) else xs
def rowL (m k : Nat) (xs : List Nat) : List Nat := (List.range k).foldl (rowS m) xs
def closeL (n k : Nat) (xs : List Nat) : List Nat := (List.range k).foldl (fun xs m => rowL m n xs) xs
def reachL (n : Nat) (es : List (Int × Int)) : List Nat := closeL n n (addEs (initL n n) es)
def turnS (l s : Nat) (xs : List Nat) (t : Nat) : List Nat := if s.testBit t then xs.set t (gd xs t ||| pw l) else xs
def turnR (l s k : Nat) (xs : List Nat) : List Nat := (List.range k).foldl (turnS l s) xs
def turnL (n k : Nat) (ss : List Nat) : List Nat := (List.range k).foldl (fun xs l => turnR l (gd ss l) n xs) (List.replicate n 0)
def turnedL (ss : List Nat) : List Nat := turnL ss.length ss.length ss

/-! Lengths and bounds. -/
def Bd (xs : List Nat) : Prop := ∀ x ∈ xs, x < 256
theorem Bd.gd {xs : List Nat} (h : Bd xs) (k : Nat) : gd xs k < 256 := gd_bound (by omega) h
theorem or_256 {a b : Nat} (ha : a < 256) (hb : b < 256) : a ||| b < 256 := Nat.or_lt_two_pow (n := 8) ha hb
theorem pw_256 {k : Nat} (h : k < 8) : pw k < 256 := Nat.pow_lt_pow_right (n := 8) (by omega) h
theorem Bd.set {xs : List Nat} (h : Bd xs) (i : Nat) {v : Nat} (hv : v < 256) : Bd (xs.set i v) := by
  intro x hx
  rcases List.mem_or_eq_of_mem_set hx with hx | rfl
  · exact h x hx
  · exact hv
theorem initL_bd (n k : Nat) (h8 : n ≤ 8) : Bd (initL n k) := by
  intro x hx
  simp only [initL, List.mem_map, List.mem_range] at hx
  obtain ⟨i, hi, rfl⟩ := hx
  split
  · exact pw_256 (by omega)
  · omega
def ge (es : List (Int × Int)) (k : Nat) : Int × Int := es.getD k (0, 0)
theorem ge_mem {es : List (Int × Int)} {k : Nat} (h : k < es.length) : ge es k ∈ es := by
  have : ge es k = es[k] := by unfold ge; simp [h]
  rw [this]; exact List.getElem_mem h
theorem take_ge (es : List (Int × Int)) (k : Nat) (h : k < es.length) : es.take (k + 1) = es.take k ++ [ge es k] := by
  rw [List.take_succ_eq_append_getElem h]; unfold ge; simp [h]
theorem addE_len (xs : List Nat) (e : Int × Int) : (addE xs e).length = xs.length := by simp [addE]
theorem addEs_len (es : List (Int × Int)) : ∀ xs : List Nat, (addEs xs es).length = xs.length := by
  induction es with
  | nil => intro xs; rfl
  | cons e es ih => intro xs; exact (ih (addE xs e)).trans (addE_len xs e)
theorem addEs_bd (n : Nat) (h8 : n ≤ 8) (es : List (Int × Int)) : ∀ xs : List Nat, (∀ e ∈ es, 0 ≤ e.1 ∧ e.1 < n ∧ 0 ≤ e.2 ∧ e.2 < n) → Bd xs → Bd (addEs xs es) := by
  induction es with
  | nil => intro xs _ h; exact h
  | cons e es ih =>
    intro xs he h
    refine ih _ (fun e' h' => he e' (List.mem_cons_of_mem _ h')) ?_
    have := he e (List.mem_cons_self ..)
    exact h.set _ (or_256 (h.gd _) (pw_256 (by omega)))
theorem addEs_take (xs : List Nat) (es : List (Int × Int)) (k a b : Nat) (h : k < es.length) (e : ge es k = ((a : Int), (b : Int))) :
    addEs xs (es.take (k + 1)) = (addEs xs (es.take k)).set a (gd (addEs xs (es.take k)) a ||| pw b) := by
  rw [take_ge es k h, addEs, List.foldl_append, e]
  simp [addE, addEs]
theorem rowS_len (m : Nat) (xs : List Nat) (l : Nat) : (rowS m xs l).length = xs.length := by unfold rowS; split <;> simp
theorem rowS_bd (m : Nat) {xs : List Nat} (l : Nat) (h : Bd xs) : Bd (rowS m xs l) := by
  unfold rowS; split
  · exact h.set _ (or_256 (h.gd _) (h.gd _))
  · exact h
theorem rowL_succ (m k : Nat) (xs : List Nat) : rowL m (k + 1) xs = rowS m (rowL m k xs) k := by
  unfold rowL; rw [List.range_succ, List.foldl_append]; rfl
theorem rowL_len (m k : Nat) (xs : List Nat) : (rowL m k xs).length = xs.length := by
  induction k with
  | zero => rfl
  | succ k ih => rw [rowL_succ, rowS_len, ih]
theorem rowL_bd (m k : Nat) {xs : List Nat} (h : Bd xs) : Bd (rowL m k xs) := by
  induction k with
  | zero => exact h
  | succ k ih => rw [rowL_succ]; exact rowS_bd m k ih
theorem closeL_succ (n k : Nat) (xs : List Nat) : closeL n (k + 1) xs = rowL k n (closeL n k xs) := by
  unfold closeL; rw [List.range_succ, List.foldl_append]; rfl
theorem closeL_len (n k : Nat) (xs : List Nat) : (closeL n k xs).length = xs.length := by
  induction k with
  | zero => rfl
  | succ k ih => rw [closeL_succ, rowL_len, ih]
theorem closeL_bd (n k : Nat) {xs : List Nat} (h : Bd xs) : Bd (closeL n k xs) := by
  induction k with
  | zero => exact h
  | succ k ih => rw [closeL_succ]; exact rowL_bd k n ih
theorem reachL_len (n : Nat) (es : List (Int × Int)) : (reachL n es).length = n := by
  unfold reachL; rw [closeL_len, addEs_len, initL_len]
theorem reachL_bd (n : Nat) (h8 : n ≤ 8) (es : List (Int × Int)) (he : ∀ e ∈ es, 0 ≤ e.1 ∧ e.1 < n ∧ 0 ≤ e.2 ∧ e.2 < n) : Bd (reachL n es) :=
  closeL_bd n n (addEs_bd n h8 es _ he (initL_bd n n h8))
theorem turnS_len (l s : Nat) (xs : List Nat) (t : Nat) : (turnS l s xs t).length = xs.length := by unfold turnS; split <;> simp
theorem turnS_bd (l s : Nat) {xs : List Nat} (t : Nat) (hl : l < 8) (h : Bd xs) : Bd (turnS l s xs t) := by
  unfold turnS; split
  · exact h.set _ (or_256 (h.gd _) (pw_256 hl))
  · exact h
theorem turnR_succ (l s k : Nat) (xs : List Nat) : turnR l s (k + 1) xs = turnS l s (turnR l s k xs) k := by
  unfold turnR; rw [List.range_succ, List.foldl_append]; rfl
theorem turnR_len (l s k : Nat) (xs : List Nat) : (turnR l s k xs).length = xs.length := by
  induction k with
  | zero => rfl
  | succ k ih => rw [turnR_succ, turnS_len, ih]
theorem turnR_bd (l s k : Nat) {xs : List Nat} (hl : l < 8) (h : Bd xs) : Bd (turnR l s k xs) := by
  induction k with
  | zero => exact h
  | succ k ih => rw [turnR_succ]; exact turnS_bd l s k hl ih
theorem turnL_succ (n k : Nat) (ss : List Nat) : turnL n (k + 1) ss = turnR k (gd ss k) n (turnL n k ss) := by
  unfold turnL; rw [List.range_succ, List.foldl_append]; rfl
theorem turnL_zero (n : Nat) (ss : List Nat) : turnL n 0 ss = List.replicate n 0 := rfl
theorem turnL_len (n k : Nat) (ss : List Nat) : (turnL n k ss).length = n := by
  induction k with
  | zero => simp [turnL_zero]
  | succ k ih => rw [turnL_succ, turnR_len, ih]
theorem turnL_bd (n k : Nat) (ss : List Nat) (hk : k ≤ 8) : Bd (turnL n k ss) := by
  induction k with
  | zero => intro x hx; rw [turnL_zero] at hx; have := List.eq_of_mem_replicate hx; omega
  | succ k ih => rw [turnL_succ]; exact turnR_bd k _ n (by omega) (ih (by omega))
theorem turnedL_len (ss : List Nat) : (turnedL ss).length = ss.length := turnL_len ..
theorem turnedL_bd (ss : List Nat) (h8 : ss.length ≤ 8) : Bd (turnedL ss) := turnL_bd _ _ _ h8

/-! What 'isLattice' says. -/
def okAB (up down : List Nat) (a b : Nat) : Bool :=
  decide (0 ≤ idx up (common up [(a : Int), (b : Int)])) && decide (0 ≤ idx down (common down [(a : Int), (b : Int)])) && !(decide (a ≠ b) && (gd up a).testBit b && (gd up b).testBit a)
def latB (up down : List Nat) : Bool := (List.range up.length).all fun a => (List.range up.length).all fun b => okAB up down a b
theorem latB_iff (up down : List Nat) : latB up down = true ↔ ∀ a, a < up.length → ∀ b, b < up.length → okAB up down a b = true := by
  unfold latB; simp [List.all_eq_true]
theorem latB_no {up down : List Nat} {a b : Nat} (ha : a < up.length) (hb : b < up.length) (h : okAB up down a b = false) : latB up down = false := by
  rw [Bool.eq_false_iff]
  intro ht
  rw [(latB_iff up down).1 ht a ha b hb] at h
  cases h
/-- all pairs ahead of (a, b) are right -/
def latTo (up down : List Nat) (a b : Nat) : Prop := (∀ x, x < a → ∀ y, y < up.length → okAB up down x y = true) ∧ ∀ y, y < b → okAB up down a y = true
theorem latTo_step {up down : List Nat} {a b : Nat} (h : latTo up down a b) (hk : okAB up down a b = true) : latTo up down a (b + 1) :=
  ⟨h.1, fun y hy => by
    by_cases e : y = b
    · subst e; exact hk
    · exact h.2 y (by omega)⟩
theorem latTo_next {up down : List Nat} {a b : Nat} (h : latTo up down a b) (hb : up.length ≤ b) : latTo up down (a + 1) 0 :=
  ⟨fun x hx y hy => by
    by_cases e : x = a
    · subst e; exact h.2 y (by omega)
    · exact h.1 x (by omega) y hy, fun y hy => absurd hy (by omega)⟩
theorem latTo_all {up down : List Nat} {a : Nat} (h : latTo up down a 0) (ha : up.length ≤ a) : latB up down = true :=
  (latB_iff up down).2 fun x hx y hy => h.1 x (by omega) y hy

/-! Which edges New refuses. -/
def wrongE (n : Int) (e : Int × Int) : Bool := decide (e.1 < 0) || decide (e.2 < 0) || decide (n ≤ e.1) || decide (n ≤ e.2)
def badEs (n : Int) (es : List (Int × Int)) : Bool := es.any (wrongE n)
theorem badEs_no {n : Int} {es : List (Int × Int)} (h : badEs n es = false) : ∀ e ∈ es, 0 ≤ e.1 ∧ e.1 < n ∧ 0 ≤ e.2 ∧ e.2 < n := by
  intro e he
  have := List.any_eq_false.1 h e he
  simp [wrongE] at this
  omega
theorem badEs_hit {n : Int} {es : List (Int × Int)} {k : Nat} (hk : k < es.length) (h : wrongE n (ge es k) = true) : badEs n es = true :=
  List.any_eq_true.2 ⟨_, ge_mem hk, h⟩
theorem badEs_miss {n : Int} {es : List (Int × Int)} {k : Nat} (hk : es.length ≤ k) (h : ∀ j, j < k → wrongE n (ge es j) = false) : badEs n es = false := by
  refine List.any_eq_false.2 fun e he => ?_
  obtain ⟨j, hj, rfl⟩ := List.getElem_of_mem he
  have := h j (by omega)
  have e2 : ge es j = es[j] := by unfold ge; simp [hj]
  rw [e2] at this
  simp [this]

end Go.Proofs.Ytogmiofmhmbhbaa
