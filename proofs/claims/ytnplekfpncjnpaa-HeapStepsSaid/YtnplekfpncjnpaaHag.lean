/- The heap's function Store. -/
import Derived.Test.YtnplekfpncjnpaaHaf
set_option linter.unusedVariables false
set_option linter.unusedSimpArgs false
namespace Go.Proofs.Ytnplekfpncjnpaa
open Go.RowKit

theorem ownsRow_set {w : World} {base : Nat} {e : TypeId} {size n g cap : Nat} {xs : List Value} (h : w.ownsRow base e size (.slice (some ⟨g, 0, none⟩) n cap) n xs) (i : Nat) (u : Value) : (w.setCell ⟨g, i, none⟩ u).ownsRow base e size (.slice (some ⟨g, 0, none⟩) n cap) n (xs.set i u) := by
  refine ⟨by rw [List.length_set]; exact h.1, ?_⟩
  rcases h.2 with ⟨h1, -⟩ | ⟨g', cap', cur, hv, hbg, hg, hc1, hc2, hc3, hc4⟩
  · cases h1
  · cases hv
    refine .inr ⟨g, cap, cur.setIfInBounds i u, rfl, hbg, ?_, hc1, hc2, by simpa using hc3, ?_⟩
    · rw [setCell_eq_setRow w g i cur _ _ u hg, setRow_heap w g cur _ _ _ hg]
    · rw [← hc4, Array.toList_setIfInBounds, List.take_set]
theorem wflat_set : ∀ (ws : List Wd) (k : Nat) (x : Wd), k < ws.length → ((ws.set k x).map wcells).flatten = ((ws.map wcells).flatten.set (k * 2) (.int .i64 x.v)).set (k * 2 + 1) (.int .i64 x.s)
  | [], k, x, h => absurd h (by simp)
  | a :: r, 0, x, h => by simp [wcells]
  | a :: r, k + 1, x, h => by
    have ih := wflat_set r k x (by simpa using h)
    rw [List.set_cons_succ, List.map_cons, List.flatten_cons, ih, List.map_cons, List.flatten_cons]
    show [Value.int .i64 a.v, .int .i64 a.s] ++ _ = _
    rw [show (k + 1) * 2 + 1 = (k * 2 + 1) + 1 + 1 from by omega, show (k + 1) * 2 = (k * 2) + 1 + 1 from by omega]
    rfl
/-- what is not the heap's stays as it was -/
def Foreign (w w' : World) (h g : Nat) (A : List Value) : Prop := ∀ b, b < w.heap.size → b ≠ h → b ≠ g → (∀ (i : Nat) (u : Value), A[i]? = some u → u.ownBlock ≠ some b) → w'.heap[b]? = w.heap[b]?
theorem Foreign.refl (w : World) (h g : Nat) (A : List Value) : Foreign w w h g A := fun _ _ _ _ _ => rfl
theorem Foreign.after {w w1 w' : World} {h g : Nat} {A : List Value} (hb : Below w.heap.size w w1) (hf : Foreign w1 w' h g A) : Foreign w w' h g A := fun b h1 h2 h3 h4 => (hf b (Nat.lt_of_lt_of_le h1 hb.size) h2 h3 h4).trans (hb.block b h1)
theorem Foreign.below {w w' : World} (hb : Below w.heap.size w w') (h g : Nat) (A : List Value) : Foreign w w' h g A := fun b h1 _ _ _ => hb.block b h1
/-- a block that is not the heap's -/
def NotMine (h g : Nat) (A : List Value) (b : Nat) : Prop := b ≠ h ∧ b ≠ g ∧ ∀ (i : Nat) (u : Value), A[i]? = some u → u.ownBlock ≠ some b
theorem HpRaw.notMine {w : World} {base h g c : Nat} {A : List Value} {H : Hp} (X : HpRaw w base h g c A H) {b : Nat} (hb : w.heap.size ≤ b) : NotMine h g A b :=
  ⟨by have := heap_lt X.box; omega, by have := heap_lt X.row; omega, fun i u hu e => by have := (X.lt hu e).2; omega⟩
theorem HpRaw.notMine_low {w : World} {base h g c : Nat} {A : List Value} {H : Hp} (X : HpRaw w base h g c A H) {b : Nat} (hb : b < base) : NotMine h g A b :=
  ⟨by have := X.hb; omega, by have := X.gb; omega, fun i u hu e => by have := (X.lt hu e).1; omega⟩
theorem Foreign.at_ {w w' : World} {h g : Nat} {A : List Value} (hf : Foreign w w' h g A) {b : Nat} (hb : b < w.heap.size) (hn : NotMine h g A b) : w'.heap[b]? = w.heap[b]? := hf b hb hn.1 hn.2.1 hn.2.2
/-- another word -/
theorem HpAt.stored {w : World} {base h g c : Nat} {A : List Value} {H : Hp} (X : HpAt w base h g c A H) {t k : Nat} (ht : t < H.length) (hk : k < (getM H t).ws.length) {gw n d : Nat} (hv : A[2 * t]? = some (.slice (some ⟨gw, 0, none⟩) n d)) (x : Wd) {W : World}
    (hW : ((w.setCell ⟨gw, k * 2, none⟩ (.int .i64 x.v)).setCell ⟨gw, k * 2 + 1, none⟩ (.int .i64 x.s)).drew = W) : HpAt W base h g c A (H.set t ⟨(getM H t).ws.set k x, (getM H t).os⟩) ∧ Below base w W ∧ Foreign w W h g A := by
  have hoth : ∀ b, b ≠ gw → W.heap[b]? = w.heap[b]? := fun b hb => by
    subst hW
    exact (Below.heap_setCell _ _ _ b hb).trans (Below.heap_setCell _ _ _ b hb)
  have hsz : W.heap.size = w.heap.size := by subst hW; simp
  obtain ⟨v, hv', hr⟩ := X.wr t ht
  rw [hv] at hv'
  cases hv'
  have hn : n = (getM H t).ws.length := by obtain ⟨_, _, e, _⟩ := hr.form; cases e; rfl
  subst hn
  have hset : A.set (2 * t) (.slice (some ⟨gw, 0, none⟩) (getM H t).ws.length d) = A := by
    apply List.ext_getElem?
    intro i
    rw [List.getElem?_set]
    split
    · rename_i e; subst e
      rw [hv]
      split
      · rfl
      · rename_i h1
        have := (List.getElem?_eq_some_iff.1 hv).1
        omega
    · rfl
  have hR : RowW W base ((getM H t).ws.set k x) (.slice (some ⟨gw, 0, none⟩) (getM H t).ws.length d) := by
    have h1 := ownsRow_set (ownsRow_set hr (k * 2) (.int .i64 x.v)) (k * 2 + 1) (.int .i64 x.s)
    rw [← wflat_set _ k x hk] at h1
    unfold RowW
    rw [List.length_set]
    refine ownsRow_keep h1 (fun b _ => ?_)
    subst hW; rfl
  have hlt := X.lt hv rfl
  have hfar := X.far _ _ gw hv rfl
  have key := X.toHpRaw.turned (w' := W) (v' := .slice (some ⟨gw, 0, none⟩) (getM H t).ws.length d) ht hv ⟨(getM H t).ws.set k x, (getM H t).os⟩ (.inl ⟨rfl, rfl, hR⟩) (fun b _ _ hne _ => hoth b (fun e => hne (by rw [e]; rfl)))
    (by rw [hset, hoth g (fun e => hfar.2 e.symm)]; exact X.row) (.inl rfl)
  rw [hset] at key
  have hg := X.good.get t
  refine ⟨⟨key, good_set X.good t ⟨by simpa using hg.1, by simpa using hg.2⟩⟩, ?_⟩
  have hlo : base ≤ gw := hlt.1
  exact ⟨⟨by subst hW; rfl, by subst hW; rfl, by subst hW; rfl, by rw [hsz]; exact Nat.le_refl _, fun b hb => hoth b (by omega)⟩, fun b _ _ _ h4 => hoth b (fun e => h4 _ _ hv (by rw [e]; rfl))⟩

def StorePost (w : World) (base h g c : Nat) (A : List Value) (r : Hp × Bool) (e : Ending) (w' : World) : Prop := e = .returned (.bool r.2) ∧ HpAt w' base h g c A r.1 ∧ Below base w w' ∧ Foreign w w' h g A
set_option maxRecDepth 100000 in
set_option maxHeartbeats 1000000 in
theorem store_any {w : World} {base h g c : Nat} {A : List Value} {H : Hp} (X : HpAt w base h g c A H) (hbase : base ≤ w.heap.size) (a : Int) (ha : In64 a) (x : Wd) :
    Calls Try.prog 13 #[.pointer (some ⟨h, 0, none⟩), .int .i64 a, wagg x] w (StorePost w base h g c A (storeM H a x)) := by
  have HW := Lib.hid (fun o : Obj => word_any (X.below ((Below.refl _ w).alloc (Nat.le_refl _) o)) a ha)
  have HX := Lib.hid (fun o : Obj => X.below ((Below.refl _ w).alloc (Nat.le_refl _) o))
  have HB := Lib.hid (fun o : Obj => (Below.refl base w).alloc hbase o)
  have HFN := Lib.hid (fun o : Obj => (Below.refl w.heap.size w).alloc (Nat.le_refl _) o)
  obtain ⟨xv, xs⟩ := x
  unfold storeM wagg
  cases hp : place H a with
  | none =>
    rw [hp] at HW
    unfold placeV at HW
    clear X ha hp hbase
    dsimp only
    go_enter Try.func13, Try.ntmps13
    go_wp2_with fail
    refine (HW.out _).mono ?_
    rintro e w2 ⟨rfl, rfl⟩
    go_wp2
    go_ret
    exact ⟨rfl, HX.out _, HB.out _, Foreign.below (HFN.out _) _ _ _⟩
  | some q =>
    obtain ⟨t, k⟩ := q
    rw [hp] at HW
    unfold placeV at HW
    obtain ⟨hk, -, ht, hkl⟩ := place_some hp
    obtain ⟨hc, hlt, hglt, h4⟩ := X.seen
    obtain ⟨B, d, hw, hd, hA, hrow, h64⟩ := X.words ht
    obtain ⟨gw, cap, hv, -, -, hgw, k0, k1, kf⟩ := hrow.at_ k hkl
    cases hv
    have HS := Lib.hid (fun (o : Obj) (W : World) (hW : (((w.alloc o).setCell ⟨gw, k * 2, none⟩ (.int .i64 xv)).setCell ⟨gw, k * 2 + 1, none⟩ (.int .i64 xs)).drew = W) => (HX.out o).stored ht hkl hA ⟨xv, xs⟩ hW)
    have hcap := X.cap
    obtain ⟨ov, hov⟩ : ∃ v, v = (getM H t).ws[k].v := ⟨_, rfl⟩
    obtain ⟨os, hos⟩ : ∃ v, v = (getM H t).ws[k].s := ⟨_, rfl⟩
    rw [← hov] at k0
    rw [← hos] at k1
    dsimp only
    obtain ⟨H', hH'⟩ : ∃ H', H' = H.set t ⟨(getM H t).ws.set k ⟨xv, xs⟩, (getM H t).os⟩ := ⟨_, rfl⟩
    rw [← hH'] at HS ⊢
    obtain ⟨n, hn⟩ : ∃ n, n = H.length := ⟨_, rfl⟩
    obtain ⟨m, hm⟩ : ∃ m, m = (getM H t).ws.length := ⟨_, rfl⟩
    rw [← hn] at hc ht h4 hcap
    rw [← hm] at hw hd h64 hkl
    have a0 := fun o : Obj => alloc_cell hc hlt o
    have a1 := fun o : Obj => alloc_cell hw hglt o
    have a2 := fun o : Obj => alloc_cell k0 hgw o
    have a3 := fun o : Obj => alloc_cell k1 hgw o
    have a4 : ∀ (o : Obj) (j : Nat), (w.alloc o).frozen? ⟨gw, j, none⟩ = false := fun o j => (World.frozen?_of_block (Below.heap_alloc w o gw hgw)).trans (kf j)
    have s0 : ∀ o : Obj, (w.alloc o).heap.size = w.heap.size + 1 := fun o => by simp
    have b0 := two_c0 w (.int .i64 xv) (.int .i64 xs) 40
    have b1 := two_c1 w (.int .i64 xv) (.int .i64 xs) 40
    clear X ha hp hn hm hH' hrow hA hov hos
    go_enter Try.func13, Try.ntmps13
    go_wp2_with fail
    refine (HW.out _).mono ?_
    rintro e w2 ⟨rfl, rfl⟩
    have HS := Lib.hid (HS.out (.cells #[.int .i64 xv, .int .i64 xs] 40))
    have HFN := Lib.hid (HFN.out (.cells #[.int .i64 xv, .int .i64 xs] 40))
    have HB := Lib.hid (HB.out (.cells #[.int .i64 xv, .int .i64 xs] 40))
    have a0 := a0 (.cells #[.int .i64 xv, .int .i64 xs] 40)
    have a1 := a1 (.cells #[.int .i64 xv, .int .i64 xs] 40)
    have a2 := a2 (.cells #[.int .i64 xv, .int .i64 xs] 40)
    have a3 := a3 (.cells #[.int .i64 xv, .int .i64 xs] 40)
    have a4 := a4 (.cells #[.int .i64 xv, .int .i64 xs] 40)
    have s0 := s0 (.cells #[.int .i64 xv, .int .i64 xs] 40)
    generalize w.alloc (.cells #[.int .i64 xv, .int .i64 xs] 40) = V at HS HB HFN a0 a1 a2 a3 a4 s0 b0 b1 ⊢
    obtain ⟨z, hz⟩ : ∃ z, z = w.heap.size := ⟨_, rfl⟩
    rw [← hz] at s0 b0 b1 ⊢
    have hzl : z < V.heap.size := by omega
    have hgV : gw < V.heap.size := by omega
    clear HW hlt hglt hc hw k0 k1 kf s0 hz
    go_wp2
    go_region
    generalize hW : ((V.setCell ⟨gw, k * 2, none⟩ (.int .i64 xv)).setCell ⟨gw, k * 2 + 1, none⟩ (.int .i64 xs)).drew = W
    have HF := Lib.hid (HS.out W hW)
    clear hW a0 a1 a2 a3 a4 b0 b1
    go_wp2
    go_ret
    exact ⟨rfl, HF.out.1, HB.out.trans HF.out.2.1, Foreign.after HFN.out HF.out.2.2⟩

end Go.Proofs.Ytnplekfpncjnpaa
