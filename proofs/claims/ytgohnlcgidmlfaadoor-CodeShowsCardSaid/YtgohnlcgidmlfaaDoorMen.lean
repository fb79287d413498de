/- Package code: numbers, added to the text. -/
import Derived.Test.YtgohnlcgidmlfaaDoorMem
import Derived.Test.YtgohnlcgidmlfaaDoorMel
import Derived.Lib.ItoaLen
set_option linter.unusedVariables false
set_option linter.unusedSimpArgs false
namespace Go.Proofs.YtgohnlcgidmlfaaDoor
open Go.RowKit

/-- the text ts is the page in block g, its bytes in blocks from B on -/
def Pg (w : World) (B g : Nat) (ts : List UInt8) : Prop := ∃ sv, w.heap[g]? = some (.cells #[sv] 61 (0, 0)) ∧ w.ownsRow B 5 1 sv ts.length (Lib.byteCells ts) ∧ g < B ∧ B ≤ w.heap.size
/-- nothing that was there has turned, but the page and rows of bytes above B -/
structure Went (B g : Nat) (w w' : World) : Prop where
  os : w'.os = w.os
  tape : w'.tape = w.tape
  output : w'.output = w.output
  size : w.heap.size ≤ w'.heap.size
  below : ∀ b, b < B → b ≠ g → w'.heap[b]? = w.heap[b]?
  others : Lib.OthersKept 5 (some g) w w'
theorem Went.refl (B g : Nat) (w : World) : Went B g w w := ⟨rfl, rfl, rfl, Nat.le_refl _, fun _ _ _ => rfl, Lib.OthersKept.refl _ _ _⟩
theorem Went.trans {B g : Nat} {a b c : World} (h : Went B g a b) (k : Went B g b c) : Went B g a c :=
  ⟨k.os.trans h.os, k.tape.trans h.tape, k.output.trans h.output, Nat.le_trans h.size k.size, fun b hb hg => (k.below b hb hg).trans (h.below b hb hg), h.others.trans k.others⟩
theorem Went.alloc {B g : Nat} {a w : World} (h : Went B g a w) (hB : B ≤ w.heap.size) (o : Obj) : Went B g a (w.alloc o) :=
  ⟨h.os, h.tape, h.output, by rw [asz]; have := h.size; omega, fun b hb hg => (Below.heap_alloc _ _ _ (by omega)).trans (h.below b hb hg), h.others.alloc o⟩
theorem Went.set {B g : Nat} {a w : World} (h : Went B g a w) (j : Nat) (v : Value) : Went B g a (w.setCell ⟨g, j, none⟩ v) :=
  ⟨h.os, h.tape, h.output, by rw [csz]; exact h.size, fun b hb hg => (Below.heap_setCell _ _ _ b hg).trans (h.below b hb hg), h.others.setCell _ rfl v⟩
theorem Went.call {B g : Nat} {a w w' : World} (h : Went B g a w) (hb : Below B w w') (ho : Lib.OthersKept 5 none w w') : Went B g a w' :=
  h.trans ⟨hb.os, hb.tape, hb.output, hb.size, fun b hlt _ => hb.block b hlt, fun k o hk _ hx => ho k o hk (by simp) hx⟩
theorem Went.grown {B g : Nat} {a w w' : World} {sv : Value} {n : Nat} {xs : List Value} (h : Went B g a w) (hB : B ≤ w.heap.size) (hown : w.ownsRow B 5 1 sv n xs) (hg : w.grownBy w' sv.ownBlock) : Went B g a w' :=
  h.trans ⟨hg.os, hg.tape, hg.output, hg.size, fun b hb _ => hg.block b (by omega) (fun e => by have := (hown.lt b e.symm).1; omega), (Lib.OthersKept.refl _ _ w).grown hg (fun k hk => by
    rcases hown.2 with ⟨rfl, _⟩ | ⟨g', cap, cur, rfl, _, hgg, _⟩
    · simp [Value.ownBlock] at hk
    · simp [Value.ownBlock] at hk
      subst hk
      exact ⟨cur, _, hgg⟩)⟩

theorem _root_.Go.World.ownsRow.setCell_ {w : World} {B : Nat} {e : TypeId} {v : Value} {n : Nat} {xs : List Value} (h : w.ownsRow B e 1 v n xs) {p : Addr} (hp : p.block < B) (u : Value) : (w.setCell p u).ownsRow B e 1 v n xs := by
  refine ⟨h.1, ?_⟩
  rcases h.2 with h2 | ⟨g, cap, cur, hv, hbg, hg, h3⟩
  · exact .inl h2
  · exact .inr ⟨g, cap, cur, hv, hbg, (Below.heap_setCell _ _ _ _ (by omega)).trans hg, h3⟩
theorem own_slice {w : World} {B : Nat} {e : TypeId} {v : Value} {n : Nat} {xs : List Value} (h : w.ownsRow B e 1 v n xs) : ∃ A m c, v = .slice A m c := by
  rcases h.2 with ⟨rfl, _⟩ | ⟨g', cap, cur, rfl, _⟩
  · exact ⟨_, _, _, rfl⟩
  · exact ⟨_, _, _, rfl⟩
def nums (xs : List Int) : List UInt8 := xs.flatMap fun x => Lib.itoa x ++ [32]
theorem nums_take {xs : List Int} {k : Nat} (h : k < xs.length) : nums (xs.take (k + 1)) = nums (xs.take k) ++ (Lib.itoa xs[k] ++ [32]) := by
  unfold nums
  rw [List.take_add_one, List.getElem?_eq_getElem h, Option.toList_some, List.flatMap_append]
  simp only [List.flatMap_cons, List.flatMap_nil, List.append_nil]
theorem itoa_len {x : Int} (h : In64 x) : (Lib.itoa x).length ≤ 21 := Lib.itoa_length_le x h.1 h.2
theorem nums_len : ∀ {xs : List Int}, (∀ x ∈ xs, In64 x) → (nums xs).length ≤ 22 * xs.length
  | [], _ => by simp [nums]
  | x :: xs, h => by
    have h1 := itoa_len (h x (by simp))
    have h2 := nums_len (xs := xs) (fun y hy => h y (by simp [hy]))
    unfold nums at h2 ⊢
    rw [List.flatMap_cons, List.length_append, List.length_append, List.length_cons]
    simp only [List.length_cons, List.length_nil] at *
    omega
theorem info_u8 : (Tryd.prog.info? 5).map (fun i => (i.zero, i.size, i.bytes)) = some (some (.int .u8 0), 1, 1) := by kernel_rfl

set_option maxHeartbeats 2000000 in
set_option maxRecDepth 100000 in
theorem numbers_any {w : World} {B g : Nat} {ts : List UInt8} {xs : List Int} {S : Nat → Prop} {v : Value} (hp : Pg w B g ts) (h : Lies KI w S xs v)
    (hK : ∀ w', Went B g w w' → ∀ b, S b → w'.heap[b]? = w.heap[b]?) (hin : ∀ x ∈ xs, In64 x) (hl : ts.length + 22 * xs.length ≤ 1000000000)
    (htab : Lib.TabBelow Tryd.prog g w "internal/strconv.uint64pow10" .u64 Lib.pow10Tab) :
    Calls Tryd.prog 52 #[.pointer (some ⟨g, 0, none⟩), v] w fun e w' => e = .returned (.tuple #[]) ∧ Pg w' B g (ts ++ nums xs) ∧ Went B g w w' := by
  obtain ⟨A, c, rfl, hc, hM⟩ := h.form
  obtain ⟨ns, hns⟩ : ∃ ns, ns = xs.length := ⟨_, rfl⟩
  rw [← hns] at h hc hM hl ⊢
  have HX := Lib.hid h
  have HP := Lib.hid hp
  have HK := Lib.hid hK
  have HIN := Lib.hid hin
  have HT := Lib.hid htab
  have HNS := Lib.hid hns
  clear h hp hK hin htab hns
  go_enter Tryd.func52, Tryd.ntmps52
  go_wp2
  go_loopw [8] (fun i wr => ∃ j : Nat, j ≤ ns ∧ i = .int .i64 j ∧ Hid (Pg wr B g (ts ++ nums (xs.take j))) ∧ Hid (Went B g w wr)) (fun i _ => ns - (intOf i).toNat)
  case atStart => exact ⟨0, Nat.zero_le _, rfl, Lib.hid (by simpa [nums] using HP.out), Lib.hid (Went.refl _ _ _)⟩
  case round =>
    obtain ⟨wo, rfl⟩ : ∃ wo : World, wo = wr := ⟨_, rfl⟩
    obtain ⟨j, hj, rfl, HPG, HW⟩ := hrel
    by_cases hlt : j < ns
    · have hje : j < xs.length := by rw [← HNS.out]; exact hlt
      obtain ⟨b, off, rfl, hbS, r0, hix⟩ := HX.out.int j hje
      have k0 : wo.cell? ⟨b, off + j, none⟩ = _ := (World.cell?_of_block (HK.out wo HW.out b hbS)).trans r0
      obtain ⟨sv, hg, hown, hgB, hBs⟩ := HPG.out
      have hlen : (ts ++ nums (xs.take j)).length ≤ ts.length + 22 * j := by
        have := nums_len (xs := xs.take j) (fun x hx => HIN.out x (List.mem_of_mem_take hx))
        rw [List.length_take] at this
        rw [List.length_append]
        omega
      have htk := nums_take hje
      obtain ⟨x, hx⟩ : ∃ x, x = xs[j] := ⟨_, rfl⟩
      rw [← hx] at k0 hix htk
      obtain ⟨us, hus⟩ : ∃ us, us = ts ++ nums (xs.take j) := ⟨_, rfl⟩
      have htk2 : ts ++ nums (xs.take (j + 1)) = us ++ (Lib.itoa x ++ [32]) := by rw [htk, hus]; simp
      rw [← hus] at hown hlen
      have hgw : Went B g w wo := HW.out
      have hbel : Below g w wo := ⟨hgw.os, hgw.tape, hgw.output, hgw.size, fun b hb => hgw.below b (by omega) (by omega)⟩
      have HC := Lib.hid (appendInt_any B us.length x hix.1 hix.2 sv (Lib.byteCells us) wo hown hBs (by omega) (fun w' hb => (HT.out.on hbel) w' (hb.mono (by omega))))
      have k1 : wo.cell? ⟨g, 0, none⟩ = some sv := by rw [cell_of_row wo g 0 _ _ (0, 0) hg]; rfl
      have HIX := Lib.hid hix
      have HTK := Lib.hid htk2
      have HG := Lib.hid hg
      have HLN := Lib.hid hlen
      have hsv : ∃ A n c, sv = .slice A n c := by
        rcases hown.2 with ⟨rfl, _⟩ | ⟨g', cap, cur, rfl, _⟩
        · exact ⟨_, _, _, rfl⟩
        · exact ⟨_, _, _, rfl⟩
      clear r0 hix htk htk2 hus hx hown hg hgw hbel hlen HPG
      obtain ⟨A1, n1, c1, rfl⟩ := hsv
      go_wp2_with fail
      refine HC.out.mono ?_
      rintro e w2 ⟨v2, rfl, ho2, hb2, hk2⟩
      have hgo : w2.heap[g]? = some (.cells #[.slice A1 n1 c1] 61 (0, 0)) := hb2.block g hgB ▸ HG.out
      have hW2 : Went B g w w2 := HW.out.call hb2 hk2
      have hs2 := hb2.size
      have hit := itoa_len HIX.out
      obtain ⟨n2, hn2⟩ : ∃ n, n = us.length + (Lib.itoa x).length := ⟨_, rfl⟩
      rw [← hn2] at ho2
      have hsv2 : ∃ A n c, v2 = .slice A n c := by
        rcases ho2.2 with ⟨rfl, _⟩ | ⟨g', cap, cur, rfl, _⟩
        · exact ⟨_, _, _, rfl⟩
        · exact ⟨_, _, _, rfl⟩
      obtain ⟨A2, m2, c2, rfl⟩ := hsv2
      obtain ⟨i0, hi0, hz0, hz1, hz2⟩ := info_parts info_u8
      have HO2 := Lib.hid (ho2.alloc (.cells #[.int .u8 32] 5))
      have HGO := Lib.hid hgo
      have HW2 := Lib.hid hW2
      have HN2 := Lib.hid hn2
      have HI := Lib.hid (And.intro hi0 (And.intro hz0 (And.intro hz1 hz2)))
      have HB2 : Hid (B ≤ w2.heap.size) := Lib.hid (by omega)
      have HNB : Hid (n2 ≤ 1000000000) := Lib.hid (by have := HLN.out; omega)
      clear hgo hW2 hs2 hit hn2 ho2 hb2 hk2 hi0 hz0 hz1 hz2 HC
      go_wp2_with (first
        | (at_builtin; go_loud (refine wpList_append_own_at (w2.alloc (.cells #[.int .u8 32] 5)) rfl _ _ _ rfl B 5 i0 (.int .u8 0) 1 1 Tryd.underlying60 HI.out.1 HI.out.2.1 HI.out.2.2.1 HI.out.2.2.2 rfl (by decide) (.slice A2 m2 c2) n2 (Lib.byteCells us ++ Lib.byteCells (Lib.itoa x)) rfl HO2.out ⟨w2.heap.size, 0, none⟩ 1 1 [.int .u8 32] rfl rfl (cell_one_new w2 _ _) (by simp [Value.oneCell']) (by have := HNB.out; unfold maxLen; omega) (by have := HNB.out; omega) (by have := HB2.out; rw [asz]; omega) ?_; go_loud (intro v3 w3 ho3 hg3 _ hat3; have hg3g : w3.heap[g]? = some (.cells #[.slice A1 n1 c1] 61 (0, 0)) := (hg3.block g (by have := HB2.out; rw [asz]; omega) (fun e => by have := (HO2.out.lt g e.symm).1; omega)).trans ((Below.heap_alloc _ _ _ (by have := HB2.out; omega)).trans HGO.out); have k3 : w3.cell? ⟨g, 0, none⟩ = some (.slice A1 n1 c1) := (by rw [cell_of_row w3 g 0 _ _ (0, 0) hg3g]; rfl); have k4 : w3.frozen? ⟨g, 0, none⟩ = false := frozen_of_row w3 g 0 _ _ hg3g; have hsv3 := own_slice ho3; obtain ⟨A3, n3, c3, rfl⟩ := hsv3))))
      have HO3 := Lib.hid ho3
      have HG3 := Lib.hid hg3
      have HG3G := Lib.hid hg3g
      go_roundw
      case rel =>
        have hB2 := HB2.out
        have hsz := hg3.size
        rw [asz] at hsz
        refine ⟨j + 1, by omega, by go_num, Lib.hid ⟨.slice A3 n3 c3, ?_, ?_, hgB, by rw [csz]; omega⟩, Lib.hid (((HW2.out.alloc hB2 _).grown (by rw [asz]; omega) HO2.out hg3).set 0 _)⟩
        · have := hg3g
          simp [World.setCell, Array.getElem?_modify, this]
        · rw [HTK.out]
          have h1 := ho3.setCell_ (p := ⟨g, 0, none⟩) (by show g < B; exact hgB) (.slice A3 n3 c3)
          have e1 : (us ++ (Lib.itoa x ++ [32])).length = n2 + 1 := by rw [HN2.out]; simp; omega
          have e2 : Lib.byteCells (us ++ (Lib.itoa x ++ [32])) = Lib.byteCells us ++ Lib.byteCells (Lib.itoa x) ++ [.int .u8 32] := by rw [Lib.byteCells_append, Lib.byteCells_append, List.append_assoc]; rfl
          rw [e1, e2]
          exact h1
      case measure => simp [intOf]; omega
    · have hall : xs.take j = xs := List.take_of_length_le (by rw [← HNS.out]; omega)
      rw [hall] at HPG
      clear hall
      go_wp2
      go_end0
      exact ⟨rfl, HPG.out, HW.out⟩

end Go.Proofs.YtgohnlcgidmlfaaDoor
