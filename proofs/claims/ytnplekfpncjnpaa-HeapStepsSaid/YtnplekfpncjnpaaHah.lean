/- The heap's function Make. -/
import Derived.Test.YtnplekfpncjnpaaHag
import Derived.Deep.Cut
set_option linter.unusedVariables false
set_option linter.unusedSimpArgs false
namespace Go.Proofs.Ytnplekfpncjnpaa
open Go.RowKit

theorem zeros_one {z : Value} (h : ∀ u ∈ z.cells, u.oneCell' = true) (h0 : 0 < z.cells.size) : ∀ k, ∀ u ∈ (Builtin.zeroCells z.cells k).toList, u.oneCell' = true := by
  intro k u hu
  simp only [Builtin.zeroCells, Array.toList_map, List.mem_map] at hu
  obtain ⟨i, _, rfl⟩ := hu
  have hlt : i % z.cells.size < z.cells.size := Nat.mod_lt _ h0
  rw [getElem!_pos z.cells _ hlt]
  exact h _ (Array.getElem_mem hlt)
theorem zeros_words : ∀ (s : Nat), (Builtin.zeroCells #[Value.int .i64 0, .int .i64 0] s).toList = ((List.replicate s noWd).map wcells).flatten := by
  intro s
  apply List.ext_getElem?
  intro i
  have hz : (Builtin.zeroCells #[Value.int .i64 0, .int .i64 0] s).toList[i]? = if i < s * 2 then some (.int .i64 0) else none := by
    simp only [Builtin.zeroCells, Array.getElem?_toList, Array.getElem?_map]
    by_cases h : i < s * 2
    · rw [if_pos h, Array.getElem?_range]
      have : i % 2 = 0 ∨ i % 2 = 1 := by omega
      rcases this with e | e <;> simp [h, e]
    · rw [if_neg h, Array.getElem?_range]
      simp [h]
  rw [hz]
  have hl : ((List.replicate s noWd).map wcells).flatten.length = s * 2 := by rw [flat_len (wlen _)]; simp
  by_cases h : i < s * 2
  · rw [if_pos h, show i = (i / 2) * 2 + i % 2 from by omega, flat_get (wlen _) (i / 2) (by simp; omega) (i % 2) (by omega)]
    have : i % 2 = 0 ∨ i % 2 = 1 := by omega
    rcases this with e | e <;> simp [e, wcells, noWd]
  · rw [if_neg h, List.getElem?_eq_none (by omega)]

/-- a row has grown, and the heap's cell says so -/
theorem HpRaw.pushed {w w' w1 : World} {base h g c : Nat} {A : List Value} {H : Hp} (X : HpRaw w base h g c A H) {t i : Nat} (ht : t < H.length) {v : Value} {g1 n1 cap1 : Nat} (hv : A[i]? = some v) (hb : Below w.heap.size w w') (hgr : w'.grownBy w1 v.ownBlock)
    (hat : v.ownBlock = some g1 ∨ w.heap.size ≤ g1) (m : Mm) (hm : (i = 2 * t ∧ m.os = (getM H t).os ∧ RowW w1 base m.ws (.slice (some ⟨g1, 0, none⟩) n1 cap1)) ∨ (i = 2 * t + 1 ∧ m.ws = (getM H t).ws ∧ RowO w1 base m.os (.slice (some ⟨g1, 0, none⟩) n1 cap1))) (hbase : base ≤ w.heap.size) :
    w1.cell? ⟨g, i, none⟩ = some v ∧ w1.frozen? ⟨g, i, none⟩ = false ∧
      ∀ W, w1.setCell ⟨g, i, none⟩ (.slice (some ⟨g1, 0, none⟩) n1 cap1) = W → HpRaw W base h g c (A.set i (.slice (some ⟨g1, 0, none⟩) n1 cap1)) (H.set t m) ∧ Below base w W ∧ (∀ b, b < w.heap.size → b ≠ g → v.ownBlock ≠ some b → W.heap[b]? = w.heap[b]?) ∧ ∀ b, b < w.heap.size → NotMine h g A b → NotMine h g (A.set i (.slice (some ⟨g1, 0, none⟩) n1 cap1)) b := by
  have hblk : ∀ b, b < w.heap.size → v.ownBlock ≠ some b → w1.heap[b]? = w.heap[b]? := fun b hlt hne => (hgr.block b (Nat.lt_of_lt_of_le hlt hb.size) (fun e => hne e.symm)).trans (hb.block b hlt)
  have hg := (hblk g (heap_lt X.row) (fun e => (X.far i v g hv e).2 rfl)).trans X.row
  have hgg : g1 ≠ g := by
    rcases hat with h1 | h1
    · exact (X.far i v g1 hv h1).2
    · have := heap_lt X.row; omega
  refine ⟨?_, frozen_of_row w1 g i _ _ hg, fun W hW => ?_⟩
  · rw [cell_of_row _ _ i _ _ (0, 0) hg]
    simpa using hv
  · have hoth : ∀ b, b ≠ g → W.heap[b]? = w1.heap[b]? := fun b hb => by subst hW; exact Below.heap_setCell _ _ _ b hb
    have hkr : ∀ b, (Value.slice (some ⟨g1, 0, none⟩) n1 cap1).ownBlock = some b → W.heap[b]? = w1.heap[b]? := fun b hb => hoth b (by
      have : g1 = b := by simpa [Value.ownBlock] using hb
      omega)
    refine ⟨X.turned ht hv m ?_ (fun b _ hlt hne hbg => (hoth b hbg).trans (hblk b hlt hne)) ?_ ?_, ?_, fun b hlt hbg hne => (hoth b hbg).trans (hblk b hlt hne), fun b hlt hn => ⟨hn.1, hn.2.1, fun j u hu => ?_⟩⟩
    · rcases hm with ⟨h1, h2, h3⟩ | ⟨h1, h2, h3⟩
      · exact .inl ⟨h1, h2, ownsRow_keep h3 hkr⟩
      · exact .inr ⟨h1, h2, ownsRow_keep h3 hkr⟩
    · subst hW
      rw [setCell_eq_setRow w1 g i _ _ _ _ hg, setRow_heap w1 g _ _ _ _ hg]
      simp
    · rcases hat with h1 | h1
      · exact .inl (by rw [h1]; rfl)
      · exact .inr ⟨g1, rfl, h1⟩
    · have hs : W.heap.size = w1.heap.size := by subst hW; simp
      have ho : W.os = w1.os ∧ W.tape = w1.tape ∧ W.output = w1.output := by subst hW; exact ⟨rfl, rfl, rfl⟩
      refine ⟨ho.1.trans (hgr.os.trans hb.os), ho.2.1.trans (hgr.tape.trans hb.tape), ho.2.2.trans (hgr.output.trans hb.output), by rw [hs]; exact Nat.le_trans hb.size hgr.size, fun b hlt => ?_⟩
      have h1 := X.gb
      exact (hoth b (by omega)).trans (hblk b (by omega) (fun e => by have := (X.lt hv e).1; omega))
    · rw [List.getElem?_set] at hu
      by_cases e : i = j
      · rw [if_pos e] at hu
        split at hu
        · cases hu
          intro e2
          have e2 : g1 = b := by simpa [Value.ownBlock] using e2
          rcases hat with h1 | h1
          · exact hn.2.2 i v hv (by rw [h1, e2])
          · omega
        · cases hu
      · rw [if_neg e] at hu
        exact hn.2.2 j u hu

def MakePost (w : World) (base h g c : Nat) (A : List Value) (r : Hp × Int × Bool) (e : Ending) (w' : World) : Prop := ∃ A', e = .returned (.tuple #[.int .i64 r.2.1, .bool r.2.2]) ∧ HpAt w' base h g c A' r.1 ∧ Below base w w' ∧ Foreign w w' h g A ∧ ∀ b, b < w.heap.size → NotMine h g A b → NotMine h g A' b
set_option maxRecDepth 100000 in
set_option maxHeartbeats 2000000 in
theorem make_any {w : World} {base h g c : Nat} {A : List Value} {H : Hp} (X : HpAt w base h g c A H) (hbase : base ≤ w.heap.size) (t size fn op : Int) :
    Calls Try.prog 10 #[.pointer (some ⟨h, 0, none⟩), .int .i64 t, .int .i64 size, .int .i64 fn, .int .i64 op] w (MakePost w base h g c A (makeM H t size fn op)) := by
  have HH := Lib.hid (has_any X t)
  have HX := Lib.hid X
  unfold makeM
  by_cases hin : 0 ≤ t ∧ t < (H.length : Int)
  · obtain ⟨k, rfl⟩ : ∃ k : Nat, t = k := ⟨t.toNat, by omega⟩
    have ht : k < H.length := by omega
    obtain ⟨hc, hlt, hglt, h4⟩ := X.seen
    obtain ⟨B, d, hw, hd, hA, hrow, h64⟩ := X.words ht
    have hcap := X.cap
    rw [decide_eq_true hin] at HH
    rw [if_neg (by omega), Int.toNat_natCast]
    obtain ⟨n, hn⟩ : ∃ n, n = H.length := ⟨_, rfl⟩
    obtain ⟨m, hm⟩ : ∃ m, m = (getM H k).ws.length := ⟨_, rfl⟩
    rw [← hn] at hc h4 hcap
    have hkn : k < n := by omega
    rw [← hm] at hw hd h64 hA hrow ⊢
    have HM := Lib.hid hm
    have HN := Lib.hid hn
    clear hin hm hn
    by_cases hsz : size < 0 ∨ 64 - (m : Int) < size
    · rw [if_pos hsz]
      have HD : Hid (MakePost w base h g c A (H, 0, false) (.returned (.tuple #[.int .i64 0, .bool false])) w) := Lib.hid ⟨A, rfl, HX.out, Below.refl _ _, Foreign.refl _ _ _ _, fun _ _ hn => hn⟩
      clear X HX hA hrow
      by_cases h0 : size < 0
      · clear hsz
        go_enter Try.func10, Try.ntmps10
        go_wp2_with fail
        refine HH.out.mono ?_
        rintro e w2 ⟨rfl, rfl⟩
        go_wp2
        go_ret2
        exact HD.out
      · have h1 : 64 - (m : Int) < size := by omega
        clear hsz
        go_enter Try.func10, Try.ntmps10
        go_wp2_with fail
        refine HH.out.mono ?_
        rintro e w2 ⟨rfl, rfl⟩
        go_wp2
        go_ret2
        exact HD.out
    · rw [if_neg hsz]
      obtain ⟨s, rfl⟩ : ∃ s : Nat, size = s := ⟨size.toNat, by omega⟩
      have hsm : (s : Int) ≤ 64 - (m : Int) := by omega
      have hsm' : ¬ (64 - (m : Int) < (s : Int)) := by omega
      clear hsz
      by_cases h0 : s = 0
      · subst h0
        rw [if_pos (by omega)]
        have HD : Hid (MakePost w base h g c A (H, 0, true) (.returned (.tuple #[.int .i64 0, .bool true])) w) := Lib.hid ⟨A, rfl, HX.out, Below.refl _ _, Foreign.refl _ _ _ _, fun _ _ hn => hn⟩
        clear X HX hA hrow
        go_enter Try.func10, Try.ntmps10
        go_wp2_with fail
        refine HH.out.mono ?_
        rintro e w2 ⟨rfl, rfl⟩
        go_wp2
        go_ret2
        exact HD.out
      · rw [if_neg (by omega), Int.toNat_natCast]
        have hs0 : ((s : Int) == 0) = false := by simp; omega
        have hs1 : (s == 0) = false := by simp; omega
        obtain ⟨i, hi, hz, hs, hb⟩ := info_parts infoW
        have HI := Lib.hid hi
        have HZ := Lib.hid hz
        have HSZ := Lib.hid hs
        have HBY := Lib.hid hb
        have HR := Lib.hid hrow
        have HS0 := Lib.hid (show 0 < s by omega)
        have HSM := Lib.hid hsm
        have HBASE := Lib.hid hbase
        have H64 := Lib.hid h64
        have HVA := Lib.hid (show A[k * 2]? = some (.slice B m d) by rw [Nat.mul_comm]; exact hA)
        have HT := Lib.hid ht
        have HNB := Lib.hid (Below.refl w.heap.size w)
        clear X hA hrow hi hz hs hb hbase
        go_enter Try.func10, Try.ntmps10
        go_wp2_with fail
        refine HH.out.mono ?_
        rintro e w2 ⟨rfl, rfl⟩
        go_upto_region 10 with (at_builtin; refine wpList_append_zeros _ rfl _ _ 48 3 rfl base 40 i _ .i64 .i64 2 _ Try.underlying48 Try.underlying3 HI.out HZ.out HSZ.out HBY.out rfl (by decide) (zeros_one (by simp [Value.cells]; decide) (by decide)) (.slice B m d) m _ rfl (by have := HR.out; unfold RowW at this; rw [← HM.out] at this; exact this) s rfl HS0.out (by have := HSM.out; unfold maxLen; omega) (by have := HSM.out; omega) HBASE.out ?_; intro g1 cap1 w1 hown hgrow hat; obtain ⟨hc1, hf1, hn1⟩ := HX.out.toHpRaw.pushed HT.out HVA.out HNB.out hgrow (hat.imp id (fun e => by rw [e]; exact Nat.le_refl _)) ⟨(getM H k).ws ++ List.replicate s noWd, (getM H k).os⟩ (.inl ⟨Nat.mul_comm _ _, rfl, by unfold RowW; rw [List.length_append, List.length_replicate, ← HM.out, List.map_append, List.flatten_append, ← zeros_words]; exact hown⟩) HBASE.out; have HN1 := Lib.hid hn1; clear hown hgrow hat hn1)
        generalize hW : w1.setCell ⟨g, k * 2, none⟩ (.slice (some ⟨g1, 0, none⟩) (m + s) cap1) = W
        obtain ⟨X2, hb2, hf2, hn2⟩ := HN1.out W hW
        have HF2 := Lib.hid hf2
        have HNM2 := Lib.hid hn2
        have ht2 : k < (List.set H k ⟨(getM H k).ws ++ List.replicate s noWd, (getM H k).os⟩).length := by rw [List.length_set]; exact ht
        have hos : (getM (List.set H k ⟨(getM H k).ws ++ List.replicate s noWd, (getM H k).os⟩) k) = ⟨(getM H k).ws ++ List.replicate s noWd, (getM H k).os⟩ := by rw [getM_set ht, if_pos rfl]
        obtain ⟨v2, hv2, hr2⟩ := X2.or_ k ht2
        rw [hos] at hr2
        dsimp only at hr2
        obtain ⟨B2, d2, rfl, hd2⟩ := hr2.form
        have hol : (getM H k).os.length ≤ 64 := by have h1 := HX.out.good.get k; have := chained_le h1.1; have := h1.2; omega
        obtain ⟨m2, hm2⟩ : ∃ m2, m2 = (getM H k).os.length := ⟨_, rfl⟩
        rw [← hm2] at hv2 hr2 hd2 hol
        have hv2' := hv2
        rw [Nat.mul_comm 2 k] at hv2'
        have hc2 := X2.cellW (k * 2 + 1) hv2'
        have hg2 : g < W.heap.size := X2.seen.2.2.1
        have hbw : base ≤ W.heap.size := Nat.le_trans HBASE.out hb2.size
        have HR2 : Hid ((W.alloc (.cells #[.int .i64 (m : Nat), .int .i64 (s : Nat), .int .i64 fn, .int .i64 op] 45)).ownsRow base 45 4 (.slice B2 m2 d2) m2 ((getM H k).os.map ocells).flatten) := Lib.hid (by
          unfold RowO at hr2
          rw [← hm2] at hr2
          exact ownsRow_keep hr2 (fun b hb => Below.heap_alloc W _ b (World.ownsRow.lt hr2 b hb).2))
        have HN2 := Lib.hid (heap_alloc_new W (.cells #[.int .i64 (m : Nat), .int .i64 (s : Nat), .int .i64 fn, .int .i64 op] 45))
        have HB2 := Lib.hid hb2
        have HBA := Lib.hid ((Below.refl W.heap.size W).alloc (Nat.le_refl _) (.cells #[.int .i64 (m : Nat), .int .i64 (s : Nat), .int .i64 fn, .int .i64 op] 45))
        have HX2 := Lib.hid X2
        have HV2 := Lib.hid hv2'
        have HM2 := Lib.hid hm2
        have HOL := Lib.hid hol
        have HOS := Lib.hid hos
        have HT2 := Lib.hid ht2
        have HBW := Lib.hid hbw
        obtain ⟨i4, hi4, hz4, hs4, hb4⟩ := info_parts infoO
        have HI4 := Lib.hid hi4
        have HZ4 := Lib.hid hz4
        have HS4 := Lib.hid hs4
        have HB4 := Lib.hid hb4
        have HC := Lib.hid (chained_more (HX.out.good.get k).1 s fn op HS0.out)
        have hmax : (1 : Int) + (k : Int) * 64 + (m : Int) ≤ 1000 := by omega
        clear hW HN1 hc1 hf1 X2 hb2 hf2 hn2 ht2 hos hv2 hv2' hr2 hd2 hol hm2 hbw hi4 hz4 hs4 hb4 hw hc
        go_wp2_with (at_builtin; refine wpList_append_lies _ rfl _ _ 49 rfl base 45 i4 _ 4 _ Try.underlying49 HI4.out HZ4.out HS4.out HB4.out rfl (by decide) (.slice B2 m2 d2) m2 ((getM H k).os.map ocells).flatten rfl HR2.out ⟨W.heap.size, 0, none⟩ 1 1 (ocells ⟨m, s, fn, op⟩) rfl rfl (by have := World.news_of_block HN2.out; exact this) (oone _) (by decide) (by have := HOL.out; unfold maxLen; omega) (by have := HOL.out; omega) (by have := HBW.out; simp; omega) _ rfl ?_; intro g2 cap2 w3 hown3 hgrow3 hat3 hlt3; obtain ⟨hc3, hf3, hn3⟩ := HX2.out.pushed HT2.out HV2.out HBA.out hgrow3 (hat3.imp id (fun e => by rw [e]; simp)) ⟨(getM H k).ws ++ List.replicate s noWd, (getM H k).os ++ [⟨m, s, fn, op⟩]⟩ (.inr ⟨by rw [Nat.mul_comm], by rw [HOS.out], by unfold RowO; rw [List.length_append, ← HM2.out, List.map_append, List.flatten_append]; simpa using hown3⟩) HBW.out; have HN3 := Lib.hid hn3; clear hown3 hgrow3 hat3 hlt3 hn3)
        go_ret2
        obtain ⟨X4, hb4, hf4, hn4⟩ := HN3.out _ rfl
        have hv2 := HV2.out
        rw [List.getElem?_set, if_neg (by omega)] at hv2
        rw [List.set_set] at X4
        refine ⟨_, rfl, ⟨X4, good_set HX.out.good k ⟨?_, ?_⟩⟩, HB2.out.trans hb4, fun b h1 h2 h3 h4 => (hf4 b (Nat.lt_of_lt_of_le h1 HB2.out.size) h3 (h4 _ _ hv2)).trans (HF2.out b h1 h3 (h4 _ _ HVA.out)), fun b h1 hn => hn4 b (Nat.lt_of_lt_of_le h1 HB2.out.size) (HNM2.out b h1 hn)⟩
        · have := HC.out
          rw [← HM.out] at this
          simpa [← HM.out] using this
        · simp [← HM.out]
          omega
  · rw [decide_eq_false hin] at HH
    rw [if_pos (by omega)]
    have HD : Hid (MakePost w base h g c A (H, 0, false) (.returned (.tuple #[.int .i64 0, .bool false])) w) := Lib.hid ⟨A, rfl, HX.out, Below.refl _ _, Foreign.refl _ _ _ _, fun _ _ hn => hn⟩
    clear X HX hin
    go_enter Try.func10, Try.ntmps10
    go_wp2_with fail
    refine HH.out.mono ?_
    rintro e w2 ⟨rfl, rfl⟩
    go_wp2
    go_ret2
    exact HD.out

end Go.Proofs.Ytnplekfpncjnpaa
