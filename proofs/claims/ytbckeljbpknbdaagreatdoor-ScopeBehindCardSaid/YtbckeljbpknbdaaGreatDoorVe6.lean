/- Ed Ee -/
import Derived.Test.YtbckeljbpknbdaaGreatDoorVe4
import Derived.Shelf.SlSortCmp.NoneTotal
set_option linter.unusedVariables false
set_option linter.unusedSimpArgs false
namespace Go.Proofs.YtbckeljbpknbdaaGreatDoor
open Go.RowKit
theorem Yci : ∀ (l : List Dg) (k j : Nat) (hk : k < l.length), j < 3 → (dgV l)[k * 3 + j]? = (Xdy l[k])[j]?
 | [], k, j, hk, _ => by simp at hk
 | g :: l, 0, j, _, hj => by
   show (Xdy g ++ dgV l)[0 * 3 + j]? = _
   rw [List.getElem?_append_left (by show 0 * 3 + j < 3; omega)]
   simp
 | g :: l, k + 1, j, hk, hj => by
   show (Xdy g ++ dgV l)[(k + 1) * 3 + j]? = _
   have e : (Xdy g).length = 3 := rfl
   rw [List.getElem?_append_right (by rw [e]; omega), e, show (k + 1) * 3 + j - 3 = k * 3 + j by omega, Yci l k j (by simpa using hk) hj]
   simp
theorem Xhw.row {w : World} {base g cap n : Nat} {l : List Dg} (h : Xhw w base (.slice (some ⟨g, 0, none⟩) n cap) l) : Xft w g l.toArray := fun i hi => by
 have hi' : i < l.length := by simpa using hi
 obtain ⟨_, _, cur, hg⟩ := h.blk (g := g) rfl
 have hc : ∀ j u, j < 3 → (Xdy l[i])[j]? = some u → w.cell? ⟨g, i * 3 + j, none⟩ = some u := fun j u hj hu => by
  have := h.cells (g := g) rfl (i * 3 + j) u ((Yci l i j hi' hj).trans hu)
  rw [Xdo, Nat.zero_add] at this
  exact this
 have e : l.toArray[i]! = l[i] := by rw [getElem!_pos l.toArray i hi]; rfl
 rw [e]
 exact ⟨hc 0 _ (by omega) rfl, hc 1 _ (by omega) rfl, hc 2 _ (by omega) rfl, fun j _ => frozen_of_row w g _ _ _ hg⟩
theorem Xft.holds {w : World} {g : Nat} {d : Array Dg} (h : Xft w g d) : Go.Sort.HoldsK Xdy 3 w g 0 d := fun t ht => by
 have ht' : t < d.size * 3 := by simpa using ht
 obtain ⟨h0, h1, h2, hf⟩ := h (t / 3) (by omega)
 rw [Go.Sort.get_flatK _ _ _ t ht', Nat.zero_add]
 have h3 : t % 3 = 0 ∨ t % 3 = 1 ∨ t % 3 = 2 := by omega
 refine ⟨?_, by rw [show t = t / 3 * 3 + t % 3 by omega]; exact hf _ (by omega)⟩
 rcases h3 with e | e | e <;> rw [e]
 · rw [show (⟨g, t, none⟩ : Addr) = ⟨g, t / 3 * 3, none⟩ by rw [show t / 3 * 3 = t by omega]]; exact h0
 · rw [show (⟨g, t, none⟩ : Addr) = ⟨g, t / 3 * 3 + 1, none⟩ by rw [show t / 3 * 3 + 1 = t by omega]]; exact h1
 · rw [show (⟨g, t, none⟩ : Addr) = ⟨g, t / 3 * 3 + 2, none⟩ by rw [show t / 3 * 3 + 2 = t by omega]]; exact h2
theorem Xft.of_holds {w : World} {g : Nat} {d : Array Dg} (h : Go.Sort.HoldsK Xdy 3 w g 0 d) : Xft w g d := fun i hi => by
 have hc : ∀ c, c < 3 → w.cell? ⟨g, i * 3 + c, none⟩ = some (Xdy d[i]!)[c]! ∧ w.frozen? ⟨g, i * 3 + c, none⟩ = false := fun c hc => by
  have := h.cell hi hc
  rw [Nat.zero_add] at this
  exact this
 exact ⟨(hc 0 (by omega)).1, (hc 1 (by omega)).1, (hc 2 (by omega)).1, fun j hj => (hc j hj).2⟩
theorem chg_sort (w : World) (blk n : Nat) (d : Array Dg) (os : Array Obj) : Chg (· = blk) w (sortWorldK Xdy 3 w blk 0 n d os) := by
 refine ⟨rfl, rfl, rfl, ?_, fun k hk hne => ?_⟩
 · unfold sortWorldK; rw [Go.Sort.size_grow, Go.Sort.size_putRowK]; exact Nat.le_add_right _ _
 · unfold sortWorldK
   rw [Go.Sort.heap_grow_old _ _ (by rw [Go.Sort.size_putRowK]; exact hk)]
   unfold Go.Sort.putRowK Go.Sort.putRow Go.Sort.mapBlock
   simp only [Array.getElem?_modify]
   rw [if_neg (Ne.symm hne)]; rfl
theorem Yft (w : World) (blk cap : Nat) (d : Array Dg) (h : Xft w blk d) (hb : blk < w.heap.size) (hsz : d.size ≤ 1000000) :
  Calls Tryz.prog 38 #[.slice (some ⟨blk, 0, none⟩) d.size cap, .func (.func 39) #[] #[]] w fun e w' =>
   e = .returned (.tuple #[]) ∧ ∃ d' : Array Dg, d'.size = d.size ∧ Lib.compactUpTo d' d'.size = ordD d.toList ∧ Xft w' blk d' ∧ Chg (· = blk) w w' := by
 have eg : ∀ args w, (callFunc 39 args).run Tryz.prog w = .ok (.enter 39 args) w := enters_of Tryz.func39 (by kernel_rfl) rfl
 have hcon := AnyQ.slices_SortFunc sortDg 3 Tryz.isAgg39 Tryz.sizeOf39 Xdy (fun _ => rfl) Xnh cfD swoD 39 #[] blk 0 cap d w eg (fun _ _ _ _ x y => Xoz x y _) h.holds hb (by omega)
 refine hcon.mono ?_
 rintro e w' ⟨rfl, d', n, os, hp, hs, rfl⟩
 have hsz' : d'.size = d.size := hp.1
 exact ⟨rfl, d', hsz', ordD_is rfl hp hs, Xft.of_holds (SWK.holds ⟨n, os, rfl⟩ hb h.holds hsz'), chg_sort w blk n d' os⟩
theorem Yfu (w : World) (cap : Nat) (fv : Value) : Calls Tryz.prog 38 #[.slice none 0 cap, fv] w fun e w' => e = .returned (.tuple #[]) ∧ w' = w := AnyF.slices_SortFunc_none sortDg none cap fv w
set_option maxHeartbeats 1000000 in
theorem Xsi (w : World) (cap : Nat) : Calls Tryz.prog 44 #[.slice none 0 cap] w fun e w' => e = .returned (.slice none 0 cap) ∧ w' = w := by
 go_enter Tryz.func44, Tryz.ntmps44
 go_wp2
 go_ret
 exact ⟨rfl, rfl⟩
theorem Xuu (d : Array Dg) : (Lib.compactUpTo d d.size).length ≤ d.size := by
 unfold Lib.compactUpTo
 rw [List.length_map]
 have := List.length_filter_le (Lib.keeps d) (List.range d.size)
 rw [List.length_range] at this
 exact this
set_option maxRecDepth 100000 in
set_option maxHeartbeats 1000000 in
theorem Yag : Orders := fun w base v l hown hl => by
 rcases hown.2 with ⟨rfl, h0⟩ | ⟨g, cap, cur, rfl, hbg, hg, hc1, hc2, _⟩
 · have e : l = [] := List.eq_nil_of_length_eq_zero h0
   subst e
   have HS := lh (fun W => Yfu W 0 (.func (.func 39) #[] #[]))
   have HC := lh (fun W => Xsi W 0)
   clear hown h0 hl
   go_enter Tryz.func24, Tryz.ntmps24
   go_wp2_with (first
    | (go_at_call 38; refine (HS.out _).mono ?_; rintro e w1 ⟨rfl, rfl⟩)
    | (go_at_call 44; refine (HC.out _).mono ?_; rintro e w1 ⟨rfl, rfl⟩))
   go_ret
   exact ⟨_, rfl, ⟨none, 0, by rw [(Xrf []).2 rfl]; rfl, by rw [(Xrf []).2 rfl]; exact Nat.le_refl _, by omega, fun k hk => by rw [(Xrf []).2 rfl] at hk; exact absurd hk (by simp)⟩, Chg.refl _ _⟩
 · have hrow := hown.row
   have hb := Xac hg
   have hs := Yft w g cap l.toArray hrow hb (by simpa using hl)
   rw [List.size_toArray] at hs
   unfold maxLen at hc2
   obtain ⟨n, hn⟩ : ∃ n, n = l.length := ⟨_, rfl⟩
   rw [← hn] at hs hc1 hl ⊢
   have HS := lh hs
   have HC := lh Xsh
   clear hs hown hrow hg hn
   go_enter Tryz.func24, Tryz.ntmps24
   go_wp2_with (first
    | (go_at_call 38; refine HS.out.mono ?_; rintro e w1 ⟨rfl, d', hd1, hd2, hd3, hd4⟩; have HD := lh (And.intro hd1 (And.intro hd2 (And.intro hd3 hd4))); have hcc := HC.out w1 g cap d' hd3 (by omega) (by omega) (by omega); rw [hd1] at hcc; have HCC := lh hcc; clear hd1 hd2 hd3 hd4 hcc)
    | (go_at_call 44; refine HCC.out.mono ?_; rintro e w2 ⟨rfl, hr2, hch2⟩; have HR2 := lh (And.intro hr2 hch2); clear hr2 hch2))
   go_ret
   obtain ⟨hd1, hd2, hd3, hd4⟩ := HD.out
   obtain ⟨hr2, hch2⟩ := HR2.out
   have h2 : Lib.compactUpTo d' n = ordD l := by rw [← hd1]; exact hd2
   have hlen : (ordD l).length ≤ n := by rw [← h2, ← hd1]; exact Xuu d'
   rw [h2] at hr2
   have hch : Chg (· = g) w w2 := hd4.trans hch2 fun _ _ h => h
   refine ⟨_, rfl, ⟨some ⟨g, 0, none⟩, cap, by rw [← h2]; rfl, by omega, by omega, fun k hk => ?_⟩, (Chg.refl _ w).trans hch fun x _ e => by rw [e]; rfl⟩
   have hk' : k < (ordD l).toArray.size := by simpa using hk
   obtain ⟨c0, c1, c2, _⟩ := hr2 k hk'
   have ek : (ordD l).toArray[k]! = (ordD l)[k] := by rw [getElem!_pos _ k hk']; rfl
   rw [ek] at c0 c1 c2
   exact ⟨g, 0, rfl, hbg, by have := hch.size; omega, by rw [Nat.zero_add]; exact c0, by rw [Nat.zero_add]; exact c1, by rw [Nat.zero_add]; exact c2⟩
def Xjz (ds : List Dc) (s : List UInt8) : Int := match Xai ds s with
 | none => -1
 | some i => (i : Nat)
theorem Xnl : ∀ {ds : List Dc} {s : List UInt8} {j : Nat} (hj : j < ds.length), (∀ i (hi : i < j), (ds[i]'(Nat.lt_trans hi hj)).name ≠ s) → ds[j].name = s → Xai ds s = some j
 | d :: ds, s, 0, _, _, h => by
   have h' : d.name = s := h
   unfold Xai; rw [if_pos h']
 | d :: ds, s, j + 1, hj, hn, h => by
   have h0 : d.name ≠ s := hn 0 (by omega)
   unfold Xai
   rw [if_neg h0, Xnl (j := j) (by simpa using hj) (fun i hi => by have := hn (i + 1) (by omega); simpa using this) (by simpa using h)]
   rfl
theorem Xsq {ds : List Dc} {s : List UInt8} {j : Nat} (hj : j < ds.length) (hn : ∀ i (hi : i < j), (ds[i]'(Nat.lt_trans hi hj)).name ≠ s) (h : ds[j].name = s) : Xjz ds s = (j : Nat) := by
 unfold Xjz; rw [Xnl hj hn h]
theorem Xpn {ds : List Dc} {s : List UInt8} (hn : ∀ i (hi : i < ds.length), ds[i].name ≠ s) : Xjz ds s = -1 := by
 unfold Xjz
 rw [Xlt.2 fun d hd => by obtain ⟨i, hi, rfl⟩ := List.getElem_of_mem hd; exact hn i hi]
set_option maxHeartbeats 1000000 in
theorem Xsr (w : World) (g : Nat) (S : ByteArray) (hg : w.cell? ⟨g, 0, none⟩ = some (.string S)) (k p m : Int) (a t : ByteArray) (A5 A6 : Option Addr) (n5 c5 n6 c6 : Nat) :
  Calls Tryz.prog 20 #[.agg #[.int .i64 k, .int .i64 p, .int .i64 m, .string a, .string t, .slice A5 n5 c5, .slice A6 n6 c6], .pointer (some ⟨g, 0, none⟩)] w fun e w' => e = .returned (.bool (a.toList == S.toList)) ∧ Below w.heap.size w w' := by
 have hbx : Below w.heap.size w (w.alloc (.cells #[.int .i64 k, .int .i64 p, .int .i64 m, .string a, .string t, .slice A5 n5 c5, .slice A6 n6 c6] 46)) := Xae _ _
 have hc := (hbx.cell (Xce hg)).trans hg
 go_enter Tryz.func20, Tryz.ntmps20
 go_wp2
 go_ret
 exact ⟨rfl, hbx⟩
set_option maxHeartbeats 2000000 in
theorem Xvo (w : World) {ds : List Dc} {v : Value} (hin : Xfs w (· < w.heap.size) ds v) (g : Nat) (s : List UInt8) (hg : w.cell? ⟨g, 0, none⟩ = some (.string (Xab s))) :
  Calls Tryz.prog 19 #[v, .func (.func 20) #[] #[.pointer (some ⟨g, 0, none⟩)]] w
   fun e w' => e = .returned (.int .i64 (Xjz ds s)) ∧ Below w.heap.size w w' := by
 obtain ⟨A, c, fp, fb, rfl, hc, hM, hA, hp, hb⟩ := hin
 obtain ⟨n, hn⟩ : ∃ n, n = ds.length := ⟨_, rfl⟩
 rw [← hn] at hc ⊢
 obtain ⟨S, hS⟩ : ∃ S, S = Xab s := ⟨_, rfl⟩
 rw [← hS] at hg
 have hlt := Xce hg
 have HCL : Hid (∀ V : World, Below w.heap.size w V → ∀ (k p m : Int) (a t : ByteArray) (A5 A6 : Option Addr) (n5 c5 n6 c6 : Nat), Calls Tryz.prog 20 #[.agg #[.int .i64 k, .int .i64 p, .int .i64 m, .string a, .string t, .slice A5 n5 c5, .slice A6 n6 c6], .pointer (some ⟨g, 0, none⟩)] V fun e w' => e = .returned (.bool (a.toList == S.toList)) ∧ Below V.heap.size V w') := lh fun V hV => Xsr V g S ((hV.cell hlt).trans hg)
 have HA := lh hA
 have HP := lh hp
 have HB0 := lh hb
 have HN := lh hn
 have HS : Hid (S.toList = s) := lh (by rw [hS, Lib.toList_data]; rfl)
 clear hA hp hb hn hS hg hlt
 go_enter Tryz.func19, Tryz.ntmps19
 go_wp2
 go_loopw [8] (fun i wr => ∃ j : Nat, j ≤ n ∧ i = .int .i64 j ∧ Hid (∀ i (hi : i < ds.length), i < j → ds[i].name ≠ s) ∧ Hid (Below w.heap.size w wr)) (fun i _ => n - (intOf i).toNat)
 case atStart => exact ⟨0, Nat.zero_le _, rfl, lh (fun i _ hi => absurd hi (by omega)), lh (Below.refl _ _)⟩
 case round =>
  obtain ⟨wo, rfl⟩ : ∃ wo : World, wo = wr := ⟨_, rfl⟩
  obtain ⟨j, hj, rfl, HF, HB⟩ := hrel
  by_cases hlt : j < n
  · have hjl : j < ds.length := by rw [← HN.out]; exact hlt
    obtain ⟨b, off, rfl, hb, _, _, c0, c1, c2, c3, c4, c5, c6⟩ := HA.out j hjl
    obtain ⟨A5, k5, hv5⟩ : ∃ A k, fp j = .slice A ds[j].pairs.length k := by obtain ⟨A, c, h, -⟩ := HP.out j hjl; exact ⟨A, c, h⟩
    obtain ⟨A6, n6, k6, hv6⟩ : ∃ A n k, fb j = .slice A n k := by obtain ⟨A, c, h, -⟩ := Xay.slice (HB0.out j hjl); exact ⟨A, _, c, h⟩
    rw [hv5] at c5
    rw [hv6] at c6
    have r0 := (HB.out.cell (p := ⟨b, off + j * 7, none⟩) hb).trans c0
    have r1 := (HB.out.cell (p := ⟨b, off + j * 7 + 1, none⟩) hb).trans c1
    have r2 := (HB.out.cell (p := ⟨b, off + j * 7 + 2, none⟩) hb).trans c2
    have r3 := (HB.out.cell (p := ⟨b, off + j * 7 + 3, none⟩) hb).trans c3
    have r4 := (HB.out.cell (p := ⟨b, off + j * 7 + 4, none⟩) hb).trans c4
    have r5 := (HB.out.cell (p := ⟨b, off + j * 7 + 5, none⟩) hb).trans c5
    have r6 := (HB.out.cell (p := ⟨b, off + j * 7 + 6, none⟩) hb).trans c6
    obtain ⟨NM, hNM⟩ : ∃ NM, NM = Xab ds[j].name := ⟨_, rfl⟩
    obtain ⟨TY, hTY⟩ : ∃ TY, TY = Xab ds[j].type := ⟨_, rfl⟩
    rw [← hNM] at r3
    rw [← hTY] at r4
    have hnl : NM.toList = ds[j].name := by rw [hNM, Lib.toList_data]; rfl
    have HCC := lh (HCL.out wo HB.out ds[j].kind ds[j].pl ds[j].num NM TY A5 A6 ds[j].pairs.length k5 n6 k6)
    have hwj : IntKind.i64.wrap ((j : Int) + 1) = (j : Int) + 1 := IntWalk.i64_in _ ⟨by omega, by omega⟩
    generalize ds[j].kind = q0 at r0 HCC
    generalize ds[j].pl = q1 at r1 HCC
    generalize ds[j].num = q2 at r2 HCC
    generalize ds[j].pairs.length = q5 at r5 HCC
    by_cases he : ds[j].name = s
    · have HT : Hid (Xjz ds s = (j : Nat)) := lh (Xsq hjl (fun i hi => HF.out i (by omega) hi) he)
      have hq : (NM.toList == S.toList) = true := by rw [hnl, HS.out, he]; simp
      rw [hq] at HCC
      clear hnl hNM hTY c0 c1 c2 c3 c4 c5 c6 he hq HF hb hv5 hv6
      go_wp2_with (first
       | ((with_reducible refine HCC.out.mono ?_); rintro e w1 ⟨rfl, hb1⟩; have HB1 := lh (HB.out.trans (hb1.mono HB.out.size)); clear hb1))
      go_ret
      exact ⟨by rw [HT.out]; rfl, HB1.out⟩
    · have HF2 : Hid (∀ i (hi : i < ds.length), i < j + 1 → ds[i].name ≠ s) := lh fun i hi hij => by
       by_cases e : i = j
       · subst e; exact he
       · exact HF.out i hi (by omega)
      have hq : (NM.toList == S.toList) = false := by rw [hnl, HS.out]; simpa using he
      rw [hq] at HCC
      clear hnl hNM hTY c0 c1 c2 c3 c4 c5 c6 he hq HF hb hv5 hv6
      go_wp2_with (first
       | ((with_reducible refine HCC.out.mono ?_); rintro e w1 ⟨rfl, hb1⟩; have HB1 := lh (HB.out.trans (hb1.mono HB.out.size)); clear hb1))
      go_roundw
      case rel => exact ⟨j + 1, by omega, by go_num, HF2, HB1⟩
      case measure => first | (simp [intOf]; done) | (simp [intOf]; omega)
  · have HT : Hid (Xjz ds s = -1) := lh (Xpn fun i hi => HF.out i hi (by rw [← HN.out] at hi; omega))
    clear HF
    go_wp2
    go_ret
    exact ⟨by rw [HT.out]; rfl, HB.out⟩
set_option maxHeartbeats 1000000 in
theorem Xxk (w : World) {ds : List Dc} {v : Value} (hin : Xfs w (· < w.heap.size) ds v) (s : List UInt8) :
  Calls Tryz.prog 10 #[.agg #[v], .string (Xab s)] w fun e w' => e = .returned (.int .i64 (Xjz ds s)) ∧ Below w.heap.size w w' := by
 obtain ⟨A, n, c, hv⟩ : ∃ A n c, v = .slice A n c := by obtain ⟨A, c, _, _, h, -⟩ := hin; exact ⟨A, _, c, h⟩
 obtain ⟨X, hX⟩ : ∃ X : World, X = (w.alloc (.cells #[v] 25)).alloc (.cells #[.string (Xab s)] 9) := ⟨_, rfl⟩
 have hbx : Below w.heap.size w X := by rw [hX]; exact ((Below.refl _ _).alloc (Nat.le_refl _) _).alloc (by simp) _
 have e1 : (w.alloc (.cells #[v] 25)).heap.size = w.heap.size + 1 := by simp
 have r1 : X.heap[w.heap.size + 1]? = some (.cells #[.string (Xab s)] 9 (0, 0)) := by rw [hX, ← e1]; exact heap_alloc_new _ _
 have h1 := Xvo X (hin.keep (fun b hb => hbx.block b hb) (fun b hb => Nat.lt_of_lt_of_le hb hbx.size)) (w.heap.size + 1) s (by rw [cell_of_row X _ 0 _ _ (0, 0) r1]; rfl)
 obtain ⟨S, hS⟩ : ∃ S, S = Xab s := ⟨_, rfl⟩
 obtain ⟨r, hr⟩ : ∃ r, r = Xjz ds s := ⟨_, rfl⟩
 rw [← hr] at h1 ⊢
 rw [← hS] at hX ⊢
 subst hv
 rw [hX] at h1 hbx
 have HI := lh h1
 have HBX := lh hbx
 have hmf : ∀ (fn : Fn) (first cap : Array Value) (w : World), (Instr.makeFunc fn first cap).run Tryz.prog w = .ok (.func fn first cap) w := fun _ _ _ _ => rfl
 clear h1 hbx hS hr hX r1 e1 hin
 go_enter Tryz.func10, Tryz.ntmps10
 go_wp2_with (first
  | ((with_reducible refine HI.out.mono ?_); rintro e w1 ⟨rfl, hb1⟩; have HB1 := lh (HBX.out.trans (hb1.mono HBX.out.size)); clear hb1))
 go_ret
 exact ⟨rfl, HB1.out⟩
end Go.Proofs.YtbckeljbpknbdaaGreatDoor
