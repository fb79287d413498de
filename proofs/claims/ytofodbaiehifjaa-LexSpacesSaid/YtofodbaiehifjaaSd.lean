/- The walk of LexSpaces. -/
import Derived.Test.YtofodbaiehifjaaSb
import Derived.Lib.ConvBytes
import Derived.Laws.IdiomStrings
import Derived.Lib.SmallJoins
set_option linter.unusedVariables false
namespace Go.Proofs.Ytofodbaiehifjaa
open Go.RowKit

/-- the bytes l lie in block g -/
def ByteAt (w : World) (g : Nat) (l : List UInt8) : Prop := ∀ (j : Nat) (h : j < l.length), w.cell? ⟨g, j, none⟩ = some (.int .u8 (l[j].toNat : Nat)) ∧ w.frozen? ⟨g, j, none⟩ = false
theorem ByteAt.below {w w' : World} {g B : Nat} {l : List UInt8} (h : ByteAt w g l) (hb : Below B w w') (hg : g < B) : ByteAt w' g l := fun j hj =>
  ⟨(hb.cell (p := ⟨g, j, none⟩) hg).trans (h j hj).1, (hb.frozen (p := ⟨g, j, none⟩) hg).trans (h j hj).2⟩
theorem ByteAt.conv {w : World} {g : Nat} {l : List UInt8} (h : ByteAt w g l) (cap n : Nat) (hn : n = l.length) :
    (convert 29 9 (.slice (some ⟨g, 0, none⟩) n cap)).run Try.prog w = .ok (.string (strOf l)) w := by
  subst hn
  exact run_convert_bytes_back w 29 9 5 ⟨g, 0, none⟩ cap l Try.underlying29 Try.underlying5 Try.underlying9 (fun j hj => by
    rw [add_pl, Nat.zero_add]; exact (h j hj).1)
theorem ByteAt.set {w : World} {g : Nat} {l : List UInt8} (h : ByteAt w g l) (k : Nat) (hk : k < l.length) (c : UInt8) : ByteAt (w.setCell ⟨g, k, none⟩ (.int .u8 (c.toNat : Nat))) g (l.set k c) := by
  intro j hj
  rw [List.length_set] at hj
  obtain ⟨h1, h2⟩ := h j hj
  refine ⟨?_, ?_⟩
  · by_cases e : k = j
    · subst e
      rw [List.getElem_set_self]
      exact World.cell?_setCell_same _ _ _ h1
    · rw [List.getElem_set_ne e]
      rw [← h1]
      exact World.cell?_setCell_other _ _ _ _ (fun e2 => e (by injection e2))
  · rw [World.frozen?_setCell]; exact h2
def mix (k : Nat) (l : List UInt8) : List UInt8 := (l.take k).map turn ++ l.drop k
theorem mix_len (k : Nat) (l : List UInt8) (h : k ≤ l.length) : (mix k l).length = l.length := by
  unfold mix; simp; omega
theorem mix_at {k : Nat} {l : List UInt8} (h : k < l.length) : (mix k l)[k]'(by rw [mix_len k l (by omega)]; exact h) = l[k] := by
  unfold mix
  rw [List.getElem_append_right (by simp; omega)]
  simp
  congr 1
  omega
theorem mix_next {k : Nat} {l : List UInt8} (h : k < l.length) : mix (k + 1) l = (l.take k).map turn ++ turn l[k] :: l.drop (k + 1) := by
  unfold mix
  rw [List.take_succ_eq_append_getElem h, List.map_append, List.append_assoc]
  rfl
theorem mix_set {k : Nat} {l : List UInt8} (h : k < l.length) : (mix k l).set k (turn l[k]) = mix (k + 1) l := by
  rw [mix_next h]
  unfold mix
  have hl : ((l.take k).map turn).length = k := by rw [List.length_map, List.length_take]; omega
  rw [List.drop_eq_getElem_cons h, List.set_append_right _ _ (by omega), hl, Nat.sub_self]
  rfl
theorem mix_skip {k : Nat} {l : List UInt8} (h : k < l.length) (ht : turn l[k] = l[k]) : mix (k + 1) l = mix k l := by
  rw [mix_next h, ht]
  unfold mix
  rw [List.drop_eq_getElem_cons h]
theorem mix_end (l : List UInt8) : mix l.length l = l.map turn := by
  unfold mix
  rw [List.take_length, List.drop_length, List.append_nil]
theorem mix_zero (l : List UInt8) : mix 0 l = l := rfl

def SpacesAt (w1 : World) (g : Nat) (l : List UInt8) (i : Value) (wr : World) : Prop := ∃ k : Nat, k ≤ l.length ∧ i = .int .i64 k ∧ ByteAt wr g (mix k l) ∧ Below g w1 wr ∧ g < wr.heap.size

set_option maxHeartbeats 1000000 in
theorem spaces_walk (w : World) (s : ByteArray) : Calls Try.prog 8 #[.string s] w (TruePost w) := by
  have hal := Lib.hid (alive_any w)
  by_cases hs : s.size ≤ 20000
  · have HS := Lib.hid (size_len s)
    have ht : toks (strOf (s.data.toList.map turn)).data.toList = toks s.data.toList := by rw [strOf_data, toks_turn]
    have hsz : (strOf (s.data.toList.map turn)).size ≤ 40000 := by rw [Lib.size_eq, strOf_data, List.length_map, ← HS.out]; omega
    go_enter Try.func8, Try.ntmps8
    go_wp2_with fail
    refine (hal.out w (Below.refl _ _)).mono ?_
    rintro e w1 ⟨rfl, hb1⟩
    have hcv := Lib.run_convert_string_bytes (P := Try.prog) w1 9 29 5 s Try.underlying9 Try.underlying29 Try.underlying5
    have hby : ByteAt (Lib.bytesWorld w1 5 s) w1.heap.size s.data.toList := fun j hj => by
      have hj' : j < s.size := by rw [HS.out]; exact hj
      refine ⟨?_, ?_⟩
      · rw [Lib.bytesWorld_cell w1 _ s j hj']
        have e1 : s.data.toList.getD j 0 = s.data.toList[j] := by
          rw [List.getD_eq_getElem?_getD, List.getElem?_eq_getElem hj]; rfl
        rw [e1]
      · unfold World.frozen?
        rw [Lib.bytesWorld_at_new]
        have hcs : s.size ≤ (Lib.bytesCells w1 5 s).size := by
          unfold Lib.bytesCells
          rw [Array.size_append, Array.size_map]
          exact Nat.le_add_right _ _
        simp; omega
    have hbw : Below w1.heap.size w1 (Lib.bytesWorld w1 5 s) := Go.Joins.below_bytesWorld _ _ _ _ (Nat.le_refl _)
    have hbs : w1.heap.size < (Lib.bytesWorld w1 5 s).heap.size := by rw [Lib.bytesWorld_size]; omega
    obtain ⟨w2, hw2⟩ : ∃ w2, w2 = Lib.bytesWorld w1 5 s := ⟨_, rfl⟩
    obtain ⟨cp, hcp⟩ : ∃ cp, cp = grownCap w1 s.size 0 5 := ⟨_, rfl⟩
    obtain ⟨g, hg⟩ : ∃ g, g = w1.heap.size := ⟨_, rfl⟩
    rw [← hw2, ← hcp, ← hg] at hcv
    rw [← hw2, ← hg] at hby hbw hbs
    have HG := Lib.hid hg
    have HBY := Lib.hid hby
    have HBW := Lib.hid hbw
    have HB1 := Lib.hid hb1
    clear hw2 hcp hg hby hbw hb1
    have hl0 : s.data.toList.length ≤ 20000 := by rw [← HS.out]; exact hs
    go_wp2
    go_loopw [4] (fun i wr => SpacesAt w1 g s.data.toList i wr) (fun i _ => s.size - (intOf i).toNat)
    case atStart => exact ⟨0, Nat.zero_le _, rfl, HBY.out, HBW.out, hbs⟩
    case round =>
      obtain ⟨k, hk, rfl, hby, hbl, hgs⟩ := hrel
      by_cases hlt : k < s.size
      · have hl : k < s.data.toList.length := by rw [← HS.out]; exact hlt
        obtain ⟨hc, hf⟩ := hby k (by rw [mix_len _ _ hk]; exact hl)
        rw [mix_at hl] at hc
        have hg0 : s.data.toList[k] = s[k] := rfl
        rw [hg0] at hc
        have HBY2 := Lib.hid hby
        have HGK := Lib.hid hg0
        have HBL := Lib.hid hbl
        clear hby hg0 hbl
        by_cases h32 : s[k].toNat = 32
        · have t32 : ((s[k].toNat : Int) == 32) = true := by rw [h32]; rfl
          have HN : Hid (ByteAt (wr.setCell ⟨g, k, none⟩ (.int .u8 10)) g (mix (k + 1) s.data.toList)) := Lib.hid (by
            have h := HBY2.out.set k (by rw [mix_len _ _ hk]; exact hl) (turn s.data.toList[k])
            rw [mix_set hl, HGK.out] at h
            unfold turn at h
            rw [if_pos h32] at h
            exact h)
          clear h32
          go_wp2
          go_roundw
          case rel => exact ⟨k + 1, by omega, by go_num, HN.out, HBL.out.setCell (Nat.le_refl _) _, by simpa using hgs⟩
          case measure => simp [intOf]; omega
        have t32 : ((s[k].toNat : Int) == 32) = false := by rw [beq_eq_false_iff_ne]; omega
        by_cases h10 : s[k].toNat = 10
        · have t10 : ((s[k].toNat : Int) == 10) = true := by rw [h10]; rfl
          have HN : Hid (ByteAt (wr.setCell ⟨g, k, none⟩ (.int .u8 32)) g (mix (k + 1) s.data.toList)) := Lib.hid (by
            have h := HBY2.out.set k (by rw [mix_len _ _ hk]; exact hl) (turn s.data.toList[k])
            rw [mix_set hl, HGK.out] at h
            unfold turn at h
            rw [if_neg h32, if_pos h10] at h
            exact h)
          clear h32 h10
          go_wp2
          go_roundw
          case rel => exact ⟨k + 1, by omega, by go_num, HN.out, HBL.out.setCell (Nat.le_refl _) _, by simpa using hgs⟩
          case measure => simp [intOf]; omega
        have t10 : ((s[k].toNat : Int) == 10) = false := by rw [beq_eq_false_iff_ne]; omega
        have HN : Hid (ByteAt wr g (mix (k + 1) s.data.toList)) := Lib.hid (by
          rw [mix_skip hl (by rw [HGK.out]; unfold turn; rw [if_neg h32, if_neg h10])]
          exact HBY2.out)
        clear h32 h10
        go_wp2
        go_roundw
        case rel => exact ⟨k + 1, by omega, by go_num, HN.out, HBL.out, hgs⟩
        case measure => simp [intOf]; omega
      · have hke : k = s.data.toList.length := by have := HS.out; omega
        rw [hke, mix_end] at hby
        have hbr : Below w.heap.size w wr := HB1.out.trans (hbl.mono (by rw [HG.out]; exact HB1.out.size))
        have HBY2 := Lib.hid hby
        have HKE := Lib.hid hke
        clear hby hbl hke
        go_wp2_with fail
        cases hT : toks s.data.toList with
        | ok l =>
          rw [hT] at ht
          refine (tok_ok (by omega) hT (w := w) _ hbr).mono ?_
          rintro e w3 ⟨A, c, rfl, hT1, hc1, hc2, hl4, hb23, hb3⟩
          have hcv2 := (HBY2.out.below hb23 hgs).conv cp s.size (by rw [List.length_map]; exact HS.out)
          have HT1 := Lib.hid hT1
          clear hT1 hb23 hT
          go_wp2_with fail
          refine (tok_ok hsz ht (w := w) _ hb3).mono ?_
          rintro e w4 ⟨D, d, rfl, hT2, hd1, hd2, _, hb34, hb4⟩
          have HS4 := Lib.hid (sametoks_at (c := c) (d := d) (HT1.out.below hb34) hT2 hl4)
          clear hT2 HT1 hb34 ht
          go_wp2_with fail
          refine HS4.out.mono ?_
          rintro e w5 ⟨rfl, hd⟩
          have hb5 := hb4.trans hd.below
          go_wp2
          go_ret
          exact ⟨rfl, hb5⟩
        | err p c =>
          rw [hT] at ht
          refine (tok_err (by omega) hT (w := w) _ hbr).mono ?_
          rintro e w3 ⟨rfl, hb23, hb3⟩
          have hcv2 := (HBY2.out.below hb23 hgs).conv cp s.size (by rw [List.length_map]; exact HS.out)
          clear hb23 hT
          go_wp2_with fail
          refine (tok_err hsz ht (w := w) _ hb3).mono ?_
          rintro e w4 ⟨rfl, hb34, hb4⟩
          clear hb34 ht
          go_wp2_with fail
          refine (sametoks_at (Toks.nil _ 0 _) (Toks.nil _ 0 _) (by simp)).mono ?_
          rintro e w5 ⟨rfl, hd⟩
          have hb5 := hb4.trans hd.below
          go_wp2
          go_ret
          exact ⟨rfl, hb5⟩
  · go_enter Try.func8, Try.ntmps8
    go_wp2_with fail
    refine (hal.out w (Below.refl _ _)).mono ?_
    rintro e w1 ⟨rfl, hb1⟩
    go_wp2
    go_ret
    exact ⟨rfl, hb1⟩

end Go.Proofs.Ytofodbaiehifjaa
