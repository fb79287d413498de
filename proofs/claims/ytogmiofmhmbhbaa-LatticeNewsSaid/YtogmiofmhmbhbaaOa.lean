/- The walk of the document's Chain. -/
import Derived.Test.YtogmiofmhmbhbaaPo
import Derived.Test.YtogmiofmhmbhbaaNg
namespace Go.Proofs.Ytogmiofmhmbhbaa
open Go.RowKit

theorem OwnInts.set_ {w : World} {base g m cap : Nat} {zs : List Int} (h : OwnInts w base (.slice (some ⟨g, 0, none⟩) m cap) zs) {p : Addr} (hp : g ≠ p.block) (u : Value) : OwnInts (w.setCell p u) base (.slice (some ⟨g, 0, none⟩) m cap) zs := by
  obtain ⟨e, _⟩ := h.ints
  subst e
  exact own_set h hp u
theorem OwnInts.ge {w : World} {base : Nat} {v : Value} {zs : List Int} (h : OwnInts w base v zs) {k : Nat} (hk : v.ownBlock = some k) : base ≤ k := (h.lt k hk).1
/-- a slice's length -/
def lenS : Value → Nat
  | .slice _ n _ => n
  | _ => 0

set_option maxRecDepth 100000 in
set_option maxHeartbeats 2000000 in
theorem rchain_any (w : World) (n : Nat) (v : Value) (U D : List Nat) (f : Tab) (hM : MatAt w w.heap.size n v f) (l : Latt n U D) (s : Says n U f) (h1 : 1 ≤ n) (h8 : n ≤ 8) :
    Calls Try.prog 26 #[.agg #[v]] w (ChainPost w D) := by
  obtain ⟨go, co, G, C, rfl, hgo, hM⟩ := hM
  have HMA := Lib.hid hM
  have HL := Lib.hid l
  have HS := Lib.hid s
  clear hM l s
  have hmk := fun w => make_bools n h8 (dT 0) 0 (fun j _ => dT_zero 0 j) w
  obtain ⟨B, hB⟩ : ∃ B, B = w.heap.size := ⟨_, rfl⟩
  obtain ⟨g2, hg2⟩ : ∃ g2, g2 = B + 1 + 1 := ⟨_, rfl⟩
  obtain ⟨w3, hw3⟩ : ∃ w3, w3 = ((w.alloc (.cells #[.slice (some ⟨go, 0, none⟩) n co] 31)).alloc (.cells #[] 3)).alloc (.cells (rowA (dT 0) n 0) 4) := ⟨_, rfl⟩
  have hb3 : Below B w w3 := by rw [hw3, hB]; exact (((Below.refl _ _).alloc (Nat.le_refl _) _).alloc (by simp) _).alloc (by simp; omega) _
  have q0 : w3.cell? ⟨B, 0, none⟩ = some (.slice (some ⟨go, 0, none⟩) n co) := by
    rw [hw3, ((((Below.refl (B + 1) _).alloc (by simp; omega) _).alloc (by simp; omega) _).cell (p := ⟨B, 0, none⟩) (by simp)), hB, cell_of_row _ _ 0 _ _ (0, 0) (heap_alloc_new w _)]; rfl
  have d0 : w3.heap[g2]? = some (.cells (rowA (dT 0) n 0) 4 (0, 0)) := by
    have := heap_alloc_new ((w.alloc (.cells #[.slice (some ⟨go, 0, none⟩) n co] 31)).alloc (.cells #[] 3)) (.cells (rowA (dT 0) n 0) 4)
    rw [hw3, hg2, hB]; simpa using this
  have o0 : OwnInts w3 (B + 1) (.slice (some ⟨B + 1, 0, none⟩) 0 0) [] := by
    have := World.ownsRow_lit (base := w.heap.size + 1) (e := 3) (size := 1) (w.alloc (.cells #[.slice (some ⟨go, 0, none⟩) n co] 31)) #[] 0 (by simp) (by unfold maxLen; omega) rfl
    rw [hw3, hB]; exact OwnInts.alloc (by unfold OwnInts; simpa [intsV] using this) _
  have s3 : B + 3 = w3.heap.size := by rw [hw3, hB]; simp
  have HB := Lib.hid hB
  have HG2 := Lib.hid hg2
  have HW3 := Lib.hid hw3
  clear hB hg2 hw3
  go_enter Try.func26, Try.ntmps26
  go_wp2
  clear hmk
  rw [← HW3.out, ← HB.out, ← HG2.out]
  go_loopw [3] (fun s3 wr => ∃ t g cp : Nat, t ≤ n ∧ s3 = .slice (some ⟨g, 0, none⟩) t cp ∧ g ≠ g2 ∧ Hid ((chTo D t).1.length = t) ∧ OwnInts wr (B + 1) (.slice (some ⟨g, 0, none⟩) t cp) (chTo D t).1 ∧
    Hid (wr.heap[g2]? = some (.cells (rowA (dT (chTo D t).2) n 0) 4 (0, 0))) ∧ Hid (wr.cell? ⟨B, 0, none⟩ = some (.slice (some ⟨go, 0, none⟩) n co)) ∧ Below B w wr ∧ B + 3 ≤ wr.heap.size) (fun s _ => n - lenS s)
  case atStart => exact ⟨0, B + 1, 0, Nat.zero_le _, rfl, by rw [HG2.out]; omega, rfl, o0, d0, q0, hb3, by omega⟩
  case round =>
    obtain ⟨t, g, cp, ht, rfl, hgg, hlen, hown, hdn, hcb, hb, hsz⟩ := hrel
    obtain ⟨wo, rfl⟩ : ∃ wo : World, wo = wr := ⟨_, rfl⟩
    have q1 := hcb.out
    by_cases hlt : t < n
    · have hbd := chTo_bd D (by rw [HL.out.pd.len]; exact h8) t
      have HPK := Lib.hid (pick_some HL.out.pd HL.out.ad h8 hlt)
      obtain ⟨chs, hchs⟩ : ∃ chs, chs = (chTo D t).1 := ⟨_, rfl⟩
      obtain ⟨dn, hdnx⟩ : ∃ dn, dn = (chTo D t).2 := ⟨_, rfl⟩
      rw [← hchs] at hown hlen
      rw [← hdnx] at hdn hbd HPK
      have HCH := Lib.hid hchs
      have HDX := Lib.hid hdnx
      have HOWN := Lib.hid hown
      clear hchs hdnx hown
      go_wp2
      clear q1
      go_loopw [5, 3] (fun i s3 wl => ∃ c : Nat, c ≤ n ∧ i = .int .i64 c ∧ s3 = .slice (some ⟨g, 0, none⟩) t cp ∧ Hid (∀ j, j < c → nextB D dn j = false) ∧ Drawn wo wl) (fun i _ _ => n - (intOf i).toNat)
      case atStart => exact ⟨0, Nat.zero_le _, rfl, rfl, fun j hj => absurd hj (by omega), Drawn.refl _⟩
      case round =>
        obtain ⟨c, hc, rfl, rfl, hno, hd⟩ := hrel
        obtain ⟨wl, rfl⟩ : ∃ wl : World, wl = wr := ⟨_, rfl⟩
        have q1 := (hd.cell _).trans hcb.out
        by_cases hltc : c < n
        · have hdn1 : wl.heap[g2]? = some (.cells (rowA (dT dn) n 0) 4 (0, 0)) := by
            have := hd.below (B := g2 + 1) |>.block g2 (by omega)
            exact this.trans hdn.out
          have q2 : wl.cell? ⟨g2, c, none⟩ = some (.bool (dn.testBit c)) := by
            rw [cell_of_row wl g2 c _ _ (0, 0) hdn1, rowA_get _ _ _ _ hltc]; rfl
          have HZ0 := Lib.hid (okTo_zero f dn c)
          obtain ⟨dv, hdv⟩ : ∃ dv, dv = dn.testBit c := ⟨_, rfl⟩
          rw [← hdv] at q2 HZ0
          clear hdv hdn1
          go_wp2
          clear q1 q2
          go_loopw [7, 6] (fun i s6 wk => ∃ d : Nat, d ≤ n ∧ i = .int .i64 d ∧ s6 = .bool (okTo f dn c d) ∧ Drawn wo wk) (fun i _ _ => n - (intOf i).toNat)
          case atStart => exact ⟨0, Nat.zero_le _, rfl, by rw [HZ0.out], hd⟩
          case round =>
            obtain ⟨d, hdn', rfl, rfl, hd2⟩ := hrel
            obtain ⟨wk, rfl⟩ : ∃ wk : World, wk = wr := ⟨_, rfl⟩
            obtain ⟨ob, hob⟩ : ∃ ob, ob = okTo f dn c d := ⟨_, rfl⟩
            have HOB := Lib.hid hob
            rw [← hob]
            clear hob
            have q1 := (hd2.cell _).trans hcb.out
            by_cases hltd : d < n
            · have hdn2 : wk.heap[g2]? = some (.cells (rowA (dT dn) n 0) 4 (0, 0)) := by
                have := hd2.below (B := g2 + 1) |>.block g2 (by omega)
                exact this.trans hdn.out
              have q2 : wk.cell? ⟨g2, d, none⟩ = some (.bool (dn.testBit d)) := by
                rw [cell_of_row wk g2 d _ _ (0, 0) hdn2, rowA_get _ _ _ _ hltd]; rfl
              have hbk := hb.trans (hd2.below (B := B))
              have q3 := (hbk.cell (p := ⟨go, d, none⟩) (by rw [HB.out]; exact hgo)).trans (HMA.out d hltd).2.1
              have q4 := (hbk.cell (p := ⟨G d, c, none⟩) (by rw [HB.out]; exact (HMA.out d hltd).1)).trans ((HMA.out d hltd).2.2 c hltc)
              have HSS : Hid (okTo f dn c (d + 1) = (ob && (d == c || dn.testBit d || !f d c))) := Lib.hid (by rw [okTo_succ, HOB.out])
              obtain ⟨dv, hdv⟩ : ∃ dv, dv = dn.testBit d := ⟨_, rfl⟩
              obtain ⟨fv, hfv⟩ : ∃ fv, fv = f d c := ⟨_, rfl⟩
              rw [← hdv] at q2 HSS
              rw [← hfv] at q4 HSS
              clear hdv hfv hdn2 hbk
              cases ob
              · have HS' : Hid (okTo f dn c (d + 1) = false) := Lib.hid (by rw [HSS.out]; rfl)
                go_wp2
                go_roundw
                case rel => exact ⟨d + 1, by omega, by go_num, by rw [HS'.out], hd2⟩
                case measure => simp [intOf]; omega
              · by_cases e : d = c
                · subst e
                  have HS' : Hid (okTo f dn d (d + 1) = true) := Lib.hid (by rw [HSS.out]; simp)
                  have he : ((d : Int) == (d : Int)) = true := by simp
                  go_wp2
                  go_roundw
                  case rel => exact ⟨d + 1, by omega, by go_num, by rw [HS'.out], hd2⟩
                  case measure => simp [intOf]; omega
                · have he : ((d : Int) == (c : Int)) = false := by simp; omega
                  have he2 : (d == c) = false := by simpa using e
                  have HS' : Hid (okTo f dn c (d + 1) = (dv || !fv)) := Lib.hid (by rw [HSS.out, he2]; simp)
                  clear he2
                  cases dv
                  · go_wp2
                    go_roundw
                    case rel => exact ⟨d + 1, by omega, by go_num, by rw [HS'.out]; rfl, hd2⟩
                    case measure => simp [intOf]; omega
                  · go_wp2
                    go_roundw
                    case rel => exact ⟨d + 1, by omega, by go_num, by rw [HS'.out]; rfl, hd2⟩
                    case measure => simp [intOf]; omega
            · obtain rfl : n = d := by omega
              have HNB : Hid (ob = nextB D dn c) := Lib.hid (by rw [HOB.out]; exact okTo_next HL.out h8 HS.out hbd hltc)
              cases ob
              · go_wp2
                go_roundw
                case rel => exact ⟨c + 1, by omega, by go_num, rfl, Lib.hid (fun j hj => by
                  by_cases e : j = c
                  · subst e; exact HNB.out.symm
                  · exact hno.out j (by omega)), hd2⟩
                case measure => simp [intOf]; omega
              · have hdn2 : wk.heap[g2]? = some (.cells (rowA (dT dn) n 0) 4 (0, 0)) := by
                  have := hd2.below (B := g2 + 1) |>.block g2 (by omega)
                  exact this.trans hdn.out
                have q2 : wk.cell? ⟨g2, c, none⟩ = some (.bool (dn.testBit c)) := by
                  rw [cell_of_row wk g2 c _ _ (0, 0) hdn2, rowA_get _ _ _ _ hltc]; rfl
                have q3 : wk.frozen? ⟨g2, c, none⟩ = false := frozen_of_row wk g2 c _ _ hdn2
                have HD2 := Lib.hid hdn2
                have hOs := (HOWN.out.drawn hd2).set_ (p := ⟨g2, c, none⟩) hgg (.bool true)
                have HOS := Lib.hid hOs
                have HT : Hid (chTo D (t + 1) = ((chTo D t).1 ++ [(c : Int)], (chTo D t).2 ||| pw c)) := Lib.hid (chTo_hit (by rw [← HDX.out]; exact pick_hit (by rw [HL.out.pd.len]; exact hltc) HNB.out.symm hno.out))
                have hl2 : chs.length ≤ 100000 := by have := hlen.out; omega
                have hsk : B + 3 ≤ wk.heap.size := by have := (hd2.below (B := B)).size; omega
                clear hdn2 hOs
                go_wp2_with (at_builtin; refine wpList_append_int rfl _ _ rfl (B + 1) _ chs rfl (HOS.out.alloc _) wk.heap.size 1 c rfl (one_hc (by simp)) hl2 (by simp; omega) ?_; intro v' w4 hown4 hgr; obtain ⟨g', cp', rfl, hbg', hcur'⟩ := hown4.form (by simp))
                go_roundw
                case rel =>
                  have hbk : Below (B + 1) wk w4 := (((Below.refl (B + 1) wk).setCell (p := ⟨g2, c, none⟩) (by have := HG2.out; simp; omega) _).alloc (by simp; omega) _).grown hgr (by simp; omega) (fun k hk => HOS.out.ge hk)
                  have hd4 : w4.heap[g2]? = some (.cells (rowA (dT (dn ||| pw c)) n 0) 4 (0, 0)) := by
                    refine (hgr.block g2 (by have := HG2.out; simp; omega) (fun e => ?_)).trans ?_
                    · have e2 : some g2 = some g := e
                      injection e2 with e2
                      exact hgg e2.symm
                    · rw [Below.heap_alloc _ _ _ (by have := HG2.out; simp; omega), ← dT_set]
                      exact heap_setCell_same wk g2 c _ _ _ HD2.out
                  have hne : g' ≠ g2 := fun e => own_not hown4 hd4 (by decide) (by rw [e]; rfl)
                  refine ⟨t + 1, g', cp', by omega, by rw [hlen.out], hne, Lib.hid ?_, ?_, Lib.hid ?_, Lib.hid ?_, (hb.trans hd2.below).trans (hbk.mono (by omega)), by have := hbk.size; omega⟩
                  · rw [HT.out, ← HCH.out, List.length_append, hlen.out]; rfl
                  · rw [HT.out, ← HCH.out]
                    have := hown4
                    rw [List.length_append, hlen.out] at this
                    exact this
                  · rw [HT.out, ← HDX.out]; exact hd4
                  · exact (hbk.cell (p := ⟨B, 0, none⟩) (by simp)).trans ((hd2.cell _).trans hcb.out)
                case measure => simp [lenS, hlen.out]; omega
        · obtain rfl : n = c := by omega
          obtain ⟨j, hj, hjn⟩ := HPK.out
          rw [hno.out j hj] at hjn
          cases hjn
    · obtain rfl : t = n := by omega
      go_wp2
      go_ret
      have HC : chainL D = (chTo D t).1 := by unfold chainL; rw [HL.out.pd.len]
      have hge : B + 1 ≤ g := hown.ge rfl
      refine ⟨g, cp, by rw [HC, hlen.out]; rfl, by rw [← HB.out]; omega, ?_, by rw [← HB.out]; exact hb⟩
      rw [HC, hlen.out]
      exact OwnInts.mono hown (by rw [← HB.out]; omega)

end Go.Proofs.Ytogmiofmhmbhbaa
