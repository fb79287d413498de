/- Layer 9: the document's Sign, and WordSigns. -/
import Derived.Test.YtegkhbakemddhaaWdb
import Derived.Test.YtegkhbakemddhaaRi
set_option linter.unusedVariables false
set_option maxRecDepth 100000
namespace Go.Proofs.Ytegkhbakemddhaa
open Go.RowKit

theorem ret_i {k : IntKind} {a b : Int} (h : a = b) : Ending.returned (.int k a) = .returned (.int k b) := by rw [h]
def strOf (t : List UInt8) : ByteArray := ⟨t.toArray⟩
theorem strOf_toList (t : List UInt8) : (strOf t).toList = t := Lib.toList_data _
theorem signs_hit : ∀ (k : Nat) (h : k < signsL.length), sg2 signsL[k] = (k : Int) + 1 := by decide +kernel
theorem signs_miss {l : List UInt8} (h : ∀ (j : Nat) (hj : j < signsL.length), signsL[j] ≠ l) : sg2 l = 0 := by
  have e : ∀ (j : Nat) (hj : j < signsL.length), ¬ l = signsL[j] := fun j hj x => h j hj x.symm
  unfold sg2
  exact (if_neg (e 0 (by decide))).trans ((if_neg (e 1 (by decide))).trans ((if_neg (e 2 (by decide))).trans ((if_neg (e 3 (by decide))).trans ((if_neg (e 4 (by decide))).trans ((if_neg (e 5 (by decide))).trans ((if_neg (e 6 (by decide))).trans ((if_neg (e 7 (by decide))).trans ((if_neg (e 8 (by decide))).trans ((if_neg (e 9 (by decide))).trans (if_neg (e 10 (by decide))))))))))))

def signsA : Array Value := (signsL.map fun t => Value.string (strOf t)).toArray
theorem signs_cell (w : World) (k : Nat) (h : k < signsL.length) : (w.alloc (.cells signsA 33)).cell? ⟨w.heap.size, k, none⟩ = some (.string (strOf signsL[k])) := by
  rw [cell_of_row _ _ k _ _ (0, 0) (heap_alloc_new w _)]
  simp [signsA, h]

set_option maxHeartbeats 1000000 in
theorem rsign_one (s : ByteArray) (w : World) :
    Calls Try.prog 14 #[.string s, .int .i64 1] w fun e w' => e = .returned (.int .i64 (sg1 s.toList)) ∧ w = w' := by
  by_cases h0 : s.toList = [45]
  · have hv : sg1 s.toList = 1 := by rw [h0]; rfl
    rw [hv]; clear hv
    go_enter Try.func14, Try.ntmps14
    go_wp2
    go_ret
    exact ⟨rfl, rfl⟩
  · by_cases h1 : s.toList = [33]
    · have hv : sg1 s.toList = 2 := by rw [h1]; rfl
      rw [hv]; clear hv h0
      go_enter Try.func14, Try.ntmps14
      go_wp2
      go_ret
      exact ⟨rfl, rfl⟩
    · have hv : sg1 s.toList = 0 := by unfold sg1; rw [if_neg h0, if_neg h1]
      have e0 : (s.toList == [45]) = false := by simpa using h0
      have e1 : (s.toList == [33]) = false := by simpa using h1
      rw [hv]; clear hv h0 h1
      go_enter Try.func14, Try.ntmps14
      go_wp2
      go_ret
      exact ⟨rfl, rfl⟩

def voidA : Array Value := Array.replicate 11 (.string ⟨#[]⟩)

set_option maxHeartbeats 1000000 in
theorem rsign_two (s : ByteArray) (w : World) :
    Calls Try.prog 14 #[.string s, .int .i64 2] w fun e w' => e = .returned (.int .i64 (sg2 s.toList)) ∧ Below w.heap.size w w' := by
  have hW := signs_cell w
  obtain ⟨L, hL⟩ : ∃ L, L = s.toList := ⟨_, rfl⟩
  have HL := Lib.hid hL
  rw [← hL]
  obtain ⟨R, hR⟩ : ∃ R, R = sg2 L := ⟨_, rfl⟩
  rw [← hR]
  have HR := Lib.hid hR
  clear hR
  obtain ⟨wA, hwA⟩ : ∃ wA, wA = signsA := ⟨_, rfl⟩
  rw [← hwA] at hW
  have hb : ∀ vs : List (Nat × Value), Try.prog.built 33 vs = some signsA → Try.prog.built 33 vs = some wA := fun vs h => by rw [h, hwA]
  have hsz : (Try.prog.info? 33).map (·.size) = some wA.size := by rw [hwA]; kernel_rfl
  have hsz2 : voidA.size = wA.size := by rw [hwA]; rfl
  have hone : wA.all (·.oneCell') = true := by rw [hwA]; kernel_rfl
  obtain ⟨zA, hzA⟩ : ∃ zA, zA = voidA := ⟨_, rfl⟩
  have hz : (Try.prog.info? 33).map (fun i => (i.zero, i.size)) = some (some (.agg zA), 11) := by rw [hzA]; kernel_rfl
  rw [← hzA] at hsz2
  have HW := Lib.hid hW
  have HB := Lib.hid hb
  have HSZ := Lib.hid hsz
  have HZ := Lib.hid hz
  have HS2 := Lib.hid hsz2
  have HONE := Lib.hid hone
  clear hW hb hsz hz hsz2 hone hwA hzA hL
  go_enter Try.func14, Try.ntmps14
  go_wp2_with (first
    | (with_reducible refine wpList_build_lit rfl 33 _ rfl _ rfl wA (HB.out _ (by kernel_rfl)) ?_)
    | (with_reducible refine wpList_alloc_lit rfl 33 rfl (.agg zA) 11 HZ.out zA rfl ?_)
    | (with_reducible refine wpList_store_lit rfl 33 _ _ rfl rfl zA wA rfl HSZ.out HS2.out HONE.out ?_))
  go_loop [6] (fun i => ∃ k : Nat, k ≤ 11 ∧ i = .int .i64 k ∧ Hid (∀ (j : Nat) (hj : j < signsL.length), j < k → signsL[j] ≠ L)) (fun i => 11 - (intOf i).toNat)
  case atStart => exact ⟨0, by omega, rfl, Lib.hid (fun j hj h => absurd h (by omega))⟩
  case round =>
    obtain ⟨k, hk, rfl, HN⟩ := hrel
    by_cases hlt : k < 11
    · have hkl : k < signsL.length := hlt
      have hc := HW.out k hkl
      obtain ⟨wk, hwk⟩ : ∃ wk, wk = signsL[k] := ⟨_, rfl⟩
      rw [← hwk] at hc
      have HWK := Lib.hid hwk
      clear hwk
      by_cases he : wk = L
      · have h1 : ((strOf wk).toList == s.toList) = true := by rw [strOf_toList, he, HL.out]; simp
        have HE := Lib.hid he
        have hv : sg2 L = (k : Int) + 1 := by rw [← HE.out, HWK.out]; exact signs_hit k hkl
        have HV := Lib.hid (HR.out.trans hv)
        clear he hv
        go_wp2
        go_ret
        exact ⟨ret_i HV.out.symm, (Below.refl _ _).alloc (Nat.le_refl _) _⟩
      · have h1 : ((strOf wk).toList == s.toList) = false := by rw [strOf_toList, ← HL.out, beq_eq_false_iff_ne]; exact he
        have HE := Lib.hid he
        clear he
        go_wp2
        go_round
        case rel => exact ⟨k + 1, by omega, by go_num, Lib.hid (fun j hj h => by
          by_cases hjk : j = k
          · subst hjk; rw [← HWK.out]; exact HE.out
          · exact HN.out j hj (by omega))⟩
        case measure => simp [intOf]; omega
    · have hv : sg2 L = 0 := signs_miss (fun j hj => HN.out j hj (by have : j < 11 := hj; omega))
      have HV := Lib.hid (HR.out.trans hv)
      clear hv
      go_wp2
      go_ret
      exact ⟨ret_i HV.out.symm, (Below.refl _ _).alloc (Nat.le_refl _) _⟩

set_option maxHeartbeats 1000000 in
theorem rsign_none (s : ByteArray) (n : Int) (hn : ¬ n = 1) (hn2 : ¬ n = 2) (w : World) :
    Calls Try.prog 14 #[.string s, .int .i64 n] w fun e w' => e = .returned (.int .i64 0) ∧ Below w.heap.size w w' := by
  obtain ⟨wA, hwA⟩ : ∃ wA, wA = signsA := ⟨_, rfl⟩
  have hb : ∀ vs : List (Nat × Value), Try.prog.built 33 vs = some signsA → Try.prog.built 33 vs = some wA := fun vs h => by rw [h, hwA]
  have hsz : (Try.prog.info? 33).map (·.size) = some wA.size := by rw [hwA]; kernel_rfl
  have hsz2 : voidA.size = wA.size := by rw [hwA]; rfl
  have hone : wA.all (·.oneCell') = true := by rw [hwA]; kernel_rfl
  obtain ⟨zA, hzA⟩ : ∃ zA, zA = voidA := ⟨_, rfl⟩
  have hz : (Try.prog.info? 33).map (fun i => (i.zero, i.size)) = some (some (.agg zA), 11) := by rw [hzA]; kernel_rfl
  rw [← hzA] at hsz2
  have HB := Lib.hid hb
  have HSZ := Lib.hid hsz
  have HZ := Lib.hid hz
  have HS2 := Lib.hid hsz2
  have HONE := Lib.hid hone
  clear hb hsz hz hsz2 hone hwA hzA
  have e1 : (n == 1) = false := by simpa using hn
  have e2 : (n == 2) = false := by simpa using hn2
  clear hn hn2
  go_enter Try.func14, Try.ntmps14
  go_wp2_with (first
    | (with_reducible refine wpList_build_lit rfl 33 _ rfl _ rfl wA (HB.out _ (by kernel_rfl)) ?_)
    | (with_reducible refine wpList_alloc_lit rfl 33 rfl (.agg zA) 11 HZ.out zA rfl ?_)
    | (with_reducible refine wpList_store_lit rfl 33 _ _ rfl rfl zA wA rfl HSZ.out HS2.out HONE.out ?_))
  go_loop [6] (fun i => i = .int .i64 0) (fun i => 0)
  case atStart => rfl
  case round =>
    obtain rfl := hrel
    go_wp2
    go_ret
    exact ⟨rfl, (Below.refl _ _).alloc (Nat.le_refl _) _⟩

theorem rsign_any (s : ByteArray) (n : Int) (w : World) :
    Calls Try.prog 14 #[.string s, .int .i64 n] w fun e w' => e = .returned (.int .i64 (sg s.toList n)) ∧ Below w.heap.size w w' := by
  by_cases h1 : n = 1
  · subst h1
    exact (rsign_one s w).mono (by rintro e w' ⟨rfl, rfl⟩; exact ⟨rfl, Below.refl _ _⟩)
  · by_cases h2 : n = 2
    · subst h2; exact rsign_two s w
    · have hv : sg s.toList n = 0 := by unfold sg; rw [if_neg h1, if_neg h2]
      rw [hv]; exact rsign_none s n h1 h2 w

set_option maxHeartbeats 1000000 in
theorem signs_walk (s : ByteArray) (n : Int) (w : World) :
    Calls Try.prog 4 #[.string s, .int .i64 n] w fun e w' => e = .returned (.bool true) ∧ Below w.heap.size w w' := by
  obtain ⟨r, hr⟩ : ∃ r, r = sg s.toList n := ⟨_, rfl⟩
  have h1 : ∀ wx, Calls Try.prog 13 #[.string ⟨#[33]⟩, .int .i64 1] wx fun e w' => e = .returned (.int .i64 2) ∧ wx = w' := fun wx => by
    have hs : sg (⟨#[33]⟩ : ByteArray).toList 1 = 2 := by rw [Lib.toList_data]; decide +kernel
    rw [← hs]; exact sign_any ⟨#[33]⟩ 1 wx
  have h2 : ∀ wx, Calls Try.prog 13 #[.string s, .int .i64 n] wx fun e w' => e = .returned (.int .i64 r) ∧ wx = w' := fun wx => by rw [hr]; exact sign_any s n wx
  have h3 : ∀ wx, Calls Try.prog 14 #[.string s, .int .i64 n] wx fun e w' => e = .returned (.int .i64 r) ∧ Below wx.heap.size wx w' := fun wx => by rw [hr]; exact rsign_any s n wx
  have H1 := Lib.hid h1
  have H2 := Lib.hid h2
  have H3 := Lib.hid h3
  clear h1 h2 h3 hr
  go_enter Try.func4, Try.ntmps4
  go_wp2_with (first
    | (go_at_call 13; with_reducible refine (H1.out _).mono ?_; rintro e w' ⟨rfl, rfl⟩)
    | (go_at_call 13; with_reducible refine (H2.out _).mono ?_; rintro e w' ⟨rfl, rfl⟩)
    | (go_at_call 14; with_reducible refine (H3.out _).mono ?_; rintro e w' ⟨rfl, HBW⟩))
  go_ret
  exact ⟨rfl, HBW⟩

end Go.Proofs.Ytegkhbakemddhaa
