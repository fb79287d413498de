/- What the code that alive draws answers (plain). -/
import Derived.Test.YtgohnlcgidmlfaaDoorMer
set_option linter.unusedVariables false
set_option linter.unusedSimpArgs false
set_option maxRecDepth 100000
namespace Go.Proofs.YtgohnlcgidmlfaaDoor
open Go.RowKit

def haltsM (a : Int) : Mo := ⟨[], [], [], [], [], [], [], [⟨[116], 0, 0, 0, [⟨23, a, 0, 0, 0, 0, 0, 0, [], 0, 0, 0⟩]⟩], [0]⟩
theorem halts_right : rightM (haltsM 0) = true := by decide +kernel
theorem halts_wrong : rightM (haltsM 1) = false := by decide +kernel
theorem itoa_0 : Lib.itoa 0 = [48] := by
  unfold Lib.itoa
  rw [if_neg (by decide), Lib.decDigits, dif_pos (by decide)]
  rfl
theorem nums_nil : nums [] = [] := rfl
theorem halts_shown : showR (haltsM 0) = [102, 117, 110, 99, 32, 48, 32, 48, 32, 48, 32, 48, 10, 48, 32, 114, 101, 116, 117, 114, 110, 32, 48, 32, 48, 32, 48, 32, 48, 32, 48, 32, 48, 32, 48, 10] := by
  unfold showR
  rw [if_pos halts_right]
  have h0 : Lib.itoa ((0 : Nat) : Int) = [48] := itoa_0
  simp [showU, haltsM, fnT, funcPts, lineT, ptsT, ptT, opsU, opT, opPts, wayPts, kname, itoa_0, nums_nil, List.range_succ]
theorem halts_size : sumC (haltsM 0).funcs = 1 := rfl
theorem halts_words : sumS (haltsM 0).globals = 0 := rfl

end Go.Proofs.YtgohnlcgidmlfaaDoor
