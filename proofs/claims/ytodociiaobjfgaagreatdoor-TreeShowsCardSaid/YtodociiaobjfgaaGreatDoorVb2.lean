/- Vx -/
import Derived.Test.YtodociiaobjfgaaGreatDoorVa5
import Derived.Test.YtodociiaobjfgaaGreatDoorVa6
import Derived.Test.YtodociiaobjfgaaGreatDoorVa7
import Derived.Test.YtodociiaobjfgaaGreatDoorVa8
import Derived.Test.YtodociiaobjfgaaGreatDoorVa9
set_option linter.unusedVariables false
set_option linter.unusedSimpArgs false
namespace Go.Proofs.YtodociiaobjfgaaGreatDoor
open Go.RowKit
def Tab (B : Nat) (w : World) : Prop := Lib.TabBelow Tryz.prog B w "internal/strconv.uint64pow10" .u64 Lib.pow10Tab
theorem Xmu {w0 : World} {B : Nat} (htab : Tab B w0) (e : Ex) {r : Value} (hr : Xbd w0 B e.args r) (hs : e.name.length ≤ 40000) : Xtt w0 B e r := by
 obtain ⟨k, p, n, s, args⟩ := e
 intro w Bc Ba u T d ch hb hB hp hd0 hd9 hc0 hc9
 have hr : Xbd w0 B args r := hr
 have hs : s.length ≤ 40000 := hs
 show Calls Tryz.prog 70 #[penV Bc Ba, .agg #[.int .i64 k, .int .i64 p, .int .i64 n, .string (Xaa s), r], .int .i64 d, .int .i64 ch] w (Xal w Bc Ba B u (adv T (penE (.mk k p n s args) d ch)))
 by_cases hd : d ≤ 24
 · by_cases k1 : k = 1
   · subst k1
     by_cases hq : 0 ≤ n ∧ n ≤ 999999999999999999
     · exact Xrv hb hB hp hd0 hd hc0 hr hs htab hq
     · exact Xul hb hB hp hd0 hd hc0 hr hs hq
   by_cases k2 : k = 2
   · subst k2
     by_cases hq : n = 0 ∨ n = 1
     · exact Xrw hb hB hp hd0 hd hc0 hr hs hq
     · exact Xum hb hB hp hd0 hd hc0 hr hs hq
   by_cases k3 : k = 3
   · subst k3; exact expr_3 hb hB hp hd0 hd hc0 hr hs
   by_cases k4 : k = 4
   · subst k4
     by_cases hq : Xam s = true
     · exact Xrx hb hB hp hd0 hd hc0 hr hs hq
     · exact Xun hb hB hp hd0 hd hc0 hr hs hq
   by_cases k5 : k = 5
   · subst k5
     by_cases hq : Xam s = true
     · exact Xry hb hB hp hd0 hd hc0 hr hs hq
     · exact Xuo hb hB hp hd0 hd hc0 hr hs hq
   by_cases k6 : k = 6
   · subst k6; exact expr_6 hb hB hp hd0 hd hc0 hr hs
   by_cases k7 : k = 7
   · subst k7; exact expr_7 hb hB hp hd0 hd hc0 hr hs
   by_cases k8 : k = 8
   · subst k8; exact expr_8 hb hB hp hd0 hd hc0 hr hs
   by_cases k9 : k = 9
   · subst k9
     by_cases hq : s = [45] ∨ s = [33]
     · exact Xrz hb hB hp hd0 hd hc0 hr hs hq
     · exact Xup hb hB hp hd0 hd hc0 hr hs hq
   by_cases k10 : k = 10
   · subst k10
     by_cases hq : s ∈ opsL
     · exact Xov hb hB hp hd0 hd hc0 hr hs hq
     · exact Xrs hb hB hp hd0 hd hc0 hr hs hq
   by_cases k11 : k = 11
   · subst k11
     by_cases hq : Xam s = true
     · exact Xow hb hB hp hd0 hd hc0 hr hs hq
     · exact Xrt hb hB hp hd0 hd hc0 hr hs hq
   by_cases k12 : k = 12
   · subst k12; exact expr_12 hb hB hp hd0 hd hc0 hr hs
   by_cases k13 : k = 13
   · subst k13
     by_cases hq : Xam s = true
     · exact Xox hb hB hp hd0 hd hc0 hr hs hq
     · exact Xru hb hB hp hd0 hd hc0 hr hs hq
   exact Xur hb hB hp hd0 hd hc0 hr hs (by omega)
 · exact Xuq hb hB hp hd0 hd hd9 hc0 hr hs
theorem Xnw {w0 : World} {B : Nat} (htab : Tab B w0) {es : List Ex} {v : Value} (h : Xbm w0 (· < B) es v) : Xbu 40000 es → Xbd w0 B es v := by
 induction h with
 | mk es A c f hc hM hA hr ih =>
   intro hsm
   refine ⟨A, c, rfl, hc, hM, fun j hj => ?_⟩
   obtain ⟨b, off, h1, h2, h3, c0, c1, c2, c3, c4⟩ := hA j hj
   obtain ⟨h4, h5, h6⟩ := Xdy (Xde hsm j hj)
   have hrd := ih j hj h6
   obtain ⟨A5, c5, hf, _, _⟩ := (hr j hj).slice
   have hw := Xmu htab es[j] hrd h4
   rw [hf] at hw c4
   exact ⟨b, off, A5, _, c5, h1, h2, h4, c0, c1, c2, c3, c4, hw⟩
end Go.Proofs.YtodociiaobjfgaaGreatDoor
