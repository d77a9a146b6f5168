/-
  The check at the end of every statement.
-/
import Derived.Test.YtfalhfgnobjfgaaKBeamc
namespace Go.Proofs.Ytfalhfgnobjfgaa
open Go.RowKit
attribute [local go_sem] eqArr4 eqArr3

theorem beam_one (w : World) : Calls Try.prog 20 #[.agg #[.int .i64 1, .int .i64 1, .int .i64 0, .int .i64 0]] w (RetBm w 0 2 0 2 0) := by
  have h := beam_ok 1 1 0 0 (by unfold okT InB; simp) w
  have e1 : q1 0 (-0) 1 (-1) 1 (-1) (-0) (-0) = 0 := by decide
  have e2 : q2 0 (-0) 1 (-1) 1 (-1) (-0) (-0) = 2 := by decide
  have e3 : q3 0 (-0) 1 (-1) 1 (-1) (-0) (-0) = 0 := by decide
  have e0 : q0 1 1 0 0 1 (-1) (-0) (-0) = 2 := by decide
  rw [e1, e2, e3, e0] at h
  exact h

set_option maxRecDepth 100000 in
set_option maxHeartbeats 1000000 in
theorem awake_any (w : World) : Calls Try.prog 7 #[] w (RetB w true) := by
  go_enter Try.func7, Try.ntmps7
  go_wp2_with fail
  refine (beam_one _).mono ?_
  rintro e w1 ⟨rfl, hb1⟩
  go_wp2
  go_ret
  exact ⟨rfl, hb1.alloc hb1.size _⟩
end Go.Proofs.Ytfalhfgnobjfgaa
