/-
  A detector that came in; the statements' own test of one.
-/
import Derived.Test.YtkcagifljelfoaaVEch
import Derived.Lib.SmallJoins
namespace Go.Proofs.Ytkcagifljelfoaa
open Go.RowKit Go.WideShapes Go.ChangeShapes Go.Joins

set_option maxRecDepth 100000 in
set_option maxHeartbeats 1000000 in
theorem fine_yes (lv dp st dl : Int) (h : okD ⟨lv, dp, st, dl⟩) (w : World) :
    Calls Try.prog 27 #[.agg #[.int .i64 lv, .int .i64 dp, .int .i64 st, .int .i64 dl]] w (RetB w true) := by
  obtain ⟨a1, a2, a3, a4, a5, a6, a7, a8⟩ := h
  simp only at a1 a2 a3 a4 a5 a6 a7 a8
  go_enter Try.func27, Try.ntmps27
  go_wp2
  go_ret
  refine ⟨by simp [*], ?_⟩
  exact (Below.refl _ w).alloc (Nat.le_refl _) _

theorem fine_no_end {w : World} {o : Obj} {b : Bool} (hb : b = false) : RetB w false (.returned (.bool b)) (w.alloc o) := by
  subst hb
  exact ⟨rfl, (Below.refl _ w).alloc (Nat.le_refl _) _⟩

set_option maxRecDepth 100000 in
set_option maxHeartbeats 4000000 in
theorem fine_no (lv dp st dl : Int) (h : ¬ okD ⟨lv, dp, st, dl⟩) (w : World) :
    Calls Try.prog 27 #[.agg #[.int .i64 lv, .int .i64 dp, .int .i64 st, .int .i64 dl]] w (RetB w false) := by
  unfold okD at h
  simp only at h
  by_cases a1 : 1 ≤ lv
  · by_cases a2 : lv ≤ 1023
    · by_cases a3 : 1 ≤ dp
      · by_cases a4 : dp ≤ 1023
        · by_cases a5 : 1 ≤ st
          · by_cases a6 : st ≤ 10000
            · by_cases a7 : -1048576 ≤ dl
              · have a8 : ¬ dl ≤ 1048576 := by omega
                clear h
                go_enter Try.func27, Try.ntmps27
                go_wp2
                go_ret
                exact fine_no_end (by simp [*])
              · clear h
                go_enter Try.func27, Try.ntmps27
                go_wp2
                go_ret
                exact fine_no_end (by simp [*])
            · clear h
              go_enter Try.func27, Try.ntmps27
              go_wp2
              go_ret
              exact fine_no_end (by simp [*])
          · clear h
            go_enter Try.func27, Try.ntmps27
            go_wp2
            go_ret
            exact fine_no_end (by simp [*])
        · clear h
          go_enter Try.func27, Try.ntmps27
          go_wp2
          go_ret
          exact fine_no_end (by simp [*])
      · clear h
        go_enter Try.func27, Try.ntmps27
        go_wp2
        go_ret
        exact fine_no_end (by simp [*])
    · clear h
      go_enter Try.func27, Try.ntmps27
      go_wp2
      go_ret
      exact fine_no_end (by simp [*])
  · clear h
    go_enter Try.func27, Try.ntmps27
    go_wp2
    go_ret
    exact fine_no_end (by simp [*])
end Go.Proofs.Ytkcagifljelfoaa
