/-
  good and inside.
-/
import Derived.Test.YtogklhbodaghdaaPart
namespace Go.Proofs.Ytogklhbodaghdaa
open Go.RowKit

set_option maxRecDepth 100000 in
set_option maxHeartbeats 1000000 in
theorem good_yes (al ah : Int) (ha : okS al ah) (w : World) :
    Calls Try.prog 4 #[.agg #[.int .i64 al, .int .i64 ah]] w (RetB w true) := by
  obtain ⟨a1, a2, a3⟩ := ha
  go_enter Try.func4, Try.ntmps4
  go_wp2
  go_ret
  refine ⟨by simp [*], ?_⟩
  repeat (refine Below.alloc ?_ (by simp <;> omega) _)
  exact Below.refl _ _

set_option maxRecDepth 100000 in
set_option maxHeartbeats 1000000 in
theorem good_no (al ah : Int) (ha : ¬ okS al ah) (w : World) :
    Calls Try.prog 4 #[.agg #[.int .i64 al, .int .i64 ah]] w (RetB w false) := by
  unfold okS at ha
  by_cases a1 : -1152921504606846976 ≤ al
  · by_cases a2 : al ≤ ah
    · have a3 : ¬ ah ≤ 1152921504606846976 := by omega
      have d3 : decide (ah ≤ 1152921504606846976) = false := by simpa using a3
      clear ha
      go_enter Try.func4, Try.ntmps4
      go_wp2
      go_ret
      refine ⟨by simp [*], ?_⟩
      repeat (refine Below.alloc ?_ (by simp <;> omega) _)
      exact Below.refl _ _
    · have d3 : decide (al ≤ ah) = false := by simpa using a2
      clear ha
      go_enter Try.func4, Try.ntmps4
      go_wp2
      go_ret
      refine ⟨by simp [*], ?_⟩
      repeat (refine Below.alloc ?_ (by simp <;> omega) _)
      exact Below.refl _ _
  · have d3 : decide (-1152921504606846976 ≤ al) = false := by simpa using a1
    clear ha
    go_enter Try.func4, Try.ntmps4
    go_wp2
    go_ret
    refine ⟨by simp [*], ?_⟩
    repeat (refine Below.alloc ?_ (by simp <;> omega) _)
    exact Below.refl _ _


set_option maxRecDepth 100000 in
set_option maxHeartbeats 400000 in
theorem inside_yes (x al ah : Int) (h1 : al ≤ x) (h2 : x ≤ ah) (w : World) :
    Calls Try.prog 9 #[.int .i64 x, .agg #[.int .i64 al, .int .i64 ah]] w (RetB w true) := by
  go_enter Try.func9, Try.ntmps9
  go_wp2
  go_ret
  refine ⟨by simp [*], ?_⟩
  repeat (refine Below.alloc ?_ (by simp <;> omega) _)
  exact Below.refl _ _
end Go.Proofs.Ytogklhbodaghdaa
