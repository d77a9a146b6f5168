/-
  The check that stands at the end of every statement.
-/
import Derived.Test.YtogklhbodaghdaaText
import Derived.Test.YtogklhbodaghdaaTurnb
namespace Go.Proofs.Ytogklhbodaghdaa
open Go.RowKit

theorem ratio46 (w : World) : Calls Try.prog 13 #[.int .i64 4, .int .i64 6] w (RetRE w false 2 3) := by
  have h := ratio_any false 4 6 (by omega) (by omega) (by omega) (by omega) (by omega) w rfl
  have e1 : (4 : Int).natAbs / Nat.gcd (4 : Int).natAbs (6 : Int).natAbs = 2 := by decide
  have e2 : (6 : Int).natAbs / Nat.gcd (4 : Int).natAbs (6 : Int).natAbs = 3 := by decide
  rwa [e1, e2] at h

theorem turn1 (w : World) : Calls Try.prog 16 #[.agg #[.int .i64 0, .int .i64 0], .agg #[.int .i64 1, .int .i64 0], .agg #[.int .i64 0, .int .i64 1]] w (RetIE w 1 0) :=
  turn_ok 0 0 1 0 0 1 (by unfold okP; omega) (by unfold okP; omega) (by unfold okP; omega) w

set_option maxRecDepth 100000 in
set_option maxHeartbeats 1000000 in
theorem first_any (w : World) : Calls Try.prog 6 #[] w (RetB w true) := by
  go_enter Try.func6, Try.ntmps6
  go_wp2_with fail
  refine (ratio46 _).mono ?_
  rintro e w1 ⟨v, rfl, ⟨A1, n1, c1, A2, n2, c2, rfl, h1, h2⟩, hb1⟩
  have h2' : RW .u32 w1 w1.heap.size (.slice A2 n2 c2) (words32 3) := h2
  clear h2
  have hx := h1.alloc (Nat.le_refl _) (.cells #[.bool false, .slice A1 n1 c1, .slice A2 n2 c2] 38)
  have hy := h2'.alloc (Nat.le_refl _) (.cells #[.bool false, .slice A1 n1 c1, .slice A2 n2 c2] 38)
  have g0 := heap_alloc_new w1 (.cells #[.bool false, .slice A1 n1 c1, .slice A2 n2 c2] 38)
  obtain ⟨W1, hW1⟩ : ∃ W1, W1 = w1.alloc (.cells #[.bool false, .slice A1 n1 c1, .slice A2 n2 c2] 38) := ⟨_, rfl⟩
  rw [← hW1] at hx hy g0
  have hbW : Below w.heap.size w W1 := by rw [hW1]; exact hb1.alloc hb1.size _
  have hBW : w1.heap.size ≤ W1.heap.size := by rw [hW1]; simp
  have HW1 := Lib.hid hW1
  have G0 := Lib.hid g0
  obtain ⟨k0, k1, k2, _⟩ := fr_cellsG g0 (Below.refl _ _)
  clear hW1 g0
  go_wp2_with fail
  rw [← HW1.out]
  refine (exText23 A1 A2 n1 n2 c1 c2 w1.heap.size _ (by exact hx) (by exact hy) (by exact hBW)).mono ?_
  rintro e w2 ⟨rfl, hb2⟩
  obtain ⟨q0, q1, q2, _⟩ := fr_cellsG G0.out hb2
  have hx2 := hx.belowM hb2 hBW
  have hy2 := hy.belowM hb2 hBW
  go_wp2_with fail
  refine (exCeil23 A1 A2 n1 n2 c1 c2 w1.heap.size _ (by exact hx2) (by exact hy2) (by exact Nat.le_trans hBW hb2.size)).mono ?_
  rintro e w3 ⟨rfl, hb3⟩
  go_wp2_with fail
  refine (turn1 _).mono ?_
  rintro e w4 ⟨rfl, hb4⟩
  go_wp2
  go_ret
  exact ⟨rfl, ((hbW.trans (hb2.mono hbW.size)).trans (hb3.mono (Nat.le_trans hbW.size hb2.size))).trans (hb4.mono (Nat.le_trans (Nat.le_trans hbW.size hb2.size) hb3.size))⟩
end Go.Proofs.Ytogklhbodaghdaa
