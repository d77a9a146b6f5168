/-
  The document's Place and Turn.
-/
import Derived.Test.YtpjgoibchknbmaaTurnb
namespace Go.Proofs.Ytpjgoibchknbmaa
open Go.RowKit

set_option maxRecDepth 100000 in
theorem place_yes (x y : Int) (h : okP x y) (w : World) : Calls Try.prog 38 #[.agg #[.int .i64 x, .int .i64 y]] w (RetB w true) := by
  obtain ⟨h1, h2, h3, h4⟩ := h
  go_enter Try.func38, Try.ntmps38
  go_wp2
  go_ret
  exact ⟨by simp [*], (Below.refl _ _).alloc (Nat.le_refl _) _⟩

set_option maxRecDepth 100000 in
set_option maxHeartbeats 1000000 in
theorem place_no (x y : Int) (h : ¬ okP x y) (w : World) : Calls Try.prog 38 #[.agg #[.int .i64 x, .int .i64 y]] w (RetB w false) := by
  unfold okP at h
  by_cases h1 : -268435456 ≤ x
  · by_cases h2 : x ≤ 268435456
    · by_cases h3 : -268435456 ≤ y
      · have h4 : ¬ y ≤ 268435456 := by omega
        have d4 : decide (y ≤ 268435456) = false := by simpa using h4
        clear h
        go_enter Try.func38, Try.ntmps38
        go_wp2
        go_ret
        exact ⟨by simp <;> omega, (Below.refl _ _).alloc (Nat.le_refl _) _⟩
      · have d3 : decide (-268435456 ≤ y) = false := by simpa using h3
        clear h
        go_enter Try.func38, Try.ntmps38
        go_wp2
        go_ret
        exact ⟨by simp <;> omega, (Below.refl _ _).alloc (Nat.le_refl _) _⟩
    · have d2 : decide (x ≤ 268435456) = false := by simpa using h2
      clear h
      go_enter Try.func38, Try.ntmps38
      go_wp2
      go_ret
      exact ⟨by simp <;> omega, (Below.refl _ _).alloc (Nat.le_refl _) _⟩
  · have d1 : decide (-268435456 ≤ x) = false := by simpa using h1
    clear h
    go_enter Try.func38, Try.ntmps38
    go_wp2
    go_ret
    exact ⟨by simp <;> omega, (Below.refl _ _).alloc (Nat.le_refl _) _⟩

set_option maxRecDepth 100000 in
set_option maxHeartbeats 1000000 in
theorem refTurn_any (ax ay bx by_ cx cy : Int) (ha : okP ax ay) (hb : okP bx by_) (hc : okP cx cy) (w : World) :
    Calls Try.prog 39 #[.agg #[.int .i64 ax, .int .i64 ay], .agg #[.int .i64 bx, .int .i64 by_], .agg #[.int .i64 cx, .int .i64 cy]] w fun e w' => e = .returned (.int .i64 (sgnI (crossP ax ay bx by_ cx cy))) ∧ Below w.heap.size w w' := by
  obtain ⟨a1, a2, a3, a4⟩ := ha
  obtain ⟨b1, b2, b3, b4⟩ := hb
  obtain ⟨c1, c2, c3, c4⟩ := hc
  have m1 := mul_bd (a := bx - ax) (b := cy - ay) (by omega) (by omega)
  have m2 := mul_bd (a := by_ - ay) (b := cx - ax) (by omega) (by omega)
  have e : wrap64 (wrap64 ((bx - ax) * (cy - ay)) - wrap64 ((by_ - ay) * (cx - ax))) = crossP ax ay bx by_ cx cy := by
    unfold crossP
    rw [wrap64_id (a := (bx - ax) * (cy - ay)) (by omega) (by omega), wrap64_id (a := (by_ - ay) * (cx - ax)) (by omega) (by omega), wrap64_id (by omega) (by omega)]
  have hfin : Below w.heap.size w (((w.alloc (.cells #[.int .i64 ax, .int .i64 ay] 64)).alloc (.cells #[.int .i64 bx, .int .i64 by_] 64)).alloc (.cells #[.int .i64 cx, .int .i64 cy] 64)) := (((Below.refl _ _).alloc (Nat.le_refl _) _).alloc (by simp) _).alloc (by simp; omega) _
  rcases Int.lt_trichotomy (crossP ax ay bx by_ cx cy) 0 with h | h | h
  · have es : sgnI (crossP ax ay bx by_ cx cy) = -1 := by unfold sgnI; rw [if_pos h]
    rw [← e] at h
    rw [es]
    clear m1 m2 e es
    go_enter Try.func39, Try.ntmps39
    go_wp2
    go_ret
    exact ⟨rfl, hfin⟩
  · have es : sgnI (crossP ax ay bx by_ cx cy) = 0 := by rw [h]; rfl
    rw [← e] at h
    have h1 := Int.le_of_eq h
    have h2 := Int.le_of_eq h.symm
    rw [es]
    clear m1 m2 e es h
    go_enter Try.func39, Try.ntmps39
    go_wp2
    go_ret
    exact ⟨rfl, hfin⟩
  · have es : sgnI (crossP ax ay bx by_ cx cy) = 1 := by unfold sgnI; rw [if_neg (by omega), if_pos h]
    rw [← e] at h
    rw [es]
    clear m1 m2 e es
    go_enter Try.func39, Try.ntmps39
    go_wp2
    go_ret
    exact ⟨rfl, hfin⟩
end Go.Proofs.Ytpjgoibchknbmaa
