/-
  floorOver and Over.
-/
import Derived.Test.YtogklhbodaghdaaTurnb
import Derived.Test.YtogklhbodaghdaaSpanc
namespace Go.Proofs.Ytogklhbodaghdaa
open Go.RowKit

theorem ediv_of_le {x n q r : Int} (hn : 1 ≤ n) (h : n * q + r = x) (h0 : 0 ≤ r) (h1 : r < n) : q = x / n := by
  rw [← h, Int.add_comm, Int.add_mul_ediv_left _ _ (by omega), Int.ediv_eq_zero_of_lt h0 h1, Int.zero_add]

theorem tdiv_floor (x n : Int) (hn : 1 ≤ n) : (Int.tmod x n < 0 → Int.tdiv x n - 1 = x / n) ∧ (¬ Int.tmod x n < 0 → Int.tdiv x n = x / n) := by
  have h1 := Int.mul_tdiv_add_tmod x n
  have h2 := Int.tmod_lt_of_pos x (show 0 < n by omega)
  constructor
  · intro h
    have h3 : -n < Int.tmod x n := by
      have := Int.tmod_lt_of_pos (-x) (show 0 < n by omega)
      rw [Int.neg_tmod] at this
      omega
    refine ediv_of_le (r := Int.tmod x n + n) hn ?_ (by omega) (by omega)
    rw [Int.mul_sub, Int.mul_one]
    omega
  · intro h
    exact ediv_of_le (r := Int.tmod x n) hn h1 (by omega) h2

set_option maxRecDepth 100000 in
set_option maxHeartbeats 1000000 in
theorem floorOver_any (x n : Int) (hx1 : -1152921504606846976 ≤ x) (hx2 : x ≤ 1152921504606846976) (hn : 1 ≤ n) (hn2 : n ≤ 9223372036854775807) (w : World) :
    Calls Try.prog 20 #[.int .i64 x, .int .i64 n] w fun e w' => e = .returned (.int .i64 (x / n)) ∧ w = w' := by
  have hb1 : -1152921504606846976 ≤ x / n := by
    rw [Int.le_ediv_iff_mul_le (by omega)]
    omega
  have hb2 : x / n ≤ 1152921504606846976 := by
    have : x / n < 1152921504606846977 := by rw [Int.ediv_lt_iff_lt_mul (by omega)]; omega
    omega
  obtain ⟨t1, t2⟩ := tdiv_floor x n hn
  have hn0 : n ≠ 0 := by omega
  by_cases h : Int.tmod x n < 0
  · have e := t1 h
    clear t1 t2
    rw [← e] at hb1 hb2 ⊢
    clear e
    go_enter Try.func20, Try.ntmps20
    go_wp2_with fail
    go_ret
    exact ⟨rfl, rfl⟩
  · have e := t2 h
    clear t1 t2
    rw [← e] at hb1 hb2 ⊢
    clear e
    go_enter Try.func20, Try.ntmps20
    go_wp2_with fail
    go_ret
    exact ⟨rfl, rfl⟩

theorem S0x2 (w : World) (al ah : Int) : ∃ W0, Hid (W0 = (w.alloc (.cells #[.int .i64 al, .int .i64 ah] 23)).alloc (.cells #[.int .i64 0, .int .i64 0] 23)) ∧ Below w.heap.size w W0 ∧
    Hid (W0.heap[w.heap.size]? = some (.cells #[.int .i64 al, .int .i64 ah] 23 (0, 0)) ∧ W0.heap[w.heap.size + 1]? = some (.cells #[.int .i64 0, .int .i64 0] 23 (0, 0))) :=
  ⟨_, rfl, ((Below.refl _ _).alloc (Nat.le_refl _) _).alloc (by simp) _, heap_alloc2_old _ _ _, heap_alloc2_new _ _ _⟩

set_option maxRecDepth 100000 in
set_option maxHeartbeats 1000000 in
theorem valid_yes (al ah : Int) (ha : okS al ah) (w : World) :
    Calls Try.prog 5 #[.agg #[.int .i64 al, .int .i64 ah]] w (RetB w true) := by
  obtain ⟨a1, a2, a3⟩ := ha
  go_enter Try.func5, Try.ntmps5
  go_wp2
  go_ret
  refine ⟨by simp [*], ?_⟩
  repeat (refine Below.alloc ?_ (by simp <;> omega) _)
  exact Below.refl _ _

set_option maxRecDepth 100000 in
set_option maxHeartbeats 1000000 in
theorem valid_no (al ah : Int) (ha : ¬ okS al ah) (w : World) :
    Calls Try.prog 5 #[.agg #[.int .i64 al, .int .i64 ah]] w (RetB w false) := by
  unfold okS at ha
  by_cases a1 : -1152921504606846976 ≤ al
  · by_cases a2 : al ≤ ah
    · have a3 : ¬ ah ≤ 1152921504606846976 := by omega
      have d3 : decide (ah ≤ 1152921504606846976) = false := by simpa using a3
      clear ha
      go_enter Try.func5, Try.ntmps5
      go_wp2
      go_ret
      refine ⟨by simp [*], ?_⟩
      repeat (refine Below.alloc ?_ (by simp <;> omega) _)
      exact Below.refl _ _
    · have d3 : decide (al ≤ ah) = false := by simpa using a2
      clear ha
      go_enter Try.func5, Try.ntmps5
      go_wp2
      go_ret
      refine ⟨by simp [*], ?_⟩
      repeat (refine Below.alloc ?_ (by simp <;> omega) _)
      exact Below.refl _ _
  · have d3 : decide (-1152921504606846976 ≤ al) = false := by simpa using a1
    clear ha
    go_enter Try.func5, Try.ntmps5
    go_wp2
    go_ret
    refine ⟨by simp [*], ?_⟩
    repeat (refine Below.alloc ?_ (by simp <;> omega) _)
    exact Below.refl _ _

end Go.Proofs.Ytogklhbodaghdaa
