/-
  Which frames are valid: the program's, the document's.
-/
import Derived.Test.YtlginmnmobkbhaaZCell
namespace Go.Proofs.Ytlginmnmobkbhaa
open Go.RowKit

def okF (st sq : Int) (n : Nat) : Prop := 0 ≤ st ∧ st ≤ 255 ∧ 0 ≤ sq ∧ sq ≤ 4294967295 ∧ n ≤ 1024

set_option maxRecDepth 100000 in
set_option maxHeartbeats 400000 in
theorem validFrame_yes (st sq : Int) (A : Option Addr) (n c : Nat) (h : okF st sq n) (w : World) :
    Calls Try.prog 55 #[.agg #[.int .i64 st, .int .i64 sq, .slice A n c]] w (RetB w true) := by
  obtain ⟨h1, h2, h3, h4, h5⟩ := h
  have h5i : (n : Int) ≤ 1024 := by omega
  go_enter Try.func55, Try.ntmps55
  go_wp2
  go_ret
  exact ⟨by simp [*], (Below.refl _ _).alloc (Nat.le_refl _) _⟩

theorem F0ex (w : World) (st sq : Int) (v : Value) : ∃ W0, Hid (W0 = w.alloc (.cells #[.int .i64 st, .int .i64 sq, v] 35)) ∧ Below w.heap.size w W0 ∧
    Hid (W0.heap[w.heap.size]? = some (.cells #[.int .i64 st, .int .i64 sq, v] 35 (0, 0))) ∧ w.heap.size < W0.heap.size :=
  ⟨_, rfl, (Below.refl _ _).alloc (Nat.le_refl _) _, heap_alloc_new w _, by simp⟩

set_option maxRecDepth 100000 in
set_option maxHeartbeats 1000000 in
theorem validFrame_no (st sq : Int) (A : Option Addr) (n c : Nat) (h : ¬ okF st sq n) (w : World) :
    Calls Try.prog 55 #[.agg #[.int .i64 st, .int .i64 sq, .slice A n c]] w (RetB w false) := by
  unfold okF at h
  by_cases h1 : 0 ≤ st
  · by_cases h2 : st ≤ 255
    · by_cases h3 : 0 ≤ sq
      · by_cases h4 : sq ≤ 4294967295
        · have h5 : ¬ (n : Int) ≤ 1024 := by omega
          have d5 : decide ((n : Int) ≤ 1024) = false := by simpa using h5
          clear h
          go_enter Try.func55, Try.ntmps55
          go_wp2
          go_ret
          exact ⟨by simp <;> omega, (Below.refl _ _).alloc (Nat.le_refl _) _⟩
        · have d5 : decide (sq ≤ 4294967295) = false := by simpa using h4
          clear h
          go_enter Try.func55, Try.ntmps55
          go_wp2
          go_ret
          exact ⟨by simp <;> omega, (Below.refl _ _).alloc (Nat.le_refl _) _⟩
      · have d5 : decide (0 ≤ sq) = false := by simpa using h3
        clear h
        go_enter Try.func55, Try.ntmps55
        go_wp2
        go_ret
        exact ⟨by simp <;> omega, (Below.refl _ _).alloc (Nat.le_refl _) _⟩
    · have d5 : decide (st ≤ 255) = false := by simpa using h2
      clear h
      go_enter Try.func55, Try.ntmps55
      go_wp2
      go_ret
      exact ⟨by simp <;> omega, (Below.refl _ _).alloc (Nat.le_refl _) _⟩
  · have d5 : decide (0 ≤ st) = false := by simpa using h1
    clear h
    go_enter Try.func55, Try.ntmps55
    go_wp2
    go_ret
    exact ⟨by simp <;> omega, (Below.refl _ _).alloc (Nat.le_refl _) _⟩

set_option maxRecDepth 100000 in
set_option maxHeartbeats 400000 in
theorem refValidP (b : Bool) (st sq : Int) (A : Option Addr) (n c : Nat) (h : if b = true then okF st sq n else ¬ okF st sq n) (w : World) :
    Calls Try.prog 57 #[.agg #[.int .i64 st, .int .i64 sq, .slice A n c]] w (RetB w b) := by
  cases b with
  | true =>
    rw [if_pos rfl] at h
    obtain ⟨h1, h2, h3, h4, h5⟩ := h
    have h5i : (n : Int) ≤ 1024 := by omega
    go_enter Try.func57, Try.ntmps57
    go_wp2
    go_ret
    exact ⟨by simp [*], (Below.refl _ _).alloc (Nat.le_refl _) _⟩
  | false =>
    rw [if_neg (by simp)] at h
    unfold okF at h
    by_cases h1 : 0 ≤ st
    · by_cases h2 : st ≤ 255
      · by_cases h3 : 0 ≤ sq
        · by_cases h4 : sq ≤ 4294967295
          · have h5 : ¬ (n : Int) ≤ 1024 := by omega
            have d5 : decide ((n : Int) ≤ 1024) = false := by simpa using h5
            clear h
            go_enter Try.func57, Try.ntmps57
            go_wp2
            go_ret
            exact ⟨by simp <;> omega, (Below.refl _ _).alloc (Nat.le_refl _) _⟩
          · have d5 : decide (sq ≤ 4294967295) = false := by simpa using h4
            clear h
            go_enter Try.func57, Try.ntmps57
            go_wp2
            go_ret
            exact ⟨by simp <;> omega, (Below.refl _ _).alloc (Nat.le_refl _) _⟩
        · have d5 : decide (0 ≤ sq) = false := by simpa using h3
          clear h
          go_enter Try.func57, Try.ntmps57
          go_wp2
          go_ret
          exact ⟨by simp <;> omega, (Below.refl _ _).alloc (Nat.le_refl _) _⟩
      · have d5 : decide (st ≤ 255) = false := by simpa using h2
        clear h
        go_enter Try.func57, Try.ntmps57
        go_wp2
        go_ret
        exact ⟨by simp <;> omega, (Below.refl _ _).alloc (Nat.le_refl _) _⟩
    · have d5 : decide (0 ≤ st) = false := by simpa using h1
      clear h
      go_enter Try.func57, Try.ntmps57
      go_wp2
      go_ret
      exact ⟨by simp <;> omega, (Below.refl _ _).alloc (Nat.le_refl _) _⟩

end Go.Proofs.Ytlginmnmobkbhaa
