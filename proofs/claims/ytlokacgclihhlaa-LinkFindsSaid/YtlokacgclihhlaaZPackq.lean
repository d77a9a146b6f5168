/-
  Pack of whatever frame: refused, or packed; the document's Pack.
-/
import Derived.Test.YtlokacgclihhlaaZPackr
import Derived.Test.YtlokacgclihhlaaZDmg
namespace Go.Proofs.Ytlokacgclihhlaa
open Go.RowKit

set_option maxRecDepth 100000 in
set_option maxHeartbeats 1000000 in
theorem validFrame_no (st sq : Int) (A : Option Addr) (n c : Nat) (h : ¬ okF st sq n) (w : World) :
    Calls Try.prog 48 #[.agg #[.int .i64 st, .int .i64 sq, .slice A n c]] w (RetB w false) := by
  unfold okF at h
  by_cases h1 : 0 ≤ st
  · by_cases h2 : st ≤ 255
    · by_cases h3 : 0 ≤ sq
      · by_cases h4 : sq ≤ 4294967295
        · have h5 : ¬ (n : Int) ≤ 1024 := by omega
          have d5 : decide ((n : Int) ≤ 1024) = false := by simpa using h5
          clear h
          go_enter Try.func48, Try.ntmps48
          go_wp2
          go_ret
          exact ⟨by simp <;> omega, (Below.refl _ _).alloc (Nat.le_refl _) _⟩
        · have d5 : decide (sq ≤ 4294967295) = false := by simpa using h4
          clear h
          go_enter Try.func48, Try.ntmps48
          go_wp2
          go_ret
          exact ⟨by simp <;> omega, (Below.refl _ _).alloc (Nat.le_refl _) _⟩
      · have d5 : decide (0 ≤ sq) = false := by simpa using h3
        clear h
        go_enter Try.func48, Try.ntmps48
        go_wp2
        go_ret
        exact ⟨by simp <;> omega, (Below.refl _ _).alloc (Nat.le_refl _) _⟩
    · have d5 : decide (st ≤ 255) = false := by simpa using h2
      clear h
      go_enter Try.func48, Try.ntmps48
      go_wp2
      go_ret
      exact ⟨by simp <;> omega, (Below.refl _ _).alloc (Nat.le_refl _) _⟩
  · have d5 : decide (0 ≤ st) = false := by simpa using h1
    clear h
    go_enter Try.func48, Try.ntmps48
    go_wp2
    go_ret
    exact ⟨by simp <;> omega, (Below.refl _ _).alloc (Nat.le_refl _) _⟩

set_option maxRecDepth 100000 in
set_option maxHeartbeats 400000 in
theorem refValidP (b : Bool) (st sq : Int) (A : Option Addr) (n c : Nat) (h : if b = true then okF st sq n else ¬ okF st sq n) (w : World) :
    Calls Try.prog 38 #[.agg #[.int .i64 st, .int .i64 sq, .slice A n c]] w (RetB w b) := by
  cases b with
  | true =>
    rw [if_pos rfl] at h
    obtain ⟨h1, h2, h3, h4, h5⟩ := h
    have h5i : (n : Int) ≤ 1024 := by omega
    go_enter Try.func38, Try.ntmps38
    go_wp2
    go_ret
    exact ⟨by simp [*], (Below.refl _ _).alloc (Nat.le_refl _) _⟩
  | false =>
    rw [if_neg (by simp)] at h
    unfold okF at h
    by_cases h1 : 0 ≤ st
    · by_cases h2 : st ≤ 255
      · by_cases h3 : 0 ≤ sq
        · by_cases h4 : sq ≤ 4294967295
          · have h5 : ¬ (n : Int) ≤ 1024 := by omega
            have d5 : decide ((n : Int) ≤ 1024) = false := by simpa using h5
            clear h
            go_enter Try.func38, Try.ntmps38
            go_wp2
            go_ret
            exact ⟨by simp <;> omega, (Below.refl _ _).alloc (Nat.le_refl _) _⟩
          · have d5 : decide (sq ≤ 4294967295) = false := by simpa using h4
            clear h
            go_enter Try.func38, Try.ntmps38
            go_wp2
            go_ret
            exact ⟨by simp <;> omega, (Below.refl _ _).alloc (Nat.le_refl _) _⟩
        · have d5 : decide (0 ≤ sq) = false := by simpa using h3
          clear h
          go_enter Try.func38, Try.ntmps38
          go_wp2
          go_ret
          exact ⟨by simp <;> omega, (Below.refl _ _).alloc (Nat.le_refl _) _⟩
      · have d5 : decide (st ≤ 255) = false := by simpa using h2
        clear h
        go_enter Try.func38, Try.ntmps38
        go_wp2
        go_ret
        exact ⟨by simp <;> omega, (Below.refl _ _).alloc (Nat.le_refl _) _⟩
    · have d5 : decide (0 ≤ st) = false := by simpa using h1
      clear h
      go_enter Try.func38, Try.ntmps38
      go_wp2
      go_ret
      exact ⟨by simp <;> omega, (Below.refl _ _).alloc (Nat.le_refl _) _⟩

set_option maxRecDepth 100000 in
set_option maxHeartbeats 400000 in
theorem pack_bad (st sq : Int) (A : Option Addr) (n c : Nat) (hok : ¬ okF st sq n) (w : World) :
    Calls Try.prog 34 #[.agg #[.int .i64 st, .int .i64 sq, .slice A n c]] w fun e w' => e = .returned (.tuple #[.slice none 0 0, .int .i64 20]) ∧ Below w.heap.size w w' := by
  obtain ⟨W0, HW0, hw0, HG, z0⟩ := F0ex w st sq (.slice A n c)
  have HOK := Lib.hid hok
  clear hok
  obtain ⟨k0, k1, k2, kf⟩ := fr_blk HG.out (Below.refl _ _)
  go_enter Try.func34, Try.ntmps34
  go_wp2_with fail
  rw [← HW0.out]
  refine (validFrame_no st sq A n c HOK.out _).mono ?_
  rintro e w1 ⟨rfl, b1⟩
  go_wp2
  go_ret2
  exact ⟨rfl, belW hw0 b1⟩

set_option maxRecDepth 100000 in
set_option maxHeartbeats 400000 in
theorem refPack_bad (st sq : Int) (A : Option Addr) (n c : Nat) (hok : ¬ okF st sq n) (w : World) :
    Calls Try.prog 35 #[.agg #[.int .i64 st, .int .i64 sq, .slice A n c]] w fun e w' => e = .returned (.tuple #[.slice none 0 0, .int .i64 20]) ∧ Below w.heap.size w w' := by
  obtain ⟨W0, HW0, hw0, HG, z0⟩ := F0ex w st sq (.slice A n c)
  have HOK := Lib.hid hok
  clear hok
  obtain ⟨k0, k1, k2, kf⟩ := fr_blk HG.out (Below.refl _ _)
  go_enter Try.func35, Try.ntmps35
  go_wp2_with fail
  rw [← HW0.out]
  refine (refValidP false st sq A n c (by simpa using HOK.out) _).mono ?_
  rintro e w1 ⟨rfl, b1⟩
  go_wp2
  go_ret2
  exact ⟨rfl, belW hw0 b1⟩
end Go.Proofs.Ytlokacgclihhlaa
