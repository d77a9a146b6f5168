/-
  sameFrame where both are the same.
-/
import Derived.Test.YtndgpgciccgapaaZCell
namespace Go.Proofs.Ytndgpgciccgapaa
open Go.RowKit

set_option maxRecDepth 100000 in
theorem strEqZ (S : ByteArray) : (S == S) = true := by
  show ByteArray.beq S S = true
  unfold ByteArray.beq
  simp

set_option maxRecDepth 100000 in
set_option maxHeartbeats 400000 in
theorem sameFrame_yes (st sq : Int) (A1 A2 : Option Addr) (n1 c1 n2 c2 B : Nat) (X : List Nat) (w : World) (h1 : RB w B (.slice A1 n1 c1) X) (h2 : RB w B (.slice A2 n2 c2) X) (hB : B ≤ w.heap.size) :
    Calls Try.prog 21 #[.agg #[.int .i64 st, .int .i64 sq, .slice A1 n1 c1], .agg #[.int .i64 st, .int .i64 sq, .slice A2 n2 c2]] w (RetB w true) := by
  have g1 := (h1.alloc hB (.cells #[.int .i64 st, .int .i64 sq, .slice A1 n1 c1] 33)).alloc (by simp; omega) (.cells #[.int .i64 st, .int .i64 sq, .slice A2 n2 c2] 33)
  have g2 := (h2.alloc hB (.cells #[.int .i64 st, .int .i64 sq, .slice A1 n1 c1] 33)).alloc (by simp; omega) (.cells #[.int .i64 st, .int .i64 sq, .slice A2 n2 c2] 33)
  have t1 := run_string_bytes g1.1
  have t2 := run_string_bytes g2.1
  obtain ⟨S, hS⟩ : ∃ S, S = strB X := ⟨_, rfl⟩
  rw [← hS] at t1 t2
  have q1 := strEqZ S
  have q2 : (st == st) = true := by simp
  have q3 : (sq == sq) = true := by simp
  clear hS g1 g2 h1 h2
  go_enter Try.func21, Try.ntmps21
  go_wp2
  go_ret
  refine ⟨by simp [q1], ?_⟩
  exact ((Below.refl _ _).alloc (Nat.le_refl _) _).alloc (by simp) _
end Go.Proofs.Ytndgpgciccgapaa
