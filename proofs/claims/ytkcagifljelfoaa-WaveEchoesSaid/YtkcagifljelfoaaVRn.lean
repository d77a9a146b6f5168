/-
  The echoes of one run, apart from those ahead of it.
-/
import Derived.Test.YtkcagifljelfoaaVGo
namespace Go.Proofs.Ytkcagifljelfoaa
open Go.RowKit

def addR (R : List Eo) (S : Fs) : Fs := ⟨S.fall, S.e, S.va, R ++ S.R⟩
theorem stF_addR (zs : List Int) (drop : Int) (R : List Eo) (S : Fs) (i : Nat) : stF zs drop (addR R S) i = addR R (stF zs drop S i) := by
  obtain ⟨fall, e, va, Q⟩ := S
  unfold stF addR
  cases fall with
  | true =>
    simp only [if_true]
    by_cases c1 : ith zs i < ith zs va
    · rw [if_pos c1, if_pos c1]
    · rw [if_neg c1, if_neg c1]
      by_cases c2 : ith zs va + drop ≤ ith zs i
      · rw [if_pos c2, if_pos c2]; simp
      · rw [if_neg c2, if_neg c2]
  | false =>
    simp only [Bool.false_eq_true, if_false]
    by_cases c1 : ith zs e.pk < ith zs i
    · rw [if_pos c1, if_pos c1]
    · rw [if_neg c1, if_neg c1]
      by_cases c2 : ith zs i ≤ ith zs e.pk - drop
      · rw [if_pos c2, if_pos c2]
      · rw [if_neg c2, if_neg c2]
theorem runS_addR (zs : List Int) (drop lv : Int) (x : Nat) (R : List Eo) : ∀ k, runS zs drop lv x R k = addR R (runS zs drop lv x [] k)
  | 0 => by simp [runS, addR]
  | k + 1 => by rw [runS, runS, runS_addR zs drop lv x R k, stF_addR]
theorem goneR_addR (zs : List Int) (drop lv : Int) (x y : Nat) (R : List Eo) : goneR zs drop lv x y R = R ++ goneR zs drop lv x y [] := by
  unfold goneR
  rw [runS_addR zs drop lv x R]
  simp [addR]
end Go.Proofs.Ytkcagifljelfoaa
