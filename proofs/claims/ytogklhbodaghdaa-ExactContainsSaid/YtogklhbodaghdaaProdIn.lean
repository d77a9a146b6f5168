/-
  A product of numbers inside lies between the products of the ends.
-/
import Derived.Test.YtogklhbodaghdaaTimesS
namespace Go.Proofs.Ytogklhbodaghdaa
open Go.RowKit

theorem mul_between (a1 a2 x y : Int) (h1 : a1 ≤ x) (h2 : x ≤ a2) : (a1 * y ≤ x * y ∧ x * y ≤ a2 * y) ∨ (a2 * y ≤ x * y ∧ x * y ≤ a1 * y) := by
  rcases Int.le_total 0 y with hy | hy
  · exact Or.inl ⟨Int.mul_le_mul_of_nonneg_right h1 hy, Int.mul_le_mul_of_nonneg_right h2 hy⟩
  · exact Or.inr ⟨Int.mul_le_mul_of_nonpos_right h2 hy, Int.mul_le_mul_of_nonpos_right h1 hy⟩

theorem prod_in (a1 a2 b1 b2 m M x y : Int) (hx1 : a1 ≤ x) (hx2 : x ≤ a2) (hy1 : b1 ≤ y) (hy2 : y ≤ b2)
    (h11 : m ≤ a1 * b1 ∧ a1 * b1 ≤ M) (h12 : m ≤ a1 * b2 ∧ a1 * b2 ≤ M) (h21 : m ≤ a2 * b1 ∧ a2 * b1 ≤ M) (h22 : m ≤ a2 * b2 ∧ a2 * b2 ≤ M) : m ≤ x * y ∧ x * y ≤ M := by
  have e1 := mul_between b1 b2 y a1 hy1 hy2
  have e2 := mul_between b1 b2 y a2 hy1 hy2
  have e3 := mul_between a1 a2 x y hx1 hx2
  rw [Int.mul_comm b1 a1, Int.mul_comm y a1, Int.mul_comm b2 a1] at e1
  rw [Int.mul_comm b1 a2, Int.mul_comm y a2, Int.mul_comm b2 a2] at e2
  omega

/-- The spans' products held at the bound: where the outer ones are in range, so are the inner ones, and they lie inside. -/
theorem times_inside (al ah bl bh cl ch dl dh : Int) (c1 : al ≤ cl) (c2 : cl ≤ ch) (c3 : ch ≤ ah) (d1 : bl ≤ dl) (d2 : dl ≤ dh) (d3 : dh ≤ bh) (h : okS (loP al ah bl bh) (hiP al ah bl bh)) :
    okS (loP cl ch dl dh) (hiP cl ch dl dh) ∧ loP al ah bl bh ≤ loP cl ch dl dh ∧ hiP cl ch dl dh ≤ hiP al ah bl bh ∧ loP cl ch dl dh ≤ cl * dl ∧ cl * dl ≤ hiP cl ch dl dh := by
  obtain ⟨u1, u2, u3⟩ := h
  have L1 : loP al ah bl bh ≤ clampP al bl ∧ clampP al bl ≤ hiP al ah bl bh := by unfold loP hiP; omega
  have L2 : loP al ah bl bh ≤ clampP al bh ∧ clampP al bh ≤ hiP al ah bl bh := by unfold loP hiP; omega
  have L3 : loP al ah bl bh ≤ clampP ah bl ∧ clampP ah bl ≤ hiP al ah bl bh := by unfold loP hiP; omega
  have L4 : loP al ah bl bh ≤ clampP ah bh ∧ clampP ah bh ≤ hiP al ah bl bh := by unfold loP hiP; omega
  rw [clampP_of_in al bl (by omega)] at L1
  rw [clampP_of_in al bh (by omega)] at L2
  rw [clampP_of_in ah bl (by omega)] at L3
  rw [clampP_of_in ah bh (by omega)] at L4
  generalize loP al ah bl bh = m at *
  generalize hiP al ah bl bh = M at *
  have P1 := prod_in al ah bl bh m M cl dl (by omega) (by omega) (by omega) (by omega) L1 L2 L3 L4
  have P2 := prod_in al ah bl bh m M cl dh (by omega) (by omega) (by omega) (by omega) L1 L2 L3 L4
  have P3 := prod_in al ah bl bh m M ch dl (by omega) (by omega) (by omega) (by omega) L1 L2 L3 L4
  have P4 := prod_in al ah bl bh m M ch dh (by omega) (by omega) (by omega) (by omega) L1 L2 L3 L4
  unfold okS loP hiP
  rw [clampP_in' cl dl (by omega) (by omega), clampP_in' cl dh (by omega) (by omega), clampP_in' ch dl (by omega) (by omega), clampP_in' ch dh (by omega) (by omega)]
  omega

/-- Of a division: the floor of the low end, the ceiling of the high end. -/
theorem floor_facts (x n : Int) (hn : 1 ≤ n) : x / n * n ≤ x ∧ x < (x / n + 1) * n := by
  have h := Int.mul_ediv_add_emod x n
  have h1 := Int.emod_nonneg x (show n ≠ 0 by omega)
  have h2 := Int.emod_lt_of_pos x (show 0 < n by omega)
  rw [Int.add_mul, Int.one_mul, Int.mul_comm (x / n) n]
  omega
end Go.Proofs.Ytogklhbodaghdaa
