/-
  The crossing lies within the bounds: arithmetic.
-/
import Derived.Test.YtjpkgmngbeliaaaVCut
import Derived.Test.YtjpkgmngbeliaaaVDig
namespace Go.Proofs.Ytjpkgmngbeliaaa
open Go.RowKit

theorem le_of_mul {a b r : Int} (hr : 0 < r) (h : a * r ≤ b * r) : a ≤ b := Int.le_of_mul_le_mul_right h hr

/-- J: the index ahead; r: the rise; a: the level above; r1, r2: what rounding down has taken. -/
theorem bnd_lo {J r a r1 r2 : Int} (hr : 0 < r) (ha1 : 1 ≤ a) (ha2 : a ≤ r) (h1 : 0 ≤ r1) (h2 : r1 ≤ 15) (h3 : 0 ≤ r2) (h4 : r2 ≤ 15) :
    0 ≤ 256 * (J * r + a - 1) / r - 256 * J ∧ (256 * (J * r + a - 1) / r - 256 * J) * (16 * r + r2 - r1) ≤ 256 * (16 * a - r1) := by
  obtain ⟨X, hX⟩ : ∃ X, 256 * (J * r + a - 1) / r - 256 * J = X := ⟨_, rfl⟩
  have e0 : 256 * (J * r + a - 1) / r = X + 256 * J := by omega
  have e1 : X + 256 * J = 256 * J + 256 * (a - 1) / r := by
    rw [← e0]
    have : 256 * (J * r + a - 1) = 256 * (a - 1) + r * (256 * J) := by
      have : r * (256 * J) = 256 * (J * r) := by rw [Int.mul_comm r, Int.mul_assoc]
      omega
    rw [this, Int.add_mul_ediv_left _ _ (by omega)]
    omega
  have eX : X = 256 * (a - 1) / r := by omega
  have x0 : 0 ≤ X := by rw [eX]; exact Int.ediv_nonneg (by omega) (by omega)
  have x1 : X * r ≤ 256 * (a - 1) := by rw [eX]; exact Int.ediv_mul_le _ (by omega)
  rw [hX]
  refine ⟨x0, le_of_mul hr ?_⟩
  have hall : 0 ≤ 16 * r + r2 - r1 := by omega
  have s1 : X * r * (16 * r + r2 - r1) ≤ 256 * (a - 1) * (16 * r + r2 - r1) := Int.mul_le_mul_of_nonneg_right x1 hall
  have s2 : X * (16 * r + r2 - r1) * r = X * r * (16 * r + r2 - r1) := by rw [Int.mul_assoc, Int.mul_assoc, Int.mul_comm r]
  rw [s2]
  refine Int.le_trans s1 ?_
  have k1 : (a - 1) * (r2 - r1) ≤ r * (15 - r1) := by
    have : (a - 1) * (r2 - r1) ≤ (a - 1) * (15 - r1) := Int.mul_le_mul_of_nonneg_left (by omega) (by omega)
    have : (a - 1) * (15 - r1) ≤ r * (15 - r1) := Int.mul_le_mul_of_nonneg_right (by omega) (by omega)
    omega
  have m1 : 256 * (a - 1) * (16 * r + r2 - r1) = 256 * ((a - 1) * (16 * r) + (a - 1) * (r2 - r1)) := by
    rw [Int.mul_assoc, ← Int.mul_add]
    congr 2
    omega
  have m2 : (a - 1) * (16 * r) = 16 * (a * r) - 16 * r := by
    rw [Int.sub_mul, Int.one_mul, ← Int.mul_assoc, Int.mul_comm a 16, Int.mul_assoc]
  have m3 : 256 * (16 * a - r1) * r = 256 * (16 * (a * r) - r1 * r) := by
    rw [Int.mul_assoc, Int.sub_mul, Int.mul_assoc]
  have m4 : r * (15 - r1) = 15 * r - r1 * r := by rw [Int.mul_sub, Int.mul_comm r 15, Int.mul_comm r r1]
  rw [m1, m2, m3]
  omega

theorem bnd_hi {J r a r1 r2 : Int} (hr : 0 < r) (ha1 : 1 ≤ a) (ha2 : a ≤ r) (h1 : 0 ≤ r1) (h2 : r1 ≤ 15) (h3 : 0 ≤ r2) (h4 : r2 ≤ 15) :
    -(-(256 * (J * r + a)) / r) - 256 * J ≤ 256 ∧ 256 * (16 * a - r1) ≤ (-(-(256 * (J * r + a)) / r) - 256 * J) * (16 * r + r2 - r1) := by
  obtain ⟨Y, hY⟩ : ∃ Y, -(-(256 * (J * r + a)) / r) - 256 * J = Y := ⟨_, rfl⟩
  have eY : Y = -(-(256 * a) / r) := by
    have : -(256 * (J * r + a)) = -(256 * a) + r * (-(256 * J)) := by
      have : r * (-(256 * J)) = -(256 * (J * r)) := by rw [Int.mul_neg, Int.mul_comm r, Int.mul_assoc]
      omega
    rw [this, Int.add_mul_ediv_left _ _ (by omega)] at hY
    omega
  have y1 : 256 * a ≤ Y * r := by
    have := Int.ediv_mul_le (-(256 * a)) (show r ≠ 0 by omega)
    rw [eY, Int.neg_mul]
    omega
  have y2 : Y ≤ 256 := by
    rw [eY]
    have : -256 ≤ -(256 * a) / r := by
      rw [Int.le_ediv_iff_mul_le hr]
      omega
    omega
  rw [hY]
  refine ⟨y2, le_of_mul hr ?_⟩
  have hall : 0 ≤ 16 * r + r2 - r1 := by omega
  have s1 : 256 * a * (16 * r + r2 - r1) ≤ Y * r * (16 * r + r2 - r1) := Int.mul_le_mul_of_nonneg_right y1 hall
  have s2 : Y * (16 * r + r2 - r1) * r = Y * r * (16 * r + r2 - r1) := by rw [Int.mul_assoc, Int.mul_assoc, Int.mul_comm r]
  rw [s2]
  refine Int.le_trans ?_ s1
  have k1 : a * r1 ≤ r * r1 := Int.mul_le_mul_of_nonneg_right ha2 h1
  have k2 : 0 ≤ a * r2 := Int.mul_nonneg (by omega) h3
  have m1 : 256 * a * (16 * r + r2 - r1) = 256 * (16 * (a * r) + a * r2 - a * r1) := by
    rw [Int.mul_assoc, Int.mul_sub, Int.mul_add, ← Int.mul_assoc a 16 r, Int.mul_comm a 16, Int.mul_assoc 16]
  have m3 : 256 * (16 * a - r1) * r = 256 * (16 * (a * r) - r1 * r) := by
    rw [Int.mul_assoc, Int.sub_mul, Int.mul_assoc]
  have m5 : r * r1 = r1 * r := Int.mul_comm _ _
  rw [m1, m3]
  omega
end Go.Proofs.Ytjpkgmngbeliaaa
