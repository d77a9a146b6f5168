/-
  The functions of math/bits that the words use: Add64, Sub64, Mul64.
-/
import Derived.Test.YtogklhbodaghdaaProg
import Derived.Test.YtogklhbodaghdaaMath
import Derived.WalkKit
import Derived.Lib.Mul64
import Derived.Lib.Hide
import Derived.Laws.Bits64b
import Derived.Laws.Externs
namespace Go.Proofs.Ytogklhbodaghdaa
open Go.RowKit

/-- Low and high word of a sum of three words; of a product; the difference and the borrow. -/
def addLo (x y c : Nat) : Nat := (x + y + c) % B64
def addHi (x y c : Nat) : Nat := (x + y + c) / B64
def subLo (x y b : Nat) : Nat := (x + B64 - y - b) % B64
def subHi (x y b : Nat) : Nat := if x < y + b then 1 else 0
def mulLo (x y : Nat) : Nat := x * y % B64
def mulHi (x y : Nat) : Nat := x * y / B64

theorem add_eq (x y c : Nat) : addLo x y c + B64 * addHi x y c = x + y + c := Nat.mod_add_div _ _
theorem addLo_lt (x y c : Nat) : addLo x y c < B64 := Nat.mod_lt _ B64_pos
theorem addHi_le (x y c : Nat) (hx : x < B64) (hy : y < B64) (hc : c ≤ 1) : addHi x y c ≤ 1 := by
  unfold addHi B64 at *; omega
theorem sub_eq (x y b : Nat) (hx : x < B64) (hy : y < B64) (hb : b ≤ 1) : subLo x y b + y + b = x + B64 * subHi x y b := by
  unfold subLo subHi B64 at *; split <;> omega
theorem subLo_lt (x y b : Nat) : subLo x y b < B64 := Nat.mod_lt _ B64_pos
theorem subHi_le (x y b : Nat) : subHi x y b ≤ 1 := by unfold subHi; split <;> omega
theorem mul_eq (x y : Nat) : mulLo x y + B64 * mulHi x y = x * y := Nat.mod_add_div _ _
theorem mulLo_lt (x y : Nat) : mulLo x y < B64 := Nat.mod_lt _ B64_pos
theorem mulHi_lt (x y : Nat) (hx : x < B64) (hy : y < B64) : mulHi x y < B64 := by
  unfold mulHi
  refine Nat.div_lt_of_lt_mul ?_
  exact Nat.lt_of_le_of_lt (Nat.mul_le_mul_left x (Nat.le_of_lt hy)) (Nat.mul_lt_mul_of_pos_right hx B64_pos)

theorem add64_run (x y c : Nat) (hc : c ≤ 1) (w : World) :
    (callFunc 69 #[.int .u64 x, .int .u64 y, .int .u64 c]).run Try.prog w =
      .ok (.value (.tuple #[.int .u64 (addLo x y c : Nat), .int .u64 (addHi x y c : Nat)])) w := by
  rw [run_callFunc_extern Try.func69 (by kernel_rfl) (by kernel_rfl) (by kernel_rfl) (e := add64Entry) (by kernel_rfl), run_add64 x y c (by omega) (by omega) (by omega) (by omega)]
  simp only [Result.andThen]
  congr 5 <;> (unfold addLo addHi B64; omega)

theorem add64_run0 (x y : Nat) (w : World) :
    (callFunc 69 #[.int .u64 x, .int .u64 y, .int .u64 0]).run Try.prog w =
      .ok (.value (.tuple #[.int .u64 (addLo x y 0 : Nat), .int .u64 (addHi x y 0 : Nat)])) w := add64_run x y 0 (by omega) w
theorem add64_run1 (x c : Nat) (hc : c ≤ 1) (w : World) :
    (callFunc 69 #[.int .u64 x, .int .u64 0, .int .u64 c]).run Try.prog w =
      .ok (.value (.tuple #[.int .u64 (addLo x 0 c : Nat), .int .u64 (addHi x 0 c : Nat)])) w := add64_run x 0 c hc w

def sub64Entry : Array Value → Sem Value := fun args => do
  let (x, y, b) ← Extern.MathBitsCarry.three "Sub64" args
  pure (Extern.MathBitsCarry.pair ((x + Extern.MathBitsCarry.m64 - y - b) % Extern.MathBitsCarry.m64) (if x < y + b then 1 else 0))

theorem sub64_run (x y b : Nat) (hb : b ≤ 1) (w : World) :
    (callFunc 76 #[.int .u64 x, .int .u64 y, .int .u64 b]).run Try.prog w =
      .ok (.value (.tuple #[.int .u64 (subLo x y b : Nat), .int .u64 (subHi x y b : Nat)])) w := by
  have h : (sub64Entry #[.int .u64 x, .int .u64 y, .int .u64 b]).run Try.prog w = .ok (.tuple #[.int .u64 (subLo x y b : Nat), .int .u64 (subHi x y b : Nat)]) w := by
    have : b = 0 ∨ b = 1 := by omega
    rcases this with rfl | rfl <;> rfl
  rw [run_callFunc_extern Try.func76 (by kernel_rfl) (by kernel_rfl) (by kernel_rfl) (e := sub64Entry) (by kernel_rfl), h]
  rfl
theorem sub64_run0 (x y : Nat) (w : World) :
    (callFunc 76 #[.int .u64 x, .int .u64 y, .int .u64 0]).run Try.prog w =
      .ok (.value (.tuple #[.int .u64 (subLo x y 0 : Nat), .int .u64 (subHi x y 0 : Nat)])) w := sub64_run x y 0 (by omega) w
theorem sub64_run1 (x b : Nat) (hb : b ≤ 1) (w : World) :
    (callFunc 76 #[.int .u64 x, .int .u64 0, .int .u64 b]).run Try.prog w =
      .ok (.value (.tuple #[.int .u64 (subLo x 0 b : Nat), .int .u64 (subHi x 0 b : Nat)])) w := sub64_run x 0 b hb w

theorem wrap_small (x : Nat) (h : x < B64) : IntKind.u64.wrap (x : Int) = (x : Int) := by
  unfold B64 at h
  exact IntWalk.u64_in _ ⟨by omega, by omega⟩

namespace Mul64
theorem maskN (a : Nat) (ha : a < 18446744073709551616) : bits .and .u64 (a : Int) 4294967295 = ((a % 4294967296 : Nat) : Int) := by
  have h := bits_and_u64_nat a 4294967295 ha (by omega)
  have e : a &&& 4294967295 = a % 4294967296 := Nat.and_two_pow_sub_one_eq_mod a 32
  rw [e] at h
  exact h
theorem divN (a : Nat) : (a : Int) / 4294967296 = ((a / 4294967296 : Nat) : Int) := by omega
theorem mulN (a b : Nat) : (a : Int) * (b : Int) = ((a * b : Nat) : Int) := (Int.natCast_mul a b).symm
theorem addN (a b : Nat) : (a : Int) + (b : Int) = ((a + b : Nat) : Int) := (Int.natCast_add a b).symm
theorem wrapN (a : Nat) (ha : a < 18446744073709551616) : IntKind.u64.wrap (a : Int) = (a : Int) := by rw [IntKind.wrap_u64]; omega
theorem wrapM (a : Nat) : IntKind.u64.wrap (a : Int) = ((a % 18446744073709551616 : Nat) : Int) := by rw [IntKind.wrap_u64]; omega
end Mul64

set_option maxHeartbeats 1000000 in
theorem mul64_any (x y : Nat) (hx : x < B64) (hy : y < B64) (w : World) :
    Calls Try.prog 32 #[.int .u64 x, .int .u64 y] w fun e w' => e = .returned (.tuple #[.int .u64 (mulHi x y : Nat), .int .u64 (mulLo x y : Nat)]) ∧ w = w' := by
  unfold mulHi mulLo
  unfold B64 at *
  obtain ⟨bd, bt, bw, hhi⟩ := Lib.mul64_hi x y hx hy
  have ba := Lib.half_mul_le (a := x / 4294967296) (b := y / 4294967296) (by omega) (by omega)
  have bb := Lib.half_mul_le (a := x / 4294967296) (b := y % 4294967296) (by omega) (by omega)
  have bc := Lib.half_mul_le (a := x % 4294967296) (b := y / 4294967296) (by omega) (by omega)
  have ba' : x / 4294967296 * (y / 4294967296) < 18446744073709551616 := by omega
  have bb' : x / 4294967296 * (y % 4294967296) < 18446744073709551616 := by omega
  have bc' : x % 4294967296 * (y / 4294967296) < 18446744073709551616 := by omega
  have bh1 : x / 4294967296 * (y / 4294967296) + (x / 4294967296 * (y % 4294967296) + x % 4294967296 * (y % 4294967296) / 4294967296) / 4294967296 < 18446744073709551616 := by omega
  have bh : x / 4294967296 * (y / 4294967296) + (x / 4294967296 * (y % 4294967296) + x % 4294967296 * (y % 4294967296) / 4294967296) / 4294967296 + ((x / 4294967296 * (y % 4294967296) + x % 4294967296 * (y % 4294967296) / 4294967296) % 4294967296 + x % 4294967296 * (y / 4294967296)) / 4294967296 < 18446744073709551616 := by omega
  go_enter Try.func32, Try.ntmps32
  go_wp2
  simp only [Mul64.maskN x hx, Mul64.maskN y hy, Mul64.divN, Mul64.mulN, Mul64.addN, Mul64.wrapN _ bd, Mul64.wrapN _ bb', Mul64.wrapN _ bt, Mul64.maskN _ bt, Mul64.wrapN _ bc', Mul64.wrapN _ bw, Mul64.wrapN _ ba', Mul64.wrapN _ bh1, Mul64.wrapN _ bh, Mul64.wrapM (x * y)]
  rw [hhi]
  go_ret2
  exact ⟨rfl, rfl⟩
end Go.Proofs.Ytogklhbodaghdaa
