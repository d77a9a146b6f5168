/-
  Hamilton's product, of numbers whose products are small; the check at the end of every statement.
-/
import Derived.Test.YtfalhfgnobjfgaaKBase
import Derived.Handy
namespace Go.Proofs.Ytfalhfgnobjfgaa
open Go.RowKit

def q0 (a b c d e f g h : Int) : Int := a * e - b * f - c * g - d * h
def q1 (a b c d e f g h : Int) : Int := a * f + b * e + c * h - d * g
def q2 (a b c d e f g h : Int) : Int := a * g - b * h + c * e + d * f
def q3 (a b c d e f g h : Int) : Int := a * h + b * g - c * f + d * e
/-- A product is small. -/
def sm (x y : Int) : Prop := -1000000000000000000 ≤ x * y ∧ x * y ≤ 1000000000000000000
/-- All products are small. -/
structure SM (a b c d e f g h : Int) : Prop where
  ae : sm a e
  af : sm a f
  ag : sm a g
  ah : sm a h
  be : sm b e
  bf : sm b f
  bg : sm b g
  bh : sm b h
  ce : sm c e
  cf : sm c f
  cg : sm c g
  ch : sm c h
  de : sm d e
  df : sm d f
  dg : sm d g
  dh : sm d h
theorem sm_of {x y : Int} (X Y : Int) (hx : -X ≤ x ∧ x ≤ X) (hy : -Y ≤ y ∧ y ≤ Y) (h : X * Y ≤ 1000000000000000000) : sm x y := by
  have hX : 0 ≤ X := by omega
  have hY : 0 ≤ Y := by omega
  have h1 : x * y ≤ X * Y := by
    rcases Int.le_total 0 y with h0 | h0
    · exact Int.le_trans (Int.mul_le_mul_of_nonneg_right hx.2 h0) (Int.mul_le_mul_of_nonneg_left hy.2 hX)
    · have e1 : x * y ≤ -X * y := Int.mul_le_mul_of_nonpos_right hx.1 h0
      have e2 : -X * y ≤ X * Y := by
        rw [Int.neg_mul, ← Int.mul_neg]
        exact Int.mul_le_mul_of_nonneg_left (by omega) hX
      exact Int.le_trans e1 e2
  have h2 : -(X * Y) ≤ x * y := by
    rcases Int.le_total 0 y with h0 | h0
    · have e1 : -X * y ≤ x * y := Int.mul_le_mul_of_nonneg_right hx.1 h0
      have e2 : -(X * Y) ≤ -X * y := by
        rw [Int.neg_mul]
        exact Int.neg_le_neg (Int.mul_le_mul_of_nonneg_left hy.2 hX)
      exact Int.le_trans e2 e1
    · have e1 : X * y ≤ x * y := Int.mul_le_mul_of_nonpos_right hx.2 h0
      have e2 : -(X * Y) ≤ X * y := by
        rw [← Int.mul_neg]
        exact Int.mul_le_mul_of_nonneg_left hy.1 hX
      exact Int.le_trans e2 e1
  unfold sm
  omega

def RetQ (w : World) (x y z u : Int) (e : Ending) (w' : World) : Prop := e = .returned (.agg #[.int .i64 x, .int .i64 y, .int .i64 z, .int .i64 u]) ∧ Below w.heap.size w w'

set_option maxRecDepth 100000 in
set_option maxHeartbeats 800000 in
theorem times_any (a b c d e f g h : Int) (hs : SM a b c d e f g h) (w : World) :
    Calls Try.prog 33 #[.agg #[.int .i64 a, .int .i64 b, .int .i64 c, .int .i64 d], .agg #[.int .i64 e, .int .i64 f, .int .i64 g, .int .i64 h]] w
      (RetQ w (q0 a b c d e f g h) (q1 a b c d e f g h) (q2 a b c d e f g h) (q3 a b c d e f g h)) := by
  obtain ⟨h1, h2, h3, h4, h5, h6, h7, h8, h9, h10, h11, h12, h13, h14, h15, h16⟩ := hs
  unfold sm at h1 h2 h3 h4 h5 h6 h7 h8 h9 h10 h11 h12 h13 h14 h15 h16
  go_enter Try.func33, Try.ntmps33
  go_wp2
  go_returns
  refine ⟨rfl, ?_⟩
  repeat (refine Below.alloc ?_ (by simp <;> omega) _)
  exact Below.refl _ _

set_option maxRecDepth 100000 in
theorem eqArr4 (a b c d e f g h : Int) (w : World) : (Op.equalIn 10000 23 (.agg #[.int .i64 a, .int .i64 b, .int .i64 c, .int .i64 d]) (.agg #[.int .i64 e, .int .i64 f, .int .i64 g, .int .i64 h])).run Try.prog w = .ok (decide (a = e ∧ b = f ∧ c = g ∧ d = h)) w := by
  have u3 := Try.underlying3
  have a3 := Try.isAgg3
  have z3 := Try.sizeOf3
  rw [show (10000 : Nat) = 9999 + 1 from rfl, Op.equalIn]
  simp only [Sem.run_bind, run_underlying Try.underlying23, Result.andThen_ok]
  simp only [Std.Legacy.Range.forIn_eq_forIn_range', Std.Legacy.Range.size, Nat.sub_zero, Nat.add_sub_cancel, Nat.div_one, List.range'_succ, List.range'_zero, List.forIn_cons, List.forIn_nil]
  go_simp
  by_cases h0 : a = e <;> by_cases h1 : b = f <;> by_cases h2 : c = g <;> by_cases h3 : d = h <;> simp [h0, h1, h2, h3]

set_option maxRecDepth 100000 in
theorem eqArr3 (a b c e f g : Int) (w : World) : (Op.equalIn 10000 22 (.agg #[.int .i64 a, .int .i64 b, .int .i64 c]) (.agg #[.int .i64 e, .int .i64 f, .int .i64 g])).run Try.prog w = .ok (decide (a = e ∧ b = f ∧ c = g)) w := by
  have u3 := Try.underlying3
  have a3 := Try.isAgg3
  have z3 := Try.sizeOf3
  rw [show (10000 : Nat) = 9999 + 1 from rfl, Op.equalIn]
  simp only [Sem.run_bind, run_underlying Try.underlying22, Result.andThen_ok]
  simp only [Std.Legacy.Range.forIn_eq_forIn_range', Std.Legacy.Range.size, Nat.sub_zero, Nat.add_sub_cancel, Nat.div_one, List.range'_succ, List.range'_zero, List.forIn_cons, List.forIn_nil]
  go_simp
  by_cases h0 : a = e <;> by_cases h1 : b = f <;> by_cases h2 : c = g <;> simp [h0, h1, h2]

attribute [local go_sem] eqArr4 eqArr3
/-- A rotation. -/
def okT (a b c d m : Int) : Prop := ¬ (a = 0 ∧ b = 0 ∧ c = 0 ∧ d = 0) ∧ InB (-m) m [a, b, c, d]
instance (a b c d m : Int) : Decidable (okT a b c d m) := by unfold okT; infer_instance

theorem iw_four {W0 w1 : World} {g : Nat} {a b c d : Int} {T : TypeId} (hG : W0.heap[g]? = some (.cells #[.int .i64 a, .int .i64 b, .int .i64 c, .int .i64 d] T (0, 0))) (h : Below W0.heap.size W0 w1) :
    IW w1 W0.heap.size (.slice (some ⟨g, 0, none⟩) 4 4) [a, b, c, d] :=
  IW.mk rfl (Nat.le_refl _) (by simp [maxLen]) fun _ => ⟨g, 0, rfl, (Array.getElem?_eq_some_iff.1 hG).1, fun j hj => by
    match j, hj with
    | 0, _ => simpa [ith] using blk_cell hG h 0 (.int .i64 a) rfl
    | 1, _ => simpa [ith] using blk_cell hG h 1 (.int .i64 b) rfl
    | 2, _ => simpa [ith] using blk_cell hG h 2 (.int .i64 c) rfl
    | 3, _ => simpa [ith] using blk_cell hG h 3 (.int .i64 d) rfl⟩

set_option maxRecDepth 100000 in
set_option maxHeartbeats 1000000 in
theorem isTurn_any (a b c d m : Int) (hm : 0 ≤ m ∧ m ≤ 4611686018427387904) (w : World) :
    Calls Try.prog 32 #[.agg #[.int .i64 a, .int .i64 b, .int .i64 c, .int .i64 d], .int .i64 m] w (RetB w (decide (okT a b c d m))) := by
  obtain ⟨W0, HW0, HW, HG⟩ := boxes1 w #[.int .i64 a, .int .i64 b, .int .i64 c, .int .i64 d] 23
  have hI := iw_four HG.out (Below.refl _ W0)
  by_cases hz : a = 0 ∧ b = 0 ∧ c = 0 ∧ d = 0
  · have hno : ¬ okT a b c d m := fun h => h.1 hz
    rw [decide_eq_false hno]
    obtain ⟨rfl, rfl, rfl, rfl⟩ := hz
    go_enter Try.func32, Try.ntmps32
    go_wp2
    go_ret
    exact ⟨rfl, (Below.refl _ _).alloc (Nat.le_refl _) _⟩
  · have hne : ((a = 0 ∧ b = 0 ∧ c = 0 ∧ d = 0) : Prop) = False := eq_false hz
    have HZ := Lib.hid hz
    go_enter Try.func32, Try.ntmps32
    go_wp2_with fail
    rw [← HW0.out]
    refine (within_any (-m) m [a, b, c, d] _ 4 4 _ _ hI).mono ?_
    rintro e w1 ⟨rfl, hb1⟩
    rw [decide_eq_decide.2 (⟨fun h => ⟨HZ.out, h⟩, fun h => h.2⟩ : InB (-m) m [a, b, c, d] ↔ okT a b c d m)]
    go_wp2
    go_ret
    exact ⟨rfl, HW.out.trans (hb1.mono HW.out.size)⟩
end Go.Proofs.Ytfalhfgnobjfgaa
