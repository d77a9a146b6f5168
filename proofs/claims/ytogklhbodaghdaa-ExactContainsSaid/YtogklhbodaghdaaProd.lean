/-
  magnitude and product: a product, or a number beyond the bound on the same side.
-/
import Derived.Test.YtogklhbodaghdaaTurnb
import Derived.Test.YtogklhbodaghdaaArith
import Derived.Test.YtogklhbodaghdaaSpanDefs
namespace Go.Proofs.Ytogklhbodaghdaa
open Go.RowKit

set_option maxHeartbeats 1000000 in
theorem magnitude_any (x : Int) (h1 : -9223372036854775808 ≤ x) (h2 : x ≤ 9223372036854775807) (w : World) :
    Calls Try.prog 33 #[.int .i64 x] w fun e w' => e = .returned (.int .u64 (x.natAbs : Nat)) ∧ w = w' := by
  by_cases hx : x < 0
  · have e1 : IntKind.u64.wrap (-(IntKind.u64.wrap x)) = ((x.natAbs : Nat) : Int) := by rw [IntKind.wrap_u64, IntKind.wrap_u64]; omega
    have e2 : IntKind.u64.wrap (-x) = ((x.natAbs : Nat) : Int) := by rw [IntKind.wrap_u64]; omega
    go_enter Try.func33, Try.ntmps33
    go_wp2
    first
    | go_ret
    | skip
    refine ⟨?_, rfl⟩
    first
    | rfl
    | simp [e1, e2]
    | omega
  · have e1 : IntKind.u64.wrap x = ((x.natAbs : Nat) : Int) := by rw [IntKind.wrap_u64]; omega
    go_enter Try.func33, Try.ntmps33
    go_wp2
    first
    | go_ret
    | skip
    refine ⟨?_, rfl⟩
    first
    | rfl
    | simp [e1]
    | omega

/-- What 'product' hands back. -/
def clampP (x y : Int) : Int := sgnI x * sgnI y * (if x.natAbs * y.natAbs ≤ 1152921504606846976 then ((x.natAbs * y.natAbs : Nat) : Int) else 1152921504606846977)

theorem sgnI_cases (x : Int) : (x < 0 ∧ sgnI x = -1) ∨ (x = 0 ∧ sgnI x = 0) ∨ (0 < x ∧ sgnI x = 1) := by
  unfold sgnI
  split
  · exact Or.inl ⟨by assumption, rfl⟩
  · split
    · exact Or.inr (Or.inr ⟨by assumption, rfl⟩)
    · exact Or.inr (Or.inl ⟨by omega, rfl⟩)

theorem sgn_mul_abs (x y : Int) : sgnI x * sgnI y * ((x.natAbs * y.natAbs : Nat) : Int) = x * y := by
  have hx : sgnI x * (x.natAbs : Int) = x := by rcases sgnI_cases x with ⟨h, e⟩ | ⟨h, e⟩ | ⟨h, e⟩ <;> rw [e] <;> omega
  have hy : sgnI y * (y.natAbs : Int) = y := by rcases sgnI_cases y with ⟨h, e⟩ | ⟨h, e⟩ | ⟨h, e⟩ <;> rw [e] <;> omega
  rw [Int.natCast_mul]
  calc sgnI x * sgnI y * ((x.natAbs : Int) * (y.natAbs : Int)) = (sgnI x * (x.natAbs : Int)) * (sgnI y * (y.natAbs : Int)) := by
        simp only [Int.mul_assoc, Int.mul_left_comm, Int.mul_comm]
    _ = x * y := by rw [hx, hy]

theorem clampP_in (x y : Int) (h : x.natAbs * y.natAbs ≤ 1152921504606846976) : clampP x y = x * y := by
  unfold clampP
  rw [if_pos h, sgn_mul_abs]

set_option maxRecDepth 100000 in
set_option maxHeartbeats 1000000 in
theorem product_any (x y : Int) (hx1 : -1152921504606846976 ≤ x) (hx2 : x ≤ 1152921504606846976) (hy1 : -1152921504606846976 ≤ y) (hy2 : y ≤ 1152921504606846976) (w : World) :
    Calls Try.prog 19 #[.int .i64 x, .int .i64 y] w fun e w' => e = .returned (.int .i64 (clampP x y)) ∧ w = w' := by
  have hxB : x.natAbs < B64 := by unfold B64; omega
  have hyB : y.natAbs < B64 := by unfold B64; omega
  have HX := Lib.hid (And.intro (And.intro hx1 hx2) (And.intro hy1 hy2))
  have hm := mul_eq x.natAbs y.natAbs
  have hlo := mulLo_lt x.natAbs y.natAbs
  have hhi := mulHi_lt x.natAbs y.natAbs hxB hyB
  have HM := Lib.hid (And.intro hm (And.intro hlo hhi))
  clear hm hlo hhi hx1 hx2 hy1 hy2
  generalize hL : mulLo x.natAbs y.natAbs = L at *
  generalize hH : mulHi x.natAbs y.natAbs = H at *
  have HMm := mul64_any x.natAbs y.natAbs hxB hyB
  rw [hL, hH] at HMm
  have hLB := HM.out.2.1
  have hHB := HM.out.2.2
  have HC : Hid ((0 < H ∨ 1152921504606846976 < L) ∨ (H = 0 ∧ L ≤ 1152921504606846976)) := Lib.hid (by omega)
  have T1 : (0 < H ∨ 1152921504606846976 < L) → clampP x y = sgnI x * sgnI y * 1152921504606846977 := by
    intro h
    have hm := HM.out.1
    unfold clampP
    rw [if_neg]
    unfold B64 at hm hLB
    omega
  have T2 : (H = 0 ∧ L ≤ 1152921504606846976) → clampP x y = sgnI x * sgnI y * (L : Int) := by
    intro ⟨h1, h2⟩
    have hm := HM.out.1
    unfold clampP
    rw [h1] at hm
    have : x.natAbs * y.natAbs = L := by omega
    rw [if_pos (by omega), this]
  have SX : ∃ sx : Int, sgnI x = sx ∧ (sx = -1 ∨ sx = 0 ∨ sx = 1) := by rcases sgnI_cases x with ⟨_, e⟩ | ⟨_, e⟩ | ⟨_, e⟩ <;> exact ⟨_, e, by decide⟩
  have SY : ∃ sx : Int, sgnI y = sx ∧ (sx = -1 ∨ sx = 0 ∨ sx = 1) := by rcases sgnI_cases y with ⟨_, e⟩ | ⟨_, e⟩ | ⟨_, e⟩ <;> exact ⟨_, e, by decide⟩
  obtain ⟨sx, hsx, hsx'⟩ := SX
  obtain ⟨sy, hsy, hsy'⟩ := SY
  have SX := sign_any x
  have SY := sign_any y
  rw [hsx] at SX T1 T2
  rw [hsy] at SY T1 T2
  clear hsx hsy
  rcases HC.out with hc | hc
  · rw [T1 hc]
    have hcH := Lib.hid hc
    clear T1 T2 HM HC hc
    rcases hcH.out with hc | hc
    · clear hcH
      rcases hsx' with rfl | rfl | rfl <;> rcases hsy' with rfl | rfl | rfl
      all_goals
        go_enter Try.func19, Try.ntmps19
        go_wp2_with fail
        refine (magnitude_any x (by have := HX.out; omega) (by have := HX.out; omega) _).mono ?_
        rintro e w' ⟨rfl, rfl⟩
        go_wp2_with fail
        refine (magnitude_any y (by have := HX.out; omega) (by have := HX.out; omega) _).mono ?_
        rintro e w' ⟨rfl, rfl⟩
        go_wp2_with fail
        refine (HMm _).mono ?_
        rintro e w' ⟨rfl, rfl⟩
        go_wp2_with fail
        refine (SX _).mono ?_
        rintro e w' ⟨rfl, rfl⟩
        go_wp2_with fail
        refine (SY _).mono ?_
        rintro e w' ⟨rfl, rfl⟩
        go_wp2_with fail
        first
        | go_ret
        | skip
        refine ⟨?_, rfl⟩
        first
        | rfl
        | simp
        | (congr 2; omega)
    · clear hcH
      have hH0 : H = 0 ∨ 0 < H := by omega
      rcases hH0 with rfl | hH0 <;> rcases hsx' with rfl | rfl | rfl <;> rcases hsy' with rfl | rfl | rfl
      all_goals
        go_enter Try.func19, Try.ntmps19
        go_wp2_with fail
        refine (magnitude_any x (by have := HX.out; omega) (by have := HX.out; omega) _).mono ?_
        rintro e w' ⟨rfl, rfl⟩
        go_wp2_with fail
        refine (magnitude_any y (by have := HX.out; omega) (by have := HX.out; omega) _).mono ?_
        rintro e w' ⟨rfl, rfl⟩
        go_wp2_with fail
        refine (HMm _).mono ?_
        rintro e w' ⟨rfl, rfl⟩
        go_wp2_with fail
        refine (SX _).mono ?_
        rintro e w' ⟨rfl, rfl⟩
        go_wp2_with fail
        refine (SY _).mono ?_
        rintro e w' ⟨rfl, rfl⟩
        go_wp2_with fail
        first
        | go_ret
        | skip
        refine ⟨?_, rfl⟩
        first
        | rfl
        | simp
        | (congr 2; omega)
  · rw [T2 hc]
    obtain ⟨rfl, hc⟩ := hc
    clear T1 T2 HM HC
    rcases hsx' with rfl | rfl | rfl <;> rcases hsy' with rfl | rfl | rfl
    all_goals
      go_enter Try.func19, Try.ntmps19
      go_wp2_with fail
      refine (magnitude_any x (by have := HX.out; omega) (by have := HX.out; omega) _).mono ?_
      rintro e w' ⟨rfl, rfl⟩
      go_wp2_with fail
      refine (magnitude_any y (by have := HX.out; omega) (by have := HX.out; omega) _).mono ?_
      rintro e w' ⟨rfl, rfl⟩
      go_wp2_with fail
      refine (HMm _).mono ?_
      rintro e w' ⟨rfl, rfl⟩
      go_wp2_with fail
      refine (SX _).mono ?_
      rintro e w' ⟨rfl, rfl⟩
      go_wp2_with fail
      refine (SY _).mono ?_
      rintro e w' ⟨rfl, rfl⟩
      go_wp2_with fail
      first
      | go_ret
      | skip
      refine ⟨?_, rfl⟩
      first
      | rfl
      | simp
      | (congr 2; omega)
end Go.Proofs.Ytogklhbodaghdaa
