/-
  Int of fractions and exact.end, where the number fits.
-/
import Derived.Test.YtogklhbodaghdaaFloor
namespace Go.Proofs.Ytogklhbodaghdaa
open Go.RowKit

def sgn (neg : Bool) (n : Nat) : Int := if neg then -(n : Int) else n

/-- An integer and a bool, or an integer and an error. -/
def RetIV (w : World) (i : Int) (v : Value) (e : Ending) (w' : World) : Prop :=
  e = .returned (.tuple #[.int .i64 i, v]) ∧ Below w.heap.size w w'

set_option maxRecDepth 100000 in
set_option maxHeartbeats 1000000 in
theorem int_small (neg : Bool) (n : Nat) (hn : n ≤ 1152921504606846976) (A1 A2 : Option Addr) (n1 n2 c1 c2 : Nat) (B : Nat) (w : World) (hx : RW .u64 w B (.slice A1 n1 c1) (words n)) (hy : RW .u64 w B (.slice A2 n2 c2) (words (dd 1))) (hB : B ≤ w.heap.size) :
    Calls Try.prog 41 #[.agg #[.bool neg, .slice A1 n1 c1, .slice A2 n2 c2]] w (RetIV w (sgn neg n) (.bool true)) := by
  have hn2 : n2 = 0 := by rw [hy.len]; exact (dd_len (by omega)).2 rfl
  subst hn2
  have hb : Below w.heap.size w (w.alloc (.cells #[.bool neg, .slice A1 n1 c1, .slice A2 0 c2] 55)) := (Below.refl _ _).alloc (Nat.le_refl _) _
  by_cases h0 : n = 0
  · have hn1 : n1 = 0 := by rw [hx.len, h0, words_zero]; rfl
    have e : sgn neg n = 0 := by unfold sgn; rw [h0]; cases neg <;> rfl
    subst hn1
    rw [e]
    clear e h0
    cases neg
    all_goals
      go_enter Try.func41, Try.ntmps41
      go_wp2
      go_ret2
      exact ⟨rfl, hb⟩
  · obtain ⟨hn1, g, o, hA, hg, hc⟩ := hx.single (by omega) (by unfold B64; omega)
    subst hn1 hA
    have hc' : (w.alloc (.cells #[.bool neg, .slice (some ⟨g, o, none⟩) 1 c1, .slice A2 0 c2] 55)).cell? ⟨g, o, none⟩ = some (.int .u64 (n : Nat)) := by
      rw [World.cell?_alloc_lt _ _ _ (by show g < _; omega)]; exact hc
    cases neg with
    | false =>
      go_enter Try.func41, Try.ntmps41
      go_wp2
      go_ret2
      exact ⟨rfl, hb⟩
    | true =>
      have e : sgn true n = wrap64 (IntKind.u64.wrap (-(n : Int))) := by
        unfold wrap64 sgn
        rw [IntKind.wrap_u64]
        simp only [if_true]
        omega
      have E := Lib.hid e
      clear e
      go_enter Try.func41, Try.ntmps41
      go_wp2
      go_ret2
      exact ⟨by rw [E.out]; rfl, hb⟩

set_option maxRecDepth 100000 in
set_option maxHeartbeats 1000000 in
theorem end_small (neg : Bool) (n : Nat) (hn : n ≤ 1152921504606846976) (A1 A2 : Option Addr) (n1 n2 c1 c2 : Nat) (B : Nat) (w : World) (hx : RW .u64 w B (.slice A1 n1 c1) (words n)) (hy : RW .u64 w B (.slice A2 n2 c2) (words (dd 1))) (hB : B ≤ w.heap.size) :
    Calls Try.prog 26 #[.agg #[.bool neg, .slice A1 n1 c1, .slice A2 n2 c2]] w (RetIV w (sgn neg n) (.int .i64 0)) := by
  have hx0 := hx.alloc hB (.cells #[.bool neg, .slice A1 n1 c1, .slice A2 n2 c2] 55)
  have hy0 := hy.alloc hB (.cells #[.bool neg, .slice A1 n1 c1, .slice A2 n2 c2] 55)
  have hB0 : B ≤ (w.alloc (.cells #[.bool neg, .slice A1 n1 c1, .slice A2 n2 c2] 55)).heap.size := by simp; omega
  obtain ⟨s, hs⟩ : ∃ s, s = sgn neg n := ⟨_, rfl⟩
  have HS := Lib.hid hs
  have hs1 : -1152921504606846976 ≤ s ∧ s ≤ 1152921504606846976 := by rw [hs]; unfold sgn; split <;> omega
  rw [← hs]
  clear hs
  obtain ⟨hs1, hs2⟩ := hs1
  go_enter Try.func26, Try.ntmps26
  go_wp2_with fail
  refine (int_small neg n hn A1 A2 n1 n2 c1 c2 B _ (by exact hx0) (by exact hy0) (by exact hB0)).mono ?_
  rintro e w1 ⟨rfl, hb1⟩
  rw [← HS.out]
  go_wp2
  go_ret2
  exact ⟨rfl, ((Below.refl _ _).alloc (Nat.le_refl _) _).trans (hb1.mono (by simp))⟩
end Go.Proofs.Ytogklhbodaghdaa
