/-
  Both roots.
-/
import Derived.Test.YtpjgoibchknbmaaFirst
namespace Go.Proofs.Ytpjgoibchknbmaa
open Go.RowKit

def IsRoot (n r : Nat) : Prop := r * r ≤ n ∧ n < (r + 1) * (r + 1)
theorem isRoot_unique {n r s : Nat} (h : IsRoot n r) (k : IsRoot n s) : r = s := by
  obtain ⟨h1, h2⟩ := h
  obtain ⟨k1, k2⟩ := k
  rcases Nat.lt_trichotomy r s with c | c | c
  · have := Nat.mul_le_mul (show r + 1 ≤ s by omega) (show r + 1 ≤ s by omega); omega
  · exact c
  · have := Nat.mul_le_mul (show s + 1 ≤ r by omega) (show s + 1 ≤ r by omega); omega
theorem isRoot_lt {n r : Nat} (hn : n ≤ 9223372036854775807) (h : IsRoot n r) : r ≤ 3037000499 := by
  rcases Nat.lt_or_ge 3037000499 r with c | c
  · have := Nat.mul_le_mul (show 3037000500 ≤ r by omega) (show 3037000500 ≤ r by omega)
    have := h.1
    omega
  · exact c

/-- The bit of the round before which k bits are left. -/
def bitOf (k : Nat) : Nat := if k = 0 then 0 else 2 ^ (k - 1)
theorem bitOf_half (k : Nat) : bitOf (k + 1) / 2 = bitOf k := by
  unfold bitOf
  cases k with
  | zero => rfl
  | succ k =>
    rw [if_neg (by omega), if_neg (by omega)]
    simp only [Nat.add_sub_cancel]
    rw [Nat.pow_succ]; omega

def RootRel (n : Nat) (r b : Value) : Prop :=
  ∃ k x, k ≤ 32 ∧ b = .int .u64 (bitOf k : Nat) ∧ r = .int .u64 (x : Nat) ∧ x + 2 ^ k ≤ 4294967296 ∧ Hid (x * x ≤ n ∧ n < (x + 2 ^ k) * (x + 2 ^ k))

def numOf : Value → Nat
  | .int _ q => q.toNat
  | _ => 0

def RetRoot (n : Nat) (w : World) (e : Ending) (w' : World) : Prop := ∃ r, IsRoot n r ∧ e = .returned (.tuple #[.int .i64 (r : Nat), .int .i64 0]) ∧ w = w'

set_option maxRecDepth 100000 in
set_option maxHeartbeats 1000000 in
theorem root_ok (n : Nat) (hn : n ≤ 9223372036854775807) (w : World) : Calls Try.prog 31 #[.int .i64 (n : Nat)] w (RetRoot n w) := by
  go_enter Try.func31, Try.ntmps31
  go_wp2
  go_loop [4, 5] (fun r b => RootRel n r b) (fun _ b => numOf b)
  case atStart => exact ⟨32, 0, by omega, rfl, rfl, by omega, by omega, by omega⟩
  case round =>
    obtain ⟨k, x, hk, rfl, rfl, hx, HK⟩ := hrel
    cases k with
    | zero =>
      obtain ⟨h1, h2⟩ := HK.out
      have hr : IsRoot n x := ⟨h1, by simpa using h2⟩
      have hxl := isRoot_lt hn hr
      have HR := Lib.hid hr
      have e0 : bitOf 0 = 0 := rfl
      rw [e0]
      clear h1 h2 hr e0
      go_wp2
      go_ret2
      exact ⟨x, HR.out, rfl, rfl⟩
    | succ k =>
      obtain ⟨b, hb⟩ : ∃ b, b = bitOf (k + 1) := ⟨_, rfl⟩
      have hbv : b = 2 ^ k := by rw [hb]; unfold bitOf; simp
      have hb2 : b / 2 = bitOf k := by rw [hb]; exact bitOf_half k
      have hp : 2 ^ (k + 1) = b + b := by rw [hbv, Nat.pow_succ]; omega
      have hb0 : 0 < b := by rw [hbv]; exact Nat.pow_pos (by omega)
      rw [← hb]
      rw [hp] at hx
      have HB := Lib.hid (And.intro hbv (And.intro hb2 hp))
      clear hb hbv hb2 hp
      have hsq : (x + b) * (x + b) < 18446744073709551616 := by
        have := Nat.mul_le_mul (show x + b ≤ 4294967295 by omega) (show x + b ≤ 4294967295 by omega)
        omega
      have hw : IntKind.u64.wrap (((x : Int) + (b : Int)) * ((x : Int) + (b : Int))) = (((x + b) * (x + b) : Nat) : Int) := by
        have e : ((x : Int) + (b : Int)) * ((x : Int) + (b : Int)) = (((x + b) * (x + b) : Nat) : Int) := by simp
        rw [e]
        exact wrap_small _ hsq
      by_cases hle : (x + b) * (x + b) ≤ n
      · have hl : IntKind.u64.wrap (((x : Int) + (b : Int)) * ((x : Int) + (b : Int))) ≤ (n : Int) := by rw [hw]; exact Int.ofNat_le.2 hle
        have HL := Lib.hid hle
        clear hw hsq hle
        go_wp2
        go_round
        case rel =>
          obtain ⟨hbv, hb2, hp⟩ := HB.out
          obtain ⟨h1, h2⟩ := HK.out
          refine ⟨k, x + b, by omega, ?_, by go_num, by omega, ?_⟩
          · rw [← hb2]; rfl
          · refine ⟨HL.out, ?_⟩
            rw [hp] at h2
            rw [← hbv, Nat.add_assoc]
            exact h2
        case measure => simp [numOf] <;> omega
      · have hl : (n : Int) < IntKind.u64.wrap (((x : Int) + (b : Int)) * ((x : Int) + (b : Int))) := by rw [hw]; exact Int.ofNat_lt.2 (by omega)
        have HL := Lib.hid hle
        clear hw hsq hle
        go_wp2
        go_round
        case rel =>
          obtain ⟨hbv, hb2, hp⟩ := HB.out
          obtain ⟨h1, h2⟩ := HK.out
          refine ⟨k, x, by omega, ?_, rfl, by omega, ?_⟩
          · rw [← hb2]; rfl
          · refine ⟨h1, ?_⟩
            rw [← hbv]
            exact Nat.lt_of_not_le HL.out
        case measure => simp [numOf] <;> omega

def RefRel (n : Nat) (l h : Value) : Prop :=
  ∃ a b : Nat, l = .int .i64 (a : Nat) ∧ h = .int .i64 (b : Nat) ∧ a < b ∧ b ≤ 4294967296 ∧ a ≤ 3037000499 ∧ Hid (a * a ≤ n ∧ n < b * b)

def RetRef (n : Nat) (w : World) (e : Ending) (w' : World) : Prop := ∃ r, IsRoot n r ∧ e = .returned (.int .i64 (r : Nat)) ∧ w = w'

set_option maxRecDepth 100000 in
set_option maxHeartbeats 1000000 in
theorem refRoot_ok (n : Nat) (hn : n ≤ 9223372036854775807) (w : World) : Calls Try.prog 32 #[.int .i64 (n : Nat)] w (RetRef n w) := by
  go_enter Try.func32, Try.ntmps32
  go_wp2
  go_loop [3, 4] (fun l h => RefRel n l h) (fun l h => numOf h - numOf l)
  case atStart => exact ⟨0, 4294967296, rfl, rfl, by omega, by omega, by omega, by omega, by omega⟩
  case round =>
    obtain ⟨a, b, rfl, rfl, hab, hb, ha, HK⟩ := hrel
    by_cases h1 : a + 1 < b
    · obtain ⟨m, hm⟩ : ∃ m, m = (a + b) / 2 := ⟨_, rfl⟩
      have hm1 : a < m := by omega
      have hm2 : m < b := by omega
      have em : ((a : Int) + (b : Int)) / 2 = (m : Int) := by omega
      have hmm : m ≤ 3037000499 → m * m ≤ 9223372036854775807 := fun h => by
        have := Nat.mul_le_mul h h
        omega
      clear hm
      by_cases c1 : m ≤ 3037000499
      · have hw : wrap64 ((m : Int) * (m : Int)) = ((m * m : Nat) : Int) := by
          have e : (m : Int) * (m : Int) = ((m * m : Nat) : Int) := by simp
          rw [e]
          exact IntWalk.wrap64_in _ ⟨by omega, by have := hmm c1; omega⟩
        by_cases c2 : m * m ≤ n
        · have hl : wrap64 ((m : Int) * (m : Int)) ≤ (n : Int) := by rw [hw]; exact Int.ofNat_le.2 c2
          have HL := Lib.hid c2
          clear hw c2 hmm
          go_wp2
          go_round
          case rel => exact ⟨m, b, rfl, rfl, hm2, hb, c1, HL.out, HK.out.2⟩
          case measure => simp [numOf] <;> omega
        · have hl : (n : Int) < wrap64 ((m : Int) * (m : Int)) := by rw [hw]; exact Int.ofNat_lt.2 (by omega)
          have HL := Lib.hid c2
          clear hw c2 hmm
          go_wp2
          go_round
          case rel => exact ⟨a, m, rfl, rfl, hm1, by omega, ha, HK.out.1, Nat.lt_of_not_le HL.out⟩
          case measure => simp [numOf] <;> omega
      · have d1 : decide ((m : Int) ≤ 3037000499) = false := by simp; omega
        have hbig : n < m * m := by
          have := Nat.mul_le_mul (show 3037000500 ≤ m by omega) (show 3037000500 ≤ m by omega)
          omega
        have HL := Lib.hid hbig
        clear hbig hmm
        go_wp2
        go_round
        case rel =>
          refine ⟨a, m, rfl, ?_, hm1, by omega, ha, HK.out.1, HL.out⟩
          first
          | rfl
          | (rw [em])
          | go_num
          | trace_state
        case measure => simp [numOf] <;> omega
    · have hb1 : b = a + 1 := by omega
      subst hb1
      go_wp2
      go_ret
      exact ⟨a, HK.out, rfl, rfl⟩
end Go.Proofs.Ytpjgoibchknbmaa
