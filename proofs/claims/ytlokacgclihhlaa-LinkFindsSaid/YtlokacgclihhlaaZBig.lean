/-
  Numbers of a fixed size, the most significant byte first: fixed, big.
-/
import Derived.Test.YtlokacgclihhlaaZSum
import Derived.Test.YtlokacgclihhlaaZRead
namespace Go.Proofs.Ytlokacgclihhlaa
open Go.RowKit

def be (L : List Nat) : Nat := L.foldl (fun n x => n * 256 + x) 0
theorem be_take (L : List Nat) (k : Nat) (h : k < L.length) : be (L.take (k + 1)) = be (L.take k) * 256 + nth L k := by
  unfold be
  rw [List.take_succ_eq_append_getElem h, List.foldl_append, nth_lt h]; rfl
theorem be_lt (L : List Nat) (hb : AllB L) : ∀ k, k ≤ L.length → be (L.take k) < 256 ^ k
  | 0, _ => by simp [be]
  | k + 1, h => by
    have ih := be_lt L hb k (by omega)
    have hx := hb.nth k
    rw [be_take L k (by omega), Nat.pow_succ]
    omega
theorem be_bd (L : List Nat) (hb : AllB L) (k : Nat) (hk : k ≤ L.length) (h4 : k ≤ 4) : be (L.take k) < 4294967296 := by
  have h1 := be_lt L hb k hk
  have h2 : 256 ^ k ≤ 256 ^ 4 := Nat.pow_le_pow_right (by omega) h4
  have h3 : 256 ^ 4 = 4294967296 := by decide
  omega
theorem or_byte (v x : Nat) (hv : v < 4294967296) (hx : x < 256) : bits .or .i64 ((v : Int) * 256) (x : Int) = ((v * 256 + x : Nat) : Int) := by
  have e : (v : Int) * 256 = ((v * 256 : Nat) : Int) := by omega
  rw [e, i64_or_nat _ _ (by omega) (by omega)]
  have h := Nat.two_pow_add_eq_or_of_lt (i := 8) (b := x) (by omega) v
  rw [show v * 256 = 2 ^ 8 * v from by omega, ← h]

def BeRel (L : List Nat) (n : Nat) (kd : IntKind) (sv iv : Value) : Prop := ∃ k : Nat, k ≤ n ∧ iv = .int .i64 (k : Int) ∧ sv = .int kd (be (L.take k) : Nat)

set_option maxRecDepth 100000 in
set_option maxHeartbeats 400000 in
theorem fixed_any (L : List Nat) (hb : AllB L) (A : Option Addr) (n c B : Nat) (h4 : n ≤ 4) (w : World) (hx : RW .u8 w B (.slice A n c) L) :
    Calls Try.prog 50 #[.slice A n c] w fun e w' => e = .returned (.int .i64 (be L : Nat)) ∧ w = w' := by
  have HXL := Lib.hid hx.len
  have hcap := hx.cap
  unfold maxLen at hcap
  have HB := Lib.hid hb
  go_enter Try.func50, Try.ntmps50
  go_wp2
  go_loop [3, 8] (fun sv iv => BeRel L n .i64 sv iv) (fun _ iv => n - (intOf1 iv).toNat)
  case atStart => exact ⟨0, Nat.zero_le _, rfl, rfl⟩
  case round =>
    obtain ⟨k, hk, rfl, rfl⟩ := hrel
    have hbd := be_bd L HB.out k (by rw [← HXL.out]; exact hk) (by omega)
    by_cases hkn : k < n
    · obtain ⟨b, o, rfl, _, hc⟩ := hx.at_ (by omega)
      have hc1 : w.cell? ⟨b, o + k, none⟩ = some (.int .u8 (nth L k : Nat)) := hc k hkn
      clear hc
      obtain ⟨v, hv⟩ : ∃ v, v = be (L.take k) := ⟨_, rfl⟩
      obtain ⟨x, hxx⟩ : ∃ x, x = nth L k := ⟨_, rfl⟩
      have hx256 : x < 256 := by rw [hxx]; exact HB.out.nth k
      rw [← hv]
      rw [← hv] at hbd
      rw [← hxx] at hc1
      have HS := Lib.hid (And.intro hv hxx)
      clear hv hxx
      have hor := or_byte v x hbd hx256
      go_wp2
      go_round
      case rel => exact ⟨k + 1, by omega, by go_num, by rw [be_take L k (by rw [← HXL.out]; exact hkn), ← HS.out.1, ← HS.out.2]; go_num⟩
      case measure => simp [intOf1]; omega
    · obtain rfl : k = n := by omega
      obtain ⟨v, hv⟩ : ∃ v, v = be (L.take k) := ⟨_, rfl⟩
      rw [← hv]
      rw [← hv] at hbd
      have HS := Lib.hid hv
      clear hv
      go_wp2
      go_ret
      have : L.take k = L := List.take_of_length_le (by rw [← HXL.out]; exact Nat.le_refl _)
      refine ⟨?_, rfl⟩
      rw [← this, ← HS.out]
      rfl

set_option maxRecDepth 100000 in
set_option maxHeartbeats 400000 in
theorem big_any (L : List Nat) (hb : AllB L) (A : Option Addr) (n c B : Nat) (h4 : n ≤ 4) (w : World) (hx : RW .u8 w B (.slice A n c) L) :
    Calls Try.prog 51 #[.slice A n c] w fun e w' => e = .returned (.int .u64 (be L : Nat)) ∧ w = w' := by
  have HXL := Lib.hid hx.len
  have hcap := hx.cap
  unfold maxLen at hcap
  have HB := Lib.hid hb
  go_enter Try.func51, Try.ntmps51
  go_wp2
  go_loop [3, 7] (fun sv iv => BeRel L n .u64 sv iv) (fun _ iv => n - (intOf1 iv).toNat)
  case atStart => exact ⟨0, Nat.zero_le _, rfl, rfl⟩
  case round =>
    obtain ⟨k, hk, rfl, rfl⟩ := hrel
    have hbd := be_bd L HB.out k (by rw [← HXL.out]; exact hk) (by omega)
    by_cases hkn : k < n
    · obtain ⟨b, o, rfl, _, hc⟩ := hx.at_ (by omega)
      have hc1 : w.cell? ⟨b, o + k, none⟩ = some (.int .u8 (nth L k : Nat)) := hc k hkn
      clear hc
      obtain ⟨v, hv⟩ : ∃ v, v = be (L.take k) := ⟨_, rfl⟩
      obtain ⟨x, hxx⟩ : ∃ x, x = nth L k := ⟨_, rfl⟩
      have hx256 : x < 256 := by rw [hxx]; exact HB.out.nth k
      rw [← hv]
      rw [← hv] at hbd
      rw [← hxx] at hc1
      have HS := Lib.hid (And.intro hv hxx)
      clear hv hxx
      go_wp2
      go_round
      case rel => exact ⟨k + 1, by omega, by go_num, by rw [be_take L k (by rw [← HXL.out]; exact hkn), ← HS.out.1, ← HS.out.2]; go_num⟩
      case measure => simp [intOf1]; omega
    · obtain rfl : k = n := by omega
      obtain ⟨v, hv⟩ : ∃ v, v = be (L.take k) := ⟨_, rfl⟩
      rw [← hv]
      rw [← hv] at hbd
      have HS := Lib.hid hv
      clear hv
      go_wp2
      go_ret
      have : L.take k = L := List.take_of_length_le (by rw [← HXL.out]; exact Nat.le_refl _)
      refine ⟨?_, rfl⟩
      rw [← this, ← HS.out]
      rfl
end Go.Proofs.Ytlokacgclihhlaa
