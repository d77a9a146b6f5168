/-
  The two checksums: bits from the least one on, bits from the greatest one on: plain facts on 32 bits.
  Checksum, the program's and the document's.
-/
import Derived.Test.YtkakbeiehggkiaaH01
import Derived.Laws.BitsAllLaws
import Derived.Test.YtkakbeiehggkiaaH03
namespace Go.Proofs.Ytkakbeiehggkiaa
set_option autoImplicit false

def polyP : BitVec 32 := 3988292384#32
def polyQ : BitVec 32 := 79764919#32
/-- One step of the program: the least bit goes out. -/
def bitP (s : BitVec 32) : BitVec 32 := (s >>> 1) ^^^ (if s.getLsbD 0 then polyP else 0#32)
/-- One step of the document: the greatest bit goes out; b comes in. -/
def bitQ (r : BitVec 32) (b : Bool) : BitVec 32 := (r <<< 1) ^^^ (if b != r.getLsbD 31 then polyQ else 0#32)
def iterP : Nat → BitVec 32 → BitVec 32
  | 0, s => s
  | k + 1, s => bitP (iterP k s)
def byteP (s : BitVec 32) (c : Nat) : BitVec 32 := iterP 8 (s ^^^ BitVec.ofNat 32 c)
def crcV (L : List Nat) : BitVec 32 := L.foldl byteP 4294967295#32
def crc (L : List Nat) : Nat := (~~~ crcV L).toNat
theorem crc_lt (L : List Nat) : crc L < 4294967296 := (~~~ crcV L).isLt

theorem ite_xor (a b : Bool) (p : BitVec 32) : (if (a ^^ b) then p else 0#32) = (if a then p else 0#32) ^^^ (if b then p else 0#32) := by
  cases a <;> cases b <;> simp
theorem bitP_xor (x y : BitVec 32) : bitP (x ^^^ y) = bitP x ^^^ bitP y := by
  unfold bitP
  rw [BitVec.getLsbD_xor, ite_xor, BitVec.ushiftRight_xor_distrib]
  ac_rfl
theorem poly_rev : polyP.reverse = polyQ := by decide +kernel
theorem reverse_xor (x y : BitVec 32) : (x ^^^ y).reverse = x.reverse ^^^ y.reverse := by
  apply BitVec.eq_of_getLsbD_eq
  intro i hi
  simp [BitVec.getLsbD_reverse, BitVec.getMsbD_xor]
theorem reverse_shr (x : BitVec 32) : (x >>> 1).reverse = x.reverse <<< 1 := by
  apply BitVec.eq_of_getLsbD_eq
  intro i hi
  rw [BitVec.getLsbD_reverse, BitVec.getMsbD_eq_getLsbD, BitVec.getLsbD_ushiftRight, BitVec.getLsbD_shiftLeft]
  cases i with
  | zero => simp
  | succ i =>
    rw [BitVec.getLsbD_reverse, BitVec.getMsbD_eq_getLsbD]
    have hh : 1 + (32 - 1 - (i + 1)) = 32 - 1 - (i + 1 - 1) := by omega
    have a1 : decide (i + 1 < 32) = true := by simpa using hi
    have a2 : decide (i + 1 < 1) = false := by simp
    have a3 : decide (i + 1 - 1 < 32) = true := by simp; omega
    rw [a1, a2, a3, hh]
    simp
theorem rev_bitP (u : BitVec 32) (b : Bool) : (bitP (u ^^^ (if b then 1#32 else 0#32))).reverse = bitQ u.reverse b := by
  unfold bitP bitQ
  have h1 : (u ^^^ (if b then 1#32 else 0#32)) >>> 1 = u >>> 1 := by
    rw [BitVec.ushiftRight_xor_distrib]
    cases b <;> simp
  have h2 : (u ^^^ (if b then 1#32 else 0#32)).getLsbD 0 = (b != u.getLsbD 0) := by
    rw [BitVec.getLsbD_xor]
    cases b <;> cases u.getLsbD 0 <;> rfl
  have h3 : u.reverse.getLsbD 31 = u.getLsbD 0 := by
    rw [BitVec.getLsbD_reverse, BitVec.getMsbD_eq_getLsbD]
    simp
  rw [h1, h2, h3, reverse_xor, reverse_shr]
  congr 1
  split
  · exact poly_rev
  · decide +kernel

/-- Bit k of a byte. -/
def bitOfB (c k : Nat) : Bool := decide (c / 2 ^ k % 2 = 1)
/-- The byte's bits, one after another, into the document's register. -/
def iterQ (c : Nat) : Nat → BitVec 32 → BitVec 32
  | 0, r => r
  | k + 1, r => bitQ (iterQ c k r) (bitOfB c k)
theorem bitP_even (c : Nat) (k : Nat) (hc : c < 256) : bitP (BitVec.ofNat 32 (c / 2 ^ k) ^^^ (if bitOfB c k then 1#32 else 0#32)) = BitVec.ofNat 32 (c / 2 ^ (k + 1)) := by
  have all : ∀ z : Fin 256, bitP (BitVec.ofNat 32 z.val ^^^ (if decide (z.val % 2 = 1) then 1#32 else 0#32)) = BitVec.ofNat 32 (z.val / 2) := by decide +kernel
  have hz : c / 2 ^ k < 256 := Nat.lt_of_le_of_lt (Nat.div_le_self _ _) hc
  have := all ⟨c / 2 ^ k, hz⟩
  unfold bitOfB
  rw [Nat.pow_succ, ← Nat.div_div_eq_div_mul]
  exact this
theorem xor_split (u X B : BitVec 32) : u ^^^ X = (u ^^^ B) ^^^ (X ^^^ B) := by
  rw [show (u ^^^ B) ^^^ (X ^^^ B) = (u ^^^ X) ^^^ (B ^^^ B) from by ac_rfl, BitVec.xor_self, BitVec.xor_zero]
theorem iter_inv (c : Nat) (hc : c < 256) (s : BitVec 32) : ∀ k, ∃ u, iterP k (s ^^^ BitVec.ofNat 32 c) = u ^^^ BitVec.ofNat 32 (c / 2 ^ k) ∧ u.reverse = iterQ c k s.reverse
  | 0 => ⟨s, by simp [iterP], rfl⟩
  | k + 1 => by
    obtain ⟨u, h1, h2⟩ := iter_inv c hc s k
    refine ⟨bitP (u ^^^ (if bitOfB c k then 1#32 else 0#32)), ?_, ?_⟩
    · rw [iterP, h1, ← bitP_even c k hc, ← bitP_xor, ← xor_split]
    · rw [rev_bitP, h2, iterQ]
theorem byte_rev (c : Nat) (hc : c < 256) (s : BitVec 32) : (byteP s c).reverse = iterQ c 8 s.reverse := by
  obtain ⟨u, h1, h2⟩ := iter_inv c hc s 8
  unfold byteP
  rw [h1]
  have : c / 2 ^ 8 = 0 := by omega
  rw [this, ← h2]
  simp
end Go.Proofs.Ytkakbeiehggkiaa

namespace Go.Proofs.Ytkakbeiehggkiaa
open Go.RowKit

theorem fold_take (L : List Nat) (k : Nat) (h : k < L.length) : (L.take (k + 1)).foldl byteP 4294967295#32 = byteP ((L.take k).foldl byteP 4294967295#32) (nth L k) := by
  rw [List.take_succ_eq_append_getElem h, List.foldl_append, nth_lt h]; rfl

def SumO (L : List Nat) (n : Nat) (sv iv : Value) : Prop := ∃ k : Nat, k ≤ n ∧ iv = .int .i64 (k : Int) ∧ sv = .int .u32 (((L.take k).foldl byteP 4294967295#32).toNat : Nat)
def SumI (s : BitVec 32) (sv jv : Value) : Prop := ∃ j : Nat, j ≤ 8 ∧ jv = .int .i64 (j : Int) ∧ sv = .int .u32 ((iterP j s).toNat : Nat)

theorem u32_xor_bv (s t : BitVec 32) : bits .xor .u32 ((s.toNat : Nat) : Int) ((t.toNat : Nat) : Int) = (((s ^^^ t).toNat : Nat) : Int) := by
  rw [u32_xor_nat _ _ s.isLt t.isLt, BitVec.toNat_xor]
theorem u32_xor_byte (s : BitVec 32) (x : Nat) (hx : x < 256) : bits .xor .u32 ((s.toNat : Nat) : Int) (x : Int) = (((s ^^^ BitVec.ofNat 32 x).toNat : Nat) : Int) := by
  rw [u32_xor_nat _ _ s.isLt (by omega), BitVec.toNat_xor, BitVec.toNat_ofNat, Nat.mod_eq_of_lt (show x < 2 ^ 32 by omega)]
theorem shr_one (s : BitVec 32) : (s.toNat : Int) / (2 : Int) = (((s >>> 1).toNat : Nat) : Int) := by
  rw [BitVec.toNat_ushiftRight, Nat.shiftRight_eq_div_pow]; omega
theorem and_one (s : BitVec 32) : bits .and .u32 ((s.toNat : Nat) : Int) 1 = ((s.toNat % 2 : Nat) : Int) := by
  have := u32_and_nat s.toNat 1 s.isLt (by omega)
  rw [Nat.and_one_is_mod] at this
  exact this
theorem low_bit (s : BitVec 32) : s.getLsbD 0 = decide (s.toNat % 2 = 1) := by
  rw [BitVec.getLsbD, Nat.testBit_zero]
theorem step_odd (s : BitVec 32) (h : s.toNat % 2 = 1) : bits .xor .u32 (((s >>> 1).toNat : Nat) : Int) 3988292384 = (((bitP s).toNat : Nat) : Int) := by
  have e : bitP s = (s >>> 1) ^^^ polyP := by unfold bitP; rw [low_bit]; simp [h]
  rw [e]
  exact u32_xor_bv _ polyP
theorem step_even (s : BitVec 32) (h : s.toNat % 2 = 0) : bits .xor .u32 (((s >>> 1).toNat : Nat) : Int) 0 = (((bitP s).toNat : Nat) : Int) := by
  have e : bitP s = (s >>> 1) ^^^ 0#32 := by unfold bitP; rw [low_bit]; simp [h]
  rw [e]
  exact u32_xor_bv _ 0#32
theorem not_bv (s : BitVec 32) : bits .xor .u32 IntKind.u32.max ((s.toNat : Nat) : Int) = (((~~~ s).toNat : Nat) : Int) := by
  have e : ~~~ s = BitVec.allOnes 32 ^^^ s := by rw [BitVec.xor_comm, BitVec.xor_allOnes]
  rw [e]
  exact u32_xor_bv (BitVec.allOnes 32) s
theorem mask_all : bits .and .u32 3988292384 4294967295 = 3988292384 := by
  have := u32_and_nat 3988292384 4294967295 (by omega) (by omega)
  exact this
theorem mask_none : bits .and .u32 3988292384 0 = 0 := by
  have := u32_and_nat 3988292384 0 (by omega) (by omega)
  exact this

set_option maxRecDepth 100000 in
set_option maxHeartbeats 400000 in
theorem checksum_any (L : List Nat) (hb : AllB L) (A : Option Addr) (n c B : Nat) (w : World) (hx : RW .u8 w B (.slice A n c) L) :
    Calls Try.prog 90 #[.slice A n c] w fun e w' => e = .returned (.int .u32 (crc L : Nat)) ∧ w = w' := by
  have HXL := Lib.hid hx.len
  have hcap := hx.cap
  unfold maxLen at hcap
  have HB := Lib.hid hb
  go_enter Try.func90, Try.ntmps90
  go_wp2
  go_loop [3, 8] (fun sv iv => SumO L n sv iv) (fun _ iv => n - (intOf1 iv).toNat)
  case atStart => exact ⟨0, Nat.zero_le _, rfl, rfl⟩
  case round =>
    obtain ⟨k, hk, rfl, rfl⟩ := hrel
    by_cases hkn : k < n
    · obtain ⟨b, o, rfl, _, hc⟩ := hx.at_ (by omega)
      have hc1 : w.cell? ⟨b, o + k, none⟩ = some (.int .u8 (nth L k : Nat)) := hc k hkn
      clear hc
      obtain ⟨s, hs⟩ : ∃ s, s = (L.take k).foldl byteP 4294967295#32 := ⟨_, rfl⟩
      obtain ⟨x, hxx⟩ : ∃ x, x = nth L k := ⟨_, rfl⟩
      have hx256 : x < 256 := by rw [hxx]; exact HB.out.nth k
      have hxor := u32_xor_byte s x hx256
      rw [← hs]
      rw [← hxx] at hc1
      have HS := Lib.hid (And.intro hs hxx)
      clear hs hxx
      obtain ⟨s0, hs0⟩ : ∃ s0, s0 = s ^^^ BitVec.ofNat 32 x := ⟨_, rfl⟩
      rw [← hs0] at hxor
      have HS0 := Lib.hid hs0
      clear hs0
      go_wp2
      clear hxor
      go_loop [3, 16] (fun sv jv => SumI s0 sv jv) (fun _ jv => 8 - (intOf1 jv).toNat)
      case atStart => exact ⟨0, Nat.zero_le _, rfl, rfl⟩
      case round =>
        obtain ⟨j, hj, rfl, rfl⟩ := hrel
        by_cases hj8 : j < 8
        · obtain ⟨t, ht⟩ : ∃ t, t = iterP j s0 := ⟨_, rfl⟩
          rw [← ht]
          have HT := Lib.hid ht
          clear ht
          have e2 := and_one t
          rcases Nat.mod_two_eq_zero_or_one t.toNat with h2 | h2
          · have e3 := step_even t h2
            rw [h2] at e2
            have e4 := mask_none
            have E3 := Lib.hid e3
            clear h2 e3
            go_wp2
            go_round
            case rel => exact ⟨j + 1, by omega, by go_num, by rw [shr_one, E3.out, iterP, HT.out]⟩
            case measure => simp [intOf1]; omega
          · have e3 := step_odd t h2
            rw [h2] at e2
            have e4 := mask_all
            have E3 := Lib.hid e3
            clear h2 e3
            go_wp2
            go_round
            case rel => exact ⟨j + 1, by omega, by go_num, by rw [shr_one, E3.out, iterP, HT.out]⟩
            case measure => simp [intOf1]; omega
        · obtain rfl : j = 8 := by omega
          go_wp2
          go_round
          case rel => exact ⟨k + 1, by omega, by go_num, by rw [fold_take L k (by rw [← HXL.out]; exact hkn), ← HS.out.1, ← HS.out.2, byteP, HS0.out]⟩
          case measure => simp [intOf1]; omega
    · obtain rfl : k = n := by omega
      obtain ⟨s, hs⟩ : ∃ s, s = (L.take k).foldl byteP 4294967295#32 := ⟨_, rfl⟩
      rw [← hs]
      have HS := Lib.hid hs
      clear hs
      go_wp2
      go_ret
      refine ⟨?_, rfl⟩
      show Ending.returned (.int .u32 (bits BinOp.xor IntKind.u32 IntKind.u32.max ↑s.toNat)) = _
      rw [not_bv, HS.out]
      have : L.take k = L := List.take_of_length_le (by rw [← HXL.out]; exact Nat.le_refl _)
      rw [this]
      rfl

theorem shl_one (r : BitVec 32) : IntKind.u32.wrap (((r.toNat : Nat) : Int) * 2) = (((r <<< 1).toNat : Nat) : Int) := by
  rw [IntKind.wrap_u32, BitVec.toNat_shiftLeft, Nat.shiftLeft_eq]; omega
theorem top_bit (r : BitVec 32) : r.getLsbD 31 = decide (r.toNat / 2147483648 = 1) := by
  rw [BitVec.getLsbD, Nat.testBit_eq_decide_div_mod_eq]
  have h := r.isLt
  have e : r.toNat / 2 ^ 31 = r.toNat / 2147483648 := rfl
  rw [e]
  congr 1
  apply propext
  omega
theorem bitQ_same {r : BitVec 32} {b : Bool} (h : b = r.getLsbD 31) : bitQ r b = r <<< 1 := by unfold bitQ; simp [h]
theorem bitQ_diff {r : BitVec 32} {b : Bool} (h : b ≠ r.getLsbD 31) : bits .xor .u32 (((r <<< 1).toNat : Nat) : Int) 79764919 = (((bitQ r b).toNat : Nat) : Int) := by
  have e : bitQ r b = (r <<< 1) ^^^ polyQ := by
    unfold bitQ
    have : (b != r.getLsbD 31) = true := by simpa using h
    rw [this]; rfl
  rw [e]
  exact u32_xor_bv _ polyQ
theorem in_bit (x j : Nat) (hx : x < 256) : bits .and .u32 ((x / 2 ^ j : Nat) : Int) 1 = ((x / 2 ^ j % 2 : Nat) : Int) := by
  have hlt : x / 2 ^ j < 4294967296 := Nat.lt_of_le_of_lt (Nat.div_le_self _ _) (by omega)
  have := u32_and_nat (x / 2 ^ j) 1 hlt (by omega)
  rw [Nat.and_one_is_mod] at this
  exact this
theorem back_step (r : BitVec 32) (m : Nat) (hm : m < 32) :
    bits .or .u32 ((((r.reverse >>> (32 - m)) <<< 1).toNat : Nat) : Int) (((r >>> m).toNat % 2 : Nat) : Int) = (((r.reverse >>> (32 - (m + 1))).toNat : Nat) : Int) := by
  have h2 : (r >>> m).toNat % 2 < 4294967296 := by omega
  rw [u32_or_nat _ _ (BitVec.isLt _) h2]
  have e : ((r.reverse >>> (32 - m)) <<< 1) ||| BitVec.ofNat 32 ((r >>> m).toNat % 2) = r.reverse >>> (32 - (m + 1)) := by
    apply BitVec.eq_of_getLsbD_eq
    intro i hi
    rw [BitVec.getLsbD_or, BitVec.getLsbD_shiftLeft, BitVec.getLsbD_ushiftRight, BitVec.getLsbD_ushiftRight, BitVec.getLsbD_ofNat]
    cases i with
    | zero =>
      have e1 : r.reverse.getLsbD (32 - (m + 1) + 0) = r.getLsbD m := by
        rw [BitVec.getLsbD_reverse, BitVec.getMsbD_eq_getLsbD]
        have a1 : decide (32 - (m + 1) + 0 < 32) = true := by simp; omega
        have a2 : 32 - 1 - (32 - (m + 1) + 0) = m := by omega
        rw [a1, a2]; rfl
      have e2 : (r >>> m).getLsbD 0 = r.getLsbD m := by rw [BitVec.getLsbD_ushiftRight, Nat.add_zero]
      rw [e1, ← e2, low_bit]
      rcases Nat.mod_two_eq_zero_or_one (r >>> m).toNat with h | h <;> rw [h] <;> rfl
    | succ i =>
      have a0 : ((r >>> m).toNat % 2).testBit (i + 1) = false := by
        rcases Nat.mod_two_eq_zero_or_one (r >>> m).toNat with h | h <;> rw [h]
        · simp
        · exact Nat.testBit_lt_two_pow (by have := Nat.pow_le_pow_right (show 0 < 2 by omega) (show 1 ≤ i + 1 by omega); omega)
      have a1 : decide (i + 1 < 32) = true := by simpa using hi
      have a2 : decide (i + 1 < 1) = false := by simp
      have a3 : 32 - m + (i + 1 - 1) = 32 - (m + 1) + (i + 1) := by omega
      rw [a0, a1, a2, a3]
      simp
  rw [← e, BitVec.toNat_or, BitVec.toNat_ofNat, Nat.mod_eq_of_lt (show (r >>> m).toNat % 2 < 2 ^ 32 from h2)]
theorem shr_more (r : BitVec 32) (m : Nat) : ((r >>> m).toNat : Int) / (2 : Int) = (((r >>> (m + 1)).toNat : Nat) : Int) := by
  rw [shr_one]
  have : r >>> m >>> 1 = r >>> (m + 1) := by rw [BitVec.shiftRight_add]
  rw [this]

theorem rev_ones : (4294967295#32).reverse = 4294967295#32 := by decide +kernel
theorem shr_all (x : BitVec 32) : x >>> 32 = 0#32 := by
  apply BitVec.eq_of_getLsbD_eq
  intro i hi
  rw [BitVec.getLsbD_ushiftRight]
  simp

def SumRO (L : List Nat) (n : Nat) (sv iv : Value) : Prop := ∃ k : Nat, k ≤ n ∧ iv = .int .i64 (k : Int) ∧ sv = .int .u32 ((((L.take k).foldl byteP 4294967295#32).reverse).toNat : Nat)
def SumRI (c : Nat) (r : BitVec 32) (sv jv : Value) : Prop := ∃ j : Nat, j ≤ 8 ∧ jv = .int .i64 (j : Int) ∧ sv = .int .u32 ((iterQ c j r).toNat : Nat)
def SumRB (r : BitVec 32) (sv ov jv : Value) : Prop := ∃ m : Nat, m ≤ 32 ∧ jv = .int .i64 (m : Int) ∧ sv = .int .u32 ((r >>> m).toNat : Nat) ∧ ov = .int .u32 ((r.reverse >>> (32 - m)).toNat : Nat)

set_option maxRecDepth 100000 in
set_option maxHeartbeats 400000 in
theorem refChecksum_any (L : List Nat) (hb : AllB L) (A : Option Addr) (n c B : Nat) (w : World) (hx : RW .u8 w B (.slice A n c) L) :
    Calls Try.prog 85 #[.slice A n c] w fun e w' => e = .returned (.int .u32 (crc L : Nat)) ∧ w = w' := by
  have HXL := Lib.hid hx.len
  have hcap := hx.cap
  unfold maxLen at hcap
  have HB := Lib.hid hb
  go_enter Try.func85, Try.ntmps85
  go_wp2
  go_loop [3, 12] (fun sv iv => SumRO L n sv iv) (fun _ iv => n - (intOf1 iv).toNat)
  case atStart => exact ⟨0, Nat.zero_le _, rfl, by rw [List.take_zero, List.foldl_nil, rev_ones]; rfl⟩
  case round =>
    obtain ⟨k, hk, rfl, rfl⟩ := hrel
    by_cases hkn : k < n
    · obtain ⟨b, o, rfl, _, hc⟩ := hx.at_ (by omega)
      have hc1 : w.cell? ⟨b, o + k, none⟩ = some (.int .u8 (nth L k : Nat)) := hc k hkn
      clear hc
      obtain ⟨s, hs⟩ : ∃ s, s = (L.take k).foldl byteP 4294967295#32 := ⟨_, rfl⟩
      obtain ⟨x, hxx⟩ : ∃ x, x = nth L k := ⟨_, rfl⟩
      have hx256 : x < 256 := by rw [hxx]; exact HB.out.nth k
      rw [← hs]
      rw [← hxx] at hc1
      have HS := Lib.hid (And.intro hs hxx)
      clear hs hxx
      obtain ⟨r0, hr0⟩ : ∃ r0, r0 = s.reverse := ⟨_, rfl⟩
      rw [← hr0]
      have HR0 := Lib.hid hr0
      clear hr0
      go_wp2
      go_loop [3, 5] (fun sv jv => SumRI x r0 sv jv) (fun _ jv => 8 - (intOf1 jv).toNat)
      case atStart => exact ⟨0, Nat.zero_le _, rfl, rfl⟩
      case round =>
        obtain ⟨j, hj, rfl, rfl⟩ := hrel
        by_cases hj8 : j < 8
        · obtain ⟨t, ht⟩ : ∃ t, t = iterQ x j r0 := ⟨_, rfl⟩
          rw [← ht]
          have HT := Lib.hid ht
          clear ht
          have e1 := in_bit x j hx256
          have e0 : ((x : Nat) : Int) / 2 ^ j = ((x / 2 ^ j : Nat) : Int) := by simp
          have e2 := shl_one t
          have hb1 : x / 2 ^ j % 2 = (if bitOfB x j then 1 else 0) := by
            unfold bitOfB
            rcases Nat.mod_two_eq_zero_or_one (x / 2 ^ j) with h | h <;> simp [h]
          have ht1 : ((t.toNat : Nat) : Int) / 2147483648 = (if t.getLsbD 31 then 1 else 0) := by
            rw [top_bit]
            have := t.isLt
            have h : t.toNat / 2147483648 = 0 ∨ t.toNat / 2147483648 = 1 := by omega
            rcases h with h | h
            · rw [h]; simp; omega
            · rw [h]; simp; omega
          rw [hb1] at e1
          have HQ := Lib.hid (@bitQ_same t (bitOfB x j))
          have HD := Lib.hid (@bitQ_diff t (bitOfB x j))
          obtain ⟨y, hy⟩ : ∃ y, y = x / 2 ^ j := ⟨_, rfl⟩
          rw [← hy] at e1 e0
          have hy256 : y < 256 := by rw [hy]; exact Nat.lt_of_le_of_lt (Nat.div_le_self _ _) hx256
          obtain ⟨u, hu⟩ : ∃ u, u = t <<< 1 := ⟨_, rfl⟩
          rw [← hu] at e2
          have HU := Lib.hid hu
          clear hb1 hy hu
          by_cases hbx : bitOfB x j = true
          · by_cases htx : t.getLsbD 31 = true
            · have e1' : bits .and .u32 (y : Int) 1 = 1 := by rw [e1, if_pos hbx]; rfl
              rw [if_pos htx] at ht1
              have S := Lib.hid (HQ.out (by rw [hbx, htx]))
              clear hbx htx e1
              go_wp2
              go_round
              case rel => exact ⟨j + 1, by omega, by go_num, by rw [HU.out, ← S.out, iterQ, HT.out]⟩
              case measure => simp [intOf1]; omega
            · have e1' : bits .and .u32 (y : Int) 1 = 1 := by rw [e1, if_pos hbx]; rfl
              rw [if_neg htx] at ht1
              have S := Lib.hid (HD.out (by rw [hbx]; exact fun h => htx h.symm))
              clear hbx htx e1
              go_wp2
              go_round
              case rel => exact ⟨j + 1, by omega, by go_num, by rw [HU.out, S.out, iterQ, HT.out]⟩
              case measure => simp [intOf1]; omega
          · by_cases htx : t.getLsbD 31 = true
            · have e1' : bits .and .u32 (y : Int) 1 = 0 := by rw [e1, if_neg hbx]; rfl
              rw [if_pos htx] at ht1
              have S := Lib.hid (HD.out (by rw [htx]; exact hbx))
              clear hbx htx e1
              go_wp2
              go_round
              case rel => exact ⟨j + 1, by omega, by go_num, by rw [HU.out, S.out, iterQ, HT.out]⟩
              case measure => simp [intOf1]; omega
            · have e1' : bits .and .u32 (y : Int) 1 = 0 := by rw [e1, if_neg hbx]; rfl
              rw [if_neg htx] at ht1
              have S := Lib.hid (HQ.out (by rw [Bool.eq_false_iff.2 hbx, Bool.eq_false_iff.2 htx]))
              clear hbx htx e1
              go_wp2
              go_round
              case rel => exact ⟨j + 1, by omega, by go_num, by rw [HU.out, ← S.out, iterQ, HT.out]⟩
              case measure => simp [intOf1]; omega
        · obtain rfl : j = 8 := by omega
          go_wp2
          go_round
          case rel => exact ⟨k + 1, by omega, by go_num, by rw [fold_take L k (by rw [← HXL.out]; exact hkn), ← HS.out.1, ← HS.out.2, byte_rev _ hx256, HR0.out]⟩
          case measure => simp [intOf1]; omega
    · obtain rfl : k = n := by omega
      obtain ⟨r, hr⟩ : ∃ r, r = ((L.take k).foldl byteP 4294967295#32).reverse := ⟨_, rfl⟩
      rw [← hr]
      have HR := Lib.hid hr
      clear hr
      go_wp2
      go_loop [3, 8, 9] (fun sv ov jv => SumRB r sv ov jv) (fun _ _ jv => 32 - (intOf1 jv).toNat)
      case atStart => exact ⟨0, Nat.zero_le _, rfl, rfl, by rw [Nat.sub_zero, shr_all]; rfl⟩
      case round =>
        obtain ⟨m, hm, rfl, rfl, rfl⟩ := hrel
        by_cases hm32 : m < 32
        · have e3 := back_step r m hm32
          have e4 := shr_more r m
          have e1 := and_one (r >>> m)
          have e2 := shl_one (r.reverse >>> (32 - m))
          obtain ⟨u, hu⟩ : ∃ u, u = r.reverse >>> (32 - m) := ⟨_, rfl⟩
          obtain ⟨t, ht⟩ : ∃ t, t = r >>> m := ⟨_, rfl⟩
          rw [← hu, ← ht] at e3
          rw [← ht] at e4 e1
          rw [← hu] at e2
          rw [← hu, ← ht]
          have E := Lib.hid (And.intro e3 e4)
          clear e3 e4 hu ht
          go_wp2
          go_round
          case rel => exact ⟨m + 1, by omega, by go_num, by rw [E.out.2], by rw [← E.out.1]; rfl⟩
          case measure => simp [intOf1]; omega
        · obtain rfl : m = 32 := by omega
          go_wp2
          go_ret
          refine ⟨?_, rfl⟩
          show Ending.returned (.int .u32 (bits BinOp.xor IntKind.u32 IntKind.u32.max ↑r.reverse.toNat)) = _
          rw [not_bv, HR.out, BitVec.reverse_reverse_eq]
          have : L.take k = L := List.take_of_length_le (by rw [← HXL.out]; exact Nat.le_refl _)
          rw [this]
          rfl
end Go.Proofs.Ytkakbeiehggkiaa
