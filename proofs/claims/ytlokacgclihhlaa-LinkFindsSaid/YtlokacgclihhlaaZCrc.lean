/-
  The two checksums: bits from the least one on, bits from the greatest one on: plain facts on 32 bits.
-/
import Derived.Test.YtlokacgclihhlaaZNum
import Derived.Laws.BitsAllLaws
namespace Go.Proofs.Ytlokacgclihhlaa
set_option autoImplicit false

def polyP : BitVec 32 := 3988292384#32
def polyQ : BitVec 32 := 79764919#32
/-- One step of the program: the least bit goes out. -/
def bitP (s : BitVec 32) : BitVec 32 := (s >>> 1) ^^^ (if s.getLsbD 0 then polyP else 0#32)
/-- One step of the document: the greatest bit goes out; b comes in. -/
def bitQ (r : BitVec 32) (b : Bool) : BitVec 32 := (r <<< 1) ^^^ (if b != r.getLsbD 31 then polyQ else 0#32)
def iterP : Nat → BitVec 32 → BitVec 32
  | 0, s => s
  | k + 1, s => bitP (iterP k s)
def byteP (s : BitVec 32) (c : Nat) : BitVec 32 := iterP 8 (s ^^^ BitVec.ofNat 32 c)
def crcV (L : List Nat) : BitVec 32 := L.foldl byteP 4294967295#32
def crc (L : List Nat) : Nat := (~~~ crcV L).toNat
theorem crc_lt (L : List Nat) : crc L < 4294967296 := (~~~ crcV L).isLt

theorem ite_xor (a b : Bool) (p : BitVec 32) : (if (a ^^ b) then p else 0#32) = (if a then p else 0#32) ^^^ (if b then p else 0#32) := by
  cases a <;> cases b <;> simp
theorem bitP_xor (x y : BitVec 32) : bitP (x ^^^ y) = bitP x ^^^ bitP y := by
  unfold bitP
  rw [BitVec.getLsbD_xor, ite_xor, BitVec.ushiftRight_xor_distrib]
  ac_rfl
theorem poly_rev : polyP.reverse = polyQ := by decide +kernel
theorem reverse_xor (x y : BitVec 32) : (x ^^^ y).reverse = x.reverse ^^^ y.reverse := by
  apply BitVec.eq_of_getLsbD_eq
  intro i hi
  simp [BitVec.getLsbD_reverse, BitVec.getMsbD_xor]
theorem reverse_shr (x : BitVec 32) : (x >>> 1).reverse = x.reverse <<< 1 := by
  apply BitVec.eq_of_getLsbD_eq
  intro i hi
  rw [BitVec.getLsbD_reverse, BitVec.getMsbD_eq_getLsbD, BitVec.getLsbD_ushiftRight, BitVec.getLsbD_shiftLeft]
  cases i with
  | zero => simp
  | succ i =>
    rw [BitVec.getLsbD_reverse, BitVec.getMsbD_eq_getLsbD]
    have hh : 1 + (32 - 1 - (i + 1)) = 32 - 1 - (i + 1 - 1) := by omega
    have a1 : decide (i + 1 < 32) = true := by simpa using hi
    have a2 : decide (i + 1 < 1) = false := by simp
    have a3 : decide (i + 1 - 1 < 32) = true := by simp; omega
    rw [a1, a2, a3, hh]
    simp
theorem rev_bitP (u : BitVec 32) (b : Bool) : (bitP (u ^^^ (if b then 1#32 else 0#32))).reverse = bitQ u.reverse b := by
  unfold bitP bitQ
  have h1 : (u ^^^ (if b then 1#32 else 0#32)) >>> 1 = u >>> 1 := by
    rw [BitVec.ushiftRight_xor_distrib]
    cases b <;> simp
  have h2 : (u ^^^ (if b then 1#32 else 0#32)).getLsbD 0 = (b != u.getLsbD 0) := by
    rw [BitVec.getLsbD_xor]
    cases b <;> cases u.getLsbD 0 <;> rfl
  have h3 : u.reverse.getLsbD 31 = u.getLsbD 0 := by
    rw [BitVec.getLsbD_reverse, BitVec.getMsbD_eq_getLsbD]
    simp
  rw [h1, h2, h3, reverse_xor, reverse_shr]
  congr 1
  split
  · exact poly_rev
  · decide +kernel

/-- Bit k of a byte. -/
def bitOfB (c k : Nat) : Bool := decide (c / 2 ^ k % 2 = 1)
/-- The byte's bits, one after another, into the document's register. -/
def iterQ (c : Nat) : Nat → BitVec 32 → BitVec 32
  | 0, r => r
  | k + 1, r => bitQ (iterQ c k r) (bitOfB c k)
theorem bitP_even (c : Nat) (k : Nat) (hc : c < 256) : bitP (BitVec.ofNat 32 (c / 2 ^ k) ^^^ (if bitOfB c k then 1#32 else 0#32)) = BitVec.ofNat 32 (c / 2 ^ (k + 1)) := by
  have all : ∀ z : Fin 256, bitP (BitVec.ofNat 32 z.val ^^^ (if decide (z.val % 2 = 1) then 1#32 else 0#32)) = BitVec.ofNat 32 (z.val / 2) := by decide +kernel
  have hz : c / 2 ^ k < 256 := Nat.lt_of_le_of_lt (Nat.div_le_self _ _) hc
  have := all ⟨c / 2 ^ k, hz⟩
  unfold bitOfB
  rw [Nat.pow_succ, ← Nat.div_div_eq_div_mul]
  exact this
theorem xor_split (u X B : BitVec 32) : u ^^^ X = (u ^^^ B) ^^^ (X ^^^ B) := by
  rw [show (u ^^^ B) ^^^ (X ^^^ B) = (u ^^^ X) ^^^ (B ^^^ B) from by ac_rfl, BitVec.xor_self, BitVec.xor_zero]
theorem iter_inv (c : Nat) (hc : c < 256) (s : BitVec 32) : ∀ k, ∃ u, iterP k (s ^^^ BitVec.ofNat 32 c) = u ^^^ BitVec.ofNat 32 (c / 2 ^ k) ∧ u.reverse = iterQ c k s.reverse
  | 0 => ⟨s, by simp [iterP], rfl⟩
  | k + 1 => by
    obtain ⟨u, h1, h2⟩ := iter_inv c hc s k
    refine ⟨bitP (u ^^^ (if bitOfB c k then 1#32 else 0#32)), ?_, ?_⟩
    · rw [iterP, h1, ← bitP_even c k hc, ← bitP_xor, ← xor_split]
    · rw [rev_bitP, h2, iterQ]
theorem byte_rev (c : Nat) (hc : c < 256) (s : BitVec 32) : (byteP s c).reverse = iterQ c 8 s.reverse := by
  obtain ⟨u, h1, h2⟩ := iter_inv c hc s 8
  unfold byteP
  rw [h1]
  have : c / 2 ^ 8 = 0 := by omega
  rw [this, ← h2]
  simp
end Go.Proofs.Ytlokacgclihhlaa
