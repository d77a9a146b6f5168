/-
  Division and common divisors where the divisor is one word.
-/
import Derived.Test.YtogklhbodaghdaaDivw
namespace Go.Proofs.Ytogklhbodaghdaa
open Go.RowKit

/-- Two numbers in words are handed back. -/
def RetWW (w : World) (p q : Nat) (e : Ending) (w' : World) : Prop :=
  ∃ A n c A' n' c', e = .returned (.tuple #[.slice A n c, .slice A' n' c']) ∧ RW .u64 w' w'.heap.size (.slice A n c) (words p) ∧ RW .u64 w' w'.heap.size (.slice A' n' c') (words q) ∧ Below w.heap.size w w'

/-- divide does its work at a and b. -/
def DivideAt (a b : Nat) : Prop := ∀ (w : World) (B : Nat) (A1 A2 : Option Addr) (n m c1 c2 : Nat), RW .u64 w B (.slice A1 n c1) (words a) → RW .u64 w B (.slice A2 m c2) (words b) → B ≤ w.heap.size → n ≤ 65536 →
  Calls Try.prog 50 #[.slice A1 n c1, .slice A2 m c2] w (RetWW w (a / b) (a % b))

/-- commonDivisor does its work at a and b. -/
def GcdAt (a b : Nat) : Prop := ∀ (w : World) (B : Nat) (A1 A2 : Option Addr) (n m c1 c2 : Nat), RW .u64 w B (.slice A1 n c1) (words a) → RW .u64 w B (.slice A2 m c2) (words b) → B ≤ w.heap.size → n ≤ 65536 → m ≤ 65536 →
  Calls Try.prog 49 #[.slice A1 n c1, .slice A2 m c2] w (RetW w (Nat.gcd a b))

def DivOk (a b : Nat) : Prop := ∀ hi lo, hi < b → lo < B64 → (a < B64 → hi = 0) → Div64At hi lo b

theorem divOk_small {a b : Nat} (ha : a < B64) (hb : 0 < b) : DivOk a b := by
  intro hi lo _ h2 h3
  rw [h3 ha]
  exact div64_zero lo b hb h2

theorem drop_hi {a b k : Nat} (hk : k < (words a).length) (h : a < B64) : val ((words a).drop (k + 1)) % b = 0 := by
  have h1 := words_length_le a 1 (by rw [Nat.pow_one]; exact h)
  rw [List.drop_of_length_le (by omega), val_nil, Nat.zero_mod]

theorem RW.single {w : World} {B b n c : Nat} {A : Option Addr} (h : RW .u64 w B (.slice A n c) (words b)) (h0 : 0 < b) (hb : b < B64) : n = 1 ∧ ∃ g o, A = some ⟨g, o, none⟩ ∧ g < B ∧ w.cell? ⟨g, o, none⟩ = some (.int .u64 (b : Nat)) := by
  have hl := h.len
  rw [words_len_one.2 ⟨by omega, hb⟩] at hl
  obtain ⟨g, o, hA, hg, hc⟩ := h.at_ (by omega)
  have := hc 0 (by omega)
  rw [words_single (by omega) hb] at this
  exact ⟨hl, g, o, hA, hg, this⟩

set_option maxRecDepth 100000 in
set_option maxHeartbeats 1000000 in
theorem divide_small {a b : Nat} (h0 : 0 < b) (hb : b < B64) (hD : DivOk a b) : DivideAt a b := by
  intro w B A1 A2 n m c1 c2 hx hy hB hn
  have HD := Lib.hid hD
  clear hD
  by_cases hab : a < b
  · have hlt : cmpN a b < 0 := by rw [cmpN_lt hab]; omega
    go_enter Try.func50, Try.ntmps50
    go_wp2_with (go_at_call 57; refine (compare_any a b _ _ _ _ _ _ _ _ hx hy).mono ?_; rintro e w' ⟨rfl, q, rfl⟩)
    go_ret2
    refine ⟨_, _, _, _, _, _, rfl, ?_, ?_, below_drewN (Below.refl _ _) q⟩
    · rw [Nat.div_eq_of_lt hab, words_zero]; exact RW.nil_
    · rw [Nat.mod_eq_of_lt hab]; exact (hx.drewN q).more hB
  · have hlt : ¬ cmpN a b < 0 := by
      rcases Nat.lt_or_ge b a with h | h
      · rw [cmpN_gt h]; omega
      · rw [cmpN_eq (by omega)]; omega
    obtain ⟨hm, g, o, hA, hg, hcell⟩ := hy.single h0 hb
    subst hm hA
    go_enter Try.func50, Try.ntmps50
    go_wp2_with (go_at_call 57; refine (compare_any a b _ _ _ _ _ _ _ _ hx hy).mono ?_; rintro e w' ⟨rfl, q, rfl⟩)
    refine (divideWord_any A1 n c1 b (words a) B _ (hx.drewN q) hB (words_ok a) h0 hn (fun k hk => HD.out _ _ (Nat.mod_lt _ h0) (nth_ok (words_ok a) k) (fun ha => drop_hi hk ha))).mono ?_
    rintro e w1 ⟨A, n1, c3, rfl, h1, hb1⟩
    rw [val_words] at h1 ⊢
    have hr : a % b < B64 := Nat.lt_trans (Nat.mod_lt _ h0) hb
    go_wp2_with (go_at_call 36; refine (single_any (a % b) hr _).mono ?_; rintro e w2 ⟨A3, n3, c4, rfl, h2, hb2⟩)
    go_ret2
    exact ⟨_, _, _, _, _, _, rfl, (h1.below hb2).more hb2.size, h2, ((below_drewN (Below.refl _ _) q).trans hb1).trans (hb2.mono (by have := hb1.size; simpa using this))⟩

set_option maxRecDepth 100000 in
set_option maxHeartbeats 400000 in
theorem wordDivisor_any (x y : Nat) (hy : y < B64) (w : World) :
    Calls Try.prog 62 #[.int .u64 (x : Nat), .int .u64 (y : Nat)] w fun e w' => e = .returned (.int .u64 (Nat.gcd x y : Nat)) ∧ ∃ q, w' = w.drewN q := by
  go_enter Try.func62, Try.ntmps62
  go_wp2
  go_loopw [0, 1] (fun u v wr => ∃ a b q : Nat, u = .int .u64 (a : Nat) ∧ v = .int .u64 (b : Nat) ∧ wr = w.drewN q ∧ b < B64 ∧ Hid (Nat.gcd a b = Nat.gcd x y)) (fun _ v _ => (intOf v).toNat)
  case atStart => exact ⟨x, y, 0, rfl, rfl, rfl, hy, rfl⟩
  case round =>
    obtain ⟨a, b, q, rfl, rfl, rfl, hb, hg⟩ := hrel
    by_cases h0 : b = 0
    · subst h0
      have hbb : ((0 : Int) != 0) = false := rfl
      go_wp2
      go_ret
      have := hg.out
      rw [Nat.gcd_zero_right] at this
      rw [this]
      exact ⟨rfl, _, rfl⟩
    · have hbb : ((b : Int) != 0) = true := by rw [bne_iff_ne]; omega
      have hbe : ((b : Int) == 0) = false := by rw [beq_eq_false_iff_ne]; omega
      have hpos : 0 < b := by omega
      have hml := Nat.mod_lt a hpos
      have hw : IntKind.u64.wrap ((a : Int) % (b : Int)) = (a : Int) % (b : Int) := wrap_small (a % b) (Nat.lt_trans hml hb)
      have HW := Lib.hid hw
      clear hw
      go_wp2
      go_region
      all_goals
        go_wp2
        go_roundw
        case rel =>
          refine ⟨b, a % b, q + 1, rfl, ?_, rfl, Nat.lt_trans hml hb, ?_⟩
          · first
            | rw [HW.out]; rfl
            | rfl
          · refine Eq.trans ?_ hg.out
            rw [Nat.gcd_comm, ← Nat.gcd_rec, Nat.gcd_comm]
        case measure => simp [intOf] <;> omega
end Go.Proofs.Ytogklhbodaghdaa
