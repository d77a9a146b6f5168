/-
  denominator, FromInt, Neg of fractions.
-/
import Derived.Test.YtogklhbodaghdaaFrac
import Derived.Test.YtogklhbodaghdaaPlus
import Derived.Deep.RegionHeld3
namespace Go.Proofs.Ytogklhbodaghdaa
open Go.RowKit

theorem dd_len {d : Nat} (hd : d ≠ 0) : (words (dd d)).length = 0 ↔ d = 1 := by
  rw [words_len_zero]
  unfold dd
  split <;> omega

set_option maxRecDepth 100000 in
set_option maxHeartbeats 400000 in
theorem denominator_any (neg : Bool) (d : Nat) (hd : d ≠ 0) (A1 A2 : Option Addr) (n1 n2 c1 c2 : Nat) (B : Nat) (w : World) (hy : RW .u64 w B (.slice A2 n2 c2) (words (dd d))) (hB : B ≤ w.heap.size) :
    Calls Try.prog 45 #[.agg #[.bool neg, .slice A1 n1 c1, .slice A2 n2 c2]] w (RetW w d) := by
  have HYL := Lib.hid hy.len
  by_cases h1 : d = 1
  · have hn0 : ((n2 : Int) == 0) = true := by
      have : n2 = 0 := by rw [HYL.out]; exact (dd_len hd).2 h1
      rw [this]; rfl
    have H1 := Lib.hid h1
    clear h1
    go_enter Try.func45, Try.ntmps45
    go_wp2_with fail
    refine (single_any 1 (by unfold B64; omega) _).mono ?_
    rintro e w1 ⟨A3, n3, c3, rfl, h3, hb3⟩
    go_wp2
    go_ret
    rw [H1.out]
    exact ⟨_, _, _, rfl, h3, ((Below.refl _ _).alloc (Nat.le_refl _) _).trans (hb3.mono (by simp))⟩
  · have hn0 : ((n2 : Int) == 0) = false := by
      have : n2 ≠ 0 := by rw [HYL.out]; exact fun h => h1 ((dd_len hd).1 h)
      rw [beq_eq_false_iff_ne]; omega
    have H1 := Lib.hid h1
    go_enter Try.func45, Try.ntmps45
    go_wp2
    go_ret
    rw [dd_ne h1] at hy
    exact ⟨_, _, _, rfl, (hy.alloc hB _).more (by simp; omega), (Below.refl _ _).alloc (Nat.le_refl _) _⟩

set_option maxRecDepth 100000 in
set_option maxHeartbeats 400000 in
theorem fromInt_any (a : Int) (h1 : -9223372036854775808 ≤ a) (h2 : a ≤ 9223372036854775807) (w : World) :
    Calls Try.prog 22 #[.int .i64 a] w (RetF w (decide (a < 0)) a.natAbs 1) := by
  have hab : a.natAbs < B64 := by unfold B64; omega
  by_cases h0 : a < 0
  · have hd : decide (a < 0) = true := by simpa using h0
    have e : IntKind.u64.wrap (-IntKind.u64.wrap a) = ((a.natAbs : Nat) : Int) := by rw [IntKind.wrap_u64, IntKind.wrap_u64]; omega
    have HE := Lib.hid e
    rw [hd]
    clear e hd
    go_enter Try.func22, Try.ntmps22
    go_wp2_with fail
    rw [HE.out]
    refine (single_any a.natAbs hab _).mono ?_
    rintro e w1 ⟨A3, n3, c3, rfl, h3, hb3⟩
    obtain ⟨m0, m1, m2, mf⟩ := fr_cellsG (heap_alloc_new w _) hb3
    obtain ⟨f1, f2⟩ := fr_storeG (heap_alloc_new w _) ((Below.refl w.heap.size w).alloc (Nat.le_refl _) _) (Nat.le_refl _) hb3 (.bool true) (.slice A3 n3 c3) (.slice none 0 0)
    have F := Lib.hid (And.intro f1 f2)
    clear f1 f2
    go_wp2
    obtain ⟨f1, f2⟩ := F.out
    refine bodyPost_ret (v := .agg #[.bool true, .slice A3 n3 c3, .slice none 0 0]) (by simp [results, Try.results22, go_sem, m0, m1, m2]) rfl ⟨.agg #[.bool true, .slice A3 n3 c3, .slice none 0 0], rfl, ?_, f1⟩
    exact FR.mk (f2 _ _ _ h3) rw_one
  · have hd : decide (a < 0) = false := by simpa using h0
    rw [hd]
    obtain ⟨k, rfl⟩ := Int.eq_ofNat_of_zero_le (show 0 ≤ a by omega)
    rw [Int.natAbs_natCast] at *
    clear hd
    go_enter Try.func22, Try.ntmps22
    go_wp2_with fail
    refine (single_any k hab _).mono ?_
    rintro e w1 ⟨A3, n3, c3, rfl, h3, hb3⟩
    obtain ⟨m0, m1, m2, mf⟩ := fr_cellsG (heap_alloc_new w _) hb3
    obtain ⟨f1, f2⟩ := fr_storeG (heap_alloc_new w _) ((Below.refl w.heap.size w).alloc (Nat.le_refl _) _) (Nat.le_refl _) hb3 (.bool false) (.slice A3 n3 c3) (.slice none 0 0)
    have F := Lib.hid (And.intro f1 f2)
    clear f1 f2
    go_wp2
    obtain ⟨f1, f2⟩ := F.out
    refine bodyPost_ret (v := .agg #[.bool false, .slice A3 n3 c3, .slice none 0 0]) (by simp [results, Try.results22, go_sem, m0, m1, m2]) rfl ⟨.agg #[.bool false, .slice A3 n3 c3, .slice none 0 0], rfl, ?_, f1⟩
    exact FR.mk (f2 _ _ _ h3) rw_one

theorem RW.len0 {w : World} {B n c : Nat} {A : Option Addr} {m : Nat} (h : RW .u64 w B (.slice A n c) (words m)) : n = 0 ↔ m = 0 := by
  rw [h.len, words_len_zero]

set_option maxRecDepth 100000 in
set_option maxHeartbeats 400000 in
theorem neg_any (neg : Bool) (n d : Nat) (A1 A2 : Option Addr) (n1 n2 c1 c2 : Nat) (B : Nat) (w : World) (hx : RW .u64 w B (.slice A1 n1 c1) (words n)) (hy : RW .u64 w B (.slice A2 n2 c2) (words (dd d))) (hB : B ≤ w.heap.size) :
    Calls Try.prog 42 #[.agg #[.bool neg, .slice A1 n1 c1, .slice A2 n2 c2]] w (RetF w (!neg && decide (0 < n)) n d) := by
  have h0 := hx.len0
  have hm := hx.cap
  unfold maxLen at hm
  cases neg with
  | true =>
    go_enter Try.func42, Try.ntmps42
    go_wp2
    refine bodyPost_ret (v := .agg #[.bool false, .slice A1 n1 c1, .slice A2 n2 c2]) (by simp [results, Try.results42, go_sem]) rfl ⟨.agg #[.bool false, .slice A1 n1 c1, .slice A2 n2 c2], rfl, ?_, ((Below.refl _ _).alloc (Nat.le_refl _) _).alloc (by simp) _⟩
    exact FR.mk (((hx.alloc hB _).alloc (by simp; omega) _).more (by simp; omega)) (((hy.alloc hB _).alloc (by simp; omega) _).more (by simp; omega))
  | false =>
    by_cases hn : n1 = 0
    · have hb : decide (0 < n) = false := by simp [h0.1 hn]
      have hg : decide ((0 : Int) < (n1 : Int)) = false := by simp [hn]
      have HB := Lib.hid hb
      have HN := Lib.hid hn
      clear hb h0 hn
      go_enter Try.func42, Try.ntmps42
      go_wp2
      refine bodyPost_ret (v := .agg #[.bool false, .slice A1 n1 c1, .slice A2 n2 c2]) (by simp [results, Try.results42, go_sem]; exact HN.out) rfl ⟨.agg #[.bool false, .slice A1 n1 c1, .slice A2 n2 c2], rfl, ?_, ((Below.refl _ _).alloc (Nat.le_refl _) _).alloc (by simp) _⟩
      rw [HB.out]
      exact FR.mk (((hx.alloc hB _).alloc (by simp; omega) _).more (by simp; omega)) (((hy.alloc hB _).alloc (by simp; omega) _).more (by simp; omega))
    · have hb : decide (0 < n) = true := by simp; exact Nat.pos_of_ne_zero fun h => hn (h0.2 h)
      have hp : 0 < n1 := by omega
      have HB := Lib.hid hb
      clear hb h0 hn
      go_enter Try.func42, Try.ntmps42
      go_wp2
      refine bodyPost_ret (v := .agg #[.bool true, .slice A1 n1 c1, .slice A2 n2 c2]) (by simp [results, Try.results42, go_sem]) rfl ⟨.agg #[.bool true, .slice A1 n1 c1, .slice A2 n2 c2], rfl, ?_, ((Below.refl _ _).alloc (Nat.le_refl _) _).alloc (by simp) _⟩
      rw [HB.out]
      exact FR.mk (((hx.alloc hB _).alloc (by simp; omega) _).more (by simp; omega)) (((hy.alloc hB _).alloc (by simp; omega) _).more (by simp; omega))
end Go.Proofs.Ytogklhbodaghdaa
