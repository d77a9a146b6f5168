/-
  FromRat and Div of fractions.
-/
import Derived.Test.YtogklhbodaghdaaFracc
import Derived.Test.YtogklhbodaghdaaFracb
namespace Go.Proofs.Ytogklhbodaghdaa
open Go.RowKit

/-- All that reduced calls at a and b does its work. -/
def RedOk (a b : Nat) : Prop := a ≠ 0 → b ≠ 1 → GcdAt a b ∧ DivideAt a (Nat.gcd a b) ∧ DivideAt b (Nat.gcd a b)

theorem redOk_small {a b : Nat} (ha : a < B64) (hb : b < B64) (hb0 : b ≠ 0) : RedOk a b := by
  intro ha0 _
  have hg0 : 0 < Nat.gcd a b := Nat.gcd_pos_of_pos_left _ (by omega)
  have hg1 : Nat.gcd a b < B64 := Nat.lt_of_le_of_lt (Nat.gcd_le_left _ (by omega)) ha
  refine ⟨?_, divide_small hg0 hg1 (divOk_small ha hg0), divide_small hg0 hg1 (divOk_small hb hg0)⟩
  rcases Nat.lt_or_ge a b with h | h
  · exact gcd_small_swap (a := b) (b := a) ha h (fun h0 => divOk_small hb h0)
  · exact gcd_small (a := a) (b := b) hb h (fun h0 => divOk_small ha h0)

def d1 (d : Nat) : Nat := if d = 0 then 1 else d

theorem RW.lenW {w : World} {B n c : Nat} {A : Option Addr} {m : Nat} (h : RW .u64 w B (.slice A n c) (words m)) (hm : (words m).length ≤ 65536) : n ≤ 65536 := by rw [h.len]; exact hm

set_option maxRecDepth 100000 in
set_option maxHeartbeats 1000000 in
theorem fromRat_any (sg neg : Bool) (xs ys : List Nat) (A1 A2 : Option Addr) (n1 n2 c1 c2 : Nat) (B : Nat) (w : World) (hx : RW .u32 w B (.slice A1 n1 c1) xs) (hy : RW .u32 w B (.slice A2 n2 c2) ys) (hB : B ≤ w.heap.size)
    (hxo : AllOk32 xs) (hyo : AllOk32 ys) (ht1 : top xs ≤ 65536) (ht2 : top ys ≤ 65536) (a b : Nat) (ha : a = val32 xs) (hb : b = d1 (val32 ys)) (hla : (words a).length ≤ 65536) (hlb : (words b).length ≤ 65536) (hR : RedOk a b) (hsg : Hid (sg = (neg && decide (a ≠ 0)))) :
    Calls Try.prog 24 #[.agg #[.bool neg, .slice A1 n1 c1, .slice A2 n2 c2]] w (RetF w sg (a / Nat.gcd a b) (b / Nat.gcd a b)) := by
  obtain ⟨W0, hW0⟩ : ∃ W0, W0 = (w.alloc (.cells #[.bool neg, .slice A1 n1 c1, .slice A2 n2 c2] 38)).alloc (.cells #[.bool false, .slice none 0 0, .slice none 0 0] 55) := ⟨_, rfl⟩
  have HW0 := Lib.hid hW0
  clear hW0
  have hx0 : RW .u32 W0 B (.slice A1 n1 c1) xs := by rw [HW0.out]; exact (hx.alloc hB _).alloc (by simp; omega) _
  have hy0 : RW .u32 W0 B (.slice A2 n2 c2) ys := by rw [HW0.out]; exact (hy.alloc hB _).alloc (by simp; omega) _
  have hs0 : w.heap.size + 1 < W0.heap.size := by rw [HW0.out]; simp
  have hB0 : B ≤ W0.heap.size := by omega
  have g0 : W0.heap[w.heap.size]? = some (.cells #[.bool neg, .slice A1 n1 c1, .slice A2 n2 c2] 38 (0, 0)) := by rw [HW0.out]; exact heap_alloc2_old _ _ _
  have g1 : W0.heap[w.heap.size + 1]? = some (.cells #[.bool false, .slice none 0 0, .slice none 0 0] 55 (0, 0)) := by rw [HW0.out]; exact heap_alloc2_new _ _ _
  have G1 := Lib.hid g1
  have G0 := Lib.hid g0
  have hw0 : Below w.heap.size w W0 := by rw [HW0.out]; exact ((Below.refl _ _).alloc (Nat.le_refl _) _).alloc (by simp) _
  clear g0 g1
  have hb0 : b ≠ 0 := by rw [hb]; unfold d1; split <;> omega
  have HA := Lib.hid ha
  have HB := Lib.hid hb
  clear ha hb
  go_enter Try.func24, Try.ntmps24
  go_wp2_with fail
  rw [← HW0.out]
  refine (pack_any A2 n2 c2 ys hyo B _ (by exact hy0) (by exact hB0) ht2).mono ?_
  rintro e w1 ⟨A3, n3, c3, rfl, h3, hb3⟩
  by_cases hz : val32 ys = 0
  · have hn0 : ((n3 : Int) == 0) = true := by
      have : n3 = 0 := by rw [h3.len, hz, words_zero]; rfl
      rw [this]; rfl
    have hb1 : b = 1 := by rw [HB.out, hz]; rfl
    have HB1 := Lib.hid hb1
    clear hz hb1
    go_wp2_with fail
    refine (single_any 1 (by unfold B64; omega) _).mono ?_
    rintro e w2 ⟨A5, n5, c5, rfl, h5, hb5⟩
    rw [← HB1.out] at h5
    have hbw : Below W0.heap.size W0 w2 := hb3.trans (hb5.mono hb3.size)
    have hx2 : RW .u32 w2 B (.slice A1 n1 c1) xs := hx0.belowM hbw hB0
    have hB2 : B ≤ w2.heap.size := Nat.le_trans hB0 hbw.size
    obtain ⟨k0, k1, k2, _⟩ := fr_cellsG G0.out hbw
    go_wp2
    go_region_held3 (fun w' => w'.cell? ⟨w.heap.size, 0, none⟩ = some (.bool neg) ∧ w'.cell? ⟨w.heap.size, 1, none⟩ = some (.slice A1 n1 c1))
      (first | exact ⟨r0, r1⟩ | exact ⟨q0, q1⟩ | exact ⟨k0, k1⟩ | go_keep)
      (first
        | (go_at_call 38
           refine (pack_any A1 n1 c1 xs hxo B _ (by exact hx2) (by exact hB2) ht1).mono ?_
           rintro e w3 ⟨A6, n6, c6, rfl, h6, hb6'⟩
           have hb6 : Below w2.heap.size w2 w3 := by first | exact hb6' | exact below_un hb6' | exact below_unN hb6'
           clear hb6'
           rw [← HA.out] at h6
           have hb7 : Below W0.heap.size W0 w3 := hbw.trans (hb6.mono hbw.size)
           have h5' : RW .u64 w3 w3.heap.size (.slice A5 n5 c5) (words b) := (h5.below hb6).more hb6.size
           obtain ⟨q0, q1, q2, _⟩ := fr_cellsG G0.out hb7)
        | (go_at_call 39
           refine (reduced_sg sg neg a b hsg A6 A5 n6 n5 c6 c5 w3.heap.size _ (by exact h6) (by exact h5') (by exact Nat.le_refl _) (h6.lenW hla) (h5'.lenW hlb) hb0 (fun p q => (hR p q).1) (fun p q => (hR p q).2.1) (fun p q => (hR p q).2.2)).mono ?_
           rintro e w4 ⟨v, rfl, ⟨A7, n7, c7, A8, n8, c8, rfl, h7, h8⟩, hb8'⟩
           have hb8 : Below w3.heap.size w3 w4 := by first | exact hb8' | exact below_un hb8' | exact below_unN hb8'
           clear hb8'
           have hb9 : Below W0.heap.size W0 w4 := hb7.trans (hb8.mono hb7.size)
           obtain ⟨r0, r1, r2, _⟩ := fr_cellsG G0.out hb9
           obtain ⟨m0, m1, m2, mf⟩ := fr_cellsG G1.out hb9))
    all_goals
      obtain ⟨f1, f2⟩ := fr_storeG G1.out hw0 (Nat.le_succ _) hb9 (.bool sg) (.slice A7 n7 c7) (.slice A8 n8 c8)
      have F := Lib.hid (And.intro f1 f2)
      clear f1 f2
      go_wp2
      obtain ⟨f1, f2⟩ := F.out
      refine bodyPost_ret (v := .agg #[.bool sg, .slice A7 n7 c7, .slice A8 n8 c8]) (by simp [results, Try.results24, go_sem, m0, m1, m2]) rfl ⟨.agg #[.bool sg, .slice A7 n7 c7, .slice A8 n8 c8], rfl, ?_, f1⟩
      exact FR.mk (f2 _ _ _ h7) (f2 _ _ _ h8)
  · have hn0 : ((n3 : Int) == 0) = false := by
      have : n3 ≠ 0 := by rw [h3.len]; exact fun h => hz (words_len_zero.1 h)
      rw [beq_eq_false_iff_ne]; omega
    have hbv : b = val32 ys := by rw [HB.out]; unfold d1; rw [if_neg hz]
    rw [← hbv] at h3
    clear hz hbv
    have hbw : Below W0.heap.size W0 w1 := hb3
    have hx2 : RW .u32 w1 B (.slice A1 n1 c1) xs := hx0.belowM hbw hB0
    have hB2 : B ≤ w1.heap.size := Nat.le_trans hB0 hbw.size
    obtain ⟨k0, k1, k2, _⟩ := fr_cellsG G0.out hbw
    go_wp2
    go_region_held3 (fun w' => w'.cell? ⟨w.heap.size, 0, none⟩ = some (.bool neg) ∧ w'.cell? ⟨w.heap.size, 1, none⟩ = some (.slice A1 n1 c1))
      (first | exact ⟨r0, r1⟩ | exact ⟨q0, q1⟩ | exact ⟨k0, k1⟩ | go_keep)
      (first
        | (go_at_call 38
           refine (pack_any A1 n1 c1 xs hxo B _ (by exact hx2) (by exact hB2) ht1).mono ?_
           rintro e w3 ⟨A6, n6, c6, rfl, h6, hb6'⟩
           have hb6 : Below w1.heap.size w1 w3 := by first | exact hb6' | exact below_un hb6' | exact below_unN hb6'
           clear hb6'
           rw [← HA.out] at h6
           have hb7 : Below W0.heap.size W0 w3 := hbw.trans (hb6.mono hbw.size)
           have h5' : RW .u64 w3 w3.heap.size (.slice A3 n3 c3) (words b) := (h3.below hb6).more hb6.size
           obtain ⟨q0, q1, q2, _⟩ := fr_cellsG G0.out hb7)
        | (go_at_call 39
           refine (reduced_sg sg neg a b hsg A6 A3 n6 n3 c6 c3 w3.heap.size _ (by exact h6) (by exact h5') (by exact Nat.le_refl _) (h6.lenW hla) (h5'.lenW hlb) hb0 (fun p q => (hR p q).1) (fun p q => (hR p q).2.1) (fun p q => (hR p q).2.2)).mono ?_
           rintro e w4 ⟨v, rfl, ⟨A7, n7, c7, A8, n8, c8, rfl, h7, h8⟩, hb8'⟩
           have hb8 : Below w3.heap.size w3 w4 := by first | exact hb8' | exact below_un hb8' | exact below_unN hb8'
           clear hb8'
           have hb9 : Below W0.heap.size W0 w4 := hb7.trans (hb8.mono hb7.size)
           obtain ⟨r0, r1, r2, _⟩ := fr_cellsG G0.out hb9
           obtain ⟨m0, m1, m2, mf⟩ := fr_cellsG G1.out hb9))
    all_goals
      obtain ⟨f1, f2⟩ := fr_storeG G1.out hw0 (Nat.le_succ _) hb9 (.bool sg) (.slice A7 n7 c7) (.slice A8 n8 c8)
      have F := Lib.hid (And.intro f1 f2)
      clear f1 f2
      go_wp2
      obtain ⟨f1, f2⟩ := F.out
      refine bodyPost_ret (v := .agg #[.bool sg, .slice A7 n7 c7, .slice A8 n8 c8]) (by simp [results, Try.results24, go_sem, m0, m1, m2]) rfl ⟨.agg #[.bool sg, .slice A7 n7 c7, .slice A8 n8 c8], rfl, ?_, f1⟩
      exact FR.mk (f2 _ _ _ h7) (f2 _ _ _ h8)
end Go.Proofs.Ytogklhbodaghdaa
