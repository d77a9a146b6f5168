/-
  Text of two thirds; exact.Text and exact.Ceil of it.
-/
import Derived.Test.YtogklhbodaghdaaDec
import Derived.Test.YtogklhbodaghdaaExact
import Derived.Test.YtogklhbodaghdaaInt
namespace Go.Proofs.Ytogklhbodaghdaa
open Go.RowKit

def RetS (w : World) (s : ByteArray) (e : Ending) (w' : World) : Prop := e = .returned (.string s) ∧ Below w.heap.size w w'

theorem dec2 (A : Option Addr) (n c : Nat) (B : Nat) (w : World) (hx : RW .u64 w B (.slice A n c) (words 2)) (hB : B ≤ w.heap.size) :
    Calls Try.prog 40 #[.slice A n c] w (RetS w ⟨#[50]⟩) := decimal_digit 2 (by omega) (by omega) A n c B w hx hB
theorem dec3 (A : Option Addr) (n c : Nat) (B : Nat) (w : World) (hx : RW .u64 w B (.slice A n c) (words 3)) (hB : B ≤ w.heap.size) :
    Calls Try.prog 40 #[.slice A n c] w (RetS w ⟨#[51]⟩) := decimal_digit 3 (by omega) (by omega) A n c B w hx hB

set_option maxRecDepth 100000 in
set_option maxHeartbeats 1000000 in
theorem text23 (A1 A2 : Option Addr) (n1 n2 c1 c2 : Nat) (B : Nat) (w : World) (hx : RW .u64 w B (.slice A1 n1 c1) (words 2)) (hy : RW .u64 w B (.slice A2 n2 c2) (words (dd 3))) (hB : B ≤ w.heap.size) :
    Calls Try.prog 25 #[.agg #[.bool false, .slice A1 n1 c1, .slice A2 n2 c2]] w (RetS w ⟨#[50, 47, 51]⟩) := by
  have hy' : RW .u64 w B (.slice A2 n2 c2) (words 3) := hy
  have hn2 : n2 = 1 := by rw [hy'.len]; exact words_len_one.2 ⟨by omega, by unfold B64; omega⟩
  subst hn2
  have g0 := heap_alloc_new w (.cells #[.bool false, .slice A1 n1 c1, .slice A2 1 c2] 55)
  have G0 := Lib.hid g0
  clear g0
  have hx0 := hx.alloc hB (.cells #[.bool false, .slice A1 n1 c1, .slice A2 1 c2] 55)
  have hy0 := hy'.alloc hB (.cells #[.bool false, .slice A1 n1 c1, .slice A2 1 c2] 55)
  have hB0 : B ≤ (w.alloc (.cells #[.bool false, .slice A1 n1 c1, .slice A2 1 c2] 55)).heap.size := by simp; omega
  go_enter Try.func25, Try.ntmps25
  go_wp2_with fail
  refine (dec2 A1 n1 c1 B _ (by exact hx0) (by exact hB0)).mono ?_
  rintro e w1 ⟨rfl, hb1⟩
  obtain ⟨k0, k1, k2, _⟩ := fr_cellsG G0.out hb1
  have hy1 := hy0.belowM hb1 hB0
  go_wp2_with fail
  refine (dec3 A2 1 c2 B _ (by exact hy1) (by exact Nat.le_trans hB0 hb1.size)).mono ?_
  rintro e w2 ⟨rfl, hb2⟩
  go_wp2
  go_ret
  exact ⟨rfl, (((Below.refl _ _).alloc (Nat.le_refl _) _).trans (hb1.mono (by simp))).trans (hb2.mono (by have := hb1.size; simp at this; omega))⟩

/-- A string or an int, and OK. -/
def RetVO (w : World) (v : Value) (e : Ending) (w' : World) : Prop := e = .returned (.tuple #[v, .int .i64 0]) ∧ Below w.heap.size w w'

theorem rat23 : (2 : Nat) / Nat.gcd 2 3 = 2 ∧ 3 / Nat.gcd 2 3 = 3 := by decide

theorem w32 (n : Nat) (h0 : n ≠ 0) (h : n < 4294967296) : words32 n = [n] := words32_single h0 h

theorem top1 {n : Nat} (h0 : n ≠ 0) (h : n < 4294967296) : top (words32 n) = 1 := by rw [top_words32, w32 n h0 h]; rfl

theorem small23 {w : World} {g B : Nat} {neg : Bool} {A1 A2 : Option Addr} {n1 n2 c1 c2 : Nat} {T : TypeId} (hl : w.heap[g]? = some (.cells #[.bool neg, .slice A1 n1 c1, .slice A2 n2 c2] T (0, 0)))
    (hx : RW .u32 w B (.slice A1 n1 c1) (words32 2)) (hy : RW .u32 w B (.slice A2 n2 c2) (words32 3)) : AllSmall w g B 1 := by
  intro k hk
  have : k = 0 := by omega
  subst this
  obtain ⟨a0, a1, a2, _⟩ := fr_cellsG hl (Below.refl _ _)
  exact ⟨neg, A1, n1, c1, A2, n2, c2, words32 2, words32 3, a0, a1, a2, hx, hy, by rw [top1 (by omega) (by omega)]; omega, by rw [top1 (by omega) (by omega)]; omega⟩

theorem from23 (A1 A2 : Option Addr) (n1 n2 c1 c2 : Nat) (B : Nat) (w : World) (hx : RW .u32 w B (.slice A1 n1 c1) (words32 2)) (hy : RW .u32 w B (.slice A2 n2 c2) (words32 3)) (hB : B ≤ w.heap.size) :
    Calls Try.prog 24 #[.agg #[.bool false, .slice A1 n1 c1, .slice A2 n2 c2]] w (RetF w false 2 3) := by
  have h := fromRat_any false false (words32 2) (words32 3) A1 A2 n1 n2 c1 c2 B w hx hy hB (words32_ok _) (words32_ok _) (by rw [top1 (by omega) (by omega)]; omega) (by rw [top1 (by omega) (by omega)]; omega) 2 3 (by rw [val32_words32]) (by rw [val32_words32]; rfl)
    (by rw [words_single (by omega) (by unfold B64; omega)]; simp) (by rw [words_single (by omega) (by unfold B64; omega)]; simp) (redOk_small (by unfold B64; omega) (by unfold B64; omega) (by omega)) rfl
  rwa [rat23.1, rat23.2] at h

set_option maxRecDepth 100000 in
set_option maxHeartbeats 1000000 in
theorem exText23 (A1 A2 : Option Addr) (n1 n2 c1 c2 : Nat) (B : Nat) (w : World) (hx : RW .u32 w B (.slice A1 n1 c1) (words32 2)) (hy : RW .u32 w B (.slice A2 n2 c2) (words32 3)) (hB : B ≤ w.heap.size) :
    Calls Try.prog 14 #[.agg #[.bool false, .slice A1 n1 c1, .slice A2 n2 c2]] w (RetVO w (.string ⟨#[50, 47, 51]⟩)) := by
  obtain ⟨W0, hW0⟩ : ∃ W0, W0 = (w.alloc (.cells #[.bool false, .slice A1 n1 c1, .slice A2 n2 c2] 38)).alloc (.cells #[.bool false, .slice A1 n1 c1, .slice A2 n2 c2] 38) := ⟨_, rfl⟩
  have HW0 := Lib.hid hW0
  have hw0 : Below w.heap.size w W0 := by rw [hW0]; exact ((Below.refl _ _).alloc (Nat.le_refl _) _).alloc (by simp) _
  have g0 : W0.heap[w.heap.size]? = some (.cells #[.bool false, .slice A1 n1 c1, .slice A2 n2 c2] 38 (0, 0)) := by rw [hW0]; exact heap_alloc2_old _ _ _
  have g1 : W0.heap[w.heap.size + 1]? = some (.cells #[.bool false, .slice A1 n1 c1, .slice A2 n2 c2] 38 (0, 0)) := by rw [hW0]; exact heap_alloc2_new _ _ _
  clear hW0
  have hB0 : B ≤ W0.heap.size := Nat.le_trans hB hw0.size
  have hx0 := hx.belowM hw0 hB
  have hy0 := hy.belowM hw0 hB
  have G0 := Lib.hid g0
  have hsm := Lib.hid (small23 g1 hx0 hy0)
  have hgl : w.heap.size + 1 < W0.heap.size := (Array.getElem?_eq_some_iff.1 g1).1
  clear g0 g1
  go_enter Try.func14, Try.ntmps14
  go_wp2_with fail
  rw [← HW0.out]
  refine (anyLarge_no _ B 1 1 W0 hsm.out hgl hB0 (by omega)).mono ?_
  rintro e w1 ⟨rfl, hb1⟩
  obtain ⟨k0, k1, k2, _⟩ := fr_cellsG G0.out hb1
  have hx1 := hx0.belowM hb1 hB0
  have hy1 := hy0.belowM hb1 hB0
  have hB1 := Nat.le_trans hB0 hb1.size
  go_wp2_with fail
  refine (from23 A1 A2 n1 n2 c1 c2 B _ (by exact hx1) (by exact hy1) (by exact hB1)).mono ?_
  rintro e w2 ⟨v, rfl, ⟨A3, n3, c3, A4, n4, c4, rfl, h3, h4⟩, hb2⟩
  go_wp2_with fail
  refine (text23 A3 A4 n3 n4 c3 c4 w2.heap.size _ (by exact h3) (by exact h4) (by exact Nat.le_refl _)).mono ?_
  rintro e w3 ⟨rfl, hb3⟩
  go_wp2
  go_ret2
  exact ⟨rfl, ((hw0.trans (hb1.mono hw0.size)).trans (hb2.mono (Nat.le_trans hw0.size hb1.size))).trans (hb3.mono (Nat.le_trans (Nat.le_trans hw0.size hb1.size) hb2.size))⟩

theorem flo23 : flo (!false && decide (0 < 2)) 2 3 = 1 ∧ (!(!false && decide (0 < 2)) && decide (0 < flo (!false && decide (0 < 2)) 2 3)) = false := by decide

theorem ceil23 (A1 A2 : Option Addr) (n1 n2 c1 c2 : Nat) (B : Nat) (w : World) (hx : RW .u64 w B (.slice A1 n1 c1) (words 2)) (hy : RW .u64 w B (.slice A2 n2 c2) (words (dd 3))) (hB : B ≤ w.heap.size) :
    Calls Try.prog 27 #[.agg #[.bool false, .slice A1 n1 c1, .slice A2 n2 c2]] w (RetF w false 1 1) := by
  have h := ceil_any false 2 3 A1 A2 n1 n2 c1 c2 B w hx hy hB (by omega) (by rw [words_single (by omega) (by unfold B64; omega)]; simp) (divide_small (by omega) (by unfold B64; omega) (divOk_small (by unfold B64; omega) (by omega)))
  rwa [flo23.2, flo23.1] at h

set_option maxRecDepth 100000 in
set_option maxHeartbeats 1000000 in
theorem exCeil23 (A1 A2 : Option Addr) (n1 n2 c1 c2 : Nat) (B : Nat) (w : World) (hx : RW .u32 w B (.slice A1 n1 c1) (words32 2)) (hy : RW .u32 w B (.slice A2 n2 c2) (words32 3)) (hB : B ≤ w.heap.size) :
    Calls Try.prog 15 #[.agg #[.bool false, .slice A1 n1 c1, .slice A2 n2 c2]] w (RetVO w (.int .i64 1)) := by
  obtain ⟨W0, hW0⟩ : ∃ W0, W0 = (w.alloc (.cells #[.bool false, .slice A1 n1 c1, .slice A2 n2 c2] 38)).alloc (.cells #[.bool false, .slice A1 n1 c1, .slice A2 n2 c2] 38) := ⟨_, rfl⟩
  have HW0 := Lib.hid hW0
  have hw0 : Below w.heap.size w W0 := by rw [hW0]; exact ((Below.refl _ _).alloc (Nat.le_refl _) _).alloc (by simp) _
  have g0 : W0.heap[w.heap.size]? = some (.cells #[.bool false, .slice A1 n1 c1, .slice A2 n2 c2] 38 (0, 0)) := by rw [hW0]; exact heap_alloc2_old _ _ _
  have g1 : W0.heap[w.heap.size + 1]? = some (.cells #[.bool false, .slice A1 n1 c1, .slice A2 n2 c2] 38 (0, 0)) := by rw [hW0]; exact heap_alloc2_new _ _ _
  clear hW0
  have hB0 : B ≤ W0.heap.size := Nat.le_trans hB hw0.size
  have hx0 := hx.belowM hw0 hB
  have hy0 := hy.belowM hw0 hB
  have G0 := Lib.hid g0
  have hsm := Lib.hid (small23 g1 hx0 hy0)
  have hgl : w.heap.size + 1 < W0.heap.size := (Array.getElem?_eq_some_iff.1 g1).1
  clear g0 g1
  go_enter Try.func15, Try.ntmps15
  go_wp2_with fail
  rw [← HW0.out]
  refine (anyLarge_no _ B 1 1 W0 hsm.out hgl hB0 (by omega)).mono ?_
  rintro e w1 ⟨rfl, hb1⟩
  obtain ⟨k0, k1, k2, _⟩ := fr_cellsG G0.out hb1
  have hx1 := hx0.belowM hb1 hB0
  have hy1 := hy0.belowM hb1 hB0
  have hB1 := Nat.le_trans hB0 hb1.size
  go_wp2_with fail
  refine (from23 A1 A2 n1 n2 c1 c2 B _ (by exact hx1) (by exact hy1) (by exact hB1)).mono ?_
  rintro e w2 ⟨v, rfl, ⟨A3, n3, c3, A4, n4, c4, rfl, h3, h4⟩, hb2⟩
  go_wp2_with fail
  refine (ceil23 A3 A4 n3 n4 c3 c4 w2.heap.size _ (by exact h3) (by exact h4) (by exact Nat.le_refl _)).mono ?_
  rintro e w3 ⟨v, rfl, ⟨A5, n5, c5, A6, n6, c6, rfl, h5, h6⟩, hb3⟩
  go_wp2_with fail
  refine (end_small false 1 (by omega) A5 A6 n5 n6 c5 c6 w3.heap.size _ (by exact h5) (by exact h6) (by exact Nat.le_refl _)).mono ?_
  rintro e w4 ⟨rfl, hb4⟩
  go_wp2
  go_ret2
  exact ⟨rfl, (((hw0.trans (hb1.mono hw0.size)).trans (hb2.mono (Nat.le_trans hw0.size hb1.size))).trans (hb3.mono (Nat.le_trans (Nat.le_trans hw0.size hb1.size) hb2.size))).trans (hb4.mono (Nat.le_trans (Nat.le_trans (Nat.le_trans hw0.size hb1.size) hb2.size) hb3.size))⟩
end Go.Proofs.Ytogklhbodaghdaa
