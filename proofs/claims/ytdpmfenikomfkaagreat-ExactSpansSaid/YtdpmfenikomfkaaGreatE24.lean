/-
  Text of two thirds; exact.Text and exact.Ceil of it.
  The check that stands at the end of every statement.
  Valid spans, and what functions of spans hand back.
  magnitude and product: a product, or a number beyond the bound on the same side.
-/
import Derived.Test.YtdpmfenikomfkaaGreatE18
import Derived.Test.YtdpmfenikomfkaaGreatE23
import Derived.Test.YtdpmfenikomfkaaGreatE14
import Derived.Test.YtdpmfenikomfkaaGreatE15
namespace Go.Proofs.YtdpmfenikomfkaaGreat
open Go.RowKit

def RetS (w : World) (s : ByteArray) (e : Ending) (w' : World) : Prop := e = .returned (.string s) ∧ Below w.heap.size w w'

theorem dec2 (A : Option Addr) (n c : Nat) (B : Nat) (w : World) (hx : RW .u64 w B (.slice A n c) (words 2)) (hB : B ≤ w.heap.size) :
    Calls Tryz.prog 68 #[.slice A n c] w (RetS w ⟨#[50]⟩) := decimal_digit 2 (by omega) (by omega) A n c B w hx hB
theorem dec3 (A : Option Addr) (n c : Nat) (B : Nat) (w : World) (hx : RW .u64 w B (.slice A n c) (words 3)) (hB : B ≤ w.heap.size) :
    Calls Tryz.prog 68 #[.slice A n c] w (RetS w ⟨#[51]⟩) := decimal_digit 3 (by omega) (by omega) A n c B w hx hB

set_option maxRecDepth 100000 in
set_option maxHeartbeats 1000000 in
theorem text23 (A1 A2 : Option Addr) (n1 n2 c1 c2 : Nat) (B : Nat) (w : World) (hx : RW .u64 w B (.slice A1 n1 c1) (words 2)) (hy : RW .u64 w B (.slice A2 n2 c2) (words (dd 3))) (hB : B ≤ w.heap.size) :
    Calls Tryz.prog 46 #[.agg #[.bool false, .slice A1 n1 c1, .slice A2 n2 c2]] w (RetS w ⟨#[50, 47, 51]⟩) := by
  have hy' : RW .u64 w B (.slice A2 n2 c2) (words 3) := hy
  have hn2 : n2 = 1 := by rw [hy'.len]; exact words_len_one.2 ⟨by omega, by unfold B64; omega⟩
  subst hn2
  have g0 := heap_alloc_new w (.cells #[.bool false, .slice A1 n1 c1, .slice A2 1 c2] 74)
  have G0 := Lib.hid g0
  clear g0
  have hx0 := hx.alloc hB (.cells #[.bool false, .slice A1 n1 c1, .slice A2 1 c2] 74)
  have hy0 := hy'.alloc hB (.cells #[.bool false, .slice A1 n1 c1, .slice A2 1 c2] 74)
  have hB0 : B ≤ (w.alloc (.cells #[.bool false, .slice A1 n1 c1, .slice A2 1 c2] 74)).heap.size := by simp; omega
  go_enter Tryz.func46, Tryz.ntmps46
  go_wp2_with fail
  refine (dec2 A1 n1 c1 B _ (by exact hx0) (by exact hB0)).mono ?_
  rintro e w1 ⟨rfl, hb1⟩
  obtain ⟨k0, k1, k2, _⟩ := fr_cellsG G0.out hb1
  have hy1 := hy0.belowM hb1 hB0
  go_wp2_with fail
  refine (dec3 A2 1 c2 B _ (by exact hy1) (by exact Nat.le_trans hB0 hb1.size)).mono ?_
  rintro e w2 ⟨rfl, hb2⟩
  go_wp2
  go_ret
  exact ⟨rfl, (((Below.refl _ _).alloc (Nat.le_refl _) _).trans (hb1.mono (by simp))).trans (hb2.mono (by have := hb1.size; simp at this; omega))⟩

/-- A string or an int, and OK. -/
def RetVO (w : World) (v : Value) (e : Ending) (w' : World) : Prop := e = .returned (.tuple #[v, .int .i64 0]) ∧ Below w.heap.size w w'

theorem rat23 : (2 : Nat) / Nat.gcd 2 3 = 2 ∧ 3 / Nat.gcd 2 3 = 3 := by decide

theorem w32 (n : Nat) (h0 : n ≠ 0) (h : n < 4294967296) : words32 n = [n] := words32_single h0 h

theorem top1 {n : Nat} (h0 : n ≠ 0) (h : n < 4294967296) : top (words32 n) = 1 := by rw [top_words32, w32 n h0 h]; rfl

theorem small23 {w : World} {g B : Nat} {neg : Bool} {A1 A2 : Option Addr} {n1 n2 c1 c2 : Nat} {T : TypeId} (hl : w.heap[g]? = some (.cells #[.bool neg, .slice A1 n1 c1, .slice A2 n2 c2] T (0, 0)))
    (hx : RW .u32 w B (.slice A1 n1 c1) (words32 2)) (hy : RW .u32 w B (.slice A2 n2 c2) (words32 3)) : AllSmall w g B 1 := by
  intro k hk
  have : k = 0 := by omega
  subst this
  obtain ⟨a0, a1, a2, _⟩ := fr_cellsG hl (Below.refl _ _)
  exact ⟨neg, A1, n1, c1, A2, n2, c2, words32 2, words32 3, a0, a1, a2, hx, hy, by rw [top1 (by omega) (by omega)]; omega, by rw [top1 (by omega) (by omega)]; omega⟩

theorem from23 (A1 A2 : Option Addr) (n1 n2 c1 c2 : Nat) (B : Nat) (w : World) (hx : RW .u32 w B (.slice A1 n1 c1) (words32 2)) (hy : RW .u32 w B (.slice A2 n2 c2) (words32 3)) (hB : B ≤ w.heap.size) :
    Calls Tryz.prog 45 #[.agg #[.bool false, .slice A1 n1 c1, .slice A2 n2 c2]] w (RetF w false 2 3) := by
  have h := fromRat_any false false (words32 2) (words32 3) A1 A2 n1 n2 c1 c2 B w hx hy hB (words32_ok _) (words32_ok _) (by rw [top1 (by omega) (by omega)]; omega) (by rw [top1 (by omega) (by omega)]; omega) 2 3 (by rw [val32_words32]) (by rw [val32_words32]; rfl)
    (by rw [words_single (by omega) (by unfold B64; omega)]; simp) (by rw [words_single (by omega) (by unfold B64; omega)]; simp) (redOk_small (by unfold B64; omega) (by unfold B64; omega) (by omega)) rfl
  rwa [rat23.1, rat23.2] at h

set_option maxRecDepth 100000 in
set_option maxHeartbeats 1000000 in
theorem exText23 (A1 A2 : Option Addr) (n1 n2 c1 c2 : Nat) (B : Nat) (w : World) (hx : RW .u32 w B (.slice A1 n1 c1) (words32 2)) (hy : RW .u32 w B (.slice A2 n2 c2) (words32 3)) (hB : B ≤ w.heap.size) :
    Calls Tryz.prog 26 #[.agg #[.bool false, .slice A1 n1 c1, .slice A2 n2 c2]] w (RetVO w (.string ⟨#[50, 47, 51]⟩)) := by
  obtain ⟨W0, hW0⟩ : ∃ W0, W0 = (w.alloc (.cells #[.bool false, .slice A1 n1 c1, .slice A2 n2 c2] 48)).alloc (.cells #[.bool false, .slice A1 n1 c1, .slice A2 n2 c2] 48) := ⟨_, rfl⟩
  have HW0 := Lib.hid hW0
  have hw0 : Below w.heap.size w W0 := by rw [hW0]; exact ((Below.refl _ _).alloc (Nat.le_refl _) _).alloc (by simp) _
  have g0 : W0.heap[w.heap.size]? = some (.cells #[.bool false, .slice A1 n1 c1, .slice A2 n2 c2] 48 (0, 0)) := by rw [hW0]; exact heap_alloc2_old _ _ _
  have g1 : W0.heap[w.heap.size + 1]? = some (.cells #[.bool false, .slice A1 n1 c1, .slice A2 n2 c2] 48 (0, 0)) := by rw [hW0]; exact heap_alloc2_new _ _ _
  clear hW0
  have hB0 : B ≤ W0.heap.size := Nat.le_trans hB hw0.size
  have hx0 := hx.belowM hw0 hB
  have hy0 := hy.belowM hw0 hB
  have G0 := Lib.hid g0
  have hsm := Lib.hid (small23 g1 hx0 hy0)
  have hgl : w.heap.size + 1 < W0.heap.size := (Array.getElem?_eq_some_iff.1 g1).1
  clear g0 g1
  go_enter Tryz.func26, Tryz.ntmps26
  go_wp2_with fail
  rw [← HW0.out]
  refine (anyLarge_no _ B 1 1 W0 hsm.out hgl hB0 (by omega)).mono ?_
  rintro e w1 ⟨rfl, hb1⟩
  obtain ⟨k0, k1, k2, _⟩ := fr_cellsG G0.out hb1
  have hx1 := hx0.belowM hb1 hB0
  have hy1 := hy0.belowM hb1 hB0
  have hB1 := Nat.le_trans hB0 hb1.size
  go_wp2_with fail
  refine (from23 A1 A2 n1 n2 c1 c2 B _ (by exact hx1) (by exact hy1) (by exact hB1)).mono ?_
  rintro e w2 ⟨v, rfl, ⟨A3, n3, c3, A4, n4, c4, rfl, h3, h4⟩, hb2⟩
  go_wp2_with fail
  refine (text23 A3 A4 n3 n4 c3 c4 w2.heap.size _ (by exact h3) (by exact h4) (by exact Nat.le_refl _)).mono ?_
  rintro e w3 ⟨rfl, hb3⟩
  go_wp2
  go_ret2
  exact ⟨rfl, ((hw0.trans (hb1.mono hw0.size)).trans (hb2.mono (Nat.le_trans hw0.size hb1.size))).trans (hb3.mono (Nat.le_trans (Nat.le_trans hw0.size hb1.size) hb2.size))⟩

theorem flo23 : flo (!false && decide (0 < 2)) 2 3 = 1 ∧ (!(!false && decide (0 < 2)) && decide (0 < flo (!false && decide (0 < 2)) 2 3)) = false := by decide

theorem ceil23 (A1 A2 : Option Addr) (n1 n2 c1 c2 : Nat) (B : Nat) (w : World) (hx : RW .u64 w B (.slice A1 n1 c1) (words 2)) (hy : RW .u64 w B (.slice A2 n2 c2) (words (dd 3))) (hB : B ≤ w.heap.size) :
    Calls Tryz.prog 48 #[.agg #[.bool false, .slice A1 n1 c1, .slice A2 n2 c2]] w (RetF w false 1 1) := by
  have h := ceil_any false 2 3 A1 A2 n1 n2 c1 c2 B w hx hy hB (by omega) (by rw [words_single (by omega) (by unfold B64; omega)]; simp) (divide_small (by omega) (by unfold B64; omega) (divOk_small (by unfold B64; omega) (by omega)))
  rwa [flo23.2, flo23.1] at h

set_option maxRecDepth 100000 in
set_option maxHeartbeats 1000000 in
theorem exCeil23 (A1 A2 : Option Addr) (n1 n2 c1 c2 : Nat) (B : Nat) (w : World) (hx : RW .u32 w B (.slice A1 n1 c1) (words32 2)) (hy : RW .u32 w B (.slice A2 n2 c2) (words32 3)) (hB : B ≤ w.heap.size) :
    Calls Tryz.prog 27 #[.agg #[.bool false, .slice A1 n1 c1, .slice A2 n2 c2]] w (RetVO w (.int .i64 1)) := by
  obtain ⟨W0, hW0⟩ : ∃ W0, W0 = (w.alloc (.cells #[.bool false, .slice A1 n1 c1, .slice A2 n2 c2] 48)).alloc (.cells #[.bool false, .slice A1 n1 c1, .slice A2 n2 c2] 48) := ⟨_, rfl⟩
  have HW0 := Lib.hid hW0
  have hw0 : Below w.heap.size w W0 := by rw [hW0]; exact ((Below.refl _ _).alloc (Nat.le_refl _) _).alloc (by simp) _
  have g0 : W0.heap[w.heap.size]? = some (.cells #[.bool false, .slice A1 n1 c1, .slice A2 n2 c2] 48 (0, 0)) := by rw [hW0]; exact heap_alloc2_old _ _ _
  have g1 : W0.heap[w.heap.size + 1]? = some (.cells #[.bool false, .slice A1 n1 c1, .slice A2 n2 c2] 48 (0, 0)) := by rw [hW0]; exact heap_alloc2_new _ _ _
  clear hW0
  have hB0 : B ≤ W0.heap.size := Nat.le_trans hB hw0.size
  have hx0 := hx.belowM hw0 hB
  have hy0 := hy.belowM hw0 hB
  have G0 := Lib.hid g0
  have hsm := Lib.hid (small23 g1 hx0 hy0)
  have hgl : w.heap.size + 1 < W0.heap.size := (Array.getElem?_eq_some_iff.1 g1).1
  clear g0 g1
  go_enter Tryz.func27, Tryz.ntmps27
  go_wp2_with fail
  rw [← HW0.out]
  refine (anyLarge_no _ B 1 1 W0 hsm.out hgl hB0 (by omega)).mono ?_
  rintro e w1 ⟨rfl, hb1⟩
  obtain ⟨k0, k1, k2, _⟩ := fr_cellsG G0.out hb1
  have hx1 := hx0.belowM hb1 hB0
  have hy1 := hy0.belowM hb1 hB0
  have hB1 := Nat.le_trans hB0 hb1.size
  go_wp2_with fail
  refine (from23 A1 A2 n1 n2 c1 c2 B _ (by exact hx1) (by exact hy1) (by exact hB1)).mono ?_
  rintro e w2 ⟨v, rfl, ⟨A3, n3, c3, A4, n4, c4, rfl, h3, h4⟩, hb2⟩
  go_wp2_with fail
  refine (ceil23 A3 A4 n3 n4 c3 c4 w2.heap.size _ (by exact h3) (by exact h4) (by exact Nat.le_refl _)).mono ?_
  rintro e w3 ⟨v, rfl, ⟨A5, n5, c5, A6, n6, c6, rfl, h5, h6⟩, hb3⟩
  go_wp2_with fail
  refine (end_small false 1 (by omega) A5 A6 n5 n6 c5 c6 w3.heap.size _ (by exact h5) (by exact h6) (by exact Nat.le_refl _)).mono ?_
  rintro e w4 ⟨rfl, hb4⟩
  go_wp2
  go_ret2
  exact ⟨rfl, (((hw0.trans (hb1.mono hw0.size)).trans (hb2.mono (Nat.le_trans hw0.size hb1.size))).trans (hb3.mono (Nat.le_trans (Nat.le_trans hw0.size hb1.size) hb2.size))).trans (hb4.mono (Nat.le_trans (Nat.le_trans (Nat.le_trans hw0.size hb1.size) hb2.size) hb3.size))⟩
end Go.Proofs.YtdpmfenikomfkaaGreat

namespace Go.Proofs.YtdpmfenikomfkaaGreat
open Go.RowKit

theorem ratio46 (w : World) : Calls Tryz.prog 25 #[.int .i64 4, .int .i64 6] w (RetRE w false 2 3) := by
  have h := ratio_any false 4 6 (by omega) (by omega) (by omega) (by omega) (by omega) w rfl
  have e1 : (4 : Int).natAbs / Nat.gcd (4 : Int).natAbs (6 : Int).natAbs = 2 := by decide
  have e2 : (6 : Int).natAbs / Nat.gcd (4 : Int).natAbs (6 : Int).natAbs = 3 := by decide
  rwa [e1, e2] at h

theorem turn1 (w : World) : Calls Tryz.prog 28 #[.agg #[.int .i64 0, .int .i64 0], .agg #[.int .i64 1, .int .i64 0], .agg #[.int .i64 0, .int .i64 1]] w (RetIE w 1 0) :=
  turn_ok 0 0 1 0 0 1 (by unfold okP; omega) (by unfold okP; omega) (by unfold okP; omega) w

set_option maxRecDepth 100000 in
set_option maxHeartbeats 1000000 in
theorem first_any (w : World) : Calls Tryz.prog 16 #[] w (RetB w true) := by
  go_enter Tryz.func16, Tryz.ntmps16
  go_wp2_with fail
  refine (ratio46 _).mono ?_
  rintro e w1 ⟨v, rfl, ⟨A1, n1, c1, A2, n2, c2, rfl, h1, h2⟩, hb1⟩
  have h2' : RW .u32 w1 w1.heap.size (.slice A2 n2 c2) (words32 3) := h2
  clear h2
  have hx := h1.alloc (Nat.le_refl _) (.cells #[.bool false, .slice A1 n1 c1, .slice A2 n2 c2] 48)
  have hy := h2'.alloc (Nat.le_refl _) (.cells #[.bool false, .slice A1 n1 c1, .slice A2 n2 c2] 48)
  have g0 := heap_alloc_new w1 (.cells #[.bool false, .slice A1 n1 c1, .slice A2 n2 c2] 48)
  obtain ⟨W1, hW1⟩ : ∃ W1, W1 = w1.alloc (.cells #[.bool false, .slice A1 n1 c1, .slice A2 n2 c2] 48) := ⟨_, rfl⟩
  rw [← hW1] at hx hy g0
  have hbW : Below w.heap.size w W1 := by rw [hW1]; exact hb1.alloc hb1.size _
  have hBW : w1.heap.size ≤ W1.heap.size := by rw [hW1]; simp
  have HW1 := Lib.hid hW1
  have G0 := Lib.hid g0
  obtain ⟨k0, k1, k2, _⟩ := fr_cellsG g0 (Below.refl _ _)
  clear hW1 g0
  go_wp2_with fail
  rw [← HW1.out]
  refine (exText23 A1 A2 n1 n2 c1 c2 w1.heap.size _ (by exact hx) (by exact hy) (by exact hBW)).mono ?_
  rintro e w2 ⟨rfl, hb2⟩
  obtain ⟨q0, q1, q2, _⟩ := fr_cellsG G0.out hb2
  have hx2 := hx.belowM hb2 hBW
  have hy2 := hy.belowM hb2 hBW
  go_wp2_with fail
  refine (exCeil23 A1 A2 n1 n2 c1 c2 w1.heap.size _ (by exact hx2) (by exact hy2) (by exact Nat.le_trans hBW hb2.size)).mono ?_
  rintro e w3 ⟨rfl, hb3⟩
  go_wp2_with fail
  refine (turn1 _).mono ?_
  rintro e w4 ⟨rfl, hb4⟩
  go_wp2
  go_ret
  exact ⟨rfl, ((hbW.trans (hb2.mono hbW.size)).trans (hb3.mono (Nat.le_trans hbW.size hb2.size))).trans (hb4.mono (Nat.le_trans (Nat.le_trans hbW.size hb2.size) hb3.size))⟩
end Go.Proofs.YtdpmfenikomfkaaGreat

namespace Go.Proofs.YtdpmfenikomfkaaGreat
open Go.RowKit

def okS (lo hi : Int) : Prop := -1152921504606846976 ≤ lo ∧ lo ≤ hi ∧ hi ≤ 1152921504606846976

/-- A span and an error; a span, whether there is one, and an error. -/
def RetSE (w : World) (lo hi c : Int) (e : Ending) (w' : World) : Prop := e = .returned (.tuple #[.agg #[.int .i64 lo, .int .i64 hi], .int .i64 c]) ∧ Below w.heap.size w w'
def RetSBE (w : World) (lo hi : Int) (b : Bool) (c : Int) (e : Ending) (w' : World) : Prop := e = .returned (.tuple #[.agg #[.int .i64 lo, .int .i64 hi], .bool b, .int .i64 c]) ∧ Below w.heap.size w w'

end Go.Proofs.YtdpmfenikomfkaaGreat

namespace Go.Proofs.YtdpmfenikomfkaaGreat
open Go.RowKit

set_option maxHeartbeats 1000000 in
theorem magnitude_any (x : Int) (h1 : -9223372036854775808 ≤ x) (h2 : x ≤ 9223372036854775807) (w : World) :
    Calls Tryz.prog 40 #[.int .i64 x] w fun e w' => e = .returned (.int .u64 (x.natAbs : Nat)) ∧ w = w' := by
  by_cases hx : x < 0
  · have e1 : IntKind.u64.wrap (-(IntKind.u64.wrap x)) = ((x.natAbs : Nat) : Int) := by rw [IntKind.wrap_u64, IntKind.wrap_u64]; omega
    have e2 : IntKind.u64.wrap (-x) = ((x.natAbs : Nat) : Int) := by rw [IntKind.wrap_u64]; omega
    go_enter Tryz.func40, Tryz.ntmps40
    go_wp2
    first
    | go_ret
    | skip
    refine ⟨?_, rfl⟩
    first
    | rfl
    | simp [e1, e2]
    | omega
  · have e1 : IntKind.u64.wrap x = ((x.natAbs : Nat) : Int) := by rw [IntKind.wrap_u64]; omega
    go_enter Tryz.func40, Tryz.ntmps40
    go_wp2
    first
    | go_ret
    | skip
    refine ⟨?_, rfl⟩
    first
    | rfl
    | simp [e1]
    | omega

/-- What 'product' hands back. -/
def clampP (x y : Int) : Int := sgnI x * sgnI y * (if x.natAbs * y.natAbs ≤ 1152921504606846976 then ((x.natAbs * y.natAbs : Nat) : Int) else 1152921504606846977)

theorem sgnI_cases (x : Int) : (x < 0 ∧ sgnI x = -1) ∨ (x = 0 ∧ sgnI x = 0) ∨ (0 < x ∧ sgnI x = 1) := by
  unfold sgnI
  split
  · exact Or.inl ⟨by assumption, rfl⟩
  · split
    · exact Or.inr (Or.inr ⟨by assumption, rfl⟩)
    · exact Or.inr (Or.inl ⟨by omega, rfl⟩)

theorem sgn_mul_abs (x y : Int) : sgnI x * sgnI y * ((x.natAbs * y.natAbs : Nat) : Int) = x * y := by
  have hx : sgnI x * (x.natAbs : Int) = x := by rcases sgnI_cases x with ⟨h, e⟩ | ⟨h, e⟩ | ⟨h, e⟩ <;> rw [e] <;> omega
  have hy : sgnI y * (y.natAbs : Int) = y := by rcases sgnI_cases y with ⟨h, e⟩ | ⟨h, e⟩ | ⟨h, e⟩ <;> rw [e] <;> omega
  rw [Int.natCast_mul]
  calc sgnI x * sgnI y * ((x.natAbs : Int) * (y.natAbs : Int)) = (sgnI x * (x.natAbs : Int)) * (sgnI y * (y.natAbs : Int)) := by
        simp only [Int.mul_assoc, Int.mul_left_comm, Int.mul_comm]
    _ = x * y := by rw [hx, hy]

theorem clampP_in (x y : Int) (h : x.natAbs * y.natAbs ≤ 1152921504606846976) : clampP x y = x * y := by
  unfold clampP
  rw [if_pos h, sgn_mul_abs]

set_option maxRecDepth 100000 in
set_option maxHeartbeats 1000000 in
theorem product_any (x y : Int) (hx1 : -1152921504606846976 ≤ x) (hx2 : x ≤ 1152921504606846976) (hy1 : -1152921504606846976 ≤ y) (hy2 : y ≤ 1152921504606846976) (w : World) :
    Calls Tryz.prog 24 #[.int .i64 x, .int .i64 y] w fun e w' => e = .returned (.int .i64 (clampP x y)) ∧ w = w' := by
  have hxB : x.natAbs < B64 := by unfold B64; omega
  have hyB : y.natAbs < B64 := by unfold B64; omega
  have HX := Lib.hid (And.intro (And.intro hx1 hx2) (And.intro hy1 hy2))
  have hm := mul_eq x.natAbs y.natAbs
  have hlo := mulLo_lt x.natAbs y.natAbs
  have hhi := mulHi_lt x.natAbs y.natAbs hxB hyB
  have HM := Lib.hid (And.intro hm (And.intro hlo hhi))
  clear hm hlo hhi hx1 hx2 hy1 hy2
  generalize hL : mulLo x.natAbs y.natAbs = L at *
  generalize hH : mulHi x.natAbs y.natAbs = H at *
  have HMm := mul64_any x.natAbs y.natAbs hxB hyB
  rw [hL, hH] at HMm
  have hLB := HM.out.2.1
  have hHB := HM.out.2.2
  have HC : Hid ((0 < H ∨ 1152921504606846976 < L) ∨ (H = 0 ∧ L ≤ 1152921504606846976)) := Lib.hid (by omega)
  have T1 : (0 < H ∨ 1152921504606846976 < L) → clampP x y = sgnI x * sgnI y * 1152921504606846977 := by
    intro h
    have hm := HM.out.1
    unfold clampP
    rw [if_neg]
    unfold B64 at hm hLB
    omega
  have T2 : (H = 0 ∧ L ≤ 1152921504606846976) → clampP x y = sgnI x * sgnI y * (L : Int) := by
    intro ⟨h1, h2⟩
    have hm := HM.out.1
    unfold clampP
    rw [h1] at hm
    have : x.natAbs * y.natAbs = L := by omega
    rw [if_pos (by omega), this]
  have SX : ∃ sx : Int, sgnI x = sx ∧ (sx = -1 ∨ sx = 0 ∨ sx = 1) := by rcases sgnI_cases x with ⟨_, e⟩ | ⟨_, e⟩ | ⟨_, e⟩ <;> exact ⟨_, e, by decide⟩
  have SY : ∃ sx : Int, sgnI y = sx ∧ (sx = -1 ∨ sx = 0 ∨ sx = 1) := by rcases sgnI_cases y with ⟨_, e⟩ | ⟨_, e⟩ | ⟨_, e⟩ <;> exact ⟨_, e, by decide⟩
  obtain ⟨sx, hsx, hsx'⟩ := SX
  obtain ⟨sy, hsy, hsy'⟩ := SY
  have SX := sign_any x
  have SY := sign_any y
  rw [hsx] at SX T1 T2
  rw [hsy] at SY T1 T2
  clear hsx hsy
  rcases HC.out with hc | hc
  · rw [T1 hc]
    have hcH := Lib.hid hc
    clear T1 T2 HM HC hc
    rcases hcH.out with hc | hc
    · clear hcH
      rcases hsx' with rfl | rfl | rfl <;> rcases hsy' with rfl | rfl | rfl
      all_goals
        go_enter Tryz.func24, Tryz.ntmps24
        go_wp2_with fail
        refine (magnitude_any x (by have := HX.out; omega) (by have := HX.out; omega) _).mono ?_
        rintro e w' ⟨rfl, rfl⟩
        go_wp2_with fail
        refine (magnitude_any y (by have := HX.out; omega) (by have := HX.out; omega) _).mono ?_
        rintro e w' ⟨rfl, rfl⟩
        go_wp2_with fail
        refine (HMm _).mono ?_
        rintro e w' ⟨rfl, rfl⟩
        go_wp2_with fail
        refine (SX _).mono ?_
        rintro e w' ⟨rfl, rfl⟩
        go_wp2_with fail
        refine (SY _).mono ?_
        rintro e w' ⟨rfl, rfl⟩
        go_wp2_with fail
        first
        | go_ret
        | skip
        refine ⟨?_, rfl⟩
        first
        | rfl
        | simp
        | (congr 2; omega)
    · clear hcH
      have hH0 : H = 0 ∨ 0 < H := by omega
      rcases hH0 with rfl | hH0 <;> rcases hsx' with rfl | rfl | rfl <;> rcases hsy' with rfl | rfl | rfl
      all_goals
        go_enter Tryz.func24, Tryz.ntmps24
        go_wp2_with fail
        refine (magnitude_any x (by have := HX.out; omega) (by have := HX.out; omega) _).mono ?_
        rintro e w' ⟨rfl, rfl⟩
        go_wp2_with fail
        refine (magnitude_any y (by have := HX.out; omega) (by have := HX.out; omega) _).mono ?_
        rintro e w' ⟨rfl, rfl⟩
        go_wp2_with fail
        refine (HMm _).mono ?_
        rintro e w' ⟨rfl, rfl⟩
        go_wp2_with fail
        refine (SX _).mono ?_
        rintro e w' ⟨rfl, rfl⟩
        go_wp2_with fail
        refine (SY _).mono ?_
        rintro e w' ⟨rfl, rfl⟩
        go_wp2_with fail
        first
        | go_ret
        | skip
        refine ⟨?_, rfl⟩
        first
        | rfl
        | simp
        | (congr 2; omega)
  · rw [T2 hc]
    obtain ⟨rfl, hc⟩ := hc
    clear T1 T2 HM HC
    rcases hsx' with rfl | rfl | rfl <;> rcases hsy' with rfl | rfl | rfl
    all_goals
      go_enter Tryz.func24, Tryz.ntmps24
      go_wp2_with fail
      refine (magnitude_any x (by have := HX.out; omega) (by have := HX.out; omega) _).mono ?_
      rintro e w' ⟨rfl, rfl⟩
      go_wp2_with fail
      refine (magnitude_any y (by have := HX.out; omega) (by have := HX.out; omega) _).mono ?_
      rintro e w' ⟨rfl, rfl⟩
      go_wp2_with fail
      refine (HMm _).mono ?_
      rintro e w' ⟨rfl, rfl⟩
      go_wp2_with fail
      refine (SX _).mono ?_
      rintro e w' ⟨rfl, rfl⟩
      go_wp2_with fail
      refine (SY _).mono ?_
      rintro e w' ⟨rfl, rfl⟩
      go_wp2_with fail
      first
      | go_ret
      | skip
      refine ⟨?_, rfl⟩
      first
      | rfl
      | simp
      | (congr 2; omega)
end Go.Proofs.YtdpmfenikomfkaaGreat
