/-
  floorOver, Valid and Over of spans.
-/
import Derived.Test.YtndgpgciccgapaaVRow
import Derived.WalkLawsBesides
import Derived.WalkSpells
import Derived.WalkSmall
import Derived.StillTailTactics
import Derived.Deep.RegionHeld3
namespace Go.Proofs.Ytndgpgciccgapaa
open Go.RowKit

def okS (lo hi : Int) : Prop := -1152921504606846976 ≤ lo ∧ lo ≤ hi ∧ hi ≤ 1152921504606846976
instance (lo hi : Int) : Decidable (okS lo hi) := by unfold okS; infer_instance
theorem xy_cells {W0 w1 : World} {g : Nat} {a b : Value} {T : TypeId} (hblk : W0.heap[g]? = some (.cells #[a, b] T (0, 0))) (h : Below W0.heap.size W0 w1) :
    w1.cell? ⟨g, 0, none⟩ = some a ∧ w1.cell? ⟨g, 1, none⟩ = some b := by
  have hlt : g < W0.heap.size := (Array.getElem?_eq_some_iff.1 hblk).1
  have hb : w1.heap[g]? = some (.cells #[a, b] T (0, 0)) := (h.block g hlt).trans hblk
  exact ⟨cell_of_row _ _ _ _ _ _ hb, cell_of_row _ _ _ _ _ _ hb⟩
theorem xy_frozen {W0 w1 : World} {g : Nat} {a b : Value} {T : TypeId} (hblk : W0.heap[g]? = some (.cells #[a, b] T (0, 0))) (h : Below W0.heap.size W0 w1) : ∀ i, w1.frozen? ⟨g, i, none⟩ = false := by
  have hlt : g < W0.heap.size := (Array.getElem?_eq_some_iff.1 hblk).1
  exact fun i => frozen_of_row _ _ _ _ _ ((h.block g hlt).trans hblk)
/-- A span and an error. -/
def RetSE (w : World) (lo hi c : Int) (e : Ending) (w' : World) : Prop := e = .returned (.tuple #[.agg #[.int .i64 lo, .int .i64 hi], .int .i64 c]) ∧ Below w.heap.size w w'


theorem ediv_of_le {x n q r : Int} (hn : 1 ≤ n) (h : n * q + r = x) (h0 : 0 ≤ r) (h1 : r < n) : q = x / n := by
  rw [← h, Int.add_comm, Int.add_mul_ediv_left _ _ (by omega), Int.ediv_eq_zero_of_lt h0 h1, Int.zero_add]

theorem tdiv_floor (x n : Int) (hn : 1 ≤ n) : (Int.tmod x n < 0 → Int.tdiv x n - 1 = x / n) ∧ (¬ Int.tmod x n < 0 → Int.tdiv x n = x / n) := by
  have h1 := Int.mul_tdiv_add_tmod x n
  have h2 := Int.tmod_lt_of_pos x (show 0 < n by omega)
  constructor
  · intro h
    have h3 : -n < Int.tmod x n := by
      have := Int.tmod_lt_of_pos (-x) (show 0 < n by omega)
      rw [Int.neg_tmod] at this
      omega
    refine ediv_of_le (r := Int.tmod x n + n) hn ?_ (by omega) (by omega)
    rw [Int.mul_sub, Int.mul_one]
    omega
  · intro h
    exact ediv_of_le (r := Int.tmod x n) hn h1 (by omega) h2

set_option maxRecDepth 100000 in
set_option maxHeartbeats 1000000 in
theorem floorOver_any (x n : Int) (hx1 : -1152921504606846976 ≤ x) (hx2 : x ≤ 1152921504606846976) (hn : 1 ≤ n) (hn2 : n ≤ 9223372036854775807) (w : World) :
    Calls Try.prog 113 #[.int .i64 x, .int .i64 n] w fun e w' => e = .returned (.int .i64 (x / n)) ∧ w = w' := by
  have hb1 : -1152921504606846976 ≤ x / n := by
    rw [Int.le_ediv_iff_mul_le (by omega)]
    omega
  have hb2 : x / n ≤ 1152921504606846976 := by
    have : x / n < 1152921504606846977 := by rw [Int.ediv_lt_iff_lt_mul (by omega)]; omega
    omega
  obtain ⟨t1, t2⟩ := tdiv_floor x n hn
  have hn0 : n ≠ 0 := by omega
  by_cases h : Int.tmod x n < 0
  · have e := t1 h
    clear t1 t2
    rw [← e] at hb1 hb2 ⊢
    clear e
    go_enter Try.func113, Try.ntmps113
    go_wp2_with fail
    go_ret
    exact ⟨rfl, rfl⟩
  · have e := t2 h
    clear t1 t2
    rw [← e] at hb1 hb2 ⊢
    clear e
    go_enter Try.func113, Try.ntmps113
    go_wp2_with fail
    go_ret
    exact ⟨rfl, rfl⟩

theorem S0x2 (w : World) (al ah : Int) : ∃ W0, Hid (W0 = (w.alloc (.cells #[.int .i64 al, .int .i64 ah] 119)).alloc (.cells #[.int .i64 0, .int .i64 0] 119)) ∧ Below w.heap.size w W0 ∧
    Hid (W0.heap[w.heap.size]? = some (.cells #[.int .i64 al, .int .i64 ah] 119 (0, 0)) ∧ W0.heap[w.heap.size + 1]? = some (.cells #[.int .i64 0, .int .i64 0] 119 (0, 0))) :=
  ⟨_, rfl, ((Below.refl _ _).alloc (Nat.le_refl _) _).alloc (by simp) _, heap_alloc2_old _ _ _, heap_alloc2_new _ _ _⟩

set_option maxRecDepth 100000 in
set_option maxHeartbeats 1000000 in
theorem valid_yes (al ah : Int) (ha : okS al ah) (w : World) :
    Calls Try.prog 112 #[.agg #[.int .i64 al, .int .i64 ah]] w (RetB w true) := by
  obtain ⟨a1, a2, a3⟩ := ha
  go_enter Try.func112, Try.ntmps112
  go_wp2
  go_ret
  refine ⟨by simp [*], ?_⟩
  repeat (refine Below.alloc ?_ (by simp <;> omega) _)
  exact Below.refl _ _

set_option maxRecDepth 100000 in
set_option maxHeartbeats 1000000 in
theorem valid_no (al ah : Int) (ha : ¬ okS al ah) (w : World) :
    Calls Try.prog 112 #[.agg #[.int .i64 al, .int .i64 ah]] w (RetB w false) := by
  unfold okS at ha
  by_cases a1 : -1152921504606846976 ≤ al
  · by_cases a2 : al ≤ ah
    · have a3 : ¬ ah ≤ 1152921504606846976 := by omega
      have d3 : decide (ah ≤ 1152921504606846976) = false := by simpa using a3
      clear ha
      go_enter Try.func112, Try.ntmps112
      go_wp2
      go_ret
      refine ⟨by simp [*], ?_⟩
      repeat (refine Below.alloc ?_ (by simp <;> omega) _)
      exact Below.refl _ _
    · have d3 : decide (al ≤ ah) = false := by simpa using a2
      clear ha
      go_enter Try.func112, Try.ntmps112
      go_wp2
      go_ret
      refine ⟨by simp [*], ?_⟩
      repeat (refine Below.alloc ?_ (by simp <;> omega) _)
      exact Below.refl _ _
  · have d3 : decide (-1152921504606846976 ≤ al) = false := by simpa using a1
    clear ha
    go_enter Try.func112, Try.ntmps112
    go_wp2
    go_ret
    refine ⟨by simp [*], ?_⟩
    repeat (refine Below.alloc ?_ (by simp <;> omega) _)
    exact Below.refl _ _



theorem stillc {f : FuncId} {args : Array Value} {w : World} {v : Value} (h : ∀ w, Calls Try.prog f args w fun e w' => e = .returned v ∧ w = w') : Calls Try.prog f args w (fun e w'' => e = .returned v ∧ w'' = w) :=
  (h w).mono fun _ _ ⟨a, b⟩ => ⟨a, b.symm⟩

set_option maxRecDepth 100000 in
set_option maxHeartbeats 150000 in
theorem over_ok (al ah n : Int) (ha : okS al ah) (hn : 1 ≤ n) (hn2 : n ≤ 9223372036854775807) (w : World) :
    Calls Try.prog 99 #[.agg #[.int .i64 al, .int .i64 ah], .int .i64 n] w (RetSE w (al / n) (-(-ah / n)) 0) := by
  obtain ⟨W0, HW0, hw0, HG⟩ := S0x2 w al ah
  have HO := Lib.hid ha
  have F1 := floorOver_any al n (by have := HO.out.1; omega) (by have := HO.out.2; omega) hn hn2
  have F2 := floorOver_any (-ah) n (by have := HO.out.2; omega) (by have := HO.out; unfold okS at this; omega) hn hn2
  have B2 : -1152921504606846976 ≤ -ah / n ∧ -ah / n ≤ 1152921504606846976 := by
    have := HO.out
    unfold okS at this
    constructor
    · rw [Int.le_ediv_iff_mul_le (by omega)]; omega
    · have : -ah / n < 1152921504606846977 := by rw [Int.ediv_lt_iff_lt_mul (by omega)]; omega
      omega
  obtain ⟨B21, B22⟩ := B2
  obtain ⟨a1, a2, a3⟩ := ha
  generalize al / n = ql at *
  generalize -ah / n = qh at *
  have HF := Lib.hid (And.intro F1 F2)
  have WN1 : IntKind.i64.wrap (-ah) = -ah := by rw [IntKind.wrap_i64]; omega
  have WN2 : IntKind.i64.wrap (-qh) = -qh := by rw [IntKind.wrap_i64]; omega
  clear F1 F2
  go_enter Try.func99, Try.ntmps99
  go_wp2_with fail
  rw [← HW0.out]
  refine (valid_yes al ah HO.out _).mono ?_
  rintro e w1 ⟨rfl, hb1⟩
  obtain ⟨k0, k1⟩ := xy_cells HG.out.1 hb1
  obtain ⟨m0, m1⟩ := xy_cells HG.out.2 hb1
  have mf := xy_frozen HG.out.2 hb1
  have HM := Lib.hid (And.intro m0 (And.intro m1 mf))
  have HB := Lib.hid (And.intro hb1 hw0)
  clear m0 m1 mf hb1 hw0
  go_wp2_with fail
  go_still_tail 11, (by kernel_rfl)
  still_call (stillc HF.out.1)
  repeat still_step
  still_call (stillc HF.out.2)
  repeat still_step
  refine wpStill_nil ?_
  obtain ⟨m0, m1, mf⟩ := HM.out
  change wpList _ _ _ _ _ w1.drew
  go_wp2
  obtain ⟨hb1, hw0⟩ := HB.out
  have hB := Below.setCell (p := ⟨w.heap.size + 1, 1, none⟩) (Below.setCell (p := ⟨w.heap.size + 1, 0, none⟩) (hw0.trans (hb1.mono hw0.size)) (by show w.heap.size ≤ w.heap.size + 1; omega) (.int .i64 ql)) (by show w.heap.size ≤ w.heap.size + 1; omega) (.int .i64 (-qh))
  refine bodyPost_ret (v := .tuple #[.agg #[.int .i64 ql, .int .i64 (-qh)], .int .i64 0]) (by simp [results, Try.results99, go_sem, m0, m1]) rfl ⟨rfl, ?_⟩
  exact below_drewN hB _
end Go.Proofs.Ytndgpgciccgapaa
