/-
  Which pulses are valid: the program's, the document's.
-/
import Derived.Test.YtndgpgciccgapaaVMem
import Derived.Test.YtndgpgciccgapaaVSamp
import Derived.WalkMore
namespace Go.Proofs.Ytndgpgciccgapaa
open Go.RowKit

theorem ix40 (a b c d : Value) : ∀ w, (Instr.index 78 (.agg #[a, b, c, d]) (.int .i64 0)).run Try.prog w = .ok a w := fun _ => by kernel_rfl
theorem ix41 (a b c d : Value) : ∀ w, (Instr.index 78 (.agg #[a, b, c, d]) (.int .i64 1)).run Try.prog w = .ok b w := fun _ => by kernel_rfl
theorem ix42 (a b c d : Value) : ∀ w, (Instr.index 78 (.agg #[a, b, c, d]) (.int .i64 2)).run Try.prog w = .ok c w := fun _ => by kernel_rfl
theorem ix43 (a b c d : Value) : ∀ w, (Instr.index 78 (.agg #[a, b, c, d]) (.int .i64 3)).run Try.prog w = .ok d w := fun _ => by kernel_rfl

set_option maxRecDepth 100000 in
theorem eqArr4 (a b c d e f g h : Int) (w : World) : (Op.equalIn 10000 78 (.agg #[.int .i64 a, .int .i64 b, .int .i64 c, .int .i64 d]) (.agg #[.int .i64 e, .int .i64 f, .int .i64 g, .int .i64 h])).run Try.prog w = .ok (decide (a = e ∧ b = f ∧ c = g ∧ d = h)) w := by
  have u3 := Try.underlying3
  have a3 := Try.isAgg3
  have z3 := Try.sizeOf3
  rw [show (10000 : Nat) = 9999 + 1 from rfl, Op.equalIn]
  simp only [Sem.run_bind, run_underlying Try.underlying78, Result.andThen_ok]
  simp only [Std.Legacy.Range.forIn_eq_forIn_range', Std.Legacy.Range.size, Nat.sub_zero, Nat.add_sub_cancel, Nat.div_one, List.range'_succ, List.range'_zero, List.forIn_cons, List.forIn_nil]
  go_simp
  by_cases h0 : a = e <;> by_cases h1 : b = f <;> by_cases h2 : c = g <;> by_cases h3 : d = h <;> simp [h0, h1, h2, h3]


def inQ (x : Int) : Prop := -1000 ≤ x ∧ x ≤ 1000
instance (x : Int) : Decidable (inQ x) := by unfold inQ; infer_instance
def okSc (a b c d : Int) : Prop := (inQ a ∧ inQ b ∧ inQ c ∧ inQ d) ∧ ¬ (a = 0 ∧ b = 0 ∧ c = 0 ∧ d = 0)
instance (a b c d : Int) : Decidable (okSc a b c d) := by unfold okSc; infer_instance
def VsR (w : World) (a b c d : Int) (iv : Value) (wr : World) : Prop :=
  (iv = .int .i64 0 ∧ Below w.heap.size w wr) ∨ (iv = .int .i64 1 ∧ inQ a ∧ Below w.heap.size w wr) ∨ (iv = .int .i64 2 ∧ (inQ a ∧ inQ b) ∧ Below w.heap.size w wr) ∨
  (iv = .int .i64 3 ∧ (inQ a ∧ inQ b ∧ inQ c) ∧ Below w.heap.size w wr) ∨ (iv = .int .i64 4 ∧ (inQ a ∧ inQ b ∧ inQ c ∧ inQ d) ∧ Below w.heap.size w wr)

set_option maxRecDepth 100000 in
set_option maxHeartbeats 4000000 in
theorem validScan_any (a b c d : Int) (w : World) :
    Calls Try.prog 75 #[.agg #[.int .i64 a, .int .i64 b, .int .i64 c, .int .i64 d]] w (RetB w (decide (okSc a b c d))) := by
  have i0 := ix40 (.int .i64 a) (.int .i64 b) (.int .i64 c) (.int .i64 d)
  have i1 := ix41 (.int .i64 a) (.int .i64 b) (.int .i64 c) (.int .i64 d)
  have i2 := ix42 (.int .i64 a) (.int .i64 b) (.int .i64 c) (.int .i64 d)
  have i3 := ix43 (.int .i64 a) (.int .i64 b) (.int .i64 c) (.int .i64 d)
  obtain ⟨r, hr⟩ : ∃ r, decide (okSc a b c d) = r := ⟨_, rfl⟩
  have HR := Lib.hid hr
  rw [hr]
  clear hr
  obtain ⟨W0, hW0, hb0, hG⟩ : ∃ W0, Hid (W0 = w.alloc (.cells #[.int .i64 a, .int .i64 b, .int .i64 c, .int .i64 d] 78)) ∧ Below w.heap.size w W0 ∧ Hid (W0.heap[w.heap.size]? = some (.cells #[.int .i64 a, .int .i64 b, .int .i64 c, .int .i64 d] 78 (0, 0))) :=
    ⟨_, rfl, (Below.refl _ _).alloc (Nat.le_refl _) _, heap_alloc_new w _⟩
  go_enter Try.func75, Try.ntmps75
  go_wp2
  rw [← hW0.out]
  go_loopw [6] (fun iv wr => VsR W0 a b c d iv wr) (fun iv _ => 4 - (intOf iv).toNat)
  case atStart => exact Or.inl ⟨rfl, Below.refl _ _⟩
  case round =>
    unfold VsR at hrel
    rcases hrel with ⟨rfl, hb⟩ | ⟨rfl, hz, hb⟩ | ⟨rfl, hz, hb⟩ | ⟨rfl, hz, hb⟩ | ⟨rfl, hz, hb⟩
    · have HB := Lib.hid hb
      clear hb
      have bad : ¬ inQ a → r = false := fun hn => by rw [← HR.out]; exact decide_eq_false (fun h => hn h.1.1)
      by_cases h1 : a < -1000
      · have HQ := Lib.hid (bad (fun h => by have := h.1; omega))
        clear bad
        go_wp2
        go_ret
        exact ⟨by rw [HQ.out]; rfl, hb0.trans (HB.out.mono hb0.size)⟩
      · by_cases h2 : 1000 < a
        · have HQ := Lib.hid (bad (fun h => by have := h.2; omega))
          clear bad
          go_wp2
          go_ret
          exact ⟨by rw [HQ.out]; rfl, hb0.trans (HB.out.mono hb0.size)⟩
        · have HX := Lib.hid (show inQ a from ⟨by omega, by omega⟩)
          clear bad
          go_wp2
          go_roundw
          case rel => exact Or.inr (Or.inl ⟨rfl, HX.out, HB.out⟩)
          case measure => simp [intOf]
    · have HZ := Lib.hid hz
      clear hz
      have HB := Lib.hid hb
      clear hb
      have bad : ¬ inQ b → r = false := fun hn => by rw [← HR.out]; exact decide_eq_false (fun h => hn h.1.2.1)
      by_cases h1 : b < -1000
      · have HQ := Lib.hid (bad (fun h => by have := h.1; omega))
        clear bad
        go_wp2
        go_ret
        exact ⟨by rw [HQ.out]; rfl, hb0.trans (HB.out.mono hb0.size)⟩
      · by_cases h2 : 1000 < b
        · have HQ := Lib.hid (bad (fun h => by have := h.2; omega))
          clear bad
          go_wp2
          go_ret
          exact ⟨by rw [HQ.out]; rfl, hb0.trans (HB.out.mono hb0.size)⟩
        · have HX := Lib.hid (show inQ b from ⟨by omega, by omega⟩)
          clear bad
          go_wp2
          go_roundw
          case rel => exact Or.inr (Or.inr (Or.inl ⟨rfl, ⟨HZ.out, HX.out⟩, HB.out⟩))
          case measure => simp [intOf]
    · have HZ := Lib.hid hz
      clear hz
      have HB := Lib.hid hb
      clear hb
      have bad : ¬ inQ c → r = false := fun hn => by rw [← HR.out]; exact decide_eq_false (fun h => hn h.1.2.2.1)
      by_cases h1 : c < -1000
      · have HQ := Lib.hid (bad (fun h => by have := h.1; omega))
        clear bad
        go_wp2
        go_ret
        exact ⟨by rw [HQ.out]; rfl, hb0.trans (HB.out.mono hb0.size)⟩
      · by_cases h2 : 1000 < c
        · have HQ := Lib.hid (bad (fun h => by have := h.2; omega))
          clear bad
          go_wp2
          go_ret
          exact ⟨by rw [HQ.out]; rfl, hb0.trans (HB.out.mono hb0.size)⟩
        · have HX := Lib.hid (show inQ c from ⟨by omega, by omega⟩)
          clear bad
          go_wp2
          go_roundw
          case rel => exact Or.inr (Or.inr (Or.inr (Or.inl ⟨rfl, ⟨HZ.out.1, HZ.out.2, HX.out⟩, HB.out⟩)))
          case measure => simp [intOf]
    · have HZ := Lib.hid hz
      clear hz
      have HB := Lib.hid hb
      clear hb
      have bad : ¬ inQ d → r = false := fun hn => by rw [← HR.out]; exact decide_eq_false (fun h => hn h.1.2.2.2)
      by_cases h1 : d < -1000
      · have HQ := Lib.hid (bad (fun h => by have := h.1; omega))
        clear bad
        go_wp2
        go_ret
        exact ⟨by rw [HQ.out]; rfl, hb0.trans (HB.out.mono hb0.size)⟩
      · by_cases h2 : 1000 < d
        · have HQ := Lib.hid (bad (fun h => by have := h.2; omega))
          clear bad
          go_wp2
          go_ret
          exact ⟨by rw [HQ.out]; rfl, hb0.trans (HB.out.mono hb0.size)⟩
        · have HX := Lib.hid (show inQ d from ⟨by omega, by omega⟩)
          clear bad
          go_wp2
          go_roundw
          case rel => exact Or.inr (Or.inr (Or.inr (Or.inr ⟨rfl, ⟨HZ.out.1, HZ.out.2.1, HZ.out.2.2, HX.out⟩, HB.out⟩)))
          case measure => simp [intOf]
    · have HZ := Lib.hid hz
      obtain ⟨c0, c1, c2, c3⟩ : wr.cell? ⟨w.heap.size, 0, none⟩ = some (.int .i64 a) ∧ wr.cell? ⟨w.heap.size, 1, none⟩ = some (.int .i64 b) ∧ wr.cell? ⟨w.heap.size, 2, none⟩ = some (.int .i64 c) ∧ wr.cell? ⟨w.heap.size, 3, none⟩ = some (.int .i64 d) := by
        have hlt : w.heap.size < W0.heap.size := (Array.getElem?_eq_some_iff.1 hG.out).1
        have h1 := (hb.block w.heap.size hlt).trans hG.out
        exact ⟨cell_of_row _ _ _ _ _ _ h1, cell_of_row _ _ _ _ _ _ h1, cell_of_row _ _ _ _ _ _ h1, cell_of_row _ _ _ _ _ _ h1⟩
      have HB := Lib.hid hb
      clear hz hb
      have hq : r = !decide (a = 0 ∧ b = 0 ∧ c = 0 ∧ d = 0) := by
        rw [← HR.out]
        by_cases h : a = 0 ∧ b = 0 ∧ c = 0 ∧ d = 0
        · rw [decide_eq_true h, decide_eq_false (fun h2 => h2.2 h)]; rfl
        · rw [decide_eq_false h, decide_eq_true ⟨HZ.out, h⟩]; rfl
      have HQ := Lib.hid hq
      clear hq
      obtain ⟨q, hq⟩ : ∃ q, decide (a = 0 ∧ b = 0 ∧ c = 0 ∧ d = 0) = q := ⟨_, rfl⟩
      rw [hq] at HQ
      have eqA := eqArr4 a b c d 0 0 0 0
      rw [hq] at eqA
      clear hq
      go_wp2
      go_ret
      exact ⟨by rw [HQ.out]; rfl, hb0.trans (HB.out.mono hb0.size)⟩
end Go.Proofs.Ytndgpgciccgapaa
