/-
  Over: a span divided by a number.
-/
import Derived.Test.YtogklhbodaghdaaFloorOver
import Derived.StillTailTactics
namespace Go.Proofs.Ytogklhbodaghdaa
open Go.RowKit

theorem stillc {f : FuncId} {args : Array Value} {w : World} {v : Value} (h : ∀ w, Calls Try.prog f args w fun e w' => e = .returned v ∧ w = w') : Calls Try.prog f args w (fun e w'' => e = .returned v ∧ w'' = w) :=
  (h w).mono fun _ _ ⟨a, b⟩ => ⟨a, b.symm⟩

set_option maxRecDepth 100000 in
set_option maxHeartbeats 150000 in
theorem over_ok (al ah n : Int) (ha : okS al ah) (hn : 1 ≤ n) (hn2 : n ≤ 9223372036854775807) (w : World) :
    Calls Try.prog 12 #[.agg #[.int .i64 al, .int .i64 ah], .int .i64 n] w (RetSE w (al / n) (-(-ah / n)) 0) := by
  obtain ⟨W0, HW0, hw0, HG⟩ := S0x2 w al ah
  have HO := Lib.hid ha
  have F1 := floorOver_any al n (by have := HO.out.1; omega) (by have := HO.out.2; omega) hn hn2
  have F2 := floorOver_any (-ah) n (by have := HO.out.2; omega) (by have := HO.out; unfold okS at this; omega) hn hn2
  have B2 : -1152921504606846976 ≤ -ah / n ∧ -ah / n ≤ 1152921504606846976 := by
    have := HO.out
    unfold okS at this
    constructor
    · rw [Int.le_ediv_iff_mul_le (by omega)]; omega
    · have : -ah / n < 1152921504606846977 := by rw [Int.ediv_lt_iff_lt_mul (by omega)]; omega
      omega
  obtain ⟨B21, B22⟩ := B2
  obtain ⟨a1, a2, a3⟩ := ha
  generalize al / n = ql at *
  generalize -ah / n = qh at *
  have HF := Lib.hid (And.intro F1 F2)
  have WN1 : IntKind.i64.wrap (-ah) = -ah := by rw [IntKind.wrap_i64]; omega
  have WN2 : IntKind.i64.wrap (-qh) = -qh := by rw [IntKind.wrap_i64]; omega
  clear F1 F2
  go_enter Try.func12, Try.ntmps12
  go_wp2_with fail
  rw [← HW0.out]
  refine (valid_yes al ah HO.out _).mono ?_
  rintro e w1 ⟨rfl, hb1⟩
  obtain ⟨k0, k1⟩ := xy_cells HG.out.1 hb1
  obtain ⟨m0, m1⟩ := xy_cells HG.out.2 hb1
  have mf := xy_frozen HG.out.2 hb1
  have HM := Lib.hid (And.intro m0 (And.intro m1 mf))
  have HB := Lib.hid (And.intro hb1 hw0)
  clear m0 m1 mf hb1 hw0
  go_wp2_with fail
  go_still_tail 11, (by kernel_rfl)
  still_call (stillc HF.out.1)
  repeat still_step
  still_call (stillc HF.out.2)
  repeat still_step
  refine wpStill_nil ?_
  obtain ⟨m0, m1, mf⟩ := HM.out
  change wpList _ _ _ _ _ w1.drew
  go_wp2
  obtain ⟨hb1, hw0⟩ := HB.out
  have hB := Below.setCell (p := ⟨w.heap.size + 1, 1, none⟩) (Below.setCell (p := ⟨w.heap.size + 1, 0, none⟩) (hw0.trans (hb1.mono hw0.size)) (by show w.heap.size ≤ w.heap.size + 1; omega) (.int .i64 ql)) (by show w.heap.size ≤ w.heap.size + 1; omega) (.int .i64 (-qh))
  refine bodyPost_ret (v := .tuple #[.agg #[.int .i64 ql, .int .i64 (-qh)], .int .i64 0]) (by simp [results, Try.results12, go_sem, m0, m1]) rfl ⟨rfl, ?_⟩
  exact below_drewN hB _
end Go.Proofs.Ytogklhbodaghdaa
