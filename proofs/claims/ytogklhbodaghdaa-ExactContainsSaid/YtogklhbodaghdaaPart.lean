/-
  part: a span within a span, of two numbers.
-/
import Derived.Test.YtogklhbodaghdaaSpanDefs
import Derived.Test.YtogklhbodaghdaaOver
namespace Go.Proofs.Ytogklhbodaghdaa
open Go.RowKit

def RetSp (w : World) (lo hi : Int) (e : Ending) (w' : World) : Prop := e = .returned (.agg #[.int .i64 lo, .int .i64 hi]) ∧ Below w.heap.size w w'

theorem tmod_in (m n : Int) (hm : 0 ≤ m) (hn : 1 ≤ n) : 0 ≤ Int.tmod m n ∧ Int.tmod m n < n :=
  ⟨Int.tmod_nonneg _ hm, Int.tmod_lt_of_pos _ (by omega)⟩

set_option maxRecDepth 100000 in
set_option maxHeartbeats 400000 in
theorem part_any (al ah i j : Int) (ha : okS al ah) (i0 : 0 ≤ i) (i1 : i ≤ 4294967295) (j0 : 0 ≤ j) (j1 : j ≤ 4294967295) :
    ∃ lo hi, al ≤ lo ∧ lo ≤ hi ∧ hi ≤ ah ∧ ∀ w : World, Calls Try.prog 7 #[.agg #[.int .i64 al, .int .i64 ah], .int .u32 i, .int .u32 j] w (RetSp w lo hi) := by
  obtain ⟨a1, a2, a3⟩ := ha
  have X := tmod_in (i * 37) (ah - al + 1) (by omega) (by omega)
  have Y := tmod_in (j * 41) (ah - al + 1) (by omega) (by omega)
  obtain ⟨x, hx⟩ : ∃ x, (i * 37).tmod (ah - al + 1) = x := ⟨_, rfl⟩
  obtain ⟨y, hy⟩ : ∃ y, (j * 41).tmod (ah - al + 1) = y := ⟨_, rfl⟩
  rw [hx] at X
  rw [hy] at Y
  obtain ⟨x1, x2⟩ := X
  obtain ⟨y1, y2⟩ := Y
  have hn : ah - al + 1 ≠ 0 := by omega
  have hn' : ¬ ah - al + 1 = -1 := by omega
  have W1 : IntKind.i64.wrap (i * 37) = i * 37 := by rw [IntKind.wrap_i64]; omega
  have W2 : IntKind.i64.wrap (j * 41) = j * 41 := by rw [IntKind.wrap_i64]; omega
  have W3 : IntKind.i64.wrap i = i := by rw [IntKind.wrap_i64]; omega
  have W4 : IntKind.i64.wrap j = j := by rw [IntKind.wrap_i64]; omega
  have W5 : IntKind.i64.wrap (al + x) = al + x := by rw [IntKind.wrap_i64]; omega
  have W6 : IntKind.i64.wrap (al + y) = al + y := by rw [IntKind.wrap_i64]; omega
  have W7 : IntKind.i64.wrap x = x := by rw [IntKind.wrap_i64]; omega
  have W8 : IntKind.i64.wrap y = y := by rw [IntKind.wrap_i64]; omega
  by_cases h : al + y < al + x
  · refine ⟨al + y, al + x, by omega, by omega, by omega, ?_⟩
    intro w
    obtain ⟨W0, HW0, hw0, HG⟩ := S0x2 w al ah
    have h' : ¬ al + x < al + y := by omega
    go_enter Try.func7, Try.ntmps7
    go_wp2_with fail
    rw [← HW0.out]
    obtain ⟨k0, k1⟩ := xy_cells HG.out.1 (Below.refl _ _)
    go_wp2_with fail
    refine wp_region_still_lit (by kernel_rfl) (by kernel_rfl) ?_
    repeat still_step
    refine wpStill_nil ?_
    change Exit.then _ _ _ _ W0.drew
    have hd : Below W0.heap.size W0 W0.drew := below_drewN (Below.refl _ _) _
    clear k0 k1
    obtain ⟨m0, m1⟩ := xy_cells HG.out.2 hd
    have mf := xy_frozen HG.out.2 hd
    have hbd := hw0.trans (hd.mono hw0.size)
    clear W1 W2 W3 W4 W7 W8 hx hy hw0 hd
    generalize W0.drew = w2 at *
    clear HG HW0
    have HBD := Lib.hid hbd
    clear hbd
    go_wp2
    have hB := Below.setCell (p := ⟨w.heap.size + 1, 1, none⟩) (Below.setCell (p := ⟨w.heap.size + 1, 0, none⟩) HBD.out (by show w.heap.size ≤ w.heap.size + 1; omega) (.int .i64 (al + y))) (by show w.heap.size ≤ w.heap.size + 1; omega) (.int .i64 (al + x))
    refine bodyPost_ret (v := .agg #[.int .i64 (al + y), .int .i64 (al + x)]) (by simp [results, Try.results7, go_sem, m0, m1]) rfl ⟨rfl, ?_⟩
    exact hB
  · rcases (show al + x < al + y ∨ x = y by omega) with h2 | rfl
    · refine ⟨al + x, al + y, by omega, by omega, by omega, ?_⟩
      intro w
      obtain ⟨W0, HW0, hw0, HG⟩ := S0x2 w al ah
      go_enter Try.func7, Try.ntmps7
      go_wp2_with fail
      rw [← HW0.out]
      obtain ⟨k0, k1⟩ := xy_cells HG.out.1 (Below.refl _ _)
      go_wp2_with fail
      refine wp_region_still_lit (by kernel_rfl) (by kernel_rfl) ?_
      repeat still_step
      refine wpStill_nil ?_
      change Exit.then _ _ _ _ W0.drew
      have hd : Below W0.heap.size W0 W0.drew := below_drewN (Below.refl _ _) _
      clear k0 k1
      obtain ⟨m0, m1⟩ := xy_cells HG.out.2 hd
      have mf := xy_frozen HG.out.2 hd
      have hbd := hw0.trans (hd.mono hw0.size)
      clear W1 W2 W3 W4 W7 W8 hx hy hw0 hd
      generalize W0.drew = w2 at *
      clear HG HW0
      have HBD := Lib.hid hbd
      clear hbd
      go_wp2
      have hB := Below.setCell (p := ⟨w.heap.size + 1, 1, none⟩) (Below.setCell (p := ⟨w.heap.size + 1, 0, none⟩) HBD.out (by show w.heap.size ≤ w.heap.size + 1; omega) (.int .i64 (al + x))) (by show w.heap.size ≤ w.heap.size + 1; omega) (.int .i64 (al + y))
      refine bodyPost_ret (v := .agg #[.int .i64 (al + x), .int .i64 (al + y)]) (by simp [results, Try.results7, go_sem, m0, m1]) rfl ⟨rfl, ?_⟩
      exact hB
    · refine ⟨al + x, al + x, by omega, by omega, by omega, ?_⟩
      intro w
      obtain ⟨W0, HW0, hw0, HG⟩ := S0x2 w al ah
      go_enter Try.func7, Try.ntmps7
      go_wp2_with fail
      rw [← HW0.out]
      obtain ⟨k0, k1⟩ := xy_cells HG.out.1 (Below.refl _ _)
      go_wp2_with fail
      refine wp_region_still_lit (by kernel_rfl) (by kernel_rfl) ?_
      repeat still_step
      refine wpStill_nil ?_
      change Exit.then _ _ _ _ W0.drew
      have hd : Below W0.heap.size W0 W0.drew := below_drewN (Below.refl _ _) _
      clear k0 k1
      obtain ⟨m0, m1⟩ := xy_cells HG.out.2 hd
      have mf := xy_frozen HG.out.2 hd
      have hbd := hw0.trans (hd.mono hw0.size)
      clear W1 W2 W3 W4 W7 W8 hx hy hw0 hd
      generalize W0.drew = w2 at *
      clear HG HW0
      have HBD := Lib.hid hbd
      clear hbd
      go_wp2
      have hB := Below.setCell (p := ⟨w.heap.size + 1, 1, none⟩) (Below.setCell (p := ⟨w.heap.size + 1, 0, none⟩) HBD.out (by show w.heap.size ≤ w.heap.size + 1; omega) (.int .i64 (al + x))) (by show w.heap.size ≤ w.heap.size + 1; omega) (.int .i64 (al + x))
      refine bodyPost_ret (v := .agg #[.int .i64 (al + x), .int .i64 (al + x)]) (by simp [results, Try.results7, go_sem, m0, m1]) rfl ⟨rfl, ?_⟩
      exact hB
end Go.Proofs.Ytogklhbodaghdaa
