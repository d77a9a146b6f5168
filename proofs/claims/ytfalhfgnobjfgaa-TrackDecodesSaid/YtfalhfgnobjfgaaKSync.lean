/-
  Which syncs are valid: the code's and the document's.
-/
import Derived.Test.YtfalhfgnobjfgaaKFix
namespace Go.Proofs.Ytfalhfgnobjfgaa
open Go.RowKit


set_option maxRecDepth 100000 in
set_option maxHeartbeats 800000 in
theorem validSync_any (s n e : Int) (w : World) :
    Calls Try.prog 27 #[.agg #[.int .i64 s, .int .i64 n, .int .i64 e]] w (RetB w (decide (okSync s n e))) := by
  obtain ⟨W0, HW0, HW, HG, hsz⟩ := boxes1s w #[.int .i64 s, .int .i64 n, .int .i64 e] 27
  have HZ := Lib.hid hsz
  clear hsz
  obtain ⟨r, hr⟩ : ∃ r, decide (okSync s n e) = r := ⟨_, rfl⟩
  have HR := Lib.hid hr
  rw [hr]
  clear hr
  go_enter Try.func27, Try.ntmps27
  go_wp2_with fail
  rw [← HW0.out]
  refine (within_any 0 1125899906842624 [s, n] _ 2 2 _ _ (iw_two1 HZ.out _ _ _)).mono ?_
  rintro en w1 ⟨rfl, hb1⟩
  rw [in_twoD]
  have HC1 := Lib.hid (bel_ (Below.refl W0.heap.size W0) (below_al hb1))
  clear hb1
  by_cases h1 : (0 ≤ s ∧ s ≤ 1125899906842624) ∧ (0 ≤ n ∧ n ≤ 1125899906842624)
  case neg =>
    rw [decide_eq_false h1]
    have h0 : Hid (r = false) := by rw [← HR.out]; exact decide_eq_false (fun h => h1 ⟨h.1, h.2.1⟩)
    clear h1
    go_wp2
    go_ret
    exact ⟨by rw [h0.out]; rfl, bel_ HW.out HC1.out⟩
  rw [decide_eq_true h1]
  have H1 := Lib.hid h1
  clear h1
  have k2 := blk_cell HG.out HC1.out 2 (.int .i64 e) rfl
  go_wp2_with fail
  refine (within_any 0 100000 [e] _ 1 1 _ _ (iw_one _ _ _)).mono ?_
  rintro en w2 ⟨rfl, hb2⟩
  rw [in_oneD]
  have HC2 := Lib.hid (bel_ HC1.out (below_al hb2))
  clear k2 hb2
  by_cases h2 : 0 ≤ e ∧ e ≤ 100000
  case neg =>
    rw [decide_eq_false h2]
    have h0 : Hid (r = false) := by rw [← HR.out]; exact decide_eq_false (fun h => h2 (h.2.2))
    clear h2
    go_wp2
    go_ret
    exact ⟨by rw [h0.out]; rfl, bel_ HW.out HC2.out⟩
  rw [decide_eq_true h2]
  have H2 := Lib.hid h2
  clear h2
  have h0 : Hid (r = true) := by rw [← HR.out]; exact decide_eq_true (⟨H1.out.1, H1.out.2, H2.out⟩)
  go_wp2
  go_ret
  exact ⟨by rw [h0.out]; rfl, bel_ HW.out HC2.out⟩

set_option maxRecDepth 100000 in
set_option maxHeartbeats 800000 in
theorem refValidSync_any (s n e : Int) (w : World) :
    Calls Try.prog 16 #[.agg #[.int .i64 s, .int .i64 n, .int .i64 e]] w (RetB w (decide (okSync s n e))) := by
  obtain ⟨W0, HW0, HW, HG, hsz⟩ := boxes1s w #[.int .i64 s, .int .i64 n, .int .i64 e] 27
  have HZ := Lib.hid hsz
  clear hsz
  obtain ⟨r, hr⟩ : ∃ r, decide (okSync s n e) = r := ⟨_, rfl⟩
  have HR := Lib.hid hr
  rw [hr]
  clear hr
  go_enter Try.func16, Try.ntmps16
  go_wp2_with fail
  rw [← HW0.out]
  refine (from_any 0 s 1125899906842624 _).mono ?_
  rintro en w1 ⟨rfl, hb1⟩
  have HC1 := Lib.hid (bel_ (Below.refl W0.heap.size W0) hb1)
  clear hb1
  by_cases h1 : 0 ≤ s ∧ s ≤ 1125899906842624
  case neg =>
    rw [decide_eq_false h1]
    have h0 : Hid (r = false) := by rw [← HR.out]; exact decide_eq_false (fun h => h1 (h.1))
    clear h1
    go_wp2
    go_ret
    exact ⟨by rw [h0.out]; rfl, bel_ HW.out HC1.out⟩
  rw [decide_eq_true h1]
  have H1 := Lib.hid h1
  clear h1
  have k1 := blk_cell HG.out HC1.out 1 (.int .i64 n) rfl
  go_wp2_with fail
  refine (from_any 0 n 1125899906842624 _).mono ?_
  rintro en w2 ⟨rfl, hb2⟩
  have HC2 := Lib.hid (bel_ HC1.out hb2)
  clear k1 hb2
  by_cases h2 : 0 ≤ n ∧ n ≤ 1125899906842624
  case neg =>
    rw [decide_eq_false h2]
    have h0 : Hid (r = false) := by rw [← HR.out]; exact decide_eq_false (fun h => h2 (h.2.1))
    clear h2
    go_wp2
    go_ret
    exact ⟨by rw [h0.out]; rfl, bel_ HW.out HC2.out⟩
  rw [decide_eq_true h2]
  have H2 := Lib.hid h2
  clear h2
  have k2 := blk_cell HG.out HC2.out 2 (.int .i64 e) rfl
  go_wp2_with fail
  refine (from_any 0 e 100000 _).mono ?_
  rintro en w3 ⟨rfl, hb3⟩
  have HC3 := Lib.hid (bel_ HC2.out hb3)
  clear k2 hb3
  by_cases h3 : 0 ≤ e ∧ e ≤ 100000
  case neg =>
    rw [decide_eq_false h3]
    have h0 : Hid (r = false) := by rw [← HR.out]; exact decide_eq_false (fun h => h3 (h.2.2))
    clear h3
    go_wp2
    go_ret
    exact ⟨by rw [h0.out]; rfl, bel_ HW.out HC3.out⟩
  rw [decide_eq_true h3]
  have H3 := Lib.hid h3
  clear h3
  have h0 : Hid (r = true) := by rw [← HR.out]; exact decide_eq_true (⟨H1.out, H2.out, H3.out⟩)
  go_wp2
  go_ret
  exact ⟨by rw [h0.out]; rfl, bel_ HW.out HC3.out⟩
end Go.Proofs.Ytfalhfgnobjfgaa
