/-
  Points in boxes: the code's and the document's.
-/
import Derived.Test.YtdmopmgabieciaaKIns
namespace Go.Proofs.Ytdmopmgabieciaa
open Go.RowKit

theorem boxes1s (w : World) (ca : Array Value) (T : TypeId) : ∃ W0, Hid (W0 = w.alloc (.cells ca T)) ∧ Hid (Below w.heap.size w W0) ∧ Hid (W0.heap[w.heap.size]? = some (.cells ca T (0, 0))) ∧ W0.heap.size = w.heap.size + 1 :=
  ⟨_, rfl, (Below.refl _ _).alloc (Nat.le_refl _) _, heap_alloc_new _ _, by simp⟩
theorem in_one (lo hi x : Int) : InB lo hi [x] ↔ lo ≤ x ∧ x ≤ hi := by simp [InB]

theorem in_oneD (lo hi x : Int) : decide (InB lo hi [x]) = decide (lo ≤ x ∧ x ≤ hi) := decide_eq_decide.2 (in_one lo hi x)

set_option maxRecDepth 100000 in
set_option maxHeartbeats 400000 in
theorem holds_any (a0 a1 a2 a3 a4 a5 x y z : Int) (w : World) :
    Calls Try.prog 17 #[.agg #[.int .i64 a0, .int .i64 a1, .int .i64 a2, .int .i64 a3, .int .i64 a4, .int .i64 a5], .int .i64 x, .int .i64 y, .int .i64 z] w (RetB w (decide (inPt a0 a1 a2 a3 a4 a5 x y z))) := by
  obtain ⟨W0, HW0, HW, HG, hsz⟩ := boxes1s w #[.int .i64 a0, .int .i64 a1, .int .i64 a2, .int .i64 a3, .int .i64 a4, .int .i64 a5] 25
  have hI : ∀ T, IW (W0.alloc (.cells #[.int .i64 x] T)) (W0.alloc (.cells #[.int .i64 x] T)).heap.size (.slice (some ⟨w.heap.size + 1, 0, none⟩) 1 1) [x] := fun T => by
    have := iw_one W0 x T
    rwa [hsz] at this
  go_enter Try.func17, Try.ntmps17
  go_wp2_with fail
  rw [← HW0.out]
  refine (within_any a0 a1 [x] _ 1 1 _ _ (hI _)).mono ?_
  rintro e w1 ⟨rfl, hb1⟩
  rw [in_oneD a0 a1 x]
  have hc1 : Below W0.heap.size W0 w1 := below_past HW.out (Below.refl W0.heap.size W0) hb1
  have a2c := blk_cell HG.out hc1 2 (.int .i64 a2) rfl
  have a3c := blk_cell HG.out hc1 3 (.int .i64 a3) rfl
  have a4c := blk_cell HG.out hc1 4 (.int .i64 a4) rfl
  have a5c := blk_cell HG.out hc1 5 (.int .i64 a5) rfl
  by_cases h1 : a0 ≤ x ∧ x ≤ a1
  · rw [decide_eq_true h1]
    have H1 := Lib.hid h1
    clear h1
    go_wp2_with fail
    refine (within_any a2 a3 [y] _ 1 1 _ _ (iw_one _ _ _)).mono ?_
    rintro e w2 ⟨rfl, hb2⟩
    rw [in_oneD a2 a3 y]
    have hc2 : Below W0.heap.size W0 w2 := below_past HW.out hc1 hb2
    have a4d := blk_cell HG.out hc2 4 (.int .i64 a4) rfl
    have a5d := blk_cell HG.out hc2 5 (.int .i64 a5) rfl
    by_cases h2 : a2 ≤ y ∧ y ≤ a3
    · rw [decide_eq_true h2]
      have H2 := Lib.hid h2
      clear h2
      go_wp2_with fail
      refine (within_any a4 a5 [z] _ 1 1 _ _ (iw_one _ _ _)).mono ?_
      rintro e w3 ⟨rfl, hb3⟩
      rw [in_oneD a4 a5 z]
      have hc3 : Below W0.heap.size W0 w3 := below_past HW.out hc2 hb3
      have hk : (a4 ≤ z ∧ z ≤ a5) ↔ inPt a0 a1 a2 a3 a4 a5 x y z := ⟨fun h => ⟨H1.out, H2.out, h⟩, fun h => h.2.2⟩
      rw [decide_eq_decide.2 hk]
      go_wp2
      go_ret
      exact ⟨rfl, HW.out.trans (hc3.mono HW.out.size)⟩
    · rw [decide_eq_false h2]
      go_wp2
      go_ret
      exact ⟨by rw [decide_eq_false (show ¬ inPt a0 a1 a2 a3 a4 a5 x y z from fun h => h2 h.2.1)]; rfl, HW.out.trans (hc2.mono HW.out.size)⟩
  · rw [decide_eq_false h1]
    go_wp2
    go_ret
    exact ⟨by rw [decide_eq_false (show ¬ inPt a0 a1 a2 a3 a4 a5 x y z from fun h => h1 h.1)]; rfl, HW.out.trans (hc1.mono HW.out.size)⟩

set_option maxRecDepth 100000 in
set_option maxHeartbeats 400000 in
theorem refHolds_any (a0 a1 a2 a3 a4 a5 x y z : Int) (w : World) :
    Calls Try.prog 18 #[.agg #[.int .i64 a0, .int .i64 a1, .int .i64 a2, .int .i64 a3, .int .i64 a4, .int .i64 a5], .int .i64 x, .int .i64 y, .int .i64 z] w (RetB w (decide (inPt a0 a1 a2 a3 a4 a5 x y z))) := by
  obtain ⟨W0, HW0, HW, HG⟩ := boxes1 w #[.int .i64 a0, .int .i64 a1, .int .i64 a2, .int .i64 a3, .int .i64 a4, .int .i64 a5] 25
  go_enter Try.func18, Try.ntmps18
  go_wp2_with fail
  rw [← HW0.out]
  refine (from_any a0 x a1 _).mono ?_
  rintro e w1 ⟨rfl, hb1⟩
  skip
  have hc1 : Below W0.heap.size W0 w1 := hb1
  have a2c := blk_cell HG.out hc1 2 (.int .i64 a2) rfl
  have a3c := blk_cell HG.out hc1 3 (.int .i64 a3) rfl
  have a4c := blk_cell HG.out hc1 4 (.int .i64 a4) rfl
  have a5c := blk_cell HG.out hc1 5 (.int .i64 a5) rfl
  by_cases h1 : a0 ≤ x ∧ x ≤ a1
  · rw [decide_eq_true h1]
    have H1 := Lib.hid h1
    clear h1
    go_wp2_with fail
    refine (from_any a2 y a3 _).mono ?_
    rintro e w2 ⟨rfl, hb2⟩
    skip
    have hc2 : Below W0.heap.size W0 w2 := hc1.trans (hb2.mono hc1.size)
    have a4d := blk_cell HG.out hc2 4 (.int .i64 a4) rfl
    have a5d := blk_cell HG.out hc2 5 (.int .i64 a5) rfl
    by_cases h2 : a2 ≤ y ∧ y ≤ a3
    · rw [decide_eq_true h2]
      have H2 := Lib.hid h2
      clear h2
      go_wp2_with fail
      refine (from_any a4 z a5 _).mono ?_
      rintro e w3 ⟨rfl, hb3⟩
      skip
      have hc3 : Below W0.heap.size W0 w3 := hc2.trans (hb3.mono hc2.size)
      have hk : (a4 ≤ z ∧ z ≤ a5) ↔ inPt a0 a1 a2 a3 a4 a5 x y z := ⟨fun h => ⟨H1.out, H2.out, h⟩, fun h => h.2.2⟩
      rw [decide_eq_decide.2 hk]
      go_wp2
      go_ret
      exact ⟨rfl, HW.out.trans (hc3.mono HW.out.size)⟩
    · rw [decide_eq_false h2]
      go_wp2
      go_ret
      exact ⟨by rw [decide_eq_false (show ¬ inPt a0 a1 a2 a3 a4 a5 x y z from fun h => h2 h.2.1)]; rfl, HW.out.trans (hc2.mono HW.out.size)⟩
  · rw [decide_eq_false h1]
    go_wp2
    go_ret
    exact ⟨by rw [decide_eq_false (show ¬ inPt a0 a1 a2 a3 a4 a5 x y z from fun h => h1 h.1)]; rfl, HW.out.trans (hc1.mono HW.out.size)⟩

end Go.Proofs.Ytdmopmgabieciaa
