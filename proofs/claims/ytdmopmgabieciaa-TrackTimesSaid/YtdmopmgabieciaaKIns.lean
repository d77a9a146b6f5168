/-
  Boxes inside of others, points in boxes: the code's and the document's.
-/
import Derived.Test.YtdmopmgabieciaaKBase
namespace Go.Proofs.Ytdmopmgabieciaa
open Go.RowKit

def cI (L : List Int) : Array Value := (L.map (Value.int .i64)).toArray

theorem boxes2 (w : World) (ca cb : Array Value) (T T' : TypeId) : ∃ W0, Hid (W0 = (w.alloc (.cells ca T)).alloc (.cells cb T')) ∧ Hid (Below w.heap.size w W0) ∧
    Hid (W0.heap[w.heap.size]? = some (.cells ca T (0, 0))) ∧ Hid (W0.heap[w.heap.size + 1]? = some (.cells cb T' (0, 0))) :=
  ⟨_, rfl, ((Below.refl _ _).alloc (Nat.le_refl _) _).alloc (by simp) _, heap_alloc2_old _ _ _, heap_alloc2_new _ _ _⟩
theorem boxes1 (w : World) (ca : Array Value) (T : TypeId) : ∃ W0, Hid (W0 = w.alloc (.cells ca T)) ∧ Hid (Below w.heap.size w W0) ∧ Hid (W0.heap[w.heap.size]? = some (.cells ca T (0, 0))) :=
  ⟨_, rfl, (Below.refl _ _).alloc (Nat.le_refl _) _, heap_alloc_new _ _⟩
theorem below_past {w W0 w1 w2 : World} {o : Obj} (h : Below w.heap.size w W0) (h1 : Below W0.heap.size W0 w1) (h2 : Below (w1.alloc o).heap.size (w1.alloc o) w2) : Below W0.heap.size W0 w2 :=
  h1.trans (((Below.refl _ w1).alloc (Nat.le_refl _) _).trans (h2.mono (by simp)) |>.mono h1.size)

def inBox (a0 a1 a2 a3 a4 a5 b0 b1 b2 b3 b4 b5 : Int) : Prop := inS a0 a1 b0 b1 ∧ inS a2 a3 b2 b3 ∧ inS a4 a5 b4 b5
instance (a0 a1 a2 a3 a4 a5 b0 b1 b2 b3 b4 b5 : Int) : Decidable (inBox a0 a1 a2 a3 a4 a5 b0 b1 b2 b3 b4 b5) := by unfold inBox; infer_instance
def inPt (a0 a1 a2 a3 a4 a5 x y z : Int) : Prop := (a0 ≤ x ∧ x ≤ a1) ∧ (a2 ≤ y ∧ y ≤ a3) ∧ (a4 ≤ z ∧ z ≤ a5)
instance (a0 a1 a2 a3 a4 a5 x y z : Int) : Decidable (inPt a0 a1 a2 a3 a4 a5 x y z) := by unfold inPt; infer_instance

set_option maxRecDepth 100000 in
set_option maxHeartbeats 2000000 in
theorem inside_any (a0 a1 a2 a3 a4 a5 b0 b1 b2 b3 b4 b5 : Int) (w : World) :
    Calls Try.prog 15 #[.agg #[.int .i64 a0, .int .i64 a1, .int .i64 a2, .int .i64 a3, .int .i64 a4, .int .i64 a5], .agg #[.int .i64 b0, .int .i64 b1, .int .i64 b2, .int .i64 b3, .int .i64 b4, .int .i64 b5]] w (RetB w (decide (inBox a0 a1 a2 a3 a4 a5 b0 b1 b2 b3 b4 b5))) := by
  obtain ⟨W0, HW0, HW, HG, HG'⟩ := boxes2 w #[.int .i64 a0, .int .i64 a1, .int .i64 a2, .int .i64 a3, .int .i64 a4, .int .i64 a5] #[.int .i64 b0, .int .i64 b1, .int .i64 b2, .int .i64 b3, .int .i64 b4, .int .i64 b5] 25 25
  go_enter Try.func15, Try.ntmps15
  go_wp2_with fail
  rw [← HW0.out]
  refine (isPart_any _ _ _ _ _).mono ?_
  rintro e w1 ⟨rfl, hb1⟩
  have a2c := blk_cell HG.out hb1 2 (.int .i64 a2) rfl
  have b2c := blk_cell HG'.out hb1 2 (.int .i64 b2) rfl
  have a3c := blk_cell HG.out hb1 3 (.int .i64 a3) rfl
  have b3c := blk_cell HG'.out hb1 3 (.int .i64 b3) rfl
  have a4c := blk_cell HG.out hb1 4 (.int .i64 a4) rfl
  have b4c := blk_cell HG'.out hb1 4 (.int .i64 b4) rfl
  have a5c := blk_cell HG.out hb1 5 (.int .i64 a5) rfl
  have b5c := blk_cell HG'.out hb1 5 (.int .i64 b5) rfl
  by_cases h1 : inS a0 a1 b0 b1
  · rw [decide_eq_true h1]
    have H1 := Lib.hid h1
    clear h1
    go_wp2_with fail
    refine (isPart_any _ _ _ _ _).mono ?_
    rintro e w2 ⟨rfl, hb2⟩
    have hc2 : Below W0.heap.size W0 w2 := hb1.trans (hb2.mono hb1.size)
    have a4d := blk_cell HG.out hc2 4 (.int .i64 a4) rfl
    have b4d := blk_cell HG'.out hc2 4 (.int .i64 b4) rfl
    have a5d := blk_cell HG.out hc2 5 (.int .i64 a5) rfl
    have b5d := blk_cell HG'.out hc2 5 (.int .i64 b5) rfl
    by_cases h2 : inS a2 a3 b2 b3
    · rw [decide_eq_true h2]
      have H2 := Lib.hid h2
      clear h2
      go_wp2_with fail
      refine (isPart_any _ _ _ _ _).mono ?_
      rintro e w3 ⟨rfl, hb3⟩
      have hc3 : Below W0.heap.size W0 w3 := hc2.trans (hb3.mono hc2.size)
      have hk : inS a4 a5 b4 b5 ↔ inBox a0 a1 a2 a3 a4 a5 b0 b1 b2 b3 b4 b5 := ⟨fun h => ⟨H1.out, H2.out, h⟩, fun h => h.2.2⟩
      rw [decide_eq_decide.2 hk]
      go_wp2
      go_ret
      exact ⟨rfl, HW.out.trans (hc3.mono HW.out.size)⟩
    · rw [decide_eq_false h2]
      go_wp2
      go_ret
      exact ⟨by rw [decide_eq_false (show ¬ inBox a0 a1 a2 a3 a4 a5 b0 b1 b2 b3 b4 b5 from fun h => h2 h.2.1)]; rfl, HW.out.trans (hc2.mono HW.out.size)⟩
  · rw [decide_eq_false h1]
    go_wp2
    go_ret
    exact ⟨by rw [decide_eq_false (show ¬ inBox a0 a1 a2 a3 a4 a5 b0 b1 b2 b3 b4 b5 from fun h => h1 h.1)]; rfl, HW.out.trans (hb1.mono HW.out.size)⟩

set_option maxRecDepth 100000 in
set_option maxHeartbeats 2000000 in
theorem refInsideB_any (a0 a1 a2 a3 a4 a5 b0 b1 b2 b3 b4 b5 : Int) (w : World) :
    Calls Try.prog 16 #[.agg #[.int .i64 a0, .int .i64 a1, .int .i64 a2, .int .i64 a3, .int .i64 a4, .int .i64 a5], .agg #[.int .i64 b0, .int .i64 b1, .int .i64 b2, .int .i64 b3, .int .i64 b4, .int .i64 b5]] w (RetB w (decide (inBox a0 a1 a2 a3 a4 a5 b0 b1 b2 b3 b4 b5))) := by
  obtain ⟨W0, HW0, HW, HG, HG'⟩ := boxes2 w #[.int .i64 a0, .int .i64 a1, .int .i64 a2, .int .i64 a3, .int .i64 a4, .int .i64 a5] #[.int .i64 b0, .int .i64 b1, .int .i64 b2, .int .i64 b3, .int .i64 b4, .int .i64 b5] 25 25
  go_enter Try.func16, Try.ntmps16
  go_wp2_with fail
  rw [← HW0.out]
  refine (refInside_any _ _ _ _ _).mono ?_
  rintro e w1 ⟨rfl, hb1⟩
  have a2c := blk_cell HG.out hb1 2 (.int .i64 a2) rfl
  have b2c := blk_cell HG'.out hb1 2 (.int .i64 b2) rfl
  have a3c := blk_cell HG.out hb1 3 (.int .i64 a3) rfl
  have b3c := blk_cell HG'.out hb1 3 (.int .i64 b3) rfl
  have a4c := blk_cell HG.out hb1 4 (.int .i64 a4) rfl
  have b4c := blk_cell HG'.out hb1 4 (.int .i64 b4) rfl
  have a5c := blk_cell HG.out hb1 5 (.int .i64 a5) rfl
  have b5c := blk_cell HG'.out hb1 5 (.int .i64 b5) rfl
  by_cases h1 : inS a0 a1 b0 b1
  · rw [decide_eq_true h1]
    have H1 := Lib.hid h1
    clear h1
    go_wp2_with fail
    refine (refInside_any _ _ _ _ _).mono ?_
    rintro e w2 ⟨rfl, hb2⟩
    have hc2 : Below W0.heap.size W0 w2 := hb1.trans (hb2.mono hb1.size)
    have a4d := blk_cell HG.out hc2 4 (.int .i64 a4) rfl
    have b4d := blk_cell HG'.out hc2 4 (.int .i64 b4) rfl
    have a5d := blk_cell HG.out hc2 5 (.int .i64 a5) rfl
    have b5d := blk_cell HG'.out hc2 5 (.int .i64 b5) rfl
    by_cases h2 : inS a2 a3 b2 b3
    · rw [decide_eq_true h2]
      have H2 := Lib.hid h2
      clear h2
      go_wp2_with fail
      refine (refInside_any _ _ _ _ _).mono ?_
      rintro e w3 ⟨rfl, hb3⟩
      have hc3 : Below W0.heap.size W0 w3 := hc2.trans (hb3.mono hc2.size)
      have hk : inS a4 a5 b4 b5 ↔ inBox a0 a1 a2 a3 a4 a5 b0 b1 b2 b3 b4 b5 := ⟨fun h => ⟨H1.out, H2.out, h⟩, fun h => h.2.2⟩
      rw [decide_eq_decide.2 hk]
      go_wp2
      go_ret
      exact ⟨rfl, HW.out.trans (hc3.mono HW.out.size)⟩
    · rw [decide_eq_false h2]
      go_wp2
      go_ret
      exact ⟨by rw [decide_eq_false (show ¬ inBox a0 a1 a2 a3 a4 a5 b0 b1 b2 b3 b4 b5 from fun h => h2 h.2.1)]; rfl, HW.out.trans (hc2.mono HW.out.size)⟩
  · rw [decide_eq_false h1]
    go_wp2
    go_ret
    exact ⟨by rw [decide_eq_false (show ¬ inBox a0 a1 a2 a3 a4 a5 b0 b1 b2 b3 b4 b5 from fun h => h1 h.1)]; rfl, HW.out.trans (hb1.mono HW.out.size)⟩

end Go.Proofs.Ytdmopmgabieciaa
