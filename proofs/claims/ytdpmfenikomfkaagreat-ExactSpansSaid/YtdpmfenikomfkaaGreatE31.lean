/-
  For any two spans the law ExactSpans returns true and leaves its arguments as they were: no condition.
-/
import Derived.Test.YtdpmfenikomfkaaGreatE01
import Derived.Test.YtdpmfenikomfkaaGreatE30
import Derived.Test.YtdpmfenikomfkaaGreatE24
namespace Go.Proofs.YtdpmfenikomfkaaGreat.exactSpans
open Go.Proofs.YtdpmfenikomfkaaGreat
open Go.ChangeShapes Go.WideShapes Go.ChangeAt Go.RowKit Go.Joins
set_option linter.unusedVariables false

/-- A block of two numbers. -/
def VX (w : World) (g : Nat) (lo hi : Int) : Prop := w.heap[g]? = some (.cells #[.int .i64 lo, .int .i64 hi] 23 (0, 0))
section
variable {w w' : World} {g g' : Nat} {lo hi a b : Int}
theorem VX.c0 (h : VX w g lo hi) : w.cell? ⟨g, 0, none⟩ = some (.int .i64 lo) := cell_of_row _ _ _ _ _ _ h
theorem VX.c1 (h : VX w g lo hi) : w.cell? ⟨g, 1, none⟩ = some (.int .i64 hi) := cell_of_row _ _ _ _ _ _ h
theorem VX.fz (h : VX w g lo hi) (i : Nat) : w.frozen? ⟨g, i, none⟩ = false := frozen_of_row _ _ _ _ _ h
theorem VX.lt (h : VX w g lo hi) : g < w.heap.size := (Array.getElem?_eq_some_iff.1 h).1
theorem VX.call (h : VX w g lo hi) (hb : Below w.heap.size w w') : VX w' g lo hi := (hb.block _ h.lt).trans h
theorem VX.alloc (h : VX w g lo hi) (o : Obj) : VX (w.alloc o) g lo hi := h.call ((Below.refl _ w).alloc (Nat.le_refl _) o)
theorem VX.new (w : World) (lo hi : Int) : VX (w.alloc (.cells #[.int .i64 lo, .int .i64 hi] 23)) w.heap.size lo hi := heap_alloc_new w _
theorem VX.other2 {u v : Value} (h : VX w g lo hi) (hn : g ≠ g') : VX ((w.setCell ⟨g', 0, none⟩ u).setCell ⟨g', 1, none⟩ v) g lo hi :=
  (heap_setCell_other _ ⟨g', 1, none⟩ g v hn).trans ((heap_setCell_other w ⟨g', 0, none⟩ g u hn).trans h)
theorem VX.store (h : VX w g a b) (lo hi : Int) : VX ((w.setCell ⟨g, 0, none⟩ (.int .i64 lo)).setCell ⟨g, 1, none⟩ (.int .i64 hi)) g lo hi := by
  have h1 := heap_setCell_same w g 0 _ _ (.int .i64 lo) h
  exact heap_setCell_same _ g 1 _ _ (.int .i64 hi) h1
end
theorem sbel {w X w1 : World} {n : Nat} (h0 : Below n w X) (hn : n ≤ X.heap.size) (h : Below X.heap.size X w1) : Below n w w1 := h0.trans (h.mono hn)

set_option maxRecDepth 100000 in
set_option maxHeartbeats 8000000 in
theorem walk (al ah bl bh : Int) (w : World) :
    Calls Tryz.prog 3 #[.agg #[.int .i64 al, .int .i64 ah], .agg #[.int .i64 bl, .int .i64 bh]] w (RetB w true) := by
  obtain ⟨W0, HW0, hw0, HG⟩ := S0ex2 w al ah bl bh
  obtain ⟨p0, p1, pc, h1, h2⟩ := alike_plus al ah bl bh
  obtain ⟨m0, m1, mc, h3, h4⟩ := alike_minus al ah bl bh
  obtain ⟨t0, t1, tc, h5, h6⟩ := alike_times al ah bl bh
  obtain ⟨q0, q1, qc, h7, h8⟩ := alike_hull al ah bl bh
  obtain ⟨r0, r1, rb, rc, h9, h10⟩ := alike_meet al ah bl bh
  obtain ⟨d0, dc, h11, h12⟩ := alike_gap al ah bl bh
  have C1 := Lib.hid h1
  have C2 := Lib.hid h2
  have C3 := Lib.hid h3
  have C4 := Lib.hid h4
  have C5 := Lib.hid h5
  have C6 := Lib.hid h6
  have C7 := Lib.hid h7
  have C8 := Lib.hid h8
  have C9 := Lib.hid h9
  have C10 := Lib.hid h10
  have C11 := Lib.hid h11
  have C12 := Lib.hid h12
  have CV := Lib.hid (fun w => valid_any al ah w)
  have CR := Lib.hid (fun w => refValid_any al ah w)
  have HB0 := Lib.hid hw0
  have HA0 := Lib.hid (show VX W0 w.heap.size al ah from HG.out.1)
  have HBB0 := Lib.hid (show VX W0 (w.heap.size + 1) bl bh from HG.out.2)
  clear h1 h2 h3 h4 h5 h6 h7 h8 h9 h10 h11 h12 hw0
  have a0 := HA0.out.c0
  have a1 := HA0.out.c1
  have b0 := HBB0.out.c0
  have b1 := HBB0.out.c1
  go_enter Tryz.func3, Tryz.ntmps3
  go_wp2_with fail
  rw [← HW0.out]
  refine (C1.out _).mono ?_
  rintro e w1 ⟨rfl, hb1⟩
  have HAw := Lib.hid (HA0.out.call hb1)
  have HBBw := Lib.hid (HBB0.out.call hb1)
  have HWB := Lib.hid (sbel HB0.out HB0.out.size hb1)
  obtain ⟨X1, hX1⟩ : ∃ x, x = w1.alloc (.cells #[.int .i64 p0, .int .i64 p1] 23) := ⟨_, rfl⟩
  have HA1 := Lib.hid (show VX X1 w.heap.size al ah by rw [hX1]; exact HAw.out.alloc _)
  have NA1 := Lib.hid (show w.heap.size ≠ w1.heap.size from Nat.ne_of_lt HAw.out.lt)
  have HBB1 := Lib.hid (show VX X1 (w.heap.size + 1) bl bh by rw [hX1]; exact HBBw.out.alloc _)
  have NBB1 := Lib.hid (show (w.heap.size + 1) ≠ w1.heap.size from Nat.ne_of_lt HBBw.out.lt)
  have HG11 := Lib.hid (show VX X1 w1.heap.size p0 p1 by rw [hX1]; exact VX.new _ _ _)
  have HB1 := Lib.hid (show Below w.heap.size w X1 by rw [hX1]; exact HWB.out.alloc HWB.out.size _)
  have HX1 := Lib.hid hX1
  have HL1 := Lib.hid HWB.out.size
  clear a0 a1 b0 b1
  have a0 := fun o => (HAw.out.alloc o).c0
  have a1 := fun o => (HAw.out.alloc o).c1
  have b0 := fun o => (HBBw.out.alloc o).c0
  have b1 := fun o => (HBBw.out.alloc o).c1
  clear hb1 hX1 HWB HAw HA0 HBBw HBB0
  go_wp2_with fail
  rw [← HX1.out]
  refine (C2.out _).mono ?_
  rintro e w2 ⟨rfl, hb2⟩
  have HAw := Lib.hid (HA1.out.call hb2)
  have HBBw := Lib.hid (HBB1.out.call hb2)
  have HG1w := Lib.hid (HG11.out.call hb2)
  have HWB := Lib.hid (sbel HB1.out HB1.out.size hb2)
  obtain ⟨X2, hX2⟩ : ∃ x, x = w2.alloc (.cells #[.int .i64 p0, .int .i64 p1] 23) := ⟨_, rfl⟩
  have HA2 := Lib.hid (show VX X2 w.heap.size al ah by rw [hX2]; exact HAw.out.alloc _)
  have NA2 := Lib.hid (show w.heap.size ≠ w2.heap.size from Nat.ne_of_lt HAw.out.lt)
  have HBB2 := Lib.hid (show VX X2 (w.heap.size + 1) bl bh by rw [hX2]; exact HBBw.out.alloc _)
  have NBB2 := Lib.hid (show (w.heap.size + 1) ≠ w2.heap.size from Nat.ne_of_lt HBBw.out.lt)
  have HG12 := Lib.hid (show VX X2 w1.heap.size p0 p1 by rw [hX2]; exact HG1w.out.alloc _)
  have NG12 := Lib.hid (show w1.heap.size ≠ w2.heap.size from Nat.ne_of_lt HG1w.out.lt)
  have HG22 := Lib.hid (show VX X2 w2.heap.size p0 p1 by rw [hX2]; exact VX.new _ _ _)
  have HB2 := Lib.hid (show Below w.heap.size w X2 by rw [hX2]; exact HWB.out.alloc HWB.out.size _)
  have HX2 := Lib.hid hX2
  have HL2 := Lib.hid HWB.out.size
  clear a0 a1 b0 b1
  have a0 := fun o => (HAw.out.alloc o).c0
  have a1 := fun o => (HAw.out.alloc o).c1
  have b0 := fun o => (HBBw.out.alloc o).c0
  have b1 := fun o => (HBBw.out.alloc o).c1
  clear hb2 hX2 HWB HAw HA1 HBBw HBB1 HG1w HG11
  go_wp2_with fail
  rw [← HX2.out]
  refine (C3.out _).mono ?_
  rintro e w3 ⟨rfl, hb3⟩
  have HAw := Lib.hid (HA2.out.call hb3)
  have HBBw := Lib.hid (HBB2.out.call hb3)
  have HG1w := Lib.hid (HG12.out.call hb3)
  have HG2w := Lib.hid (HG22.out.call hb3)
  have HWB := Lib.hid (sbel HB2.out HB2.out.size hb3)
  obtain ⟨X3, hX3⟩ : ∃ x, x = w3.alloc (.cells #[.int .i64 m0, .int .i64 m1] 23) := ⟨_, rfl⟩
  have HA3 := Lib.hid (show VX X3 w.heap.size al ah by rw [hX3]; exact HAw.out.alloc _)
  have NA3 := Lib.hid (show w.heap.size ≠ w3.heap.size from Nat.ne_of_lt HAw.out.lt)
  have HBB3 := Lib.hid (show VX X3 (w.heap.size + 1) bl bh by rw [hX3]; exact HBBw.out.alloc _)
  have NBB3 := Lib.hid (show (w.heap.size + 1) ≠ w3.heap.size from Nat.ne_of_lt HBBw.out.lt)
  have HG13 := Lib.hid (show VX X3 w1.heap.size p0 p1 by rw [hX3]; exact HG1w.out.alloc _)
  have NG13 := Lib.hid (show w1.heap.size ≠ w3.heap.size from Nat.ne_of_lt HG1w.out.lt)
  have HG23 := Lib.hid (show VX X3 w2.heap.size p0 p1 by rw [hX3]; exact HG2w.out.alloc _)
  have NG23 := Lib.hid (show w2.heap.size ≠ w3.heap.size from Nat.ne_of_lt HG2w.out.lt)
  have HG33 := Lib.hid (show VX X3 w3.heap.size m0 m1 by rw [hX3]; exact VX.new _ _ _)
  have HB3 := Lib.hid (show Below w.heap.size w X3 by rw [hX3]; exact HWB.out.alloc HWB.out.size _)
  have HX3 := Lib.hid hX3
  have HL3 := Lib.hid HWB.out.size
  clear a0 a1 b0 b1
  have a0 := fun o => (HAw.out.alloc o).c0
  have a1 := fun o => (HAw.out.alloc o).c1
  have b0 := fun o => (HBBw.out.alloc o).c0
  have b1 := fun o => (HBBw.out.alloc o).c1
  clear hb3 hX3 HWB HAw HA2 HBBw HBB2 HG1w HG12 HG2w HG22
  go_wp2_with fail
  rw [← HX3.out]
  refine (C4.out _).mono ?_
  rintro e w4 ⟨rfl, hb4⟩
  have HAw := Lib.hid (HA3.out.call hb4)
  have HBBw := Lib.hid (HBB3.out.call hb4)
  have HG1w := Lib.hid (HG13.out.call hb4)
  have HG2w := Lib.hid (HG23.out.call hb4)
  have HG3w := Lib.hid (HG33.out.call hb4)
  have HWB := Lib.hid (sbel HB3.out HB3.out.size hb4)
  obtain ⟨X4, hX4⟩ : ∃ x, x = w4.alloc (.cells #[.int .i64 m0, .int .i64 m1] 23) := ⟨_, rfl⟩
  have HA4 := Lib.hid (show VX X4 w.heap.size al ah by rw [hX4]; exact HAw.out.alloc _)
  have NA4 := Lib.hid (show w.heap.size ≠ w4.heap.size from Nat.ne_of_lt HAw.out.lt)
  have HBB4 := Lib.hid (show VX X4 (w.heap.size + 1) bl bh by rw [hX4]; exact HBBw.out.alloc _)
  have NBB4 := Lib.hid (show (w.heap.size + 1) ≠ w4.heap.size from Nat.ne_of_lt HBBw.out.lt)
  have HG14 := Lib.hid (show VX X4 w1.heap.size p0 p1 by rw [hX4]; exact HG1w.out.alloc _)
  have NG14 := Lib.hid (show w1.heap.size ≠ w4.heap.size from Nat.ne_of_lt HG1w.out.lt)
  have HG24 := Lib.hid (show VX X4 w2.heap.size p0 p1 by rw [hX4]; exact HG2w.out.alloc _)
  have NG24 := Lib.hid (show w2.heap.size ≠ w4.heap.size from Nat.ne_of_lt HG2w.out.lt)
  have HG34 := Lib.hid (show VX X4 w3.heap.size m0 m1 by rw [hX4]; exact HG3w.out.alloc _)
  have NG34 := Lib.hid (show w3.heap.size ≠ w4.heap.size from Nat.ne_of_lt HG3w.out.lt)
  have HG44 := Lib.hid (show VX X4 w4.heap.size m0 m1 by rw [hX4]; exact VX.new _ _ _)
  have HB4 := Lib.hid (show Below w.heap.size w X4 by rw [hX4]; exact HWB.out.alloc HWB.out.size _)
  have HX4 := Lib.hid hX4
  have HL4 := Lib.hid HWB.out.size
  clear a0 a1 b0 b1
  have a0 := fun o => (HAw.out.alloc o).c0
  have a1 := fun o => (HAw.out.alloc o).c1
  have b0 := fun o => (HBBw.out.alloc o).c0
  have b1 := fun o => (HBBw.out.alloc o).c1
  clear hb4 hX4 HWB HAw HA3 HBBw HBB3 HG1w HG13 HG2w HG23 HG3w HG33
  go_wp2_with fail
  rw [← HX4.out]
  refine (C5.out _).mono ?_
  rintro e w5 ⟨rfl, hb5⟩
  have HAw := Lib.hid (HA4.out.call hb5)
  have HBBw := Lib.hid (HBB4.out.call hb5)
  have HG1w := Lib.hid (HG14.out.call hb5)
  have HG2w := Lib.hid (HG24.out.call hb5)
  have HG3w := Lib.hid (HG34.out.call hb5)
  have HG4w := Lib.hid (HG44.out.call hb5)
  have HWB := Lib.hid (sbel HB4.out HB4.out.size hb5)
  obtain ⟨X5, hX5⟩ : ∃ x, x = w5.alloc (.cells #[.int .i64 t0, .int .i64 t1] 23) := ⟨_, rfl⟩
  have HA5 := Lib.hid (show VX X5 w.heap.size al ah by rw [hX5]; exact HAw.out.alloc _)
  have NA5 := Lib.hid (show w.heap.size ≠ w5.heap.size from Nat.ne_of_lt HAw.out.lt)
  have HBB5 := Lib.hid (show VX X5 (w.heap.size + 1) bl bh by rw [hX5]; exact HBBw.out.alloc _)
  have NBB5 := Lib.hid (show (w.heap.size + 1) ≠ w5.heap.size from Nat.ne_of_lt HBBw.out.lt)
  have HG15 := Lib.hid (show VX X5 w1.heap.size p0 p1 by rw [hX5]; exact HG1w.out.alloc _)
  have NG15 := Lib.hid (show w1.heap.size ≠ w5.heap.size from Nat.ne_of_lt HG1w.out.lt)
  have HG25 := Lib.hid (show VX X5 w2.heap.size p0 p1 by rw [hX5]; exact HG2w.out.alloc _)
  have NG25 := Lib.hid (show w2.heap.size ≠ w5.heap.size from Nat.ne_of_lt HG2w.out.lt)
  have HG35 := Lib.hid (show VX X5 w3.heap.size m0 m1 by rw [hX5]; exact HG3w.out.alloc _)
  have NG35 := Lib.hid (show w3.heap.size ≠ w5.heap.size from Nat.ne_of_lt HG3w.out.lt)
  have HG45 := Lib.hid (show VX X5 w4.heap.size m0 m1 by rw [hX5]; exact HG4w.out.alloc _)
  have NG45 := Lib.hid (show w4.heap.size ≠ w5.heap.size from Nat.ne_of_lt HG4w.out.lt)
  have HG55 := Lib.hid (show VX X5 w5.heap.size t0 t1 by rw [hX5]; exact VX.new _ _ _)
  have HB5 := Lib.hid (show Below w.heap.size w X5 by rw [hX5]; exact HWB.out.alloc HWB.out.size _)
  have HX5 := Lib.hid hX5
  have HL5 := Lib.hid HWB.out.size
  clear a0 a1 b0 b1
  have a0 := fun o => (HAw.out.alloc o).c0
  have a1 := fun o => (HAw.out.alloc o).c1
  have b0 := fun o => (HBBw.out.alloc o).c0
  have b1 := fun o => (HBBw.out.alloc o).c1
  clear hb5 hX5 HWB HAw HA4 HBBw HBB4 HG1w HG14 HG2w HG24 HG3w HG34 HG4w HG44
  go_wp2_with fail
  rw [← HX5.out]
  refine (C6.out _).mono ?_
  rintro e w6 ⟨rfl, hb6⟩
  have HAw := Lib.hid (HA5.out.call hb6)
  have HBBw := Lib.hid (HBB5.out.call hb6)
  have HG1w := Lib.hid (HG15.out.call hb6)
  have HG2w := Lib.hid (HG25.out.call hb6)
  have HG3w := Lib.hid (HG35.out.call hb6)
  have HG4w := Lib.hid (HG45.out.call hb6)
  have HG5w := Lib.hid (HG55.out.call hb6)
  have HWB := Lib.hid (sbel HB5.out HB5.out.size hb6)
  obtain ⟨X6, hX6⟩ : ∃ x, x = w6.alloc (.cells #[.int .i64 t0, .int .i64 t1] 23) := ⟨_, rfl⟩
  have HA6 := Lib.hid (show VX X6 w.heap.size al ah by rw [hX6]; exact HAw.out.alloc _)
  have NA6 := Lib.hid (show w.heap.size ≠ w6.heap.size from Nat.ne_of_lt HAw.out.lt)
  have HBB6 := Lib.hid (show VX X6 (w.heap.size + 1) bl bh by rw [hX6]; exact HBBw.out.alloc _)
  have NBB6 := Lib.hid (show (w.heap.size + 1) ≠ w6.heap.size from Nat.ne_of_lt HBBw.out.lt)
  have HG16 := Lib.hid (show VX X6 w1.heap.size p0 p1 by rw [hX6]; exact HG1w.out.alloc _)
  have NG16 := Lib.hid (show w1.heap.size ≠ w6.heap.size from Nat.ne_of_lt HG1w.out.lt)
  have HG26 := Lib.hid (show VX X6 w2.heap.size p0 p1 by rw [hX6]; exact HG2w.out.alloc _)
  have NG26 := Lib.hid (show w2.heap.size ≠ w6.heap.size from Nat.ne_of_lt HG2w.out.lt)
  have HG36 := Lib.hid (show VX X6 w3.heap.size m0 m1 by rw [hX6]; exact HG3w.out.alloc _)
  have NG36 := Lib.hid (show w3.heap.size ≠ w6.heap.size from Nat.ne_of_lt HG3w.out.lt)
  have HG46 := Lib.hid (show VX X6 w4.heap.size m0 m1 by rw [hX6]; exact HG4w.out.alloc _)
  have NG46 := Lib.hid (show w4.heap.size ≠ w6.heap.size from Nat.ne_of_lt HG4w.out.lt)
  have HG56 := Lib.hid (show VX X6 w5.heap.size t0 t1 by rw [hX6]; exact HG5w.out.alloc _)
  have NG56 := Lib.hid (show w5.heap.size ≠ w6.heap.size from Nat.ne_of_lt HG5w.out.lt)
  have HG66 := Lib.hid (show VX X6 w6.heap.size t0 t1 by rw [hX6]; exact VX.new _ _ _)
  have HB6 := Lib.hid (show Below w.heap.size w X6 by rw [hX6]; exact HWB.out.alloc HWB.out.size _)
  have HX6 := Lib.hid hX6
  have HL6 := Lib.hid HWB.out.size
  clear a0 a1 b0 b1
  have a0 := fun o => (HAw.out.alloc o).c0
  have a1 := fun o => (HAw.out.alloc o).c1
  have b0 := fun o => (HBBw.out.alloc o).c0
  have b1 := fun o => (HBBw.out.alloc o).c1
  clear hb6 hX6 HWB HAw HA5 HBBw HBB5 HG1w HG15 HG2w HG25 HG3w HG35 HG4w HG45 HG5w HG55
  go_upto_region 7 with fail
  rw [← HX6.out]
  clear a0 a1 b0 b1
  have KS := Lib.hid (fun (w' : World) (h : Below X6.heap.size X6 w') => (⟨(HA6.out.call h).c0, (HA6.out.call h).c1, (HBB6.out.call h).c0, (HBB6.out.call h).c1, (HG16.out.call h).c0, (HG16.out.call h).c1, (HG26.out.call h).c0, (HG26.out.call h).c1, (HG36.out.call h).c0, (HG36.out.call h).c1, (HG46.out.call h).c0, (HG46.out.call h).c1, (HG56.out.call h).c0, (HG56.out.call h).c1, (HG66.out.call h).c0, (HG66.out.call h).c1⟩ : w'.cell? ⟨w.heap.size, 0, none⟩ = some (.int .i64 al) ∧ w'.cell? ⟨w.heap.size, 1, none⟩ = some (.int .i64 ah) ∧ w'.cell? ⟨(w.heap.size + 1), 0, none⟩ = some (.int .i64 bl) ∧ w'.cell? ⟨(w.heap.size + 1), 1, none⟩ = some (.int .i64 bh) ∧ w'.cell? ⟨w1.heap.size, 0, none⟩ = some (.int .i64 p0) ∧ w'.cell? ⟨w1.heap.size, 1, none⟩ = some (.int .i64 p1) ∧ w'.cell? ⟨w2.heap.size, 0, none⟩ = some (.int .i64 p0) ∧ w'.cell? ⟨w2.heap.size, 1, none⟩ = some (.int .i64 p1) ∧ w'.cell? ⟨w3.heap.size, 0, none⟩ = some (.int .i64 m0) ∧ w'.cell? ⟨w3.heap.size, 1, none⟩ = some (.int .i64 m1) ∧ w'.cell? ⟨w4.heap.size, 0, none⟩ = some (.int .i64 m0) ∧ w'.cell? ⟨w4.heap.size, 1, none⟩ = some (.int .i64 m1) ∧ w'.cell? ⟨w5.heap.size, 0, none⟩ = some (.int .i64 t0) ∧ w'.cell? ⟨w5.heap.size, 1, none⟩ = some (.int .i64 t1) ∧ w'.cell? ⟨w6.heap.size, 0, none⟩ = some (.int .i64 t0) ∧ w'.cell? ⟨w6.heap.size, 1, none⟩ = some (.int .i64 t1)))
  obtain ⟨z0, z1, z2, z3, z4, z5, z6, z7, z8, z9, z10, z11, z12, z13, z14, z15⟩ := KS.out _ (Below.refl _ _)
  obtain ⟨ok, hok⟩ : ∃ x, x = decide (okS al ah) := ⟨_, rfl⟩
  rw [← hok] at CV CR
  go_region_held3 (fun w' => w'.cell? ⟨w.heap.size, 0, none⟩ = some (.int .i64 al) ∧ w'.cell? ⟨w.heap.size, 1, none⟩ = some (.int .i64 ah) ∧ w'.cell? ⟨(w.heap.size + 1), 0, none⟩ = some (.int .i64 bl) ∧ w'.cell? ⟨(w.heap.size + 1), 1, none⟩ = some (.int .i64 bh) ∧ w'.cell? ⟨w1.heap.size, 0, none⟩ = some (.int .i64 p0) ∧ w'.cell? ⟨w1.heap.size, 1, none⟩ = some (.int .i64 p1) ∧ w'.cell? ⟨w2.heap.size, 0, none⟩ = some (.int .i64 p0) ∧ w'.cell? ⟨w2.heap.size, 1, none⟩ = some (.int .i64 p1) ∧ w'.cell? ⟨w3.heap.size, 0, none⟩ = some (.int .i64 m0) ∧ w'.cell? ⟨w3.heap.size, 1, none⟩ = some (.int .i64 m1) ∧ w'.cell? ⟨w4.heap.size, 0, none⟩ = some (.int .i64 m0) ∧ w'.cell? ⟨w4.heap.size, 1, none⟩ = some (.int .i64 m1) ∧ w'.cell? ⟨w5.heap.size, 0, none⟩ = some (.int .i64 t0) ∧ w'.cell? ⟨w5.heap.size, 1, none⟩ = some (.int .i64 t1) ∧ w'.cell? ⟨w6.heap.size, 0, none⟩ = some (.int .i64 t0) ∧ w'.cell? ⟨w6.heap.size, 1, none⟩ = some (.int .i64 t1))
    (first
      | (refine KS.out _ ?_
         repeat (first
           | (with_reducible refine Below.drew ?_))
         with_reducible first | exact hb8 | exact hb7 | exact Below.refl _ _)
      | go_keep)
    (first
      | (go_at_call 8
         refine (CV.out _).mono ?_
         rintro e w7 ⟨rfl, hb7'⟩
         have hb7 : Below X6.heap.size X6 w7 := by with_reducible first | exact obun hb7' | exact hb7'
         clear hb7')
      | (go_at_call 9
         refine (CR.out _).mono ?_
         rintro e w8 ⟨rfl, hb8'⟩
         have hb8 : Below X6.heap.size X6 w8 := hb7.trans (Below.mono (by with_reducible first | exact obun hb8' | exact hb8') hb7.size)
         clear hb8'))
  have HB8 := Lib.hid (sbel HB6.out HB6.out.size hb8)
  have HA8 := Lib.hid (HA6.out.call hb8)
  have HBB8 := Lib.hid (HBB6.out.call hb8)
  have HG18 := Lib.hid (HG16.out.call hb8)
  have HG28 := Lib.hid (HG26.out.call hb8)
  have HG38 := Lib.hid (HG36.out.call hb8)
  have HG48 := Lib.hid (HG46.out.call hb8)
  clear KS hb7 hb8 z0 z1 z2 z3 z4 z5 z6 z7 z8 z9 z10 z11 z12 z13 z14 z15 HA6 HBB6 HG16 HG26 HG36 HG46
  have a0 := HA8.out.c0
  have a1 := HA8.out.c1
  have b0 := HBB8.out.c0
  have b1 := HBB8.out.c1
  go_wp2_with fail
  refine (C7.out _).mono ?_
  rintro e w9 ⟨rfl, hb9⟩
  have HAw := Lib.hid (HA8.out.call hb9)
  have HBBw := Lib.hid (HBB8.out.call hb9)
  have HG1w := Lib.hid (HG18.out.call hb9)
  have HG2w := Lib.hid (HG28.out.call hb9)
  have HG3w := Lib.hid (HG38.out.call hb9)
  have HG4w := Lib.hid (HG48.out.call hb9)
  have HWB := Lib.hid (sbel HB8.out HB8.out.size hb9)
  obtain ⟨X9, hX9⟩ : ∃ x, x = (w9.setCell ⟨w1.heap.size, 0, none⟩ (.int .i64 q0)).setCell ⟨w1.heap.size, 1, none⟩ (.int .i64 q1) := ⟨_, rfl⟩
  have HA9 := Lib.hid (show VX X9 w.heap.size al ah by rw [hX9]; exact HAw.out.other2 NA1.out)
  have HBB9 := Lib.hid (show VX X9 (w.heap.size + 1) bl bh by rw [hX9]; exact HBBw.out.other2 NBB1.out)
  have HG19 := Lib.hid (show VX X9 w1.heap.size q0 q1 by rw [hX9]; exact HG1w.out.store _ _)
  have HG29 := Lib.hid (show VX X9 w2.heap.size p0 p1 by rw [hX9]; exact HG2w.out.other2 (Ne.symm NG12.out))
  have HG39 := Lib.hid (show VX X9 w3.heap.size m0 m1 by rw [hX9]; exact HG3w.out.other2 (Ne.symm NG13.out))
  have HG49 := Lib.hid (show VX X9 w4.heap.size m0 m1 by rw [hX9]; exact HG4w.out.other2 (Ne.symm NG14.out))
  have HB9 := Lib.hid (show Below w.heap.size w X9 by rw [hX9]; exact (HWB.out.setCell (p := ⟨w1.heap.size, 0, none⟩) HL1.out _).setCell (p := ⟨w1.heap.size, 1, none⟩) HL1.out _)
  have HX9 := Lib.hid hX9
  clear a0 a1 b0 b1
  have a0 := fun (u v : Value) => VX.c0 (VX.other2 (u := u) (v := v) HAw.out NA1.out)
  have a1 := fun (u v : Value) => VX.c1 (VX.other2 (u := u) (v := v) HAw.out NA1.out)
  have b0 := fun (u v : Value) => VX.c0 (VX.other2 (u := u) (v := v) HBBw.out NBB1.out)
  have b1 := fun (u v : Value) => VX.c1 (VX.other2 (u := u) (v := v) HBBw.out NBB1.out)
  have e0 := HG1w.out.c0
  have e1 := HG1w.out.c1
  have ef := HG1w.out.fz
  clear hb9 hX9 HWB HAw HA8 HBBw HBB8 HG1w HG18 HG2w HG28 HG3w HG38 HG4w HG48
  go_wp2_with fail
  rw [← HX9.out]
  clear e0 e1 ef
  refine (C8.out _).mono ?_
  rintro e w10 ⟨rfl, hb10⟩
  have HAw := Lib.hid (HA9.out.call hb10)
  have HBBw := Lib.hid (HBB9.out.call hb10)
  have HG1w := Lib.hid (HG19.out.call hb10)
  have HG2w := Lib.hid (HG29.out.call hb10)
  have HG3w := Lib.hid (HG39.out.call hb10)
  have HG4w := Lib.hid (HG49.out.call hb10)
  have HWB := Lib.hid (sbel HB9.out HB9.out.size hb10)
  obtain ⟨X10, hX10⟩ : ∃ x, x = (w10.setCell ⟨w2.heap.size, 0, none⟩ (.int .i64 q0)).setCell ⟨w2.heap.size, 1, none⟩ (.int .i64 q1) := ⟨_, rfl⟩
  have HA10 := Lib.hid (show VX X10 w.heap.size al ah by rw [hX10]; exact HAw.out.other2 NA2.out)
  have HBB10 := Lib.hid (show VX X10 (w.heap.size + 1) bl bh by rw [hX10]; exact HBBw.out.other2 NBB2.out)
  have HG110 := Lib.hid (show VX X10 w1.heap.size q0 q1 by rw [hX10]; exact HG1w.out.other2 NG12.out)
  have HG210 := Lib.hid (show VX X10 w2.heap.size q0 q1 by rw [hX10]; exact HG2w.out.store _ _)
  have HG310 := Lib.hid (show VX X10 w3.heap.size m0 m1 by rw [hX10]; exact HG3w.out.other2 (Ne.symm NG23.out))
  have HG410 := Lib.hid (show VX X10 w4.heap.size m0 m1 by rw [hX10]; exact HG4w.out.other2 (Ne.symm NG24.out))
  have HB10 := Lib.hid (show Below w.heap.size w X10 by rw [hX10]; exact (HWB.out.setCell (p := ⟨w2.heap.size, 0, none⟩) HL2.out _).setCell (p := ⟨w2.heap.size, 1, none⟩) HL2.out _)
  have HX10 := Lib.hid hX10
  clear a0 a1 b0 b1
  have a0 := fun (u v : Value) => VX.c0 (VX.other2 (u := u) (v := v) HAw.out NA2.out)
  have a1 := fun (u v : Value) => VX.c1 (VX.other2 (u := u) (v := v) HAw.out NA2.out)
  have b0 := fun (u v : Value) => VX.c0 (VX.other2 (u := u) (v := v) HBBw.out NBB2.out)
  have b1 := fun (u v : Value) => VX.c1 (VX.other2 (u := u) (v := v) HBBw.out NBB2.out)
  have e0 := HG2w.out.c0
  have e1 := HG2w.out.c1
  have ef := HG2w.out.fz
  clear hb10 hX10 HWB HAw HA9 HBBw HBB9 HG1w HG19 HG2w HG29 HG3w HG39 HG4w HG49
  go_wp2_with fail
  rw [← HX10.out]
  clear e0 e1 ef
  refine (C9.out _).mono ?_
  rintro e w11 ⟨rfl, hb11⟩
  have HAw := Lib.hid (HA10.out.call hb11)
  have HBBw := Lib.hid (HBB10.out.call hb11)
  have HG1w := Lib.hid (HG110.out.call hb11)
  have HG2w := Lib.hid (HG210.out.call hb11)
  have HG3w := Lib.hid (HG310.out.call hb11)
  have HG4w := Lib.hid (HG410.out.call hb11)
  have HWB := Lib.hid (sbel HB10.out HB10.out.size hb11)
  obtain ⟨X11, hX11⟩ : ∃ x, x = (w11.setCell ⟨w3.heap.size, 0, none⟩ (.int .i64 r0)).setCell ⟨w3.heap.size, 1, none⟩ (.int .i64 r1) := ⟨_, rfl⟩
  have HA11 := Lib.hid (show VX X11 w.heap.size al ah by rw [hX11]; exact HAw.out.other2 NA3.out)
  have HBB11 := Lib.hid (show VX X11 (w.heap.size + 1) bl bh by rw [hX11]; exact HBBw.out.other2 NBB3.out)
  have HG111 := Lib.hid (show VX X11 w1.heap.size q0 q1 by rw [hX11]; exact HG1w.out.other2 NG13.out)
  have HG211 := Lib.hid (show VX X11 w2.heap.size q0 q1 by rw [hX11]; exact HG2w.out.other2 NG23.out)
  have HG311 := Lib.hid (show VX X11 w3.heap.size r0 r1 by rw [hX11]; exact HG3w.out.store _ _)
  have HG411 := Lib.hid (show VX X11 w4.heap.size m0 m1 by rw [hX11]; exact HG4w.out.other2 (Ne.symm NG34.out))
  have HB11 := Lib.hid (show Below w.heap.size w X11 by rw [hX11]; exact (HWB.out.setCell (p := ⟨w3.heap.size, 0, none⟩) HL3.out _).setCell (p := ⟨w3.heap.size, 1, none⟩) HL3.out _)
  have HX11 := Lib.hid hX11
  clear a0 a1 b0 b1
  have a0 := fun (u v : Value) => VX.c0 (VX.other2 (u := u) (v := v) HAw.out NA3.out)
  have a1 := fun (u v : Value) => VX.c1 (VX.other2 (u := u) (v := v) HAw.out NA3.out)
  have b0 := fun (u v : Value) => VX.c0 (VX.other2 (u := u) (v := v) HBBw.out NBB3.out)
  have b1 := fun (u v : Value) => VX.c1 (VX.other2 (u := u) (v := v) HBBw.out NBB3.out)
  have e0 := HG3w.out.c0
  have e1 := HG3w.out.c1
  have ef := HG3w.out.fz
  clear hb11 hX11 HWB HAw HA10 HBBw HBB10 HG1w HG110 HG2w HG210 HG3w HG310 HG4w HG410
  go_wp2_with fail
  rw [← HX11.out]
  clear e0 e1 ef
  refine (C10.out _).mono ?_
  rintro e w12 ⟨rfl, hb12⟩
  have HAw := Lib.hid (HA11.out.call hb12)
  have HBBw := Lib.hid (HBB11.out.call hb12)
  have HG1w := Lib.hid (HG111.out.call hb12)
  have HG2w := Lib.hid (HG211.out.call hb12)
  have HG3w := Lib.hid (HG311.out.call hb12)
  have HG4w := Lib.hid (HG411.out.call hb12)
  have HWB := Lib.hid (sbel HB11.out HB11.out.size hb12)
  obtain ⟨X12, hX12⟩ : ∃ x, x = (w12.setCell ⟨w4.heap.size, 0, none⟩ (.int .i64 r0)).setCell ⟨w4.heap.size, 1, none⟩ (.int .i64 r1) := ⟨_, rfl⟩
  have HA12 := Lib.hid (show VX X12 w.heap.size al ah by rw [hX12]; exact HAw.out.other2 NA4.out)
  have HBB12 := Lib.hid (show VX X12 (w.heap.size + 1) bl bh by rw [hX12]; exact HBBw.out.other2 NBB4.out)
  have HG112 := Lib.hid (show VX X12 w1.heap.size q0 q1 by rw [hX12]; exact HG1w.out.other2 NG14.out)
  have HG212 := Lib.hid (show VX X12 w2.heap.size q0 q1 by rw [hX12]; exact HG2w.out.other2 NG24.out)
  have HG312 := Lib.hid (show VX X12 w3.heap.size r0 r1 by rw [hX12]; exact HG3w.out.other2 NG34.out)
  have HG412 := Lib.hid (show VX X12 w4.heap.size r0 r1 by rw [hX12]; exact HG4w.out.store _ _)
  have HB12 := Lib.hid (show Below w.heap.size w X12 by rw [hX12]; exact (HWB.out.setCell (p := ⟨w4.heap.size, 0, none⟩) HL4.out _).setCell (p := ⟨w4.heap.size, 1, none⟩) HL4.out _)
  have HX12 := Lib.hid hX12
  clear a0 a1 b0 b1
  have a0 := fun (u v : Value) => VX.c0 (VX.other2 (u := u) (v := v) HAw.out NA4.out)
  have a1 := fun (u v : Value) => VX.c1 (VX.other2 (u := u) (v := v) HAw.out NA4.out)
  have b0 := fun (u v : Value) => VX.c0 (VX.other2 (u := u) (v := v) HBBw.out NBB4.out)
  have b1 := fun (u v : Value) => VX.c1 (VX.other2 (u := u) (v := v) HBBw.out NBB4.out)
  have e0 := HG4w.out.c0
  have e1 := HG4w.out.c1
  have ef := HG4w.out.fz
  clear hb12 hX12 HWB HAw HA11 HBBw HBB11 HG1w HG111 HG2w HG211 HG3w HG311 HG4w HG411
  go_wp2_with fail
  rw [← HX12.out]
  clear e0 e1 ef
  refine (C11.out _).mono ?_
  rintro e w13 ⟨rfl, hb13⟩
  have HA13 := Lib.hid (HA12.out.call hb13)
  have HBB13 := Lib.hid (HBB12.out.call hb13)
  have HG113 := Lib.hid (HG112.out.call hb13)
  have HG213 := Lib.hid (HG212.out.call hb13)
  have HG313 := Lib.hid (HG312.out.call hb13)
  have HG413 := Lib.hid (HG412.out.call hb13)
  have HB13 := Lib.hid (sbel HB12.out HB12.out.size hb13)
  clear a0 a1 b0 b1 hb13
  have a0 := HA13.out.c0
  have a1 := HA13.out.c1
  have b0 := HBB13.out.c0
  have b1 := HBB13.out.c1
  go_wp2_with fail
  refine (C12.out _).mono ?_
  rintro e w14 ⟨rfl, hb14⟩
  have G10 := (HG113.out.call hb14).c0
  have G11 := (HG113.out.call hb14).c1
  have G20 := (HG213.out.call hb14).c0
  have G21 := (HG213.out.call hb14).c1
  have G30 := (HG313.out.call hb14).c0
  have G31 := (HG313.out.call hb14).c1
  have G40 := (HG413.out.call hb14).c0
  have G41 := (HG413.out.call hb14).c1
  have HB14 := Lib.hid (sbel HB13.out HB13.out.size hb14)
  clear a0 a1 b0 b1 hb14
  go_wp2_with fail
  refine (first_any _).mono ?_
  rintro e w15 ⟨rfl, hb15⟩
  go_wp2
  go_ret
  exact ⟨rfl, sbel HB14.out HB14.out.size hb15⟩


set_option maxRecDepth 100000 in
theorem lifted (os : Os) (started : os.Started) (H : Type) (enc : TypeId × Value → H) :
    ReturnsInHanded {} Tryz.checked os 3 .any (Rows.exactSpansSpec.pre6 enc Tryz.prog Tryz.f3 Rows.exactSpansRow.domain false) (Rows.exactSpansSpec.post enc Tryz.prog Tryz.f3 false true false false) := by
  refine returnsInHanded_of_change (C := Tryz.checked) ownTry started (by kernel_rfl) Tryz.func3
    (ChangeSpec.witness6 (enc := enc) (C := Tryz.checked) false ⟨#[], #[.agg #[.int .i64 0, .int .i64 0], .agg #[.int .i64 0, .int .i64 0]], []⟩ 8 (by kernel_rfl) (by kernel_rfl) (by kernel_rfl) (by kernel_rfl)) ?_
  intro W base args ds gs before hval0 hW hcnd _
  have hval : ∀ (j : Nat) t v, Tryz.f3.params[j]? = some t → args[j]? = some v → Value.okWide Tryz.prog W .any base t v := hval0
  have hW' := hW
  obtain ⟨p, q, hA0, hV, rfl, hfz, hnd⟩ := hW
  have hA : DataW.TrodAll enc Tryz.prog W 0 (fun _ => true) true Tryz.f3.params.toList args.toList ds p := hA0
  rw [Tryz.params3] at hA hval
  obtain ⟨v0, v1, d0, d1, p0, p1, rfl, rfl, rfl, h0, h1⟩ := trodAll_two hA
  obtain ⟨rfl, rfl⟩ := trodVars_none hV
  obtain ⟨c0, c0', y0, y0', m0, rfl, rfl, rfl, hy0, hy0'⟩ := open_agg2 Tryz.underlying23 (by kernel_rfl) cellsSpan (hval 0 23 v0 rfl rfl) h0
  obtain ⟨c1, c1', y1, y1', m1, rfl, rfl, rfl, hy1, hy1'⟩ := open_agg2 Tryz.underlying23 (by kernel_rfl) cellsSpan (hval 1 23 v1 rfl rfl) h1
  obtain ⟨ax, e0, rfl, wax⟩ := DataW.trod_int Tryz.underlying3 hy0
  obtain ⟨ay, e0', rfl, way⟩ := DataW.trod_int Tryz.underlying3 hy0'
  obtain ⟨bx, e1, rfl, wbx⟩ := DataW.trod_int Tryz.underlying3 hy1
  obtain ⟨by_, e1', rfl, wby⟩ := DataW.trod_int Tryz.underlying3 hy1'
  simp at e0 e0' e1 e1'
  subst e0 e0' e1 e1'
  clear hA0 hval0
  simp only [List.append_nil] at hW'
  have reads : ∀ (W' : World) (sp : Nat → Bool) (x y : Int) (wx : (Lit.int .i64 x).wf = true) (wy : (Lit.int .i64 y).wf = true), DataW.Trod enc Tryz.prog W' 0 sp true 23 (.agg #[.int .i64 x, .int .i64 y]) (.agg [.lit (.int .i64 x), .lit (.int .i64 y)]) [] := fun W' sp x y wx wy =>
    shut_agg2 (y0 := (.lit (.int .i64 x), [])) (y1 := (.lit (.int .i64 y), [])) Tryz.underlying23 (by kernel_rfl) cellsSpan ⟨1, by simp [DataW.trod, Tryz.underlying3, wx]⟩ ⟨1, by simp [DataW.trod, Tryz.underlying3, wy]⟩
  refine (walk ax ay bx by_ W).mono fun e W' ⟨he, hg⟩ => ?_
  subst he
  exact ⟨_, rfl, post_below (pa := []) (pv := []) hW' (fun _ _ _ => trodAll_mk1 (shut_bool Tryz.underlying4 _)) (fun sp _ => trodAll_mk2 (reads _ sp ax ay wax way) (reads _ sp bx by_ wbx wby)) (fun _ _ => rfl) rfl
    hg (ok_one (by kernel_rfl) rfl (okWide_bool_mk Tryz.underlying4 _))⟩

theorem over : Rows.exactSpansRow.holds Tryz.pinned (OpenSpec.ofChange Rows.exactSpansSpec) :=
  OpenClaim.holds_of_wide 3 Tryz.f3 rfl rfl rfl rfl rfl rfl rfl ⟨rfl, rfl, rfl, rfl, rfl⟩ rfl rfl rfl rfl rfl (by kernel_rfl) Tryz.func3 (by kernel_rfl)
    (of_decide_eq_true (by kernel_rfl)) (by unfold Func.isWrapper; first | (rw [if_pos (by decide +kernel)]; kernel_rfl) | (rw [if_neg (by decide +kernel)]; exact ⟨rfl, rfl⟩))
    (fun os started H enc _ => lifted os started H enc)

theorem proved : Rows.ExactSpansSaid := over
end Go.Proofs.YtdpmfenikomfkaaGreat.exactSpans
