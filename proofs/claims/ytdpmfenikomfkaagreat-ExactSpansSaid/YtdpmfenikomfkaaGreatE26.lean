/-
  Spans that are not valid: what the operations of spans return, the program's and the document's.
-/
import Derived.Test.YtdpmfenikomfkaaGreatE25
namespace Go.Proofs.YtdpmfenikomfkaaGreat
open Go.RowKit

theorem S0ex2 (w : World) (al ah bl bh : Int) : ∃ W0, Hid (W0 = (w.alloc (.cells #[.int .i64 al, .int .i64 ah] 23)).alloc (.cells #[.int .i64 bl, .int .i64 bh] 23)) ∧ Below w.heap.size w W0 ∧
    Hid (W0.heap[w.heap.size]? = some (.cells #[.int .i64 al, .int .i64 ah] 23 (0, 0)) ∧ W0.heap[w.heap.size + 1]? = some (.cells #[.int .i64 bl, .int .i64 bh] 23 (0, 0))) :=
  ⟨_, rfl, ((Below.refl _ _).alloc (Nat.le_refl _) _).alloc (by simp) _, ⟨heap_alloc2_old _ _ _, heap_alloc2_new _ _ _⟩⟩
theorem vyes {al ah : Int} (h : okS al ah) (w : World) : Calls Tryz.prog 8 #[.agg #[.int .i64 al, .int .i64 ah]] w (RetB w true) := by
  have V := valid_any al ah w
  rw [decide_eq_true h] at V
  exact V
theorem vno {al ah : Int} (h : ¬ okS al ah) (w : World) : Calls Tryz.prog 8 #[.agg #[.int .i64 al, .int .i64 ah]] w (RetB w false) := by
  have V := valid_any al ah w
  rw [decide_eq_false h] at V
  exact V
theorem rvyes {al ah : Int} (h : okS al ah) (w : World) : Calls Tryz.prog 9 #[.agg #[.int .i64 al, .int .i64 ah]] w (RetB w true) := by
  have V := refValid_any al ah w
  rw [decide_eq_true h] at V
  exact V
theorem rvno {al ah : Int} (h : ¬ okS al ah) (w : World) : Calls Tryz.prog 9 #[.agg #[.int .i64 al, .int .i64 ah]] w (RetB w false) := by
  have V := refValid_any al ah w
  rw [decide_eq_false h] at V
  exact V

set_option maxRecDepth 100000 in
set_option maxHeartbeats 4000000 in
theorem bothValid_no (al ah bl bh : Int) (h : ¬ (okS al ah ∧ okS bl bh)) (w : World) :
    Calls Tryz.prog 17 #[.agg #[.int .i64 al, .int .i64 ah], .agg #[.int .i64 bl, .int .i64 bh]] w (RetB w false) := by
  obtain ⟨W0, HW0, hw0, HG⟩ := S0ex2 w al ah bl bh
  obtain ⟨k0, k1⟩ := xy_cells HG.out.1 (Below.refl _ _)
  by_cases ha : okS al ah
  · have HB := Lib.hid (fun hb => h ⟨ha, hb⟩)
    have HA := Lib.hid ha
    clear h ha
    go_enter Tryz.func17, Tryz.ntmps17
    go_wp2_with fail
    rw [← HW0.out]
    refine (vyes HA.out _).mono ?_
    rintro e w1 ⟨rfl, hb1⟩
    obtain ⟨k2, k3⟩ := xy_cells HG.out.2 hb1
    go_wp2_with fail
    refine (vno HB.out _).mono ?_
    rintro e w2 ⟨rfl, hb2⟩
    go_wp2
    go_ret
    exact ⟨rfl, hw0.trans ((hb1.trans (hb2.mono hb1.size)).mono hw0.size)⟩
  · have HA := Lib.hid ha
    clear h ha
    go_enter Tryz.func17, Tryz.ntmps17
    go_wp2_with fail
    rw [← HW0.out]
    refine (vno HA.out _).mono ?_
    rintro e w1 ⟨rfl, hb1⟩
    go_wp2
    go_ret
    exact ⟨rfl, hw0.trans (hb1.mono hw0.size)⟩

set_option maxRecDepth 100000 in
set_option maxHeartbeats 4000000 in
theorem plus_arg (al ah bl bh : Int) (h : ¬ (okS al ah ∧ okS bl bh)) (w : World) :
    Calls Tryz.prog 4 #[.agg #[.int .i64 al, .int .i64 ah], .agg #[.int .i64 bl, .int .i64 bh]] w (RetSE w 0 0 2) := by
  obtain ⟨W0, HW0, hw0, HG⟩ := S0ex w al ah bl bh
  obtain ⟨k0, k1⟩ := xy_cells HG.out.1 (Below.refl _ _)
  obtain ⟨k2, k3⟩ := xy_cells HG.out.2.1 (Below.refl _ _)
  have HB := Lib.hid (fun w => bothValid_no al ah bl bh h w)
  clear h
  go_enter Tryz.func4, Tryz.ntmps4
  go_wp2_with fail
  rw [← HW0.out]
  refine (HB.out _).mono ?_
  rintro e w1 ⟨rfl, hbb⟩
  obtain ⟨m0, m1⟩ := xy_cells HG.out.2.2 hbb
  have mf := xy_frozen HG.out.2.2 hbb
  go_wp2
  refine bodyPost_ret (v := .tuple #[.agg #[.int .i64 0, .int .i64 0], .int .i64 2]) (by simp [results, Tryz.results4, go_sem, m0, m1]) rfl ⟨rfl, ?_⟩
  exact Below.setCell (p := ⟨w.heap.size + 1 + 1, 1, none⟩) (Below.setCell (p := ⟨w.heap.size + 1 + 1, 0, none⟩) (hw0.trans (hbb.mono hw0.size)) (by show w.heap.size ≤ w.heap.size + 1 + 1; omega) _) (by show w.heap.size ≤ w.heap.size + 1 + 1; omega) _

set_option maxRecDepth 100000 in
set_option maxHeartbeats 4000000 in
theorem minus_arg (al ah bl bh : Int) (h : ¬ (okS al ah ∧ okS bl bh)) (w : World) :
    Calls Tryz.prog 6 #[.agg #[.int .i64 al, .int .i64 ah], .agg #[.int .i64 bl, .int .i64 bh]] w (RetSE w 0 0 2) := by
  obtain ⟨W0, HW0, hw0, HG⟩ := S0ex w al ah bl bh
  obtain ⟨k0, k1⟩ := xy_cells HG.out.1 (Below.refl _ _)
  obtain ⟨k2, k3⟩ := xy_cells HG.out.2.1 (Below.refl _ _)
  have HB := Lib.hid (fun w => bothValid_no al ah bl bh h w)
  clear h
  go_enter Tryz.func6, Tryz.ntmps6
  go_wp2_with fail
  rw [← HW0.out]
  refine (HB.out _).mono ?_
  rintro e w1 ⟨rfl, hbb⟩
  obtain ⟨m0, m1⟩ := xy_cells HG.out.2.2 hbb
  have mf := xy_frozen HG.out.2.2 hbb
  go_wp2
  refine bodyPost_ret (v := .tuple #[.agg #[.int .i64 0, .int .i64 0], .int .i64 2]) (by simp [results, Tryz.results6, go_sem, m0, m1]) rfl ⟨rfl, ?_⟩
  exact Below.setCell (p := ⟨w.heap.size + 1 + 1, 1, none⟩) (Below.setCell (p := ⟨w.heap.size + 1 + 1, 0, none⟩) (hw0.trans (hbb.mono hw0.size)) (by show w.heap.size ≤ w.heap.size + 1 + 1; omega) _) (by show w.heap.size ≤ w.heap.size + 1 + 1; omega) _

set_option maxRecDepth 100000 in
set_option maxHeartbeats 4000000 in
theorem times_arg (al ah bl bh : Int) (h : ¬ (okS al ah ∧ okS bl bh)) (w : World) :
    Calls Tryz.prog 7 #[.agg #[.int .i64 al, .int .i64 ah], .agg #[.int .i64 bl, .int .i64 bh]] w (RetSE w 0 0 2) := by
  obtain ⟨W0, HW0, hw0, HG⟩ := S0ex w al ah bl bh
  obtain ⟨k0, k1⟩ := xy_cells HG.out.1 (Below.refl _ _)
  obtain ⟨k2, k3⟩ := xy_cells HG.out.2.1 (Below.refl _ _)
  have HB := Lib.hid (fun w => bothValid_no al ah bl bh h w)
  clear h
  go_enter Tryz.func7, Tryz.ntmps7
  go_wp2_with fail
  rw [← HW0.out]
  refine (HB.out _).mono ?_
  rintro e w1 ⟨rfl, hbb⟩
  obtain ⟨m0, m1⟩ := xy_cells HG.out.2.2 hbb
  have mf := xy_frozen HG.out.2.2 hbb
  go_wp2
  refine bodyPost_ret (v := .tuple #[.agg #[.int .i64 0, .int .i64 0], .int .i64 2]) (by simp [results, Tryz.results7, go_sem, m0, m1]) rfl ⟨rfl, ?_⟩
  exact Below.setCell (p := ⟨w.heap.size + 1 + 1, 1, none⟩) (Below.setCell (p := ⟨w.heap.size + 1 + 1, 0, none⟩) (hw0.trans (hbb.mono hw0.size)) (by show w.heap.size ≤ w.heap.size + 1 + 1; omega) _) (by show w.heap.size ≤ w.heap.size + 1 + 1; omega) _

set_option maxRecDepth 100000 in
set_option maxHeartbeats 4000000 in
theorem hull_arg (al ah bl bh : Int) (h : ¬ (okS al ah ∧ okS bl bh)) (w : World) :
    Calls Tryz.prog 10 #[.agg #[.int .i64 al, .int .i64 ah], .agg #[.int .i64 bl, .int .i64 bh]] w (RetSE w 0 0 2) := by
  obtain ⟨W0, HW0, hw0, HG⟩ := S0ex w al ah bl bh
  obtain ⟨k0, k1⟩ := xy_cells HG.out.1 (Below.refl _ _)
  obtain ⟨k2, k3⟩ := xy_cells HG.out.2.1 (Below.refl _ _)
  have HB := Lib.hid (fun w => bothValid_no al ah bl bh h w)
  clear h
  go_enter Tryz.func10, Tryz.ntmps10
  go_wp2_with fail
  rw [← HW0.out]
  refine (HB.out _).mono ?_
  rintro e w1 ⟨rfl, hbb⟩
  obtain ⟨m0, m1⟩ := xy_cells HG.out.2.2 hbb
  have mf := xy_frozen HG.out.2.2 hbb
  go_wp2
  refine bodyPost_ret (v := .tuple #[.agg #[.int .i64 0, .int .i64 0], .int .i64 2]) (by simp [results, Tryz.results10, go_sem, m0, m1]) rfl ⟨rfl, ?_⟩
  exact Below.setCell (p := ⟨w.heap.size + 1 + 1, 1, none⟩) (Below.setCell (p := ⟨w.heap.size + 1 + 1, 0, none⟩) (hw0.trans (hbb.mono hw0.size)) (by show w.heap.size ≤ w.heap.size + 1 + 1; omega) _) (by show w.heap.size ≤ w.heap.size + 1 + 1; omega) _

set_option maxRecDepth 100000 in
set_option maxHeartbeats 4000000 in
theorem meet_arg (al ah bl bh : Int) (h : ¬ (okS al ah ∧ okS bl bh)) (w : World) :
    Calls Tryz.prog 12 #[.agg #[.int .i64 al, .int .i64 ah], .agg #[.int .i64 bl, .int .i64 bh]] w (RetSBE w 0 0 false 2) := by
  obtain ⟨W0, HW0, hw0, HG⟩ := S0ex w al ah bl bh
  obtain ⟨k0, k1⟩ := xy_cells HG.out.1 (Below.refl _ _)
  obtain ⟨k2, k3⟩ := xy_cells HG.out.2.1 (Below.refl _ _)
  have HB := Lib.hid (fun w => bothValid_no al ah bl bh h w)
  clear h
  go_enter Tryz.func12, Tryz.ntmps12
  go_wp2_with fail
  rw [← HW0.out]
  refine (HB.out _).mono ?_
  rintro e w1 ⟨rfl, hbb⟩
  obtain ⟨m0, m1⟩ := xy_cells HG.out.2.2 hbb
  have mf := xy_frozen HG.out.2.2 hbb
  go_wp2
  refine bodyPost_ret (v := .tuple #[.agg #[.int .i64 0, .int .i64 0], .bool false, .int .i64 2]) (by simp [results, Tryz.results12, go_sem, m0, m1]) rfl ⟨rfl, ?_⟩
  exact Below.setCell (p := ⟨w.heap.size + 1 + 1, 1, none⟩) (Below.setCell (p := ⟨w.heap.size + 1 + 1, 0, none⟩) (hw0.trans (hbb.mono hw0.size)) (by show w.heap.size ≤ w.heap.size + 1 + 1; omega) _) (by show w.heap.size ≤ w.heap.size + 1 + 1; omega) _

set_option maxRecDepth 100000 in
set_option maxHeartbeats 4000000 in
theorem gap_arg (al ah bl bh : Int) (h : ¬ (okS al ah ∧ okS bl bh)) (w : World) :
    Calls Tryz.prog 14 #[.agg #[.int .i64 al, .int .i64 ah], .agg #[.int .i64 bl, .int .i64 bh]] w (RetIE w 0 2) := by
  obtain ⟨W0, HW0, hw0, HG⟩ := S0ex2 w al ah bl bh
  obtain ⟨k0, k1⟩ := xy_cells HG.out.1 (Below.refl _ _)
  obtain ⟨k2, k3⟩ := xy_cells HG.out.2 (Below.refl _ _)
  have HB := Lib.hid (fun w => bothValid_no al ah bl bh h w)
  clear h
  go_enter Tryz.func14, Tryz.ntmps14
  go_wp2_with fail
  rw [← HW0.out]
  refine (HB.out _).mono ?_
  rintro e w1 ⟨rfl, hbb⟩
  go_wp2
  go_ret2
  exact ⟨rfl, hw0.trans (hbb.mono hw0.size)⟩

set_option maxRecDepth 100000 in
set_option maxHeartbeats 4000000 in
theorem dhull_arg (al ah bl bh : Int) (h : ¬ (okS al ah ∧ okS bl bh)) (w : World) :
    Calls Tryz.prog 11 #[.agg #[.int .i64 al, .int .i64 ah], .agg #[.int .i64 bl, .int .i64 bh]] w (RetSE w 0 0 2) := by
  obtain ⟨W0, HW0, hw0, HG⟩ := S0ex w al ah bl bh
  obtain ⟨k0, k1⟩ := xy_cells HG.out.1 (Below.refl _ _)
  by_cases ha : okS al ah
  · have HB := Lib.hid (fun hb => h ⟨ha, hb⟩)
    have HA := Lib.hid ha
    clear h ha
    go_enter Tryz.func11, Tryz.ntmps11
    go_wp2_with fail
    rw [← HW0.out]
    refine (rvyes HA.out _).mono ?_
    rintro e w1 ⟨rfl, hb1⟩
    obtain ⟨k2, k3⟩ := xy_cells HG.out.2.1 hb1
    go_wp2_with fail
    refine (rvno HB.out _).mono ?_
    rintro e w2 ⟨rfl, hb2⟩
    have hbb := hb1.trans (hb2.mono hb1.size)
    obtain ⟨m0, m1⟩ := xy_cells HG.out.2.2 hbb
    have mf := xy_frozen HG.out.2.2 hbb
    go_wp2
    refine bodyPost_ret (v := .tuple #[.agg #[.int .i64 0, .int .i64 0], .int .i64 2]) (by simp [results, Tryz.results11, go_sem, m0, m1]) rfl ⟨rfl, ?_⟩
    exact Below.setCell (p := ⟨w.heap.size + 1 + 1, 1, none⟩) (Below.setCell (p := ⟨w.heap.size + 1 + 1, 0, none⟩) (hw0.trans (hbb.mono hw0.size)) (by show w.heap.size ≤ w.heap.size + 1 + 1; omega) _) (by show w.heap.size ≤ w.heap.size + 1 + 1; omega) _
  · have HA := Lib.hid ha
    clear h ha
    go_enter Tryz.func11, Tryz.ntmps11
    go_wp2_with fail
    rw [← HW0.out]
    refine (rvno HA.out _).mono ?_
    rintro e w1 ⟨rfl, hbb⟩
    obtain ⟨m0, m1⟩ := xy_cells HG.out.2.2 hbb
    have mf := xy_frozen HG.out.2.2 hbb
    go_wp2
    refine bodyPost_ret (v := .tuple #[.agg #[.int .i64 0, .int .i64 0], .int .i64 2]) (by simp [results, Tryz.results11, go_sem, m0, m1]) rfl ⟨rfl, ?_⟩
    exact Below.setCell (p := ⟨w.heap.size + 1 + 1, 1, none⟩) (Below.setCell (p := ⟨w.heap.size + 1 + 1, 0, none⟩) (hw0.trans (hbb.mono hw0.size)) (by show w.heap.size ≤ w.heap.size + 1 + 1; omega) _) (by show w.heap.size ≤ w.heap.size + 1 + 1; omega) _

set_option maxRecDepth 100000 in
set_option maxHeartbeats 4000000 in
theorem dmeet_arg (al ah bl bh : Int) (h : ¬ (okS al ah ∧ okS bl bh)) (w : World) :
    Calls Tryz.prog 13 #[.agg #[.int .i64 al, .int .i64 ah], .agg #[.int .i64 bl, .int .i64 bh]] w (RetSBE w 0 0 false 2) := by
  obtain ⟨W0, HW0, hw0, HG⟩ := S0ex w al ah bl bh
  obtain ⟨k0, k1⟩ := xy_cells HG.out.1 (Below.refl _ _)
  by_cases ha : okS al ah
  · have HB := Lib.hid (fun hb => h ⟨ha, hb⟩)
    have HA := Lib.hid ha
    clear h ha
    go_enter Tryz.func13, Tryz.ntmps13
    go_wp2_with fail
    rw [← HW0.out]
    refine (rvyes HA.out _).mono ?_
    rintro e w1 ⟨rfl, hb1⟩
    obtain ⟨k2, k3⟩ := xy_cells HG.out.2.1 hb1
    go_wp2_with fail
    refine (rvno HB.out _).mono ?_
    rintro e w2 ⟨rfl, hb2⟩
    have hbb := hb1.trans (hb2.mono hb1.size)
    obtain ⟨m0, m1⟩ := xy_cells HG.out.2.2 hbb
    have mf := xy_frozen HG.out.2.2 hbb
    go_wp2
    refine bodyPost_ret (v := .tuple #[.agg #[.int .i64 0, .int .i64 0], .bool false, .int .i64 2]) (by simp [results, Tryz.results13, go_sem, m0, m1]) rfl ⟨rfl, ?_⟩
    exact Below.setCell (p := ⟨w.heap.size + 1 + 1, 1, none⟩) (Below.setCell (p := ⟨w.heap.size + 1 + 1, 0, none⟩) (hw0.trans (hbb.mono hw0.size)) (by show w.heap.size ≤ w.heap.size + 1 + 1; omega) _) (by show w.heap.size ≤ w.heap.size + 1 + 1; omega) _
  · have HA := Lib.hid ha
    clear h ha
    go_enter Tryz.func13, Tryz.ntmps13
    go_wp2_with fail
    rw [← HW0.out]
    refine (rvno HA.out _).mono ?_
    rintro e w1 ⟨rfl, hbb⟩
    obtain ⟨m0, m1⟩ := xy_cells HG.out.2.2 hbb
    have mf := xy_frozen HG.out.2.2 hbb
    go_wp2
    refine bodyPost_ret (v := .tuple #[.agg #[.int .i64 0, .int .i64 0], .bool false, .int .i64 2]) (by simp [results, Tryz.results13, go_sem, m0, m1]) rfl ⟨rfl, ?_⟩
    exact Below.setCell (p := ⟨w.heap.size + 1 + 1, 1, none⟩) (Below.setCell (p := ⟨w.heap.size + 1 + 1, 0, none⟩) (hw0.trans (hbb.mono hw0.size)) (by show w.heap.size ≤ w.heap.size + 1 + 1; omega) _) (by show w.heap.size ≤ w.heap.size + 1 + 1; omega) _

set_option maxRecDepth 100000 in
set_option maxHeartbeats 4000000 in
theorem dgap_arg (al ah bl bh : Int) (h : ¬ (okS al ah ∧ okS bl bh)) (w : World) :
    Calls Tryz.prog 15 #[.agg #[.int .i64 al, .int .i64 ah], .agg #[.int .i64 bl, .int .i64 bh]] w (RetIE w 0 2) := by
  obtain ⟨W0, HW0, hw0, HG⟩ := S0ex2 w al ah bl bh
  obtain ⟨k0, k1⟩ := xy_cells HG.out.1 (Below.refl _ _)
  by_cases ha : okS al ah
  · have HB := Lib.hid (fun hb => h ⟨ha, hb⟩)
    have HA := Lib.hid ha
    clear h ha
    go_enter Tryz.func15, Tryz.ntmps15
    go_wp2_with fail
    rw [← HW0.out]
    refine (rvyes HA.out _).mono ?_
    rintro e w1 ⟨rfl, hb1⟩
    obtain ⟨k2, k3⟩ := xy_cells HG.out.2 hb1
    go_wp2_with fail
    refine (rvno HB.out _).mono ?_
    rintro e w2 ⟨rfl, hb2⟩
    have hbb := hb1.trans (hb2.mono hb1.size)
    go_wp2
    go_ret2
    exact ⟨rfl, hw0.trans (hbb.mono hw0.size)⟩
  · have HA := Lib.hid ha
    clear h ha
    go_enter Tryz.func15, Tryz.ntmps15
    go_wp2_with fail
    rw [← HW0.out]
    refine (rvno HA.out _).mono ?_
    rintro e w1 ⟨rfl, hbb⟩
    go_wp2
    go_ret2
    exact ⟨rfl, hw0.trans (hbb.mono hw0.size)⟩

set_option maxRecDepth 100000 in
set_option maxHeartbeats 4000000 in
theorem doperate_arg (op : Int) (al ah bl bh : Int) (h : ¬ (okS al ah ∧ okS bl bh)) (w : World) :
    Calls Tryz.prog 5 #[.int .i64 op, .agg #[.int .i64 al, .int .i64 ah], .agg #[.int .i64 bl, .int .i64 bh]] w (RetSE w 0 0 2) := by
  obtain ⟨W0, HW0, hw0, HG⟩ := S0ex w al ah bl bh
  obtain ⟨k0, k1⟩ := xy_cells HG.out.1 (Below.refl _ _)
  by_cases ha : okS al ah
  · have HB := Lib.hid (fun hb => h ⟨ha, hb⟩)
    have HA := Lib.hid ha
    clear h ha
    go_enter Tryz.func5, Tryz.ntmps5
    go_wp2_with fail
    rw [← HW0.out]
    refine (rvyes HA.out _).mono ?_
    rintro e w1 ⟨rfl, hb1⟩
    obtain ⟨k2, k3⟩ := xy_cells HG.out.2.1 hb1
    go_wp2_with fail
    refine (rvno HB.out _).mono ?_
    rintro e w2 ⟨rfl, hb2⟩
    have hbb := hb1.trans (hb2.mono hb1.size)
    obtain ⟨m0, m1⟩ := xy_cells HG.out.2.2 hbb
    have mf := xy_frozen HG.out.2.2 hbb
    go_wp2
    refine bodyPost_ret (v := .tuple #[.agg #[.int .i64 0, .int .i64 0], .int .i64 2]) (by simp [results, Tryz.results5, go_sem, m0, m1]) rfl ⟨rfl, ?_⟩
    exact Below.setCell (p := ⟨w.heap.size + 1 + 1, 1, none⟩) (Below.setCell (p := ⟨w.heap.size + 1 + 1, 0, none⟩) (hw0.trans (hbb.mono hw0.size)) (by show w.heap.size ≤ w.heap.size + 1 + 1; omega) _) (by show w.heap.size ≤ w.heap.size + 1 + 1; omega) _
  · have HA := Lib.hid ha
    clear h ha
    go_enter Tryz.func5, Tryz.ntmps5
    go_wp2_with fail
    rw [← HW0.out]
    refine (rvno HA.out _).mono ?_
    rintro e w1 ⟨rfl, hbb⟩
    obtain ⟨m0, m1⟩ := xy_cells HG.out.2.2 hbb
    have mf := xy_frozen HG.out.2.2 hbb
    go_wp2
    refine bodyPost_ret (v := .tuple #[.agg #[.int .i64 0, .int .i64 0], .int .i64 2]) (by simp [results, Tryz.results5, go_sem, m0, m1]) rfl ⟨rfl, ?_⟩
    exact Below.setCell (p := ⟨w.heap.size + 1 + 1, 1, none⟩) (Below.setCell (p := ⟨w.heap.size + 1 + 1, 0, none⟩) (hw0.trans (hbb.mono hw0.size)) (by show w.heap.size ≤ w.heap.size + 1 + 1; omega) _) (by show w.heap.size ≤ w.heap.size + 1 + 1; omega) _

end Go.Proofs.YtdpmfenikomfkaaGreat
