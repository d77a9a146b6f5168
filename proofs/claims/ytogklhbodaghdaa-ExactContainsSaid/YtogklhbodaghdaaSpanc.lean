/-
  Plus, Minus of spans.
-/
import Derived.Test.YtogklhbodaghdaaSpanDefs
namespace Go.Proofs.Ytogklhbodaghdaa
open Go.RowKit

set_option maxRecDepth 100000 in
set_option maxHeartbeats 2000000 in
theorem inRange_ok (l h : Int) (h1 : -1152921504606846976 ≤ l) (h2 : l ≤ h) (h3 : h ≤ 1152921504606846976) (w : World) :
    Calls Try.prog 18 #[.int .i64 l, .int .i64 h] w (RetSE w l h 0) := by
  go_enter Try.func18, Try.ntmps18
  go_wp2
  refine bodyPost_ret (v := .tuple #[.agg #[.int .i64 l, .int .i64 h], .int .i64 0]) (by simp [results, Try.results18, go_sem]) rfl ⟨rfl, ?_⟩
  repeat (refine Below.alloc ?_ (by simp <;> omega) _)
  exact Below.refl _ _

set_option maxRecDepth 100000 in
set_option maxHeartbeats 1000000 in
theorem inRange_bad (l h : Int) (hn : ¬ okS l h) (hl : l ≤ h) (w : World) :
    Calls Try.prog 18 #[.int .i64 l, .int .i64 h] w (RetSE w 0 0 3) := by
  unfold okS at hn
  by_cases h1 : -1152921504606846976 ≤ l
  · have h3 : ¬ h ≤ 1152921504606846976 := by omega
    have d3 : decide (h ≤ 1152921504606846976) = false := by simpa using h3
    clear hn
    go_enter Try.func18, Try.ntmps18
    go_wp2
    refine bodyPost_ret (v := .tuple #[.agg #[.int .i64 0, .int .i64 0], .int .i64 3]) (by simp [results, Try.results18, go_sem]) rfl ⟨rfl, ?_⟩
    repeat (refine Below.alloc ?_ (by simp <;> omega) _)
    exact Below.refl _ _
  · have d1 : decide (-1152921504606846976 ≤ l) = false := by simpa using h1
    clear hn
    go_enter Try.func18, Try.ntmps18
    go_wp2
    refine bodyPost_ret (v := .tuple #[.agg #[.int .i64 0, .int .i64 0], .int .i64 3]) (by simp [results, Try.results18, go_sem]) rfl ⟨rfl, ?_⟩
    repeat (refine Below.alloc ?_ (by simp <;> omega) _)
    exact Below.refl _ _

set_option maxRecDepth 100000 in
set_option maxHeartbeats 1000000 in
theorem bothValid_yes (al ah bl bh : Int) (ha : okS al ah) (hb : okS bl bh) (w : World) :
    Calls Try.prog 17 #[.agg #[.int .i64 al, .int .i64 ah], .agg #[.int .i64 bl, .int .i64 bh]] w (RetB w true) := by
  obtain ⟨a1, a2, a3⟩ := ha
  obtain ⟨b1, b2, b3⟩ := hb
  go_enter Try.func17, Try.ntmps17
  go_wp2
  go_ret
  refine ⟨by simp [*], ?_⟩
  repeat (refine Below.alloc ?_ (by simp <;> omega) _)
  exact Below.refl _ _

theorem S0ex (w : World) (al ah bl bh : Int) : ∃ W0, Hid (W0 = ((w.alloc (.cells #[.int .i64 al, .int .i64 ah] 23)).alloc (.cells #[.int .i64 bl, .int .i64 bh] 23)).alloc (.cells #[.int .i64 0, .int .i64 0] 23)) ∧ Below w.heap.size w W0 ∧
    Hid (W0.heap[w.heap.size]? = some (.cells #[.int .i64 al, .int .i64 ah] 23 (0, 0)) ∧ W0.heap[w.heap.size + 1]? = some (.cells #[.int .i64 bl, .int .i64 bh] 23 (0, 0)) ∧ W0.heap[w.heap.size + 1 + 1]? = some (.cells #[.int .i64 0, .int .i64 0] 23 (0, 0))) :=
  ⟨_, rfl, (((Below.refl _ _).alloc (Nat.le_refl _) _).alloc (by simp) _).alloc (by simp; omega) _, alloc3 w _ _ _⟩

theorem xy_frozen {W0 w1 : World} {g : Nat} {a b : Value} {T : TypeId} (hblk : W0.heap[g]? = some (.cells #[a, b] T (0, 0))) (h : Below W0.heap.size W0 w1) : ∀ i, w1.frozen? ⟨g, i, none⟩ = false := by
  have hlt : g < W0.heap.size := (Array.getElem?_eq_some_iff.1 hblk).1
  exact fun i => frozen_of_row _ _ _ _ _ ((h.block g hlt).trans hblk)

set_option maxRecDepth 100000 in
set_option maxHeartbeats 2000000 in
theorem plus_ok (al ah bl bh : Int) (ha : okS al ah) (hb : okS bl bh) (h : okS (al + bl) (ah + bh)) (w : World) :
    Calls Try.prog 8 #[.agg #[.int .i64 al, .int .i64 ah], .agg #[.int .i64 bl, .int .i64 bh]] w (RetSE w (al + bl) (ah + bh) 0) := by
  obtain ⟨W0, HW0, hw0, HG⟩ := S0ex w al ah bl bh
  have HO := Lib.hid (And.intro ha (And.intro hb h))
  obtain ⟨a1, a2, a3⟩ := ha
  obtain ⟨b1, b2, b3⟩ := hb
  clear h
  go_enter Try.func8, Try.ntmps8
  go_wp2_with fail
  rw [← HW0.out]
  refine (bothValid_yes al ah bl bh HO.out.1 HO.out.2.1 _).mono ?_
  rintro e w1 ⟨rfl, hb1⟩
  obtain ⟨k0, k1⟩ := xy_cells HG.out.1 hb1
  obtain ⟨k2, k3⟩ := xy_cells HG.out.2.1 hb1
  go_wp2_with fail
  refine (inRange_ok (al + bl) (ah + bh) HO.out.2.2.1 HO.out.2.2.2.1 HO.out.2.2.2.2 _).mono ?_
  rintro e w2 ⟨rfl, hb2⟩
  have hbb : Below W0.heap.size W0 w2 := hb1.trans (hb2.mono hb1.size)
  obtain ⟨m0, m1⟩ := xy_cells HG.out.2.2 hbb
  have mf := xy_frozen HG.out.2.2 hbb
  go_wp2
  refine bodyPost_ret (v := .tuple #[.agg #[.int .i64 (al + bl), .int .i64 (ah + bh)], .int .i64 0]) (by simp [results, Try.results8, go_sem, m0, m1]) rfl ⟨rfl, ?_⟩
  exact Below.setCell (p := ⟨w.heap.size + 1 + 1, 1, none⟩) (Below.setCell (p := ⟨w.heap.size + 1 + 1, 0, none⟩) (hw0.trans (hbb.mono hw0.size)) (by show w.heap.size ≤ w.heap.size + 1 + 1; omega) _) (by show w.heap.size ≤ w.heap.size + 1 + 1; omega) _

set_option maxRecDepth 100000 in
set_option maxHeartbeats 2000000 in
theorem plus_bad (al ah bl bh : Int) (ha : okS al ah) (hb : okS bl bh) (h : ¬ okS (al + bl) (ah + bh)) (w : World) :
    Calls Try.prog 8 #[.agg #[.int .i64 al, .int .i64 ah], .agg #[.int .i64 bl, .int .i64 bh]] w (RetSE w (0) (0) 3) := by
  obtain ⟨W0, HW0, hw0, HG⟩ := S0ex w al ah bl bh
  have HO := Lib.hid (And.intro ha (And.intro hb h))
  obtain ⟨a1, a2, a3⟩ := ha
  obtain ⟨b1, b2, b3⟩ := hb
  clear h
  go_enter Try.func8, Try.ntmps8
  go_wp2_with fail
  rw [← HW0.out]
  refine (bothValid_yes al ah bl bh HO.out.1 HO.out.2.1 _).mono ?_
  rintro e w1 ⟨rfl, hb1⟩
  obtain ⟨k0, k1⟩ := xy_cells HG.out.1 hb1
  obtain ⟨k2, k3⟩ := xy_cells HG.out.2.1 hb1
  go_wp2_with fail
  refine (inRange_bad (al + bl) (ah + bh) HO.out.2.2 (by omega) _).mono ?_
  rintro e w2 ⟨rfl, hb2⟩
  have hbb : Below W0.heap.size W0 w2 := hb1.trans (hb2.mono hb1.size)
  obtain ⟨m0, m1⟩ := xy_cells HG.out.2.2 hbb
  have mf := xy_frozen HG.out.2.2 hbb
  go_wp2
  refine bodyPost_ret (v := .tuple #[.agg #[.int .i64 (0), .int .i64 (0)], .int .i64 3]) (by simp [results, Try.results8, go_sem, m0, m1]) rfl ⟨rfl, ?_⟩
  exact Below.setCell (p := ⟨w.heap.size + 1 + 1, 1, none⟩) (Below.setCell (p := ⟨w.heap.size + 1 + 1, 0, none⟩) (hw0.trans (hbb.mono hw0.size)) (by show w.heap.size ≤ w.heap.size + 1 + 1; omega) _) (by show w.heap.size ≤ w.heap.size + 1 + 1; omega) _

set_option maxRecDepth 100000 in
set_option maxHeartbeats 2000000 in
theorem minus_ok (al ah bl bh : Int) (ha : okS al ah) (hb : okS bl bh) (h : okS (al - bh) (ah - bl)) (w : World) :
    Calls Try.prog 10 #[.agg #[.int .i64 al, .int .i64 ah], .agg #[.int .i64 bl, .int .i64 bh]] w (RetSE w (al - bh) (ah - bl) 0) := by
  obtain ⟨W0, HW0, hw0, HG⟩ := S0ex w al ah bl bh
  have HO := Lib.hid (And.intro ha (And.intro hb h))
  obtain ⟨a1, a2, a3⟩ := ha
  obtain ⟨b1, b2, b3⟩ := hb
  clear h
  go_enter Try.func10, Try.ntmps10
  go_wp2_with fail
  rw [← HW0.out]
  refine (bothValid_yes al ah bl bh HO.out.1 HO.out.2.1 _).mono ?_
  rintro e w1 ⟨rfl, hb1⟩
  obtain ⟨k0, k1⟩ := xy_cells HG.out.1 hb1
  obtain ⟨k2, k3⟩ := xy_cells HG.out.2.1 hb1
  go_wp2_with fail
  refine (inRange_ok (al - bh) (ah - bl) HO.out.2.2.1 HO.out.2.2.2.1 HO.out.2.2.2.2 _).mono ?_
  rintro e w2 ⟨rfl, hb2⟩
  have hbb : Below W0.heap.size W0 w2 := hb1.trans (hb2.mono hb1.size)
  obtain ⟨m0, m1⟩ := xy_cells HG.out.2.2 hbb
  have mf := xy_frozen HG.out.2.2 hbb
  go_wp2
  refine bodyPost_ret (v := .tuple #[.agg #[.int .i64 (al - bh), .int .i64 (ah - bl)], .int .i64 0]) (by simp [results, Try.results10, go_sem, m0, m1]) rfl ⟨rfl, ?_⟩
  exact Below.setCell (p := ⟨w.heap.size + 1 + 1, 1, none⟩) (Below.setCell (p := ⟨w.heap.size + 1 + 1, 0, none⟩) (hw0.trans (hbb.mono hw0.size)) (by show w.heap.size ≤ w.heap.size + 1 + 1; omega) _) (by show w.heap.size ≤ w.heap.size + 1 + 1; omega) _

set_option maxRecDepth 100000 in
set_option maxHeartbeats 2000000 in
theorem minus_bad (al ah bl bh : Int) (ha : okS al ah) (hb : okS bl bh) (h : ¬ okS (al - bh) (ah - bl)) (w : World) :
    Calls Try.prog 10 #[.agg #[.int .i64 al, .int .i64 ah], .agg #[.int .i64 bl, .int .i64 bh]] w (RetSE w (0) (0) 3) := by
  obtain ⟨W0, HW0, hw0, HG⟩ := S0ex w al ah bl bh
  have HO := Lib.hid (And.intro ha (And.intro hb h))
  obtain ⟨a1, a2, a3⟩ := ha
  obtain ⟨b1, b2, b3⟩ := hb
  clear h
  go_enter Try.func10, Try.ntmps10
  go_wp2_with fail
  rw [← HW0.out]
  refine (bothValid_yes al ah bl bh HO.out.1 HO.out.2.1 _).mono ?_
  rintro e w1 ⟨rfl, hb1⟩
  obtain ⟨k0, k1⟩ := xy_cells HG.out.1 hb1
  obtain ⟨k2, k3⟩ := xy_cells HG.out.2.1 hb1
  go_wp2_with fail
  refine (inRange_bad (al - bh) (ah - bl) HO.out.2.2 (by omega) _).mono ?_
  rintro e w2 ⟨rfl, hb2⟩
  have hbb : Below W0.heap.size W0 w2 := hb1.trans (hb2.mono hb1.size)
  obtain ⟨m0, m1⟩ := xy_cells HG.out.2.2 hbb
  have mf := xy_frozen HG.out.2.2 hbb
  go_wp2
  refine bodyPost_ret (v := .tuple #[.agg #[.int .i64 (0), .int .i64 (0)], .int .i64 3]) (by simp [results, Try.results10, go_sem, m0, m1]) rfl ⟨rfl, ?_⟩
  exact Below.setCell (p := ⟨w.heap.size + 1 + 1, 1, none⟩) (Below.setCell (p := ⟨w.heap.size + 1 + 1, 0, none⟩) (hw0.trans (hbb.mono hw0.size)) (by show w.heap.size ≤ w.heap.size + 1 + 1; omega) _) (by show w.heap.size ≤ w.heap.size + 1 + 1; omega) _

end Go.Proofs.Ytogklhbodaghdaa
