/-
  Time and Energy, the program's and the document's, of any echo.
-/
import Derived.Test.YtkcagifljelfoaaVAny
import Derived.Test.YtkcagifljelfoaaVFlat
namespace Go.Proofs.Ytkcagifljelfoaa
open Go.RowKit

/-- The range of an echo lies within the samples. -/
def partZ (fr to : Int) (n : Nat) : Prop := 0 ≤ fr ∧ fr < to ∧ to ≤ n
instance (fr to : Int) (n : Nat) : Decidable (partZ fr to n) := by unfold partZ; infer_instance
theorem no_end {w : World} {o : Obj} {b : Bool} (hb : b = false) : RetB w false (.returned (.bool b)) (w.alloc o) := by
  subst hb
  exact ⟨rfl, (Below.refl _ w).alloc (Nat.le_refl _) _⟩

set_option maxRecDepth 100000 in
set_option maxHeartbeats 1000000 in
theorem part_no (fr to pk lv tp : Int) (A : Option Addr) (n c : Nat) (hn : (n : Int) ≤ 9223372036854775807) (h : ¬ partZ fr to n) (w : World) :
    Calls Try.prog 37 #[.slice A n c, .agg #[.int .i64 fr, .int .i64 to, .int .i64 pk, .int .i64 lv, .int .i64 tp]] w (RetB w false) := by
  unfold partZ at h
  by_cases h1 : 0 ≤ fr
  · by_cases h2 : fr < to
    · have h3 : ¬ to ≤ n := by omega
      clear h
      go_enter Try.func37, Try.ntmps37
      go_wp2
      go_ret
      exact no_end (by simp [*])
    · clear h
      go_enter Try.func37, Try.ntmps37
      go_wp2
      go_ret
      exact no_end (by simp [*])
  · clear h
    go_enter Try.func37, Try.ntmps37
    go_wp2
    go_ret
    exact no_end (by simp [*])

set_option maxRecDepth 100000 in
set_option maxHeartbeats 1000000 in
theorem within_any (fr to pk lv tp : Int) (A : Option Addr) (n c : Nat) (hn : (n : Int) ≤ 9223372036854775807) (w : World) :
    Calls Try.prog 42 #[.slice A n c, .agg #[.int .i64 fr, .int .i64 to, .int .i64 pk, .int .i64 lv, .int .i64 tp]] w (RetB w (decide (partZ fr to n))) := by
  by_cases h : partZ fr to n
  · rw [decide_eq_true h]
    obtain ⟨h1, h2, h3⟩ := h
    have h4 : fr < n := by omega
    go_enter Try.func42, Try.ntmps42
    go_wp2
    go_ret
    refine ⟨by simp [*], ?_⟩
    exact (Below.refl _ w).alloc (Nat.le_refl _) _
  · rw [decide_eq_false h]
    unfold partZ at h
    by_cases h1 : 0 ≤ fr
    · by_cases h4 : fr < n
      · by_cases h2 : fr < to
        · have h3 : ¬ to ≤ n := by omega
          clear h
          go_enter Try.func42, Try.ntmps42
          go_wp2
          go_ret
          exact no_end (by simp [*])
        · clear h
          go_enter Try.func42, Try.ntmps42
          go_wp2
          go_ret
          exact no_end (by simp [*])
      · clear h
        go_enter Try.func42, Try.ntmps42
        go_wp2
        go_ret
        exact no_end (by simp [*])
    · clear h
      go_enter Try.func42, Try.ntmps42
      go_wp2
      go_ret
      exact no_end (by simp [*])

set_option maxRecDepth 100000 in
set_option maxHeartbeats 2000000 in
theorem time_none (zs : List Int) (hok : okZ zs) (fr to : Nat) (pk lv tp : Int) (A : Option Addr) (n c : Nat) (w : World) (hx : IW w w.heap.size (.slice A n c) zs) (h1 : fr < to) (h2 : to ≤ n)
    (hlow : ∀ j, fr ≤ j → j < to → ith zs j < lv) :
    Calls Try.prog 22 #[.slice A n c, .agg #[.int .i64 (fr : Int), .int .i64 (to : Int), .int .i64 pk, .int .i64 lv, .int .i64 tp]] w
      (RetSE w 0 0 2) := by
  have hl := hx.len
  have hn : n ≤ 256 := by have := hok.1; omega
  obtain ⟨b, o, rfl, hb, hc⟩ := hx.at_ (by omega)
  have hcap := hx.cap
  unfold maxLen at hcap
  obtain ⟨W0, hW0⟩ : ∃ W0, W0 = (w.alloc (.cells #[.int .i64 (fr : Int), .int .i64 (to : Int), .int .i64 pk, .int .i64 lv, .int .i64 tp] 50)).alloc (.cells #[.int .i64 0, .int .i64 0] 27) := ⟨_, rfl⟩
  have hb0 : Below w.heap.size w W0 := by rw [hW0]; exact ((Below.refl _ w).alloc (Nat.le_refl _) _).alloc (by simp) _
  have g0 : W0.heap[w.heap.size]? = some (.cells #[.int .i64 (fr : Int), .int .i64 (to : Int), .int .i64 pk, .int .i64 lv, .int .i64 tp] 50 (0, 0)) := by rw [hW0]; exact heap_alloc2_old _ _ _
  have g1 : W0.heap[w.heap.size + 1]? = some (.cells #[.int .i64 0, .int .i64 0] 27 (0, 0)) := by rw [hW0]; exact heap_alloc2_new _ _ _
  have hV := validSamples_any zs _ n c _ W0 (hx.below hb0)
  rw [decide_eq_true hok] at hV
  unfold RetSame at hV
  have hP := part_yes (fr : Int) (to : Int) pk lv tp (some ⟨b, o, none⟩) n c (by omega) (by omega) (by omega) (by omega) W0
  have p0 : W0.cell? ⟨w.heap.size, 0, none⟩ = some (.int .i64 (fr : Int)) := cell_of_row _ _ _ _ _ _ g0
  have p1 : W0.cell? ⟨w.heap.size, 1, none⟩ = some (.int .i64 (to : Int)) := cell_of_row _ _ _ _ _ _ g0
  have p2 : W0.cell? ⟨w.heap.size, 2, none⟩ = some (.int .i64 pk) := cell_of_row _ _ _ _ _ _ g0
  have p3 : W0.cell? ⟨w.heap.size, 3, none⟩ = some (.int .i64 lv) := cell_of_row _ _ _ _ _ _ g0
  have p4 : W0.cell? ⟨w.heap.size, 4, none⟩ = some (.int .i64 tp) := cell_of_row _ _ _ _ _ _ g0
  have HX := Lib.hid (And.intro hx (And.intro hok (And.intro hl (And.intro hb0 (And.intro g0 g1)))))
  have HW0 := Lib.hid hW0
  clear hx hok hl hb0 g0 g1 hW0
  rw [HW0.out] at p0 p1 p2 p3 p4 hV
  have hlow' := Lib.hid hlow
  clear hlow hc
  go_enter Try.func22, Try.ntmps22
  go_wp2_with (first
    | (go_at_call 36; refine hV.mono ?_; rintro e w' ⟨rfl, rfl⟩)
    | (go_at_call 37; rw [← HW0.out]; refine hP.mono ?_; rintro e w1 ⟨rfl, hb1⟩; have g1 := (hb1.block _ (Array.getElem?_eq_some_iff.1 HX.out.2.2.2.2.1).1).trans HX.out.2.2.2.2.1; have g2 := (hb1.block _ (Array.getElem?_eq_some_iff.1 HX.out.2.2.2.2.2).1).trans HX.out.2.2.2.2.2; have k0 : w1.cell? ⟨w.heap.size, 0, none⟩ = some (.int .i64 (fr : Int)) := cell_of_row _ _ _ _ _ _ g1; have k1 : w1.cell? ⟨w.heap.size, 1, none⟩ = some (.int .i64 (to : Int)) := cell_of_row _ _ _ _ _ _ g1; have k3 : w1.cell? ⟨w.heap.size, 3, none⟩ = some (.int .i64 lv) := cell_of_row _ _ _ _ _ _ g1; have m0 : w1.cell? ⟨w.heap.size + 1, 0, none⟩ = some (.int .i64 0) := cell_of_row _ _ _ _ _ _ g2; have m1 : w1.cell? ⟨w.heap.size + 1, 1, none⟩ = some (.int .i64 0) := cell_of_row _ _ _ _ _ _ g2; have mf : ∀ j, w1.frozen? ⟨w.heap.size + 1, j, none⟩ = false := fun j => frozen_of_row _ _ _ _ _ g2; have hbw : Below w.heap.size w w1 := HX.out.2.2.2.1.trans (hb1.mono HX.out.2.2.2.1.size); have hIx := index_any ((zs.drop fr).take (to - fr)) lv (some ⟨b, o + fr, none⟩) (to - fr) (c - fr) _ w.heap.size w1 (iw_cut (HX.out.1.below hbw) h1 h2) k3 (to - fr) (Nat.le_refl _) (fun j hj => by rw [ith_cut (by omega)]; exact hlow'.out _ (by omega) (by omega)) (fun hp' => absurd hp' (Nat.lt_irrefl _)) (-1) (by rw [if_neg (Nat.lt_irrefl _)]); have HW1 := Lib.hid (And.intro hbw (And.intro g1 g2)); clear hb1 g1 g2 hbw p0 p1 p2 p3 p4)
    | (go_at_call 38; refine hIx.mono ?_; rintro e w' ⟨rfl, rfl⟩; clear hIx))
  clear k0 k1 hV hP
  go_wp2
  have hB := Below.setCell (p := ⟨w.heap.size + 1, 1, none⟩) (Below.setCell (p := ⟨w.heap.size + 1, 0, none⟩) HW1.out.1 (by show w.heap.size ≤ w.heap.size + 1; omega) (.int .i64 0)) (by show w.heap.size ≤ w.heap.size + 1; omega) (.int .i64 0)
  refine bodyPost_ret (v := .tuple #[.agg #[.int .i64 0, .int .i64 0], .int .i64 2]) (by simp [results, Try.results22, go_sem, m0, m1]) rfl ⟨rfl, hB⟩


set_option maxRecDepth 100000 in
set_option maxHeartbeats 2000000 in
theorem time_bad (zs : List Int) (fr to pk lv tp : Int) (A : Option Addr) (n c : Nat) (hn : (n : Int) ≤ 9223372036854775807) (w : World) (hx : IW w w.heap.size (.slice A n c) zs) (hbad : ¬ (okZ zs ∧ partZ fr to n)) :
    Calls Try.prog 22 #[.slice A n c, .agg #[.int .i64 fr, .int .i64 to, .int .i64 pk, .int .i64 lv, .int .i64 tp]] w
      (RetSE w 0 0 2) := by
  obtain ⟨W0, hW0⟩ : ∃ W0, W0 = (w.alloc (.cells #[.int .i64 fr, .int .i64 to, .int .i64 pk, .int .i64 lv, .int .i64 tp] 50)).alloc (.cells #[.int .i64 0, .int .i64 0] 27) := ⟨_, rfl⟩
  have hb0 : Below w.heap.size w W0 := by rw [hW0]; exact ((Below.refl _ w).alloc (Nat.le_refl _) _).alloc (by simp) _
  have g0 : W0.heap[w.heap.size]? = some (.cells #[.int .i64 fr, .int .i64 to, .int .i64 pk, .int .i64 lv, .int .i64 tp] 50 (0, 0)) := by rw [hW0]; exact heap_alloc2_old _ _ _
  have g1 : W0.heap[w.heap.size + 1]? = some (.cells #[.int .i64 0, .int .i64 0] 27 (0, 0)) := by rw [hW0]; exact heap_alloc2_new _ _ _
  have hV := validSamples_any zs _ n c _ W0 (hx.below hb0)
  unfold RetSame at hV
  have p0 : W0.cell? ⟨w.heap.size, 0, none⟩ = some (.int .i64 fr) := cell_of_row _ _ _ _ _ _ g0
  have p1 : W0.cell? ⟨w.heap.size, 1, none⟩ = some (.int .i64 to) := cell_of_row _ _ _ _ _ _ g0
  have p2 : W0.cell? ⟨w.heap.size, 2, none⟩ = some (.int .i64 pk) := cell_of_row _ _ _ _ _ _ g0
  have p3 : W0.cell? ⟨w.heap.size, 3, none⟩ = some (.int .i64 lv) := cell_of_row _ _ _ _ _ _ g0
  have p4 : W0.cell? ⟨w.heap.size, 4, none⟩ = some (.int .i64 tp) := cell_of_row _ _ _ _ _ _ g0
  have HX := Lib.hid (And.intro hb0 (And.intro g0 g1))
  have HW0 := Lib.hid hW0
  clear hx hb0 g0 hW0
  by_cases hok : okZ zs
  · rw [decide_eq_true hok] at hV
    have hP := part_no fr to pk lv tp A n c hn (fun h => hbad ⟨hok, h⟩) W0
    clear hbad hok g1
    rw [HW0.out] at p0 p1 p2 p3 p4 hV
    go_enter Try.func22, Try.ntmps22
    go_wp2_with (first
      | (go_at_call 36; refine hV.mono ?_; rintro e w' ⟨rfl, rfl⟩)
      | (go_at_call 37; rw [← HW0.out]; refine hP.mono ?_; rintro e w1 ⟨rfl, hb1⟩; have g2 := (hb1.block _ (Array.getElem?_eq_some_iff.1 HX.out.2.2).1).trans HX.out.2.2; have m0 : w1.cell? ⟨w.heap.size + 1, 0, none⟩ = some (.int .i64 0) := cell_of_row _ _ _ _ _ _ g2; have m1 : w1.cell? ⟨w.heap.size + 1, 1, none⟩ = some (.int .i64 0) := cell_of_row _ _ _ _ _ _ g2; have mf : ∀ j, w1.frozen? ⟨w.heap.size + 1, j, none⟩ = false := fun j => frozen_of_row _ _ _ _ _ g2; have hbw : Below w.heap.size w w1 := HX.out.1.trans (hb1.mono HX.out.1.size); have HW1 := Lib.hid (And.intro hbw g2); clear hb1 g2 hbw p0 p1 p2 p3 p4))
    have hB := Below.setCell (p := ⟨w.heap.size + 1, 1, none⟩) (Below.setCell (p := ⟨w.heap.size + 1, 0, none⟩) HW1.out.1 (by show w.heap.size ≤ w.heap.size + 1; omega) (.int .i64 0)) (by show w.heap.size ≤ w.heap.size + 1; omega) (.int .i64 0)
    refine bodyPost_ret (v := .tuple #[.agg #[.int .i64 0, .int .i64 0], .int .i64 2]) (by simp [results, Try.results22, go_sem, m0, m1]) rfl ⟨rfl, hB⟩
  · rw [decide_eq_false hok] at hV
    clear hbad hok
    have m0 : W0.cell? ⟨w.heap.size + 1, 0, none⟩ = some (.int .i64 0) := cell_of_row _ _ _ _ _ _ g1
    have m1 : W0.cell? ⟨w.heap.size + 1, 1, none⟩ = some (.int .i64 0) := cell_of_row _ _ _ _ _ _ g1
    have mf : ∀ j, W0.frozen? ⟨w.heap.size + 1, j, none⟩ = false := fun j => frozen_of_row _ _ _ _ _ g1
    clear g1
    rw [HW0.out] at hV
    go_enter Try.func22, Try.ntmps22
    go_wp2_with (go_at_call 36; refine hV.mono ?_; rintro e w' ⟨rfl, rfl⟩; rw [← HW0.out])
    have hB := Below.setCell (p := ⟨w.heap.size + 1, 1, none⟩) (Below.setCell (p := ⟨w.heap.size + 1, 0, none⟩) HX.out.1 (by show w.heap.size ≤ w.heap.size + 1; omega) (.int .i64 0)) (by show w.heap.size ≤ w.heap.size + 1; omega) (.int .i64 0)
    refine bodyPost_ret (v := .tuple #[.agg #[.int .i64 0, .int .i64 0], .int .i64 2]) (by simp [results, Try.results22, go_sem, m0, m1]) rfl ⟨rfl, hB⟩
end Go.Proofs.Ytkcagifljelfoaa
