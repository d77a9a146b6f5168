/-
  Time, where the crossing is cut off; what Time says of an echo that Echoes found.
-/
import Derived.Test.YtkcagifljelfoaaVTime
import Derived.Test.YtkcagifljelfoaaVGood
namespace Go.Proofs.Ytkcagifljelfoaa
open Go.RowKit

set_option maxRecDepth 100000 in
set_option maxHeartbeats 2000000 in
theorem time_cut1 (zs : List Int) (hok : okZ zs) (fr to i : Nat) (pk lv tp : Int) (A : Option Addr) (n c : Nat) (w : World) (hx : IW w w.heap.size (.slice A n c) zs) (h1 : fr < to) (h2 : to ≤ n) (hi1 : fr ≤ i) (hi2 : i < to) (hi0 : 0 < i)
    (hlow : ∀ j, fr ≤ j → j < i → ith zs j < lv) (hhi : lv ≤ ith zs i) (hpr : lv ≤ ith zs (i - 1)) :
    Calls Try.prog 22 #[.slice A n c, .agg #[.int .i64 (fr : Int), .int .i64 (to : Int), .int .i64 pk, .int .i64 lv, .int .i64 tp]] w
      (RetSE w 0 0 32) := by
  have hl := hx.len
  have hn : n ≤ 256 := by have := hok.1; omega
  have b1 := hok.ith (j := i) (by omega)
  have b2 := hok.ith (j := i - 1) (by omega)
  obtain ⟨b, o, rfl, hb, hc⟩ := hx.at_ (by omega)
  have hcap := hx.cap
  unfold maxLen at hcap
  have ec : (i - 1 : Nat) < n := by omega
  obtain ⟨W0, hW0⟩ : ∃ W0, W0 = (w.alloc (.cells #[.int .i64 (fr : Int), .int .i64 (to : Int), .int .i64 pk, .int .i64 lv, .int .i64 tp] 50)).alloc (.cells #[.int .i64 0, .int .i64 0] 27) := ⟨_, rfl⟩
  have hb0 : Below w.heap.size w W0 := by rw [hW0]; exact ((Below.refl _ w).alloc (Nat.le_refl _) _).alloc (by simp) _
  have g0 : W0.heap[w.heap.size]? = some (.cells #[.int .i64 (fr : Int), .int .i64 (to : Int), .int .i64 pk, .int .i64 lv, .int .i64 tp] 50 (0, 0)) := by rw [hW0]; exact heap_alloc2_old _ _ _
  have g1 : W0.heap[w.heap.size + 1]? = some (.cells #[.int .i64 0, .int .i64 0] 27 (0, 0)) := by rw [hW0]; exact heap_alloc2_new _ _ _
  have hV := validSamples_any zs _ n c _ W0 (hx.below hb0)
  rw [decide_eq_true hok] at hV
  unfold RetSame at hV
  have hP := part_yes (fr : Int) (to : Int) pk lv tp (some ⟨b, o, none⟩) n c (by omega) (by omega) (by omega) (by omega) W0
  have p0 : W0.cell? ⟨w.heap.size, 0, none⟩ = some (.int .i64 (fr : Int)) := cell_of_row _ _ _ _ _ _ g0
  have p1 : W0.cell? ⟨w.heap.size, 1, none⟩ = some (.int .i64 (to : Int)) := cell_of_row _ _ _ _ _ _ g0
  have p2 : W0.cell? ⟨w.heap.size, 2, none⟩ = some (.int .i64 pk) := cell_of_row _ _ _ _ _ _ g0
  have p3 : W0.cell? ⟨w.heap.size, 3, none⟩ = some (.int .i64 lv) := cell_of_row _ _ _ _ _ _ g0
  have p4 : W0.cell? ⟨w.heap.size, 4, none⟩ = some (.int .i64 tp) := cell_of_row _ _ _ _ _ _ g0
  have HX := Lib.hid (And.intro hx (And.intro hok (And.intro hl (And.intro hb0 (And.intro g0 g1)))))
  have HW0 := Lib.hid hW0
  clear hx hok hl hb0 g0 g1 hW0
  rw [HW0.out] at p0 p1 p2 p3 p4 hV
  obtain ⟨J, rfl⟩ : ∃ J, i = J + 1 := ⟨i - 1, by omega⟩
  rw [Nat.add_sub_cancel] at *
  obtain ⟨p, hp⟩ : ∃ p, fr + p = J + 1 := ⟨J + 1 - fr, by omega⟩
  obtain ⟨I, hI⟩ : ∃ I, J + 1 = I := ⟨_, rfl⟩
  rw [hI] at hp hlow hhi b1 hi1 hi2
  obtain ⟨s, hs⟩ : ∃ s, ith zs I = s := ⟨_, rfl⟩
  obtain ⟨q, hq⟩ : ∃ q, ith zs J = q := ⟨_, rfl⟩
  have cs := hc I (by omega)
  have cq := hc J (by omega)
  rw [hs] at b1 hhi cs
  rw [hq] at b2 hpr cq
  have HS := Lib.hid (And.intro hs (And.intro hq hlow))
  clear hs hq hlow hc
  go_enter Try.func22, Try.ntmps22
  go_wp2_with (first
    | (go_at_call 36; refine hV.mono ?_; rintro e w' ⟨rfl, rfl⟩)
    | (go_at_call 37; rw [← HW0.out]; refine hP.mono ?_; rintro e w1 ⟨rfl, hb1⟩; have g1 := (hb1.block _ (Array.getElem?_eq_some_iff.1 HX.out.2.2.2.2.1).1).trans HX.out.2.2.2.2.1; have g2 := (hb1.block _ (Array.getElem?_eq_some_iff.1 HX.out.2.2.2.2.2).1).trans HX.out.2.2.2.2.2; have k0 : w1.cell? ⟨w.heap.size, 0, none⟩ = some (.int .i64 (fr : Int)) := cell_of_row _ _ _ _ _ _ g1; have k1 : w1.cell? ⟨w.heap.size, 1, none⟩ = some (.int .i64 (to : Int)) := cell_of_row _ _ _ _ _ _ g1; have k3 : w1.cell? ⟨w.heap.size, 3, none⟩ = some (.int .i64 lv) := cell_of_row _ _ _ _ _ _ g1; have m0 : w1.cell? ⟨w.heap.size + 1, 0, none⟩ = some (.int .i64 0) := cell_of_row _ _ _ _ _ _ g2; have m1 : w1.cell? ⟨w.heap.size + 1, 1, none⟩ = some (.int .i64 0) := cell_of_row _ _ _ _ _ _ g2; have mf : ∀ j, w1.frozen? ⟨w.heap.size + 1, j, none⟩ = false := fun j => frozen_of_row _ _ _ _ _ g2; have hbw : Below w.heap.size w w1 := HX.out.2.2.2.1.trans (hb1.mono HX.out.2.2.2.1.size); have ds := (hbw.cell (p := ⟨b, o + I, none⟩) hb).trans cs; have dq := (hbw.cell (p := ⟨b, o + J, none⟩) hb).trans cq; have hIx := index_any ((zs.drop fr).take (to - fr)) lv (some ⟨b, o + fr, none⟩) (to - fr) (c - fr) _ w.heap.size w1 (iw_cut (HX.out.1.below hbw) h1 h2) k3 p (by omega) (fun j hj => by rw [ith_cut (by omega)]; exact HS.out.2.2 _ (by omega) (by omega)) (fun hp' => by rw [ith_cut hp', hp, HS.out.1]; exact hhi) (p : Int) (by rw [if_pos (by omega)]); have HW1 := Lib.hid (And.intro hbw (And.intro g1 g2)); clear hb1 g1 g2 hbw p0 p1 p2 p3 p4 cs cq)
    | (go_at_call 38; refine hIx.mono ?_; rintro e w' ⟨rfl, rfl⟩; clear hIx))
  have e2 : ((p : Int) + (fr : Int)) = (I : Int) := by omega
  have e3 : ((I : Int) - 1) = (J : Int) := by omega
  rw [e2, e3]
  have hIn : I < n := by omega
  have hJn : J < n := by omega
  have hI0 : ((I : Int) == 0) = false := by simp; omega
  clear hI k0 k1 hi1 hi2 hi0 e2 e3 hV hP hp ec
  go_region
  go_wp2
  have hB := Below.setCell (p := ⟨w.heap.size + 1, 1, none⟩) (Below.setCell (p := ⟨w.heap.size + 1, 0, none⟩) HW1.out.1 (by show w.heap.size ≤ w.heap.size + 1; omega) (.int .i64 0)) (by show w.heap.size ≤ w.heap.size + 1; omega) (.int .i64 0)
  refine bodyPost_ret (v := .tuple #[.agg #[.int .i64 0, .int .i64 0], .int .i64 32]) (by simp [results, Try.results22, go_sem, m0, m1]) rfl ⟨rfl, hB.drew⟩

set_option maxRecDepth 100000 in
set_option maxHeartbeats 2000000 in
theorem time_cut0 (zs : List Int) (hok : okZ zs) (fr to i : Nat) (pk lv tp : Int) (A : Option Addr) (n c : Nat) (w : World) (hx : IW w w.heap.size (.slice A n c) zs) (h1 : fr < to) (h2 : to ≤ n) (hi1 : fr ≤ i) (hi2 : i < to) (hi0 : i = 0)
    (hlow : ∀ j, fr ≤ j → j < i → ith zs j < lv) (hhi : lv ≤ ith zs i) :
    Calls Try.prog 22 #[.slice A n c, .agg #[.int .i64 (fr : Int), .int .i64 (to : Int), .int .i64 pk, .int .i64 lv, .int .i64 tp]] w
      (RetSE w 0 0 32) := by
  have hl := hx.len
  have hn : n ≤ 256 := by have := hok.1; omega
  have b1 := hok.ith (j := i) (by omega)
  obtain ⟨b, o, rfl, hb, hc⟩ := hx.at_ (by omega)
  have hcap := hx.cap
  unfold maxLen at hcap
  obtain ⟨W0, hW0⟩ : ∃ W0, W0 = (w.alloc (.cells #[.int .i64 (fr : Int), .int .i64 (to : Int), .int .i64 pk, .int .i64 lv, .int .i64 tp] 50)).alloc (.cells #[.int .i64 0, .int .i64 0] 27) := ⟨_, rfl⟩
  have hb0 : Below w.heap.size w W0 := by rw [hW0]; exact ((Below.refl _ w).alloc (Nat.le_refl _) _).alloc (by simp) _
  have g0 : W0.heap[w.heap.size]? = some (.cells #[.int .i64 (fr : Int), .int .i64 (to : Int), .int .i64 pk, .int .i64 lv, .int .i64 tp] 50 (0, 0)) := by rw [hW0]; exact heap_alloc2_old _ _ _
  have g1 : W0.heap[w.heap.size + 1]? = some (.cells #[.int .i64 0, .int .i64 0] 27 (0, 0)) := by rw [hW0]; exact heap_alloc2_new _ _ _
  have hV := validSamples_any zs _ n c _ W0 (hx.below hb0)
  rw [decide_eq_true hok] at hV
  unfold RetSame at hV
  have hP := part_yes (fr : Int) (to : Int) pk lv tp (some ⟨b, o, none⟩) n c (by omega) (by omega) (by omega) (by omega) W0
  have p0 : W0.cell? ⟨w.heap.size, 0, none⟩ = some (.int .i64 (fr : Int)) := cell_of_row _ _ _ _ _ _ g0
  have p1 : W0.cell? ⟨w.heap.size, 1, none⟩ = some (.int .i64 (to : Int)) := cell_of_row _ _ _ _ _ _ g0
  have p2 : W0.cell? ⟨w.heap.size, 2, none⟩ = some (.int .i64 pk) := cell_of_row _ _ _ _ _ _ g0
  have p3 : W0.cell? ⟨w.heap.size, 3, none⟩ = some (.int .i64 lv) := cell_of_row _ _ _ _ _ _ g0
  have p4 : W0.cell? ⟨w.heap.size, 4, none⟩ = some (.int .i64 tp) := cell_of_row _ _ _ _ _ _ g0
  have HX := Lib.hid (And.intro hx (And.intro hok (And.intro hl (And.intro hb0 (And.intro g0 g1)))))
  have HW0 := Lib.hid hW0
  clear hx hok hl hb0 g0 g1 hW0
  rw [HW0.out] at p0 p1 p2 p3 p4 hV
  obtain ⟨p, hp⟩ : ∃ p, fr + p = i := ⟨i - fr, by omega⟩
  obtain ⟨I, hI⟩ : ∃ I, i = I := ⟨_, rfl⟩
  rw [hI] at hp hlow hhi b1 hi1 hi2
  obtain ⟨s, hs⟩ : ∃ s, ith zs I = s := ⟨_, rfl⟩
  have cs := hc I (by omega)
  rw [hs] at b1 hhi cs
  have HS := Lib.hid (And.intro hs (And.intro trivial hlow))
  clear hs hlow hc
  go_enter Try.func22, Try.ntmps22
  go_wp2_with (first
    | (go_at_call 36; refine hV.mono ?_; rintro e w' ⟨rfl, rfl⟩)
    | (go_at_call 37; rw [← HW0.out]; refine hP.mono ?_; rintro e w1 ⟨rfl, hb1⟩; have g1 := (hb1.block _ (Array.getElem?_eq_some_iff.1 HX.out.2.2.2.2.1).1).trans HX.out.2.2.2.2.1; have g2 := (hb1.block _ (Array.getElem?_eq_some_iff.1 HX.out.2.2.2.2.2).1).trans HX.out.2.2.2.2.2; have k0 : w1.cell? ⟨w.heap.size, 0, none⟩ = some (.int .i64 (fr : Int)) := cell_of_row _ _ _ _ _ _ g1; have k1 : w1.cell? ⟨w.heap.size, 1, none⟩ = some (.int .i64 (to : Int)) := cell_of_row _ _ _ _ _ _ g1; have k3 : w1.cell? ⟨w.heap.size, 3, none⟩ = some (.int .i64 lv) := cell_of_row _ _ _ _ _ _ g1; have m0 : w1.cell? ⟨w.heap.size + 1, 0, none⟩ = some (.int .i64 0) := cell_of_row _ _ _ _ _ _ g2; have m1 : w1.cell? ⟨w.heap.size + 1, 1, none⟩ = some (.int .i64 0) := cell_of_row _ _ _ _ _ _ g2; have mf : ∀ j, w1.frozen? ⟨w.heap.size + 1, j, none⟩ = false := fun j => frozen_of_row _ _ _ _ _ g2; have hbw : Below w.heap.size w w1 := HX.out.2.2.2.1.trans (hb1.mono HX.out.2.2.2.1.size); have ds := (hbw.cell (p := ⟨b, o + I, none⟩) hb).trans cs; have hIx := index_any ((zs.drop fr).take (to - fr)) lv (some ⟨b, o + fr, none⟩) (to - fr) (c - fr) _ w.heap.size w1 (iw_cut (HX.out.1.below hbw) h1 h2) k3 p (by omega) (fun j hj => by rw [ith_cut (by omega)]; exact HS.out.2.2 _ (by omega) (by omega)) (fun hp' => by rw [ith_cut hp', hp, HS.out.1]; exact hhi) (p : Int) (by rw [if_pos (by omega)]); have HW1 := Lib.hid (And.intro hbw (And.intro g1 g2)); clear hb1 g1 g2 hbw p0 p1 p2 p3 p4 cs)
    | (go_at_call 38; refine hIx.mono ?_; rintro e w' ⟨rfl, rfl⟩; clear hIx))
  have e2 : ((p : Int) + (fr : Int)) = 0 := by omega
  rw [e2]
  clear hI k0 k1 hi1 hi2 hi0 e2 hV hP hp
  go_region
  go_wp2
  have hB := Below.setCell (p := ⟨w.heap.size + 1, 1, none⟩) (Below.setCell (p := ⟨w.heap.size + 1, 0, none⟩) HW1.out.1 (by show w.heap.size ≤ w.heap.size + 1; omega) (.int .i64 0)) (by show w.heap.size ≤ w.heap.size + 1; omega) (.int .i64 0)
  refine bodyPost_ret (v := .tuple #[.agg #[.int .i64 0, .int .i64 0], .int .i64 32]) (by simp [results, Try.results22, go_sem, m0, m1]) rfl ⟨rfl, hB.drew⟩

/-- The first sample of an echo that is high enough. -/
theorem first_high {zs : List Int} {lv : Int} {fr : Nat} : ∀ d, lv ≤ ith zs (fr + d) → ∃ i, fr ≤ i ∧ i ≤ fr + d ∧ lv ≤ ith zs i ∧ ∀ j, fr ≤ j → j < i → ith zs j < lv
  | 0, h => ⟨fr, Nat.le_refl _, Nat.le_refl _, by simpa using h, fun j h1 h2 => by omega⟩
  | d + 1, h => by
    by_cases h1 : ∃ j, fr ≤ j ∧ j ≤ fr + d ∧ lv ≤ ith zs j
    · obtain ⟨j, h2, h3, h4⟩ := h1
      have e : fr + (j - fr) = j := by omega
      obtain ⟨i, i1, i2, i3, i4⟩ := first_high (j - fr) (by rw [e]; exact h4)
      exact ⟨i, i1, by omega, i3, i4⟩
    · refine ⟨fr + (d + 1), by omega, Nat.le_refl _, h, fun j h2 h3 => ?_⟩
      by_cases h4 : lv ≤ ith zs j
      · exact absurd ⟨j, h2, by omega, h4⟩ h1
      · omega
termination_by d => d
decreasing_by omega
end Go.Proofs.Ytkcagifljelfoaa
