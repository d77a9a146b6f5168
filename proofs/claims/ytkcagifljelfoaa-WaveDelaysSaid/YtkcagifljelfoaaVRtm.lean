/-
  The document's Time.
-/
import Derived.Test.YtkcagifljelfoaaVTms
namespace Go.Proofs.Ytkcagifljelfoaa
open Go.RowKit

theorem refSamplesE (zs : List Int) (b : Bool) (hb : decide (okZ zs) = b) (A : Option Addr) (n c B : Nat) (w : World) (hx : IW w B (.slice A n c) zs) :
    Calls Try.prog 41 #[.slice A n c] w fun e w' => e = .returned (.bool b) ∧ w' = w := by
  have h := refSamples_any zs A n c B w hx
  rw [hb] at h
  exact h

/-- The two blocks of Time. -/
theorem two_blocks (w : World) (fr to pk lv tp : Int) : ∃ W0, Hid (W0 = (w.alloc (.cells #[.int .i64 fr, .int .i64 to, .int .i64 pk, .int .i64 lv, .int .i64 tp] 50)).alloc (.cells #[.int .i64 0, .int .i64 0] 27)) ∧ Hid (Below w.heap.size w W0 ∧
    W0.heap[w.heap.size]? = some (.cells #[.int .i64 fr, .int .i64 to, .int .i64 pk, .int .i64 lv, .int .i64 tp] 50 (0, 0)) ∧ W0.heap[w.heap.size + 1]? = some (.cells #[.int .i64 0, .int .i64 0] 27 (0, 0))) :=
  ⟨_, rfl, ((Below.refl _ _).alloc (Nat.le_refl _) _).alloc (by simp) _, heap_alloc2_old _ _ _, heap_alloc2_new _ _ _⟩

set_option maxRecDepth 100000 in
set_option maxHeartbeats 2000000 in
theorem refTime_bad (zs : List Int) (fr to pk lv tp : Int) (A : Option Addr) (n c : Nat) (hn : (n : Int) ≤ 9223372036854775807) (w : World) (hx : IW w w.heap.size (.slice A n c) zs) (hbad : ¬ (okZ zs ∧ partZ fr to n)) :
    Calls Try.prog 23 #[.slice A n c, .agg #[.int .i64 fr, .int .i64 to, .int .i64 pk, .int .i64 lv, .int .i64 tp]] w
      (RetSE w 0 0 2) := by
  obtain ⟨W0, HW0, HX⟩ := two_blocks w fr to pk lv tp
  have p0 : W0.cell? ⟨w.heap.size, 0, none⟩ = some (.int .i64 fr) := cell_of_row _ _ _ _ _ _ HX.out.2.1
  have p1 : W0.cell? ⟨w.heap.size, 1, none⟩ = some (.int .i64 to) := cell_of_row _ _ _ _ _ _ HX.out.2.1
  have p2 : W0.cell? ⟨w.heap.size, 2, none⟩ = some (.int .i64 pk) := cell_of_row _ _ _ _ _ _ HX.out.2.1
  have p3 : W0.cell? ⟨w.heap.size, 3, none⟩ = some (.int .i64 lv) := cell_of_row _ _ _ _ _ _ HX.out.2.1
  have p4 : W0.cell? ⟨w.heap.size, 4, none⟩ = some (.int .i64 tp) := cell_of_row _ _ _ _ _ _ HX.out.2.1
  by_cases hok : okZ zs
  · have hV := refSamplesE zs true (decide_eq_true hok) A n c _ W0 (hx.below HX.out.1)
    have hP := within_any fr to pk lv tp A n c hn W0
    rw [decide_eq_false (fun h => hbad ⟨hok, h⟩)] at hP
    clear hbad hok hx
    rw [HW0.out] at p0 p1 p2 p3 p4 hV
    go_enter Try.func23, Try.ntmps23
    go_wp2_with (first
      | (go_at_call 41; refine hV.mono ?_; rintro e w' ⟨rfl, rfl⟩)
      | (go_at_call 42; rw [← HW0.out]; refine hP.mono ?_; rintro e w1 ⟨rfl, hb1⟩; have g2 := (hb1.block _ (Array.getElem?_eq_some_iff.1 HX.out.2.2).1).trans HX.out.2.2; have m0 : w1.cell? ⟨w.heap.size + 1, 0, none⟩ = some (.int .i64 0) := cell_of_row _ _ _ _ _ _ g2; have m1 : w1.cell? ⟨w.heap.size + 1, 1, none⟩ = some (.int .i64 0) := cell_of_row _ _ _ _ _ _ g2; have mf : ∀ j, w1.frozen? ⟨w.heap.size + 1, j, none⟩ = false := fun j => frozen_of_row _ _ _ _ _ g2; have hbw : Below w.heap.size w w1 := HX.out.1.trans (hb1.mono HX.out.1.size); have HW1 := Lib.hid (And.intro hbw g2); clear hb1 g2 hbw p0 p1 p2 p3 p4))
    have hB := Below.setCell (p := ⟨w.heap.size + 1, 1, none⟩) (Below.setCell (p := ⟨w.heap.size + 1, 0, none⟩) HW1.out.1 (by show w.heap.size ≤ w.heap.size + 1; omega) (.int .i64 0)) (by show w.heap.size ≤ w.heap.size + 1; omega) (.int .i64 0)
    refine bodyPost_ret (v := .tuple #[.agg #[.int .i64 0, .int .i64 0], .int .i64 2]) (by simp [results, Try.results23, go_sem, m0, m1]) rfl ⟨rfl, hB⟩
  · have hV := refSamplesE zs false (decide_eq_false hok) A n c _ W0 (hx.below HX.out.1)
    clear hbad hok hx
    have m0 : W0.cell? ⟨w.heap.size + 1, 0, none⟩ = some (.int .i64 0) := cell_of_row _ _ _ _ _ _ HX.out.2.2
    have m1 : W0.cell? ⟨w.heap.size + 1, 1, none⟩ = some (.int .i64 0) := cell_of_row _ _ _ _ _ _ HX.out.2.2
    have mf : ∀ j, W0.frozen? ⟨w.heap.size + 1, j, none⟩ = false := fun j => frozen_of_row _ _ _ _ _ HX.out.2.2
    rw [HW0.out] at hV
    go_enter Try.func23, Try.ntmps23
    go_wp2_with (go_at_call 41; refine hV.mono ?_; rintro e w' ⟨rfl, rfl⟩; rw [← HW0.out])
    have hB := Below.setCell (p := ⟨w.heap.size + 1, 1, none⟩) (Below.setCell (p := ⟨w.heap.size + 1, 0, none⟩) HX.out.1 (by show w.heap.size ≤ w.heap.size + 1; omega) (.int .i64 0)) (by show w.heap.size ≤ w.heap.size + 1; omega) (.int .i64 0)
    refine bodyPost_ret (v := .tuple #[.agg #[.int .i64 0, .int .i64 0], .int .i64 2]) (by simp [results, Try.results23, go_sem, m0, m1]) rfl ⟨rfl, hB⟩

/-- What Time answers where i is the first sample of the echo that is high enough, or its end. -/
def TimeAt (zs : List Int) (to i : Nat) (lv lo hi cc : Int) : Prop :=
  (i = to ∧ lo = 0 ∧ hi = 0 ∧ cc = 2) ∨ (i < to ∧ (i = 0 ∨ lv ≤ ith zs (i - 1)) ∧ lo = 0 ∧ hi = 0 ∧ cc = 32) ∨
  (i < to ∧ 0 < i ∧ ith zs (i - 1) < lv ∧ cc = 0 ∧ lo = 256 * ((i - 1 : Nat) : Int) + Int.tdiv (256 * (lv - ith zs (i - 1) - 1)) (ith zs i - ith zs (i - 1)) ∧
    hi = 256 * ((i - 1 : Nat) : Int) + Int.tdiv (256 * (lv - ith zs (i - 1)) + (ith zs i - ith zs (i - 1)) - 1) (ith zs i - ith zs (i - 1)))

set_option maxRecDepth 100000 in
set_option maxHeartbeats 4000000 in
theorem refTime_at (zs : List Int) (hok : okZ zs) (fr to i : Nat) (pk lv tp : Int) (A : Option Addr) (n c : Nat) (w : World) (hx : IW w w.heap.size (.slice A n c) zs) (h1 : fr < to) (h2 : to ≤ n) (hi1 : fr ≤ i) (hi2 : i ≤ to)
    (hlow : ∀ j, fr ≤ j → j < i → ith zs j < lv) (hhi : i < to → lv ≤ ith zs i) (lo hi cc : Int) (hT : TimeAt zs to i lv lo hi cc) :
    Calls Try.prog 23 #[.slice A n c, .agg #[.int .i64 (fr : Int), .int .i64 (to : Int), .int .i64 pk, .int .i64 lv, .int .i64 tp]] w
      (RetSE w lo hi cc) := by
  have hl := Lib.hid hx.len
  have hn : n ≤ 256 := by have := hok.1; have := hl.out; omega
  obtain ⟨b, o, rfl, hb, hcz⟩ := hx.at_ (by omega)
  have hcap := hx.cap
  unfold maxLen at hcap
  obtain ⟨W0, HW0, HX⟩ := two_blocks w (fr : Int) (to : Int) pk lv tp
  have hV := refSamplesE zs true (decide_eq_true hok) _ n c _ W0 (hx.below HX.out.1)
  have hP := within_any (fr : Int) (to : Int) pk lv tp (some ⟨b, o, none⟩) n c (by omega) W0
  rw [decide_eq_true (show partZ (fr : Int) (to : Int) n from ⟨by omega, by omega, by omega⟩)] at hP
  have p0 : W0.cell? ⟨w.heap.size, 0, none⟩ = some (.int .i64 (fr : Int)) := cell_of_row _ _ _ _ _ _ HX.out.2.1
  have p1 : W0.cell? ⟨w.heap.size, 1, none⟩ = some (.int .i64 (to : Int)) := cell_of_row _ _ _ _ _ _ HX.out.2.1
  have p2 : W0.cell? ⟨w.heap.size, 2, none⟩ = some (.int .i64 pk) := cell_of_row _ _ _ _ _ _ HX.out.2.1
  have p3 : W0.cell? ⟨w.heap.size, 3, none⟩ = some (.int .i64 lv) := cell_of_row _ _ _ _ _ _ HX.out.2.1
  have p4 : W0.cell? ⟨w.heap.size, 4, none⟩ = some (.int .i64 tp) := cell_of_row _ _ _ _ _ _ HX.out.2.1
  have HC := Lib.hid (fun (wx : World) (h : Below w.heap.size w wx) (j : Nat) (hj : j < n) => (h.cell (p := ⟨b, o + j, none⟩) hb).trans (hcz j hj))
  have HO := Lib.hid (And.intro hok (And.intro hlow (And.intro hhi hT)))
  rw [HW0.out] at p0 p1 p2 p3 p4 hV
  clear hx hcz hok hlow hhi hT
  go_enter Try.func23, Try.ntmps23
  go_wp2_with (first
    | (go_at_call 41; refine hV.mono ?_; rintro e w' ⟨rfl, rfl⟩)
    | (go_at_call 42; rw [← HW0.out]; refine hP.mono ?_; rintro e w1 ⟨rfl, hb1⟩; have g1 := (hb1.block _ (Array.getElem?_eq_some_iff.1 HX.out.2.1).1).trans HX.out.2.1; have g2 := (hb1.block _ (Array.getElem?_eq_some_iff.1 HX.out.2.2).1).trans HX.out.2.2; have k0 : w1.cell? ⟨w.heap.size, 0, none⟩ = some (.int .i64 (fr : Int)) := cell_of_row _ _ _ _ _ _ g1; have hbw : Below w.heap.size w w1 := HX.out.1.trans (hb1.mono HX.out.1.size); have HW1 := Lib.hid (And.intro hbw (And.intro g1 g2)); clear hb1 g1 g2 hbw p0 p1 p2 p3 p4))
  clear hV hP k0
  go_loopw [6] (fun iv wr => ∃ j : Nat, iv = .int .i64 (j : Int) ∧ fr ≤ j ∧ j ≤ i ∧ Below w1.heap.size w1 wr) (fun iv _ => to - (intOf iv).toNat)
  case atStart => exact ⟨fr, rfl, Nat.le_refl _, hi1, Below.refl _ _⟩
  case round =>
    obtain ⟨j, rfl, hj1, hj2, hb⟩ := hrel
    have g1 := (hb.block _ (Array.getElem?_eq_some_iff.1 HW1.out.2.1).1).trans HW1.out.2.1
    have g2 := (hb.block _ (Array.getElem?_eq_some_iff.1 HW1.out.2.2).1).trans HW1.out.2.2
    have k0 : wr.cell? ⟨w.heap.size, 0, none⟩ = some (.int .i64 (fr : Int)) := cell_of_row _ _ _ _ _ _ g1
    have k1 : wr.cell? ⟨w.heap.size, 1, none⟩ = some (.int .i64 (to : Int)) := cell_of_row _ _ _ _ _ _ g1
    have k3 : wr.cell? ⟨w.heap.size, 3, none⟩ = some (.int .i64 lv) := cell_of_row _ _ _ _ _ _ g1
    have m0 : wr.cell? ⟨w.heap.size + 1, 0, none⟩ = some (.int .i64 0) := cell_of_row _ _ _ _ _ _ g2
    have m1 : wr.cell? ⟨w.heap.size + 1, 1, none⟩ = some (.int .i64 0) := cell_of_row _ _ _ _ _ _ g2
    have mf : ∀ j, wr.frozen? ⟨w.heap.size + 1, j, none⟩ = false := fun j => frozen_of_row _ _ _ _ _ g2
    have hbwr : Below w.heap.size w wr := HW1.out.1.trans (hb.mono HW1.out.1.size)
    have HB := Lib.hid (And.intro hb hbwr)
    clear g1 g2 hb
    by_cases hji : j < i
    · have cj := HC.out wr hbwr j (by omega)
      have hlo := HO.out.2.1 j hj1 hji
      have hjt : (j : Int) < (to : Int) := by omega
      have hjt' : j < to := by omega
      have hjn : j < n := by omega
      clear hbwr
      go_wp2
      go_region
      go_wp2
      go_roundw
      case rel => exact ⟨j + 1, by simp, by omega, by omega, HB.out.1.drew⟩
      case measure => simp [intOf]; omega
    · obtain rfl : j = i := by omega
      have hB : ∀ (wx : World) (x y : Int), Below w.heap.size w wx → Below w.heap.size w ((wx.setCell ⟨w.heap.size + 1, 0, none⟩ (.int .i64 x)).setCell ⟨w.heap.size + 1, 1, none⟩ (.int .i64 y)) := fun wx x y h => Below.setCell (p := ⟨w.heap.size + 1, 1, none⟩) (Below.setCell (p := ⟨w.heap.size + 1, 0, none⟩) h (by show w.heap.size ≤ w.heap.size + 1; omega) (.int .i64 x)) (by show w.heap.size ≤ w.heap.size + 1; omega) (.int .i64 y)
      have HBB := Lib.hid hB
      clear hB
      rcases HO.out.2.2.2 with ⟨e1, rfl, rfl, rfl⟩ | ⟨e1, e2, rfl, rfl, rfl⟩ | ⟨e1, e2, e3, rfl, hlo, hhi⟩
      · have hjt : ¬ (j : Int) < (to : Int) := by omega
        have hjt' : ((j : Int) == (to : Int)) = true := by simp; omega
        have hjt2 : ¬ j < to := by omega
        clear hbwr
        go_wp2
        go_region
        go_wp2
        refine bodyPost_ret (v := .tuple #[.agg #[.int .i64 0, .int .i64 0], .int .i64 2]) (by simp [results, Try.results23, go_sem, m0, m1]) rfl ⟨rfl, (HBB.out wr 0 0 HB.out.2).drew⟩
      · have cj := HC.out wr hbwr j (by omega)
        have hhj := HO.out.2.2.1 e1
        have hjt : (j : Int) < (to : Int) := by omega
        have hjt' : ((j : Int) == (to : Int)) = false := by simp; omega
        have hjn : j < n := by omega
        have hnl : ¬ ith zs j < lv := by omega
        by_cases j0 : j = 0
        · subst j0
          have cj0 : wr.cell? ⟨b, o, none⟩ = some (.int .i64 (ith zs 0)) := by simpa using cj
          have h0t : (0 : Int) < (to : Int) := by omega
          have h0t' : ((0 : Int) == (to : Int)) = false := by simp; omega
          clear hbwr e2 cj
          rw [Int.natCast_zero]
          go_wp2
          go_region
          go_wp2
          go_region
          go_wp2
          refine bodyPost_ret (v := .tuple #[.agg #[.int .i64 0, .int .i64 0], .int .i64 32]) (by simp [results, Try.results23, go_sem, m0, m1]) rfl ⟨rfl, (HBB.out wr 0 0 HB.out.2).drew.drew⟩
        · have f0 : ((j : Int) == 0) = false := by simp; omega
          obtain ⟨J, hJ⟩ : ∃ J, j = J + 1 := ⟨j - 1, by omega⟩
          have fJ : ((j : Int) - 1) = (J : Int) := by omega
          have hJn : J < n := by omega
          have cJ := HC.out wr hbwr J hJn
          have e3 : j - 1 = J := by omega
          have hge := e2.resolve_left j0
          rw [e3] at hge
          clear hbwr e2 e3 hJ
          go_wp2
          go_region
          go_wp2
          go_region
          go_wp2
          refine bodyPost_ret (v := .tuple #[.agg #[.int .i64 0, .int .i64 0], .int .i64 32]) (by simp [results, Try.results23, go_sem, m0, m1]) rfl ⟨rfl, (HBB.out wr 0 0 HB.out.2).drew.drew⟩
      · have cj := HC.out wr hbwr j (by omega)
        have hhj := HO.out.2.2.1 e1
        have hjt : (j : Int) < (to : Int) := by omega
        have hjt' : ((j : Int) == (to : Int)) = false := by simp; omega
        have hjn : j < n := by omega
        have bs := HO.out.1.ith (j := j) (by have := hl.out; omega)
        have f0 : ((j : Int) == 0) = false := by simp; omega
        obtain ⟨J, hJ⟩ : ∃ J, j = J + 1 := ⟨j - 1, by omega⟩
        have fJ : ((j : Int) - 1) = (J : Int) := by omega
        have hJn : J < n := by omega
        have cJ := HC.out wr hbwr J hJn
        have bq := HO.out.1.ith (j := J) (by have := hl.out; omega)
        have e4 : j - 1 = J := by omega
        rw [e4] at e3 hlo hhi
        obtain ⟨q, hq⟩ : ∃ z, ith zs J = z := ⟨_, rfl⟩
        obtain ⟨sj, hsj⟩ : ∃ z, ith zs j = z := ⟨_, rfl⟩
        rw [hq] at cJ bq e3 hlo hhi
        rw [hsj] at cj hhj bs hlo hhi
        have hnl : ¬ sj < lv := by omega
        have hng : ¬ lv ≤ q := by omega
        have hd0 : (sj - q == 0) = false := by simp; omega
        have hd1 : sj - q ≠ 0 := by omega
        have t1 : 0 ≤ Int.tdiv (256 * (lv - q - 1)) (sj - q) := Int.tdiv_nonneg (by omega) (by omega)
        have t2 : Int.tdiv (256 * (lv - q - 1)) (sj - q) ≤ 256 * (lv - q - 1) := by
          rw [Int.tdiv_eq_ediv_of_nonneg (by omega)]
          exact Int.ediv_le_self _ (by omega)
        have t3 : 0 ≤ Int.tdiv (256 * (lv - q) + (sj - q) - 1) (sj - q) := Int.tdiv_nonneg (by omega) (by omega)
        have t4 : Int.tdiv (256 * (lv - q) + (sj - q) - 1) (sj - q) ≤ 256 * (lv - q) + (sj - q) - 1 := by
          rw [Int.tdiv_eq_ediv_of_nonneg (by omega)]
          exact Int.ediv_le_self _ (by omega)
        have hJ256 : (J : Int) ≤ 256 := by omega
        have HL := Lib.hid (And.intro hlo hhi)
        clear hbwr e2 e4 hJ hlo hhi hq hsj
        go_wp2
        go_region
        go_wp2
        go_region
        go_wp2
        go_region
        go_wp2
        go_region
        go_wp2
        refine bodyPost_ret (v := .tuple #[.agg #[.int .i64 (256 * (J : Int) + Int.tdiv (256 * (lv - q - 1)) (sj - q)), .int .i64 (256 * (J : Int) + Int.tdiv (256 * (lv - q) + (sj - q) - 1) (sj - q))], .int .i64 0]) (by simp [results, Try.results23, go_sem, m0, m1]) rfl ⟨by rw [HL.out.1, HL.out.2], (HBB.out wr _ _ HB.out.2).drew.drew.drew.drew⟩
end Go.Proofs.Ytkcagifljelfoaa
