/-
  For any two spans the law ExactMeets returns true and leaves its arguments as they were: no condition.
-/
import Derived.Test.YtpjgoibchknbmabPost
import Derived.Test.YtpjgoibchknbmabSpanb
namespace Go.Proofs.Ytpjgoibchknbmab.exactMeets
open Go.Proofs.Ytpjgoibchknbmab
open Go.ChangeShapes Go.WideShapes Go.ChangeAt Go.RowKit Go.Joins
set_option linter.unusedVariables false

theorem bel {w W w1 : World} (h0 : Below w.heap.size w W) (h : Below W.heap.size W w1) : Below w.heap.size w w1 := h0.trans (h.mono h0.size)

theorem W0ex (w : World) (al ah bl bh : Int) : ∃ W0, Hid (W0 = (w.alloc (.cells #[.int .i64 al, .int .i64 ah] 23)).alloc (.cells #[.int .i64 bl, .int .i64 bh] 23)) ∧ Below w.heap.size w W0 ∧
    Hid (W0.heap[w.heap.size]? = some (.cells #[.int .i64 al, .int .i64 ah] 23 (0, 0)) ∧ W0.heap[w.heap.size + 1]? = some (.cells #[.int .i64 bl, .int .i64 bh] 23 (0, 0))) ∧ w.heap.size + 1 < W0.heap.size :=
  ⟨_, rfl, ((Below.refl _ _).alloc (Nat.le_refl _) _).alloc (by simp) _, ⟨heap_alloc2_old _ _ _, heap_alloc2_new _ _ _⟩, by simp⟩

set_option maxRecDepth 100000 in
set_option maxHeartbeats 4000000 in
theorem walk_yes (al ah bl bh hl hh ml mh d : Int) (ha : okS al ah) (hb : okS bl bh) (h1 : (al ≤ bl ∧ hl = al) ∨ (bl < al ∧ hl = bl)) (h2 : (bh ≤ ah ∧ hh = ah) ∨ (ah < bh ∧ hh = bh))
    (h3 : (bl ≤ al ∧ ml = al) ∨ (al < bl ∧ ml = bl)) (h4 : (ah ≤ bh ∧ mh = ah) ∨ (bh < ah ∧ mh = bh)) (h5 : ml ≤ mh) (hd : d = 0) (w : World) :
    Calls Try.prog 3 #[.agg #[.int .i64 al, .int .i64 ah], .agg #[.int .i64 bl, .int .i64 bh]] w (RetB w true) := by
  obtain ⟨W0, HW0, hw0, HG, z0⟩ := W0ex w al ah bl bh
  subst hd
  have HH := Lib.hid (And.intro h1 (And.intro h2 (And.intro h3 h4)))
  have HO := Lib.hid (And.intro ha hb)
  obtain ⟨a1, a2, a3⟩ := ha
  obtain ⟨b1, b2, b3⟩ := hb
  have i1 : hl ≤ al := by omega
  have i2 : hl ≤ bl := by omega
  have i3 : ah ≤ hh := by omega
  have i4 : bh ≤ hh := by omega
  have i5 : al ≤ ml := by omega
  have i6 : bl ≤ ml := by omega
  have i7 : mh ≤ ah := by omega
  have i8 : mh ≤ bh := by omega
  have HGP : Hid (al ≤ bh ∧ bl ≤ ah) := ⟨by omega, by omega⟩
  clear h1 h2 h3 h4
  obtain ⟨k0, k1⟩ := xy_cells HG.out.1 (Below.refl _ _)
  obtain ⟨k2, k3⟩ := xy_cells HG.out.2 (Below.refl _ _)
  go_enter Try.func3, Try.ntmps3
  have y0 : w.heap.size < W0.heap.size := by omega
  go_wp2_with fail
  rw [← HW0.out]
  go_wp2_with (first
    | (go_at_call 8
       go_must (refine (hull_ok al ah bl bh hl hh HO.out.1 HO.out.2 HH.out.1 HH.out.2.1 _).mono ?_)
       rintro e w1 ⟨rfl, hb1⟩
       have f1 : Below W0.heap.size W0 w1 := bel (by repeat (refine Below.alloc ?_ (by simp <;> omega) _)
                                                     exact Below.refl _ _) hb1
       obtain ⟨p0, p1⟩ := xy_cells HG.out.1 f1
       obtain ⟨p2, p3⟩ := xy_cells HG.out.2 f1
       have z1 : w.heap.size + 1 < w1.heap.size := Nat.lt_of_lt_of_le z0 f1.size
       have y1 : w.heap.size < w1.heap.size := by omega
       clear hb1)
    | (go_at_call 9
       go_must (refine (meet_yes al ah bl bh ml mh HO.out.1 HO.out.2 HH.out.2.2.1 HH.out.2.2.2 h5 _).mono ?_)
       rintro e w2 ⟨rfl, hb2⟩
       have f2 : Below W0.heap.size W0 w2 := bel (by repeat (refine Below.alloc ?_ (by have := f1.size; simp <;> omega) _)
                                                     exact f1) hb2
       obtain ⟨q0, q1⟩ := xy_cells HG.out.1 f2
       obtain ⟨q2, q3⟩ := xy_cells HG.out.2 f2
       have z2 : w1.heap.size < w2.heap.size := by have := hb2.size; simp at this; omega
       have z2' : w.heap.size + 1 < w2.heap.size := Nat.lt_of_lt_of_le z0 f2.size
       have y2 : w.heap.size < w2.heap.size := by omega
       have u0 : w2.cell? ⟨w1.heap.size, 0, none⟩ = some (.int .i64 hl) := (hb2.cell (p := ⟨w1.heap.size, 0, none⟩) (by simp)).trans (by simp [go_sem])
       have u1 : w2.cell? ⟨w1.heap.size, 1, none⟩ = some (.int .i64 hh) := (hb2.cell (p := ⟨w1.heap.size, 1, none⟩) (by simp)).trans (by simp [go_sem])
       clear hb2)
    | (go_at_call 10
       go_must (refine (gap_ok al ah bl bh 0 HO.out.1 HO.out.2 (Or.inl ⟨HGP.out.1, HGP.out.2, rfl⟩) _).mono ?_)
       rintro e w3 ⟨rfl, hb3⟩
       have f3 : Below W0.heap.size W0 w3 := bel (by repeat (refine Below.alloc ?_ (by have := f2.size; simp <;> omega) _)
                                                     exact f2) hb3
       obtain ⟨r0, r1⟩ := xy_cells HG.out.1 f3
       obtain ⟨r2, r3⟩ := xy_cells HG.out.2 f3
       have z3 : w2.heap.size < w3.heap.size := by have := hb3.size; simp at this; omega
       have z3' : w.heap.size + 1 < w3.heap.size := Nat.lt_of_lt_of_le z0 f3.size
       have y3 : w.heap.size < w3.heap.size := by omega
       have z3'' : w1.heap.size < w3.heap.size := by omega
       have t1 : w.heap.size < w3.heap.size + 1 := by omega
       have t2 : w.heap.size < w3.heap.size + 1 + 1 := by omega
       have t3 : w.heap.size < w3.heap.size + 1 + 1 + 1 := by omega
       have t4 : w.heap.size < w3.heap.size + 1 + 1 + 1 + 1 := by omega
       have t5 : w.heap.size < w3.heap.size + 1 + 1 + 1 + 1 + 1 := by omega
       have t6 : w.heap.size < w3.heap.size + 1 + 1 + 1 + 1 + 1 + 1 := by omega
       have t7 : w.heap.size < w3.heap.size + 1 + 1 + 1 + 1 + 1 + 1 + 1 := by omega
       have t8 : w.heap.size < w3.heap.size + 1 + 1 + 1 + 1 + 1 + 1 + 1 + 1 := by omega
       have t9 : w.heap.size + 1 < w3.heap.size + 1 := by omega
       have t10 : w.heap.size + 1 < w3.heap.size + 1 + 1 := by omega
       have t11 : w.heap.size + 1 < w3.heap.size + 1 + 1 + 1 := by omega
       have t12 : w.heap.size + 1 < w3.heap.size + 1 + 1 + 1 + 1 := by omega
       have t13 : w.heap.size + 1 < w3.heap.size + 1 + 1 + 1 + 1 + 1 := by omega
       have t14 : w.heap.size + 1 < w3.heap.size + 1 + 1 + 1 + 1 + 1 + 1 := by omega
       have t15 : w.heap.size + 1 < w3.heap.size + 1 + 1 + 1 + 1 + 1 + 1 + 1 := by omega
       have t16 : w.heap.size + 1 < w3.heap.size + 1 + 1 + 1 + 1 + 1 + 1 + 1 + 1 := by omega
       have t17 : w1.heap.size < w3.heap.size + 1 := by omega
       have t18 : w1.heap.size < w3.heap.size + 1 + 1 := by omega
       have t19 : w1.heap.size < w3.heap.size + 1 + 1 + 1 := by omega
       have t20 : w1.heap.size < w3.heap.size + 1 + 1 + 1 + 1 := by omega
       have t21 : w1.heap.size < w3.heap.size + 1 + 1 + 1 + 1 + 1 := by omega
       have t22 : w1.heap.size < w3.heap.size + 1 + 1 + 1 + 1 + 1 + 1 := by omega
       have t23 : w1.heap.size < w3.heap.size + 1 + 1 + 1 + 1 + 1 + 1 + 1 := by omega
       have t24 : w1.heap.size < w3.heap.size + 1 + 1 + 1 + 1 + 1 + 1 + 1 + 1 := by omega
       have t25 : w2.heap.size < w3.heap.size + 1 := by omega
       have t26 : w2.heap.size < w3.heap.size + 1 + 1 := by omega
       have t27 : w2.heap.size < w3.heap.size + 1 + 1 + 1 := by omega
       have t28 : w2.heap.size < w3.heap.size + 1 + 1 + 1 + 1 := by omega
       have t29 : w2.heap.size < w3.heap.size + 1 + 1 + 1 + 1 + 1 := by omega
       have t30 : w2.heap.size < w3.heap.size + 1 + 1 + 1 + 1 + 1 + 1 := by omega
       have t31 : w2.heap.size < w3.heap.size + 1 + 1 + 1 + 1 + 1 + 1 + 1 := by omega
       have t32 : w2.heap.size < w3.heap.size + 1 + 1 + 1 + 1 + 1 + 1 + 1 + 1 := by omega
       have v0 : w3.cell? ⟨w1.heap.size, 0, none⟩ = some (.int .i64 hl) := (hb3.cell (p := ⟨w1.heap.size, 0, none⟩) (by simp; omega)).trans (by simp [go_sem, z2, u0])
       have v1 : w3.cell? ⟨w1.heap.size, 1, none⟩ = some (.int .i64 hh) := (hb3.cell (p := ⟨w1.heap.size, 1, none⟩) (by simp; omega)).trans (by simp [go_sem, z2, u1])
       have m0 : w3.cell? ⟨w2.heap.size, 0, none⟩ = some (.int .i64 ml) := (hb3.cell (p := ⟨w2.heap.size, 0, none⟩) (by simp)).trans (by simp [go_sem])
       have m1 : w3.cell? ⟨w2.heap.size, 1, none⟩ = some (.int .i64 mh) := (hb3.cell (p := ⟨w2.heap.size, 1, none⟩) (by simp)).trans (by simp [go_sem])
       clear hb3)
    | (go_at_call 7
       go_must (refine (first_any _).mono ?_)
       rintro e w4 ⟨rfl, hb4⟩
       have f4 : Below W0.heap.size W0 w4 := bel (by repeat (refine Below.alloc ?_ (by have := f3.size; simp <;> omega) _)
                                                     exact f3) hb4)
    | go_in)
  go_ret
  exact ⟨rfl, bel hw0 f4⟩

set_option maxRecDepth 100000 in
set_option maxHeartbeats 4000000 in
theorem walk_no (al ah bl bh hl hh d : Int) (ha : okS al ah) (hb : okS bl bh) (h1 : (al ≤ bl ∧ hl = al) ∨ (bl < al ∧ hl = bl)) (h2 : (bh ≤ ah ∧ hh = ah) ∨ (ah < bh ∧ hh = bh))
    (h3 : (ah < bl ∧ d = bl - ah) ∨ (bh < al ∧ d = al - bh)) (w : World) :
    Calls Try.prog 3 #[.agg #[.int .i64 al, .int .i64 ah], .agg #[.int .i64 bl, .int .i64 bh]] w (RetB w true) := by
  obtain ⟨W0, HW0, hw0, HG, z0⟩ := W0ex w al ah bl bh
  have HH := Lib.hid (And.intro h1 (And.intro h2 h3))
  have HO := Lib.hid (And.intro ha hb)
  obtain ⟨a1, a2, a3⟩ := ha
  obtain ⟨b1, b2, b3⟩ := hb
  have i1 : hl ≤ al := by omega
  have i2 : hl ≤ bl := by omega
  have i3 : ah ≤ hh := by omega
  have i4 : bh ≤ hh := by omega
  have i5 : 0 < d := by omega
  have i6 : hh - hl ≤ ah - al + d + bh - bl := by omega
  have i7 : ah - al + d + bh - bl ≤ hh - hl := by omega
  have i8 : d ≤ 2305843009213693952 := by omega
  have HX : Hid (ah < bl ∨ bh < al) := by rcases h3 with h | h
                                          · exact Or.inl h.1
                                          · exact Or.inr h.1
  clear h1 h2 h3
  obtain ⟨k0, k1⟩ := xy_cells HG.out.1 (Below.refl _ _)
  obtain ⟨k2, k3⟩ := xy_cells HG.out.2 (Below.refl _ _)
  go_enter Try.func3, Try.ntmps3
  have y0 : w.heap.size < W0.heap.size := by omega
  go_wp2_with fail
  rw [← HW0.out]
  go_wp2_with (first
    | (go_at_call 8
       go_must (refine (hull_ok al ah bl bh hl hh HO.out.1 HO.out.2 HH.out.1 HH.out.2.1 _).mono ?_)
       rintro e w1 ⟨rfl, hb1⟩
       have f1 : Below W0.heap.size W0 w1 := bel (by repeat (refine Below.alloc ?_ (by simp <;> omega) _)
                                                     exact Below.refl _ _) hb1
       obtain ⟨p0, p1⟩ := xy_cells HG.out.1 f1
       obtain ⟨p2, p3⟩ := xy_cells HG.out.2 f1
       have z1 : w.heap.size + 1 < w1.heap.size := Nat.lt_of_lt_of_le z0 f1.size
       have y1 : w.heap.size < w1.heap.size := by omega
       clear hb1)
    | (go_at_call 9
       go_must (refine (meet_no al ah bl bh HO.out.1 HO.out.2 HX.out _).mono ?_)
       rintro e w2 ⟨rfl, hb2⟩
       have f2 : Below W0.heap.size W0 w2 := bel (by repeat (refine Below.alloc ?_ (by have := f1.size; simp <;> omega) _)
                                                     exact f1) hb2
       obtain ⟨q0, q1⟩ := xy_cells HG.out.1 f2
       obtain ⟨q2, q3⟩ := xy_cells HG.out.2 f2
       have z2 : w1.heap.size < w2.heap.size := by have := hb2.size; simp at this; omega
       have z2' : w.heap.size + 1 < w2.heap.size := Nat.lt_of_lt_of_le z0 f2.size
       have y2 : w.heap.size < w2.heap.size := by omega
       have u0 : w2.cell? ⟨w1.heap.size, 0, none⟩ = some (.int .i64 hl) := (hb2.cell (p := ⟨w1.heap.size, 0, none⟩) (by simp)).trans (by simp [go_sem])
       have u1 : w2.cell? ⟨w1.heap.size, 1, none⟩ = some (.int .i64 hh) := (hb2.cell (p := ⟨w1.heap.size, 1, none⟩) (by simp)).trans (by simp [go_sem])
       clear hb2)
    | (go_at_call 10
       go_must (refine (gap_ok al ah bl bh d HO.out.1 HO.out.2 (Or.inr HH.out.2.2) _).mono ?_)
       rintro e w3 ⟨rfl, hb3⟩
       have f3 : Below W0.heap.size W0 w3 := bel (by repeat (refine Below.alloc ?_ (by have := f2.size; simp <;> omega) _)
                                                     exact f2) hb3
       obtain ⟨r0, r1⟩ := xy_cells HG.out.1 f3
       obtain ⟨r2, r3⟩ := xy_cells HG.out.2 f3
       have z3 : w2.heap.size < w3.heap.size := by have := hb3.size; simp at this; omega
       have z3' : w.heap.size + 1 < w3.heap.size := Nat.lt_of_lt_of_le z0 f3.size
       have y3 : w.heap.size < w3.heap.size := by omega
       have z3'' : w1.heap.size < w3.heap.size := by omega
       have t1 : w.heap.size < w3.heap.size + 1 := by omega
       have t2 : w.heap.size < w3.heap.size + 1 + 1 := by omega
       have t3 : w.heap.size < w3.heap.size + 1 + 1 + 1 := by omega
       have t4 : w.heap.size < w3.heap.size + 1 + 1 + 1 + 1 := by omega
       have t5 : w.heap.size < w3.heap.size + 1 + 1 + 1 + 1 + 1 := by omega
       have t6 : w.heap.size < w3.heap.size + 1 + 1 + 1 + 1 + 1 + 1 := by omega
       have t7 : w.heap.size < w3.heap.size + 1 + 1 + 1 + 1 + 1 + 1 + 1 := by omega
       have t8 : w.heap.size < w3.heap.size + 1 + 1 + 1 + 1 + 1 + 1 + 1 + 1 := by omega
       have t9 : w.heap.size + 1 < w3.heap.size + 1 := by omega
       have t10 : w.heap.size + 1 < w3.heap.size + 1 + 1 := by omega
       have t11 : w.heap.size + 1 < w3.heap.size + 1 + 1 + 1 := by omega
       have t12 : w.heap.size + 1 < w3.heap.size + 1 + 1 + 1 + 1 := by omega
       have t13 : w.heap.size + 1 < w3.heap.size + 1 + 1 + 1 + 1 + 1 := by omega
       have t14 : w.heap.size + 1 < w3.heap.size + 1 + 1 + 1 + 1 + 1 + 1 := by omega
       have t15 : w.heap.size + 1 < w3.heap.size + 1 + 1 + 1 + 1 + 1 + 1 + 1 := by omega
       have t16 : w.heap.size + 1 < w3.heap.size + 1 + 1 + 1 + 1 + 1 + 1 + 1 + 1 := by omega
       have t17 : w1.heap.size < w3.heap.size + 1 := by omega
       have t18 : w1.heap.size < w3.heap.size + 1 + 1 := by omega
       have t19 : w1.heap.size < w3.heap.size + 1 + 1 + 1 := by omega
       have t20 : w1.heap.size < w3.heap.size + 1 + 1 + 1 + 1 := by omega
       have t21 : w1.heap.size < w3.heap.size + 1 + 1 + 1 + 1 + 1 := by omega
       have t22 : w1.heap.size < w3.heap.size + 1 + 1 + 1 + 1 + 1 + 1 := by omega
       have t23 : w1.heap.size < w3.heap.size + 1 + 1 + 1 + 1 + 1 + 1 + 1 := by omega
       have t24 : w1.heap.size < w3.heap.size + 1 + 1 + 1 + 1 + 1 + 1 + 1 + 1 := by omega
       have t25 : w2.heap.size < w3.heap.size + 1 := by omega
       have t26 : w2.heap.size < w3.heap.size + 1 + 1 := by omega
       have t27 : w2.heap.size < w3.heap.size + 1 + 1 + 1 := by omega
       have t28 : w2.heap.size < w3.heap.size + 1 + 1 + 1 + 1 := by omega
       have t29 : w2.heap.size < w3.heap.size + 1 + 1 + 1 + 1 + 1 := by omega
       have t30 : w2.heap.size < w3.heap.size + 1 + 1 + 1 + 1 + 1 + 1 := by omega
       have t31 : w2.heap.size < w3.heap.size + 1 + 1 + 1 + 1 + 1 + 1 + 1 := by omega
       have t32 : w2.heap.size < w3.heap.size + 1 + 1 + 1 + 1 + 1 + 1 + 1 + 1 := by omega
       have v0 : w3.cell? ⟨w1.heap.size, 0, none⟩ = some (.int .i64 hl) := (hb3.cell (p := ⟨w1.heap.size, 0, none⟩) (by simp; omega)).trans (by simp [go_sem, z2, u0])
       have v1 : w3.cell? ⟨w1.heap.size, 1, none⟩ = some (.int .i64 hh) := (hb3.cell (p := ⟨w1.heap.size, 1, none⟩) (by simp; omega)).trans (by simp [go_sem, z2, u1])
       have m0 : w3.cell? ⟨w2.heap.size, 0, none⟩ = some (.int .i64 0) := (hb3.cell (p := ⟨w2.heap.size, 0, none⟩) (by simp)).trans (by simp [go_sem])
       have m1 : w3.cell? ⟨w2.heap.size, 1, none⟩ = some (.int .i64 0) := (hb3.cell (p := ⟨w2.heap.size, 1, none⟩) (by simp)).trans (by simp [go_sem])
       clear hb3)
    | (go_at_call 7
       go_must (refine (first_any _).mono ?_)
       rintro e w4 ⟨rfl, hb4⟩
       have f4 : Below W0.heap.size W0 w4 := bel (by repeat (refine Below.alloc ?_ (by have := f3.size; simp <;> omega) _)
                                                     exact f3) hb4)
    | go_in)
  go_ret
  exact ⟨rfl, bel hw0 f4⟩

set_option maxRecDepth 100000 in
set_option maxHeartbeats 4000000 in
theorem good_no (l h : Int) (hn : ¬ okS l h) (w : World) : Calls Try.prog 6 #[.agg #[.int .i64 l, .int .i64 h]] w (RetB w false) := by
  unfold okS at hn
  by_cases h1 : -1152921504606846976 ≤ l
  · by_cases h2 : l ≤ h
    · have h3 : ¬ h ≤ 1152921504606846976 := by omega
      have d3 : decide (h ≤ 1152921504606846976) = false := by simpa using h3
      clear hn
      go_enter Try.func6, Try.ntmps6
      go_wp2
      go_ret
      exact ⟨by simp <;> omega, (Below.refl _ _).alloc (Nat.le_refl _) _⟩
    · have d2 : decide (l ≤ h) = false := by simpa using h2
      clear hn
      go_enter Try.func6, Try.ntmps6
      go_wp2
      go_ret
      exact ⟨by simp <;> omega, (Below.refl _ _).alloc (Nat.le_refl _) _⟩
  · have d1 : decide (-1152921504606846976 ≤ l) = false := by simpa using h1
    clear hn
    go_enter Try.func6, Try.ntmps6
    go_wp2
    go_ret
    exact ⟨by simp <;> omega, (Below.refl _ _).alloc (Nat.le_refl _) _⟩

set_option maxRecDepth 100000 in
theorem good_yes (l h : Int) (hn : okS l h) (w : World) : Calls Try.prog 6 #[.agg #[.int .i64 l, .int .i64 h]] w (RetB w true) := by
  obtain ⟨h1, h2, h3⟩ := hn
  go_enter Try.func6, Try.ntmps6
  go_wp2
  go_ret
  exact ⟨by simp [*], (Below.refl _ _).alloc (Nat.le_refl _) _⟩

set_option maxRecDepth 100000 in
set_option maxHeartbeats 4000000 in
theorem walk_bad (al ah bl bh : Int) (h : ¬ (okS al ah ∧ okS bl bh)) (w : World) :
    Calls Try.prog 3 #[.agg #[.int .i64 al, .int .i64 ah], .agg #[.int .i64 bl, .int .i64 bh]] w (RetB w true) := by
  obtain ⟨W0, HW0, hw0, HG, z0⟩ := W0ex w al ah bl bh
  by_cases ha : okS al ah
  · have HA := Lib.hid ha
    have HB := Lib.hid (fun hb => h ⟨ha, hb⟩ : ¬ okS bl bh)
    clear h ha
    go_enter Try.func3, Try.ntmps3
    go_wp2_with fail
    rw [← HW0.out]
    refine (good_yes al ah HA.out _).mono ?_
    rintro e w1 ⟨rfl, f1⟩
    obtain ⟨p2, p3⟩ := xy_cells HG.out.2 f1
    go_wp2_with fail
    refine (good_no bl bh HB.out _).mono ?_
    rintro e w2 ⟨rfl, hb2⟩
    have f2 := bel f1 hb2
    go_wp2_with fail
    refine (first_any _).mono ?_
    rintro e w4 ⟨rfl, hb4⟩
    go_wp2
    go_ret
    exact ⟨rfl, bel hw0 (bel f2 hb4)⟩
  · have HA := Lib.hid ha
    clear h ha
    go_enter Try.func3, Try.ntmps3
    go_wp2_with fail
    rw [← HW0.out]
    refine (good_no al ah HA.out _).mono ?_
    rintro e w2 ⟨rfl, f2⟩
    go_wp2_with fail
    refine (first_any _).mono ?_
    rintro e w4 ⟨rfl, hb4⟩
    go_wp2
    go_ret
    exact ⟨rfl, bel hw0 (bel f2 hb4)⟩

theorem walk (al ah bl bh : Int) (w : World) :
    Calls Try.prog 3 #[.agg #[.int .i64 al, .int .i64 ah], .agg #[.int .i64 bl, .int .i64 bh]] w (RetB w true) := by
  by_cases h : okS al ah ∧ okS bl bh
  · obtain ⟨ha, hb⟩ := h
    obtain ⟨hl, h1⟩ : ∃ hl, (al ≤ bl ∧ hl = al) ∨ (bl < al ∧ hl = bl) := by
      by_cases c : al ≤ bl
      · exact ⟨al, Or.inl ⟨c, rfl⟩⟩
      · exact ⟨bl, Or.inr ⟨by omega, rfl⟩⟩
    obtain ⟨hh, h2⟩ : ∃ hh, (bh ≤ ah ∧ hh = ah) ∨ (ah < bh ∧ hh = bh) := by
      by_cases c : bh ≤ ah
      · exact ⟨ah, Or.inl ⟨c, rfl⟩⟩
      · exact ⟨bh, Or.inr ⟨by omega, rfl⟩⟩
    by_cases c1 : ah < bl
    · exact walk_no al ah bl bh hl hh (bl - ah) ha hb h1 h2 (Or.inl ⟨c1, rfl⟩) w
    · by_cases c2 : bh < al
      · exact walk_no al ah bl bh hl hh (al - bh) ha hb h1 h2 (Or.inr ⟨c2, rfl⟩) w
      · obtain ⟨ml, h3⟩ : ∃ ml, (bl ≤ al ∧ ml = al) ∨ (al < bl ∧ ml = bl) := by
          by_cases c : bl ≤ al
          · exact ⟨al, Or.inl ⟨c, rfl⟩⟩
          · exact ⟨bl, Or.inr ⟨by omega, rfl⟩⟩
        obtain ⟨mh, h4⟩ : ∃ mh, (ah ≤ bh ∧ mh = ah) ∨ (bh < ah ∧ mh = bh) := by
          by_cases c : ah ≤ bh
          · exact ⟨ah, Or.inl ⟨c, rfl⟩⟩
          · exact ⟨bh, Or.inr ⟨by omega, rfl⟩⟩
        unfold okS at ha hb
        exact walk_yes al ah bl bh hl hh ml mh 0 ha hb h1 h2 h3 h4 (by omega) rfl w
  · exact walk_bad al ah bl bh h w

set_option maxRecDepth 100000 in
theorem lifted (os : Os) (started : os.Started) (H : Type) (enc : TypeId × Value → H) :
    ReturnsInHanded {} Try.checked os 3 .any (Rows.exactMeetsSpec.pre6 enc Try.prog Try.f3 Rows.exactMeetsRow.domain false) (Rows.exactMeetsSpec.post enc Try.prog Try.f3 false true false false) := by
  refine returnsInHanded_of_change (C := Try.checked) ownTry started (by kernel_rfl) Try.func3
    (ChangeSpec.witness6 (enc := enc) (C := Try.checked) false ⟨#[], #[.agg #[.int .i64 0, .int .i64 0], .agg #[.int .i64 0, .int .i64 0]], []⟩ 8 (by kernel_rfl) (by kernel_rfl) (by kernel_rfl) (by kernel_rfl)) ?_
  intro W base args ds gs before hval0 hW hcnd _
  have hval : ∀ (j : Nat) t v, Try.f3.params[j]? = some t → args[j]? = some v → Value.okWide Try.prog W .any base t v := hval0
  have hW' := hW
  obtain ⟨p, q, hA0, hV, rfl, hfz, hnd⟩ := hW
  have hA : DataW.TrodAll enc Try.prog W 0 (fun _ => true) true Try.f3.params.toList args.toList ds p := hA0
  rw [Try.params3] at hA hval
  obtain ⟨v0, v1, d0, d1, p0, p1, rfl, rfl, rfl, h0, h1⟩ := trodAll_two hA
  obtain ⟨rfl, rfl⟩ := trodVars_none hV
  obtain ⟨c0, c0', y0, y0', m0, rfl, rfl, rfl, hy0, hy0'⟩ := open_agg2 Try.underlying23 (by kernel_rfl) cellsSpan (hval 0 23 v0 rfl rfl) h0
  obtain ⟨c1, c1', y1, y1', m1, rfl, rfl, rfl, hy1, hy1'⟩ := open_agg2 Try.underlying23 (by kernel_rfl) cellsSpan (hval 1 23 v1 rfl rfl) h1
  obtain ⟨ax, e0, rfl, wax⟩ := DataW.trod_int Try.underlying3 hy0
  obtain ⟨ay, e0', rfl, way⟩ := DataW.trod_int Try.underlying3 hy0'
  obtain ⟨bx, e1, rfl, wbx⟩ := DataW.trod_int Try.underlying3 hy1
  obtain ⟨by_, e1', rfl, wby⟩ := DataW.trod_int Try.underlying3 hy1'
  simp at e0 e0' e1 e1'
  subst e0 e0' e1 e1'
  clear hA0 hval0
  simp only [List.append_nil] at hW'
  have reads : ∀ (W' : World) (sp : Nat → Bool) (x y : Int) (wx : (Lit.int .i64 x).wf = true) (wy : (Lit.int .i64 y).wf = true), DataW.Trod enc Try.prog W' 0 sp true 23 (.agg #[.int .i64 x, .int .i64 y]) (.agg [.lit (.int .i64 x), .lit (.int .i64 y)]) [] := fun W' sp x y wx wy =>
    shut_agg2 (y0 := (.lit (.int .i64 x), [])) (y1 := (.lit (.int .i64 y), [])) Try.underlying23 (by kernel_rfl) cellsSpan ⟨1, by simp [DataW.trod, Try.underlying3, wx]⟩ ⟨1, by simp [DataW.trod, Try.underlying3, wy]⟩
  refine (walk ax ay bx by_ W).mono fun e W' ⟨he, hg⟩ => ?_
  subst he
  exact ⟨_, rfl, post_below (pa := []) (pv := []) hW' (fun _ _ _ => trodAll_mk1 (shut_bool Try.underlying4 _)) (fun sp _ => trodAll_mk2 (reads _ sp ax ay wax way) (reads _ sp bx by_ wbx wby)) (fun _ _ => rfl) rfl
    hg (ok_one (by kernel_rfl) rfl (okWide_bool_mk Try.underlying4 _))⟩

theorem over : Rows.exactMeetsRow.holds Try.pinned (OpenSpec.ofChange Rows.exactMeetsSpec) :=
  OpenClaim.holds_of_wide 3 Try.f3 rfl rfl rfl rfl rfl rfl rfl ⟨rfl, rfl, rfl, rfl, rfl⟩ rfl rfl rfl rfl rfl (by kernel_rfl) Try.func3 (by kernel_rfl)
    (of_decide_eq_true (by kernel_rfl)) (by unfold Func.isWrapper; first | (rw [if_pos (by decide +kernel)]; kernel_rfl) | (rw [if_neg (by decide +kernel)]; exact ⟨rfl, rfl⟩))
    (fun os started H enc _ => lifted os started H enc)

theorem proved : Rows.ExactMeetsSaid := over
end Go.Proofs.Ytpjgoibchknbmab.exactMeets
