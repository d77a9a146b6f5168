/-
  Which fixes, syncs and rules are valid: the code's and the document's.
-/
import Derived.Test.YtfalhfgnobjfgaaKTurns
import Derived.Test.YtfalhfgnobjfgaaKBase
namespace Go.Proofs.Ytfalhfgnobjfgaa
open Go.RowKit

def okFix (t x y z e a b c d tl : Int) : Prop := (0 ≤ t ∧ t ≤ 1125899906842624) ∧ InB (-134217728) 134217728 [x, y, z] ∧ (0 ≤ e ∧ e ≤ 100000) ∧ okT a b c d 1000 ∧ (0 ≤ tl ∧ tl ≤ 1000000)
instance (t x y z e a b c d tl : Int) : Decidable (okFix t x y z e a b c d tl) := by unfold okFix; infer_instance
def okSync (s n e : Int) : Prop := (0 ≤ s ∧ s ≤ 1125899906842624) ∧ (0 ≤ n ∧ n ≤ 1125899906842624) ∧ (0 ≤ e ∧ e ≤ 100000)
instance (s n e : Int) : Decidable (okSync s n e) := by unfold okSync; infer_instance
def okRules (g s a r : Int) : Prop := (1 ≤ g ∧ g ≤ 10000000) ∧ (0 ≤ s ∧ s ≤ 1000000) ∧ (0 ≤ a ∧ a ≤ 100000) ∧ (0 ≤ r ∧ r ≤ 10000000)
instance (g s a r : Int) : Decidable (okRules g s a r) := by unfold okRules; infer_instance

theorem iw_blk {W0 w1 : World} {g : Nat} {cs : Array Value} {T : TypeId} (hG : W0.heap[g]? = some (.cells cs T (0, 0))) (h : Below W0.heap.size W0 w1) (o c : Nat) (zs : List Int) (hc : zs.length ≤ c ∧ c ≤ maxLen) (hz : ∀ j, j < zs.length → cs[o + j]? = some (.int .i64 (ith zs j))) :
    IW w1 W0.heap.size (.slice (some ⟨g, o, none⟩) zs.length c) zs :=
  IW.mk rfl hc.1 hc.2 fun _ => ⟨g, o, rfl, (Array.getElem?_eq_some_iff.1 hG).1, fun j hj => blk_cell hG h (o + j) _ (hz j hj)⟩
theorem iw_one1 {w W0 : World} (hs : W0.heap.size = w.heap.size + 1) (x : Int) (T : TypeId) : IW (W0.alloc (.cells #[.int .i64 x] T)) (W0.alloc (.cells #[.int .i64 x] T)).heap.size (.slice (some ⟨w.heap.size + 1, 0, none⟩) 1 1) [x] := by
  rw [← hs]; exact iw_one W0 x T
theorem iw_two1 {w W0 : World} (hs : W0.heap.size = w.heap.size + 1) (x y : Int) (T : TypeId) : IW (W0.alloc (.cells #[.int .i64 x, .int .i64 y] T)) (W0.alloc (.cells #[.int .i64 x, .int .i64 y] T)).heap.size (.slice (some ⟨w.heap.size + 1, 0, none⟩) 2 2) [x, y] := by
  rw [← hs]; exact iw_two W0 x y T
theorem in_twoD (lo hi x y : Int) : decide (InB lo hi [x, y]) = decide ((lo ≤ x ∧ x ≤ hi) ∧ (lo ≤ y ∧ y ≤ hi)) := decide_eq_decide.2 (by simp [InB])
theorem ix30 (a b c : Value) : ∀ w, (Instr.index 22 (.agg #[a, b, c]) (.int .i64 0)).run Try.prog w = .ok a w := fun _ => by kernel_rfl
theorem ix31 (a b c : Value) : ∀ w, (Instr.index 22 (.agg #[a, b, c]) (.int .i64 1)).run Try.prog w = .ok b w := fun _ => by kernel_rfl
theorem ix32 (a b c : Value) : ∀ w, (Instr.index 22 (.agg #[a, b, c]) (.int .i64 2)).run Try.prog w = .ok c w := fun _ => by kernel_rfl


set_option maxRecDepth 100000 in
set_option maxHeartbeats 800000 in
theorem validFix_any (t x y z e a b c d tl : Int) (w : World) :
    Calls Try.prog 26 #[.agg #[.int .i64 t, .int .i64 x, .int .i64 y, .int .i64 z, .int .i64 e, .int .i64 a, .int .i64 b, .int .i64 c, .int .i64 d, .int .i64 tl]] w (RetB w (decide (okFix t x y z e a b c d tl))) := by
  obtain ⟨W0, HW0, HW, HG, hsz⟩ := boxes1s w #[.int .i64 t, .int .i64 x, .int .i64 y, .int .i64 z, .int .i64 e, .int .i64 a, .int .i64 b, .int .i64 c, .int .i64 d, .int .i64 tl] 25
  have HZ := Lib.hid hsz
  clear hsz
  obtain ⟨r, hr⟩ : ∃ r, decide (okFix t x y z e a b c d tl) = r := ⟨_, rfl⟩
  have HR := Lib.hid hr
  rw [hr]
  clear hr
  go_enter Try.func26, Try.ntmps26
  go_wp2_with fail
  rw [← HW0.out]
  refine (within_any 0 1125899906842624 [t] _ 1 1 _ _ (iw_one1 HZ.out _ _)).mono ?_
  rintro en w1 ⟨rfl, hb1⟩
  rw [in_oneD]
  have HC1 := Lib.hid (bel_ (Below.refl W0.heap.size W0) (below_al hb1))
  clear hb1
  by_cases h1 : 0 ≤ t ∧ t ≤ 1125899906842624
  case neg =>
    rw [decide_eq_false h1]
    have h0 : Hid (r = false) := by rw [← HR.out]; exact decide_eq_false (fun h => h1 (h.1))
    clear h1
    go_wp2
    go_ret
    exact ⟨by rw [h0.out]; rfl, bel_ HW.out HC1.out⟩
  rw [decide_eq_true h1]
  have H1 := Lib.hid h1
  clear h1
  go_wp2_with fail
  refine (within_any (-134217728) 134217728 [x, y, z] _ 3 3 _ _ (iw_blk HG.out HC1.out 1 3 [x, y, z] (by simp [maxLen]) (fun j hj => by match j, hj with | 0, _ => rfl | 1, _ => rfl | 2, _ => rfl))).mono ?_
  rintro en w2 ⟨rfl, hb2⟩
  have HC2 := Lib.hid (bel_ HC1.out hb2)
  clear  hb2
  by_cases h2 : InB (-134217728) 134217728 [x, y, z]
  case neg =>
    rw [decide_eq_false h2]
    have h0 : Hid (r = false) := by rw [← HR.out]; exact decide_eq_false (fun h => h2 (h.2.1))
    clear h2
    go_wp2
    go_ret
    exact ⟨by rw [h0.out]; rfl, bel_ HW.out HC2.out⟩
  rw [decide_eq_true h2]
  have H2 := Lib.hid h2
  clear h2
  have k4 := blk_cell HG.out HC2.out 4 (.int .i64 e) rfl
  go_wp2_with fail
  refine (within_any 0 100000 [e] _ 1 1 _ _ (iw_one _ _ _)).mono ?_
  rintro en w3 ⟨rfl, hb3⟩
  rw [in_oneD]
  have HC3 := Lib.hid (bel_ HC2.out (below_al hb3))
  clear k4 hb3
  by_cases h3 : 0 ≤ e ∧ e ≤ 100000
  case neg =>
    rw [decide_eq_false h3]
    have h0 : Hid (r = false) := by rw [← HR.out]; exact decide_eq_false (fun h => h3 (h.2.2.1))
    clear h3
    go_wp2
    go_ret
    exact ⟨by rw [h0.out]; rfl, bel_ HW.out HC3.out⟩
  rw [decide_eq_true h3]
  have H3 := Lib.hid h3
  clear h3
  have k5 := blk_cell HG.out HC3.out 5 (.int .i64 a) rfl
  have k6 := blk_cell HG.out HC3.out 6 (.int .i64 b) rfl
  have k7 := blk_cell HG.out HC3.out 7 (.int .i64 c) rfl
  have k8 := blk_cell HG.out HC3.out 8 (.int .i64 d) rfl
  go_wp2_with fail
  refine (isTurn_any a b c d 1000 (by omega) _).mono ?_
  rintro en w4 ⟨rfl, hb4⟩
  have HC4 := Lib.hid (bel_ HC3.out hb4)
  clear k5 k6 k7 k8 hb4
  by_cases h4 : okT a b c d 1000
  case neg =>
    rw [decide_eq_false h4]
    have h0 : Hid (r = false) := by rw [← HR.out]; exact decide_eq_false (fun h => h4 (h.2.2.2.1))
    clear h4
    go_wp2
    go_ret
    exact ⟨by rw [h0.out]; rfl, bel_ HW.out HC4.out⟩
  rw [decide_eq_true h4]
  have H4 := Lib.hid h4
  clear h4
  have k9 := blk_cell HG.out HC4.out 9 (.int .i64 tl) rfl
  go_wp2_with fail
  refine (within_any 0 1000000 [tl] _ 1 1 _ _ (iw_one _ _ _)).mono ?_
  rintro en w5 ⟨rfl, hb5⟩
  rw [in_oneD]
  have HC5 := Lib.hid (bel_ HC4.out (below_al hb5))
  clear k9 hb5
  by_cases h5 : 0 ≤ tl ∧ tl ≤ 1000000
  case neg =>
    rw [decide_eq_false h5]
    have h0 : Hid (r = false) := by rw [← HR.out]; exact decide_eq_false (fun h => h5 (h.2.2.2.2))
    clear h5
    go_wp2
    go_ret
    exact ⟨by rw [h0.out]; rfl, bel_ HW.out HC5.out⟩
  rw [decide_eq_true h5]
  have H5 := Lib.hid h5
  clear h5
  have h0 : Hid (r = true) := by rw [← HR.out]; exact decide_eq_true (⟨H1.out, H2.out, H3.out, H4.out, H5.out⟩)
  go_wp2
  go_ret
  exact ⟨by rw [h0.out]; rfl, bel_ HW.out HC5.out⟩
def FxR (W0 : World) (x y z : Int) (iv : Value) (wr : World) : Prop :=
  (iv = .int .i64 0 ∧ Below W0.heap.size W0 wr) ∨
  (iv = .int .i64 1 ∧ Below W0.heap.size W0 wr ∧ (-134217728 ≤ x ∧ x ≤ 134217728)) ∨
  (iv = .int .i64 2 ∧ Below W0.heap.size W0 wr ∧ (-134217728 ≤ x ∧ x ≤ 134217728) ∧ (-134217728 ≤ y ∧ y ≤ 134217728)) ∨
  (iv = .int .i64 3 ∧ Below W0.heap.size W0 wr ∧ (-134217728 ≤ x ∧ x ≤ 134217728) ∧ (-134217728 ≤ y ∧ y ≤ 134217728) ∧ (-134217728 ≤ z ∧ z ≤ 134217728))
theorem inB3 (x y z : Int) : InB (-134217728) 134217728 [x, y, z] ↔ (-134217728 ≤ x ∧ x ≤ 134217728) ∧ (-134217728 ≤ y ∧ y ≤ 134217728) ∧ (-134217728 ≤ z ∧ z ≤ 134217728) := by simp [InB]

set_option maxRecDepth 100000 in
set_option maxHeartbeats 800000 in
theorem refValidFix_any (t x y z e a b c d tl : Int) (w : World) :
    Calls Try.prog 18 #[.agg #[.int .i64 t, .int .i64 x, .int .i64 y, .int .i64 z, .int .i64 e, .int .i64 a, .int .i64 b, .int .i64 c, .int .i64 d, .int .i64 tl]] w (RetB w (decide (okFix t x y z e a b c d tl))) := by
  obtain ⟨W0, HW0, HW, HG, hsz⟩ := boxes1s w #[.int .i64 t, .int .i64 x, .int .i64 y, .int .i64 z, .int .i64 e, .int .i64 a, .int .i64 b, .int .i64 c, .int .i64 d, .int .i64 tl] 25
  have HZ := Lib.hid hsz
  clear hsz
  obtain ⟨r, hr⟩ : ∃ r, decide (okFix t x y z e a b c d tl) = r := ⟨_, rfl⟩
  have HR := Lib.hid hr
  rw [hr]
  clear hr
  have i0 := ix30 (.int .i64 x) (.int .i64 y) (.int .i64 z)
  have i1 := ix31 (.int .i64 x) (.int .i64 y) (.int .i64 z)
  have i2 := ix32 (.int .i64 x) (.int .i64 y) (.int .i64 z)
  go_enter Try.func18, Try.ntmps18
  go_wp2
  rw [← HW0.out]
  go_loopw [7] (fun iv wr => FxR W0 x y z iv wr) (fun iv _ => 3 - (numOf iv).toNat)
  case atStart => exact Or.inl ⟨rfl, Below.refl _ _⟩
  case round =>
    unfold FxR at hrel
    rcases hrel with ⟨rfl, hb⟩ | ⟨rfl, hb, y0⟩ | ⟨rfl, hb, y0, y1⟩ | ⟨rfl, hb, y0, y1, y2⟩
    · have HB := Lib.hid hb
      clear hb
      go_wp2_with fail
      refine (from_any (-134217728) x 134217728 _).mono ?_
      rintro en w2 ⟨rfl, hb2'⟩
      have HB2 := Lib.hid (bel_ HB.out hb2')
      clear hb2'
      by_cases hx : -134217728 ≤ x ∧ x ≤ 134217728
      · rw [decide_eq_true hx]
        have HX := Lib.hid hx
        clear hx
        go_wp2
        go_roundw
        case rel => exact Or.inr (Or.inl ⟨rfl, HB2.out, HX.out⟩)
        case measure => simp [numOf]
      · rw [decide_eq_false hx]
        have h0 : Hid (r = false) := by rw [← HR.out]; exact decide_eq_false (fun h => hx ((inB3 x y z).1 h.2.1).1)
        clear hx
        go_wp2
        go_ret
        exact ⟨by rw [h0.out]; rfl, bel_ HW.out HB2.out⟩
    · have HB := Lib.hid hb
      have Z0 := Lib.hid y0
      clear y0
      clear hb
      go_wp2_with fail
      refine (from_any (-134217728) y 134217728 _).mono ?_
      rintro en w2 ⟨rfl, hb2'⟩
      have HB2 := Lib.hid (bel_ HB.out hb2')
      clear hb2'
      by_cases hx : -134217728 ≤ y ∧ y ≤ 134217728
      · rw [decide_eq_true hx]
        have HX := Lib.hid hx
        clear hx
        go_wp2
        go_roundw
        case rel => exact Or.inr (Or.inr (Or.inl ⟨rfl, HB2.out, Z0.out, HX.out⟩))
        case measure => simp [numOf]
      · rw [decide_eq_false hx]
        have h0 : Hid (r = false) := by rw [← HR.out]; exact decide_eq_false (fun h => hx ((inB3 x y z).1 h.2.1).2.1)
        clear hx
        go_wp2
        go_ret
        exact ⟨by rw [h0.out]; rfl, bel_ HW.out HB2.out⟩
    · have HB := Lib.hid hb
      have Z0 := Lib.hid y0
      clear y0
      have Z1 := Lib.hid y1
      clear y1
      clear hb
      go_wp2_with fail
      refine (from_any (-134217728) z 134217728 _).mono ?_
      rintro en w2 ⟨rfl, hb2'⟩
      have HB2 := Lib.hid (bel_ HB.out hb2')
      clear hb2'
      by_cases hx : -134217728 ≤ z ∧ z ≤ 134217728
      · rw [decide_eq_true hx]
        have HX := Lib.hid hx
        clear hx
        go_wp2
        go_roundw
        case rel => exact Or.inr (Or.inr (Or.inr (⟨rfl, HB2.out, Z0.out, Z1.out, HX.out⟩)))
        case measure => simp [numOf]
      · rw [decide_eq_false hx]
        have h0 : Hid (r = false) := by rw [← HR.out]; exact decide_eq_false (fun h => hx ((inB3 x y z).1 h.2.1).2.2)
        clear hx
        go_wp2
        go_ret
        exact ⟨by rw [h0.out]; rfl, bel_ HW.out HB2.out⟩
    · have HB := Lib.hid hb
      have HP := Lib.hid ((inB3 x y z).2 ⟨y0, y1, y2⟩)
      clear hb y0 y1 y2
      have k0 := blk_cell HG.out HB.out 0 (.int .i64 t) rfl
      go_wp2_with fail
      refine (from_any 0 t 1125899906842624 _).mono ?_
      rintro en w1 ⟨rfl, hb1⟩
      have HC1 := Lib.hid (bel_ HB.out hb1)
      clear k0 hb1
      by_cases h1 : 0 ≤ t ∧ t ≤ 1125899906842624
      case neg =>
        rw [decide_eq_false h1]
        have h0 : Hid (r = false) := by rw [← HR.out]; exact decide_eq_false (fun h => h1 (h.1))
        clear h1
        go_wp2
        go_ret
        exact ⟨by rw [h0.out]; rfl, bel_ HW.out HC1.out⟩
      rw [decide_eq_true h1]
      have H1 := Lib.hid h1
      clear h1
      have k4 := blk_cell HG.out HC1.out 4 (.int .i64 e) rfl
      go_wp2_with fail
      refine (from_any 0 e 100000 _).mono ?_
      rintro en w2 ⟨rfl, hb2⟩
      have HC2 := Lib.hid (bel_ HC1.out hb2)
      clear k4 hb2
      by_cases h2 : 0 ≤ e ∧ e ≤ 100000
      case neg =>
        rw [decide_eq_false h2]
        have h0 : Hid (r = false) := by rw [← HR.out]; exact decide_eq_false (fun h => h2 (h.2.2.1))
        clear h2
        go_wp2
        go_ret
        exact ⟨by rw [h0.out]; rfl, bel_ HW.out HC2.out⟩
      rw [decide_eq_true h2]
      have H2 := Lib.hid h2
      clear h2
      have k5 := blk_cell HG.out HC2.out 5 (.int .i64 a) rfl
      have k6 := blk_cell HG.out HC2.out 6 (.int .i64 b) rfl
      have k7 := blk_cell HG.out HC2.out 7 (.int .i64 c) rfl
      have k8 := blk_cell HG.out HC2.out 8 (.int .i64 d) rfl
      go_wp2_with fail
      refine (turns_any a b c d 1000 (by omega) _).mono ?_
      rintro en w3 ⟨rfl, hb3⟩
      have HC3 := Lib.hid (bel_ HC2.out hb3)
      clear k5 k6 k7 k8 hb3
      by_cases h3 : okT a b c d 1000
      case neg =>
        rw [decide_eq_false h3]
        have h0 : Hid (r = false) := by rw [← HR.out]; exact decide_eq_false (fun h => h3 (h.2.2.2.1))
        clear h3
        go_wp2
        go_ret
        exact ⟨by rw [h0.out]; rfl, bel_ HW.out HC3.out⟩
      rw [decide_eq_true h3]
      have H3 := Lib.hid h3
      clear h3
      have k9 := blk_cell HG.out HC3.out 9 (.int .i64 tl) rfl
      go_wp2_with fail
      refine (from_any 0 tl 1000000 _).mono ?_
      rintro en w4 ⟨rfl, hb4⟩
      have HC4 := Lib.hid (bel_ HC3.out hb4)
      clear k9 hb4
      by_cases h4 : 0 ≤ tl ∧ tl ≤ 1000000
      case neg =>
        rw [decide_eq_false h4]
        have h0 : Hid (r = false) := by rw [← HR.out]; exact decide_eq_false (fun h => h4 (h.2.2.2.2))
        clear h4
        go_wp2
        go_ret
        exact ⟨by rw [h0.out]; rfl, bel_ HW.out HC4.out⟩
      rw [decide_eq_true h4]
      have H4 := Lib.hid h4
      clear h4
      have h0 : Hid (r = true) := by rw [← HR.out]; exact decide_eq_true (⟨H1.out, HP.out, H2.out, H3.out, H4.out⟩)
      go_wp2
      go_ret
      exact ⟨by rw [h0.out]; rfl, bel_ HW.out HC4.out⟩

end Go.Proofs.Ytfalhfgnobjfgaa
