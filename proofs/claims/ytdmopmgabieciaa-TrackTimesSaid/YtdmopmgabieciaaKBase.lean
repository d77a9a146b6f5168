/-
  Numbers within bounds, valid spans, spans inside of others: the code's and the document's.
-/
import Derived.Test.YtdmopmgabieciaaKMem
import Derived.Test.YtdmopmgabieciaaZPost
import Derived.WalkLawsBesides
import Derived.StillTailTactics
namespace Go.Proofs.Ytdmopmgabieciaa
open Go.RowKit

theorem blk_cell {W0 w1 : World} {g : Nat} {cs : Array Value} {T : TypeId} (hblk : W0.heap[g]? = some (.cells cs T (0, 0))) (h : Below W0.heap.size W0 w1) (j : Nat) (v : Value) (hj : cs[j]? = some v) :
    w1.cell? ⟨g, j, none⟩ = some v := by
  have hlt : g < W0.heap.size := (Array.getElem?_eq_some_iff.1 hblk).1
  have hb : w1.heap[g]? = some (.cells cs T (0, 0)) := (h.block g hlt).trans hblk
  obtain ⟨hj1, hj2⟩ := Array.getElem?_eq_some_iff.1 hj
  rw [← hj]
  exact cell_of_row _ _ _ _ _ _ hb

theorem iw_one (w : World) (x : Int) (T : TypeId) : IW (w.alloc (.cells #[.int .i64 x] T)) (w.alloc (.cells #[.int .i64 x] T)).heap.size (.slice (some ⟨w.heap.size, 0, none⟩) 1 1) [x] :=
  IW.mk rfl (Nat.le_refl _) (by simp [maxLen]) fun _ => ⟨w.heap.size, 0, rfl, by simp, fun j hj => by
    obtain rfl : j = 0 := by omega
    simp [ith]⟩
theorem iw_two (w : World) (x y : Int) (T : TypeId) : IW (w.alloc (.cells #[.int .i64 x, .int .i64 y] T)) (w.alloc (.cells #[.int .i64 x, .int .i64 y] T)).heap.size (.slice (some ⟨w.heap.size, 0, none⟩) 2 2) [x, y] :=
  IW.mk rfl (Nat.le_refl _) (by simp [maxLen]) fun _ => ⟨w.heap.size, 0, rfl, by simp, fun j hj => by
    match j, hj with
    | 0, _ => simp [ith]
    | 1, _ => simp [ith]⟩

def InB (lo hi : Int) (zs : List Int) : Prop := ∀ x ∈ zs, lo ≤ x ∧ x ≤ hi
instance (lo hi : Int) (zs : List Int) : Decidable (InB lo hi zs) := by unfold InB; infer_instance

set_option maxRecDepth 100000 in
set_option maxHeartbeats 1000000 in
theorem within_any (lo hi : Int) (zs : List Int) (A : Option Addr) (n c B : Nat) (w : World) (hx : IW w B (.slice A n c) zs) :
    Calls Try.prog 58 #[.int .i64 lo, .int .i64 hi, .slice A n c] w (RetB w (decide (InB lo hi zs))) := by
  have hl := Lib.hid hx.len
  have hcap := hx.cap
  unfold maxLen at hcap
  have hBl := Lib.hid (Below.refl w.heap.size w)
  rcases Nat.eq_zero_or_pos n with hn | hn
  · subst hn
    have hz : zs = [] := List.eq_nil_of_length_eq_zero hl.out.symm
    subst hz
    go_enter Try.func58, Try.ntmps58
    go_wp2
    go_loopw [11] (fun iv wr => iv = .int .i64 0 ∧ wr = w) (fun _ _ => 0)
    case atStart => exact ⟨rfl, rfl⟩
    case round =>
      obtain ⟨rfl, rfl⟩ := hrel
      go_wp2
      go_ret
      exact ⟨by simp [InB], hBl.out⟩
  · obtain ⟨b, o, rfl, hb, hc⟩ := hx.at_ hn
    clear hx
    go_enter Try.func58, Try.ntmps58
    go_wp2
    go_loopw [11] (fun iv wr => ∃ k : Nat, k ≤ n ∧ iv = .int .i64 (k : Int) ∧ Hid (∀ j, j < k → lo ≤ ith zs j ∧ ith zs j ≤ hi) ∧ wr = w) (fun iv _ => n - (intOf iv).toNat)
    case atStart => exact ⟨0, Nat.zero_le _, rfl, Lib.hid (fun j hj => absurd hj (by omega)), rfl⟩
    case round =>
      obtain ⟨k, hk, rfl, hall, rfl⟩ := hrel
      have hck := hc k
      by_cases hlt : k < n
      · have hck' := hck hlt
        by_cases h1 : ith zs k < lo
        · go_wp2
          go_ret
          refine ⟨?_, hBl.out⟩
          have : ¬ InB lo hi zs := fun h => by
            have := h _ (ith_mem (zs := zs) (j := k) (by have := hl.out; omega))
            omega
          rw [decide_eq_false this]; rfl
        · by_cases h2 : hi < ith zs k
          · go_wp2
            go_ret
            refine ⟨?_, hBl.out⟩
            have : ¬ InB lo hi zs := fun h => by
              have := h _ (ith_mem (zs := zs) (j := k) (by have := hl.out; omega))
              omega
            rw [decide_eq_false this]; rfl
          · go_wp2
            go_roundw
            case rel => exact ⟨k + 1, by omega, by simp, Lib.hid (fun j hj => by
              rcases Nat.lt_succ_iff_lt_or_eq.1 hj with h | rfl
              · exact hall.out j h
              · omega), by first | rfl | trivial⟩
            case measure => simp [intOf]; omega
      · obtain rfl : k = n := by omega
        go_wp2
        go_ret
        refine ⟨?_, hBl.out⟩
        have : InB lo hi zs := by
          intro x hx
          obtain ⟨j, hj, rfl⟩ := List.getElem_of_mem hx
          rw [← ith_lt hj]
          exact hall.out j (by have := hl.out; omega)
        rw [decide_eq_true this]; rfl

theorem from_any (lo n hi : Int) (w : World) :
    Calls Try.prog 59 #[.int .i64 lo, .int .i64 n, .int .i64 hi] w (RetB w (decide (lo ≤ n ∧ n ≤ hi))) := by
  have hBl := Lib.hid (Below.refl w.heap.size w)
  by_cases h1 : lo ≤ n
  · by_cases h2 : n ≤ hi
    · go_enter Try.func59, Try.ntmps59
      go_wp2
      go_ret
      exact ⟨by simp [*] <;> omega, hBl.out⟩
    · go_enter Try.func59, Try.ntmps59
      go_wp2
      go_ret
      exact ⟨by simp [*] <;> omega, hBl.out⟩
  · go_enter Try.func59, Try.ntmps59
    go_wp2
    go_ret
    exact ⟨by simp [*] <;> omega, hBl.out⟩

def okS (lo hi : Int) : Prop := -1152921504606846976 ≤ lo ∧ lo ≤ hi ∧ hi ≤ 1152921504606846976
instance (lo hi : Int) : Decidable (okS lo hi) := by unfold okS; infer_instance

set_option maxRecDepth 100000 in
set_option maxHeartbeats 1000000 in
theorem valid_any (lo hi : Int) (w : World) :
    Calls Try.prog 106 #[.agg #[.int .i64 lo, .int .i64 hi]] w (RetB w (decide (okS lo hi))) := by
  have hBl := Lib.hid ((Below.refl w.heap.size w).alloc (Nat.le_refl _) (.cells #[.int .i64 lo, .int .i64 hi] 23))
  by_cases h1 : -1152921504606846976 ≤ lo
  · by_cases h2 : lo ≤ hi
    · by_cases h3 : hi ≤ 1152921504606846976
      · go_enter Try.func106, Try.ntmps106
        go_wp2
        go_ret
        exact ⟨by first | (rw [decide_eq_true (show okS lo hi from ⟨h1, h2, h3⟩)]; simp [*]; done) | (rw [decide_eq_false (show ¬ okS lo hi by unfold okS; omega)]; simp [*]; done), hBl.out⟩
      · go_enter Try.func106, Try.ntmps106
        go_wp2
        go_ret
        exact ⟨by first | (rw [decide_eq_true (show okS lo hi from ⟨h1, h2, h3⟩)]; simp [*]; done) | (rw [decide_eq_false (show ¬ okS lo hi by unfold okS; omega)]; simp [*]; done), hBl.out⟩
    · go_enter Try.func106, Try.ntmps106
      go_wp2
      go_ret
      exact ⟨by first | (rw [decide_eq_true (show okS lo hi from ⟨h1, h2, h3⟩)]; simp [*]; done) | (rw [decide_eq_false (show ¬ okS lo hi by unfold okS; omega)]; simp [*]; done), hBl.out⟩
  · go_enter Try.func106, Try.ntmps106
    go_wp2
    go_ret
    exact ⟨by first | (rw [decide_eq_true (show okS lo hi from ⟨h1, h2, h3⟩)]; simp [*]; done) | (rw [decide_eq_false (show ¬ okS lo hi by unfold okS; omega)]; simp [*]; done), hBl.out⟩

set_option maxRecDepth 100000 in
set_option maxHeartbeats 1000000 in
theorem refValid_any (lo hi : Int) (w : World) :
    Calls Try.prog 96 #[.agg #[.int .i64 lo, .int .i64 hi]] w (RetB w (decide (okS lo hi))) := by
  have hBl := Lib.hid ((Below.refl w.heap.size w).alloc (Nat.le_refl _) (.cells #[.int .i64 lo, .int .i64 hi] 23))
  by_cases h1 : -1152921504606846976 ≤ lo
  · by_cases h2 : lo ≤ hi
    · by_cases h3 : hi ≤ 1152921504606846976
      · go_enter Try.func96, Try.ntmps96
        go_wp2
        go_ret
        exact ⟨by first | (rw [decide_eq_true (show okS lo hi from ⟨h1, h2, h3⟩)]; simp [*]; done) | (rw [decide_eq_false (show ¬ okS lo hi by unfold okS; omega)]; simp [*]; done), hBl.out⟩
      · go_enter Try.func96, Try.ntmps96
        go_wp2
        go_ret
        exact ⟨by first | (rw [decide_eq_true (show okS lo hi from ⟨h1, h2, h3⟩)]; simp [*]; done) | (rw [decide_eq_false (show ¬ okS lo hi by unfold okS; omega)]; simp [*]; done), hBl.out⟩
    · go_enter Try.func96, Try.ntmps96
      go_wp2
      go_ret
      exact ⟨by first | (rw [decide_eq_true (show okS lo hi from ⟨h1, h2, h3⟩)]; simp [*]; done) | (rw [decide_eq_false (show ¬ okS lo hi by unfold okS; omega)]; simp [*]; done), hBl.out⟩
  · go_enter Try.func96, Try.ntmps96
    go_wp2
    go_ret
    exact ⟨by first | (rw [decide_eq_true (show okS lo hi from ⟨h1, h2, h3⟩)]; simp [*]; done) | (rw [decide_eq_false (show ¬ okS lo hi by unfold okS; omega)]; simp [*]; done), hBl.out⟩

/-- A valid span within lo to hi. -/
def inS (slo shi lo hi : Int) : Prop := okS slo shi ∧ lo ≤ slo ∧ shi ≤ hi
instance (a b c d : Int) : Decidable (inS a b c d) := by unfold inS; infer_instance

theorem box_span (w : World) (a b : Value) (T : TypeId) : ∃ W0, Hid (W0 = w.alloc (.cells #[a, b] T)) ∧ Below w.heap.size w W0 ∧ W0.heap[w.heap.size]? = some (.cells #[a, b] T (0, 0)) ∧ W0.heap.size = w.heap.size + 1 :=
  ⟨_, rfl, (Below.refl _ _).alloc (Nat.le_refl _) _, heap_alloc_new _ _, by simp⟩

set_option maxRecDepth 100000 in
set_option maxHeartbeats 1000000 in
theorem isPart_any (slo shi lo hi : Int) (w : World) :
    Calls Try.prog 56 #[.agg #[.int .i64 slo, .int .i64 shi], .int .i64 lo, .int .i64 hi] w (RetB w (decide (inS slo shi lo hi))) := by
  obtain ⟨W0, HW0, hw0, HG, hsz⟩ := box_span w (.int .i64 slo) (.int .i64 shi) 23
  have HW := Lib.hid hw0
  go_enter Try.func56, Try.ntmps56
  go_wp2_with fail
  rw [← HW0.out]
  refine (valid_any slo shi _).mono ?_
  rintro e w1 ⟨rfl, hb1⟩
  have a0 := blk_cell HG hb1 0 _ rfl
  have a1 := blk_cell HG hb1 1 _ rfl
  have hs1 := hb1.size
  by_cases h1 : okS slo shi
  · rw [decide_eq_true h1]
    have H1 := Lib.hid h1
    clear h1
    go_wp2_with fail
    refine (within_any lo hi [slo, shi] _ 2 2 _ _ (iw_two _ _ _ _)).mono ?_
    rintro e w2 ⟨rfl, hb2⟩
    have hk : InB lo hi [slo, shi] ↔ inS slo shi lo hi := by
      have := H1.out
      unfold okS at this
      simp [InB, inS, okS]
      omega
    rw [decide_eq_decide.2 hk]
    go_wp2
    go_ret
    exact ⟨rfl, HW.out.trans ((hb1.trans (((Below.refl _ w1).alloc (Nat.le_refl _) _).trans (hb2.mono (by simp)) |>.mono hs1)).mono HW.out.size)⟩
  · rw [decide_eq_false h1]
    go_wp2
    go_ret
    exact ⟨by simp [inS, h1], HW.out.trans (hb1.mono HW.out.size)⟩

set_option maxRecDepth 100000 in
set_option maxHeartbeats 1000000 in
theorem refInside_any (slo shi lo hi : Int) (w : World) :
    Calls Try.prog 57 #[.agg #[.int .i64 slo, .int .i64 shi], .agg #[.int .i64 lo, .int .i64 hi]] w (RetB w (decide (inS slo shi lo hi))) := by
  obtain ⟨W0, HW0, hw0, HG, HG', hsz⟩ : ∃ W0, Hid (W0 = (w.alloc (.cells #[.int .i64 slo, .int .i64 shi] 23)).alloc (.cells #[.int .i64 lo, .int .i64 hi] 23)) ∧ Below w.heap.size w W0 ∧
      W0.heap[w.heap.size]? = some (.cells #[.int .i64 slo, .int .i64 shi] 23 (0, 0)) ∧ W0.heap[w.heap.size + 1]? = some (.cells #[.int .i64 lo, .int .i64 hi] 23 (0, 0)) ∧ W0.heap.size = w.heap.size + 2 :=
    ⟨_, rfl, ((Below.refl _ _).alloc (Nat.le_refl _) _).alloc (by simp) _, heap_alloc2_old _ _ _, heap_alloc2_new _ _ _, by simp⟩
  have HW := Lib.hid hw0
  go_enter Try.func57, Try.ntmps57
  go_wp2_with fail
  rw [← HW0.out]
  refine (refValid_any slo shi _).mono ?_
  rintro e w1 ⟨rfl, hb1⟩
  have a0 := blk_cell HG hb1 0 _ rfl
  have a1 := blk_cell HG hb1 1 _ rfl
  have b0 := blk_cell HG' hb1 0 _ rfl
  have b1 := blk_cell HG' hb1 1 _ rfl
  have hs1 := hb1.size
  have HB := Lib.hid (HW.out.trans (hb1.mono HW.out.size))
  by_cases h1 : okS slo shi
  · rw [decide_eq_true h1]
    have H1 := Lib.hid h1
    clear h1
    by_cases h2 : lo ≤ slo
    · by_cases h3 : shi ≤ hi
      · go_wp2
        go_ret
        exact ⟨by have := H1.out; simp [inS, *], HB.out⟩
      · go_wp2
        go_ret
        exact ⟨by have := H1.out; simp [inS, *] <;> omega, HB.out⟩
    · go_wp2
      go_ret
      exact ⟨by have := H1.out; simp [inS, *] <;> omega, HB.out⟩
  · rw [decide_eq_false h1]
    go_wp2
    go_ret
    exact ⟨by simp [inS, h1], HB.out⟩
end Go.Proofs.Ytdmopmgabieciaa
