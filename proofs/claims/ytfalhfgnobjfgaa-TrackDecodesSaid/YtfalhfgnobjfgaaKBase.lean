/-
  Numbers within bounds, valid spans, spans inside of others: the code's and the document's.
-/
import Derived.Test.YtfalhfgnobjfgaaKMem
import Derived.Test.YtfalhfgnobjfgaaZPost
import Derived.WalkLawsBesides
import Derived.StillTailTactics
namespace Go.Proofs.Ytfalhfgnobjfgaa
open Go.RowKit

theorem blk_cell {W0 w1 : World} {g : Nat} {cs : Array Value} {T : TypeId} (hblk : W0.heap[g]? = some (.cells cs T (0, 0))) (h : Below W0.heap.size W0 w1) (j : Nat) (v : Value) (hj : cs[j]? = some v) :
    w1.cell? ⟨g, j, none⟩ = some v := by
  have hlt : g < W0.heap.size := (Array.getElem?_eq_some_iff.1 hblk).1
  have hb : w1.heap[g]? = some (.cells cs T (0, 0)) := (h.block g hlt).trans hblk
  obtain ⟨hj1, hj2⟩ := Array.getElem?_eq_some_iff.1 hj
  rw [← hj]
  exact cell_of_row _ _ _ _ _ _ hb

theorem iw_one (w : World) (x : Int) (T : TypeId) : IW (w.alloc (.cells #[.int .i64 x] T)) (w.alloc (.cells #[.int .i64 x] T)).heap.size (.slice (some ⟨w.heap.size, 0, none⟩) 1 1) [x] :=
  IW.mk rfl (Nat.le_refl _) (by simp [maxLen]) fun _ => ⟨w.heap.size, 0, rfl, by simp, fun j hj => by
    obtain rfl : j = 0 := by omega
    simp [ith]⟩
theorem iw_two (w : World) (x y : Int) (T : TypeId) : IW (w.alloc (.cells #[.int .i64 x, .int .i64 y] T)) (w.alloc (.cells #[.int .i64 x, .int .i64 y] T)).heap.size (.slice (some ⟨w.heap.size, 0, none⟩) 2 2) [x, y] :=
  IW.mk rfl (Nat.le_refl _) (by simp [maxLen]) fun _ => ⟨w.heap.size, 0, rfl, by simp, fun j hj => by
    match j, hj with
    | 0, _ => simp [ith]
    | 1, _ => simp [ith]⟩

def InB (lo hi : Int) (zs : List Int) : Prop := ∀ x ∈ zs, lo ≤ x ∧ x ≤ hi
instance (lo hi : Int) (zs : List Int) : Decidable (InB lo hi zs) := by unfold InB; infer_instance

set_option maxRecDepth 100000 in
set_option maxHeartbeats 1000000 in
theorem within_any (lo hi : Int) (zs : List Int) (A : Option Addr) (n c B : Nat) (w : World) (hx : IW w B (.slice A n c) zs) :
    Calls Try.prog 36 #[.int .i64 lo, .int .i64 hi, .slice A n c] w (RetB w (decide (InB lo hi zs))) := by
  have hl := Lib.hid hx.len
  have hcap := hx.cap
  unfold maxLen at hcap
  have hBl := Lib.hid (Below.refl w.heap.size w)
  rcases Nat.eq_zero_or_pos n with hn | hn
  · subst hn
    have hz : zs = [] := List.eq_nil_of_length_eq_zero hl.out.symm
    subst hz
    go_enter Try.func36, Try.ntmps36
    go_wp2
    go_loopw [11] (fun iv wr => iv = .int .i64 0 ∧ wr = w) (fun _ _ => 0)
    case atStart => exact ⟨rfl, rfl⟩
    case round =>
      obtain ⟨rfl, rfl⟩ := hrel
      go_wp2
      go_ret
      exact ⟨by simp [InB], hBl.out⟩
  · obtain ⟨b, o, rfl, hb, hc⟩ := hx.at_ hn
    clear hx
    go_enter Try.func36, Try.ntmps36
    go_wp2
    go_loopw [11] (fun iv wr => ∃ k : Nat, k ≤ n ∧ iv = .int .i64 (k : Int) ∧ Hid (∀ j, j < k → lo ≤ ith zs j ∧ ith zs j ≤ hi) ∧ wr = w) (fun iv _ => n - (intOf iv).toNat)
    case atStart => exact ⟨0, Nat.zero_le _, rfl, Lib.hid (fun j hj => absurd hj (by omega)), rfl⟩
    case round =>
      obtain ⟨k, hk, rfl, hall, rfl⟩ := hrel
      have hck := hc k
      by_cases hlt : k < n
      · have hck' := hck hlt
        by_cases h1 : ith zs k < lo
        · go_wp2
          go_ret
          refine ⟨?_, hBl.out⟩
          have : ¬ InB lo hi zs := fun h => by
            have := h _ (ith_mem (zs := zs) (j := k) (by have := hl.out; omega))
            omega
          rw [decide_eq_false this]; rfl
        · by_cases h2 : hi < ith zs k
          · go_wp2
            go_ret
            refine ⟨?_, hBl.out⟩
            have : ¬ InB lo hi zs := fun h => by
              have := h _ (ith_mem (zs := zs) (j := k) (by have := hl.out; omega))
              omega
            rw [decide_eq_false this]; rfl
          · go_wp2
            go_roundw
            case rel => exact ⟨k + 1, by omega, by simp, Lib.hid (fun j hj => by
              rcases Nat.lt_succ_iff_lt_or_eq.1 hj with h | rfl
              · exact hall.out j h
              · omega), by first | rfl | trivial⟩
            case measure => simp [intOf]; omega
      · obtain rfl : k = n := by omega
        go_wp2
        go_ret
        refine ⟨?_, hBl.out⟩
        have : InB lo hi zs := by
          intro x hx
          obtain ⟨j, hj, rfl⟩ := List.getElem_of_mem hx
          rw [← ith_lt hj]
          exact hall.out j (by have := hl.out; omega)
        rw [decide_eq_true this]; rfl

theorem from_any (lo n hi : Int) (w : World) :
    Calls Try.prog 28 #[.int .i64 lo, .int .i64 n, .int .i64 hi] w (RetB w (decide (lo ≤ n ∧ n ≤ hi))) := by
  have hBl := Lib.hid (Below.refl w.heap.size w)
  by_cases h1 : lo ≤ n
  · by_cases h2 : n ≤ hi
    · go_enter Try.func28, Try.ntmps28
      go_wp2
      go_ret
      exact ⟨by simp [*] <;> omega, hBl.out⟩
    · go_enter Try.func28, Try.ntmps28
      go_wp2
      go_ret
      exact ⟨by simp [*] <;> omega, hBl.out⟩
  · go_enter Try.func28, Try.ntmps28
    go_wp2
    go_ret
    exact ⟨by simp [*] <;> omega, hBl.out⟩

def okS (lo hi : Int) : Prop := -1152921504606846976 ≤ lo ∧ lo ≤ hi ∧ hi ≤ 1152921504606846976
instance (lo hi : Int) : Decidable (okS lo hi) := by unfold okS; infer_instance

theorem boxes2 (w : World) (ca cb : Array Value) (T T' : TypeId) : ∃ W0, Hid (W0 = (w.alloc (.cells ca T)).alloc (.cells cb T')) ∧ Hid (Below w.heap.size w W0) ∧
    Hid (W0.heap[w.heap.size]? = some (.cells ca T (0, 0))) ∧ Hid (W0.heap[w.heap.size + 1]? = some (.cells cb T' (0, 0))) :=
  ⟨_, rfl, ((Below.refl _ _).alloc (Nat.le_refl _) _).alloc (by simp) _, heap_alloc2_old _ _ _, heap_alloc2_new _ _ _⟩
theorem boxes1 (w : World) (ca : Array Value) (T : TypeId) : ∃ W0, Hid (W0 = w.alloc (.cells ca T)) ∧ Hid (Below w.heap.size w W0) ∧ Hid (W0.heap[w.heap.size]? = some (.cells ca T (0, 0))) :=
  ⟨_, rfl, (Below.refl _ _).alloc (Nat.le_refl _) _, heap_alloc_new _ _⟩
theorem below_past {w W0 w1 w2 : World} {o : Obj} (h : Below w.heap.size w W0) (h1 : Below W0.heap.size W0 w1) (h2 : Below (w1.alloc o).heap.size (w1.alloc o) w2) : Below W0.heap.size W0 w2 :=
  h1.trans (((Below.refl _ w1).alloc (Nat.le_refl _) _).trans (h2.mono (by simp)) |>.mono h1.size)

theorem boxes1s (w : World) (ca : Array Value) (T : TypeId) : ∃ W0, Hid (W0 = w.alloc (.cells ca T)) ∧ Hid (Below w.heap.size w W0) ∧ Hid (W0.heap[w.heap.size]? = some (.cells ca T (0, 0))) ∧ W0.heap.size = w.heap.size + 1 :=
  ⟨_, rfl, (Below.refl _ _).alloc (Nat.le_refl _) _, heap_alloc_new _ _, by simp⟩
theorem in_one (lo hi x : Int) : InB lo hi [x] ↔ lo ≤ x ∧ x ≤ hi := by simp [InB]

theorem in_oneD (lo hi x : Int) : decide (InB lo hi [x]) = decide (lo ≤ x ∧ x ≤ hi) := decide_eq_decide.2 (in_one lo hi x)

end Go.Proofs.Ytfalhfgnobjfgaa
