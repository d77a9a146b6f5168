/-
  What ExactContains wants besides: blocks of two numbers, and each operation at two spans and at spans within them.
-/
import Derived.Test.YtogklhbodaghdaaInside
import Derived.Test.YtogklhbodaghdaaProdIn
import Derived.Test.YtogklhbodaghdaaSpanc
namespace Go.Proofs.Ytogklhbodaghdaa
open Go.RowKit

def SX (w : World) (g : Nat) (lo hi : Int) : Prop := w.heap[g]? = some (.cells #[.int .i64 lo, .int .i64 hi] 23 (0, 0))
section
variable {w w' : World} {g B : Nat} {lo hi a b : Int}
theorem SX.c0 (h : SX w g lo hi) : w.cell? ⟨g, 0, none⟩ = some (.int .i64 lo) := cell_of_row _ _ _ _ _ _ h
theorem SX.c1 (h : SX w g lo hi) : w.cell? ⟨g, 1, none⟩ = some (.int .i64 hi) := cell_of_row _ _ _ _ _ _ h
theorem SX.fz (h : SX w g lo hi) (i : Nat) : w.frozen? ⟨g, i, none⟩ = false := frozen_of_row _ _ _ _ _ h
theorem SX.lt (h : SX w g lo hi) : g < w.heap.size := (Array.getElem?_eq_some_iff.1 h).1
theorem SX.below (h : SX w g lo hi) (hb : Below B w w') (hg : g < B) : SX w' g lo hi := (hb.block _ hg).trans h
theorem SX.call (h : SX w g lo hi) (hb : Below w.heap.size w w') : SX w' g lo hi := h.below hb h.lt
theorem SX.drew (h : SX w g lo hi) : SX w.drew g lo hi := h
theorem SX.alloc (h : SX w g lo hi) (o : Obj) : SX (w.alloc o) g lo hi := h.call ((Below.refl _ w).alloc (Nat.le_refl _) o)
theorem SX.other {p : Addr} {v : Value} (h : SX w g lo hi) (hn : g ≠ p.block) : SX (w.setCell p v) g lo hi := (heap_setCell_other w p g v hn).trans h
theorem SX.store (h : SX w g a b) (lo hi : Int) : SX ((w.setCell ⟨g, 0, none⟩ (.int .i64 lo)).setCell ⟨g, 1, none⟩ (.int .i64 hi)) g lo hi := by
  have h1 := heap_setCell_same w g 0 _ _ (.int .i64 lo) h
  exact heap_setCell_same _ g 1 _ _ (.int .i64 hi) h1
theorem SX.new' {w' : World} {n : Nat} (lo hi : Int) (hs : w'.heap.size = n) : SX (w'.alloc (.cells #[.int .i64 lo, .int .i64 hi] 23)) n lo hi := by subst hs; exact heap_alloc_new w' _
theorem SX.new2 (w : World) (o : Obj) (lo hi : Int) : SX ((w.alloc o).alloc (.cells #[.int .i64 lo, .int .i64 hi] 23)) (w.heap.size + 1) lo hi := heap_alloc2_new _ _ _
theorem SX.new (w : World) (lo hi : Int) : SX (w.alloc (.cells #[.int .i64 lo, .int .i64 hi] 23)) w.heap.size lo hi := heap_alloc_new w _
end

/-- An operation at two spans, and at spans within them: where the first has a result the second's lies within it, and has x. -/
def TwoOk (f : FuncId) (al ah bl bh cl ch dl dh x : Int) : Prop :=
  ∃ pl ph e ql qh g, (∀ w, Calls Try.prog f #[.agg #[.int .i64 al, .int .i64 ah], .agg #[.int .i64 bl, .int .i64 bh]] w (RetSE w pl ph e)) ∧
    (∀ w, Calls Try.prog f #[.agg #[.int .i64 cl, .int .i64 ch], .agg #[.int .i64 dl, .int .i64 dh]] w (RetSE w ql qh g)) ∧
    ((e = 0 ∧ g = 0 ∧ pl ≤ ql ∧ ql ≤ ph ∧ pl ≤ qh ∧ qh ≤ ph ∧ ql ≤ x ∧ x ≤ qh ∧ -1152921504606846976 ≤ x ∧ x ≤ 1152921504606846976) ∨ e = 3)
theorem two_plus {al ah bl bh cl ch dl dh : Int} (ha : okS al ah) (hb : okS bl bh) (hc : okS cl ch) (hd : okS dl dh) (c1 : al ≤ cl) (c3 : ch ≤ ah) (d1 : bl ≤ dl) (d3 : dh ≤ bh) : TwoOk 8 al ah bl bh cl ch dl dh (cl + dh) := by
  have c2 := hc.2.1
  have d2 := hd.2.1
  by_cases h : okS (al + bl) (ah + bh)
  · have h' : okS (cl + dl) (ch + dh) := by unfold okS at *; omega
    exact ⟨_, _, 0, _, _, 0, fun w => plus_ok al ah bl bh ha hb h w, fun w => plus_ok cl ch dl dh hc hd h' w, .inl ⟨rfl, rfl, by omega, by omega, by omega, by omega, by omega, by omega, by unfold okS at *; omega, by unfold okS at *; omega⟩⟩
  · by_cases h' : okS (cl + dl) (ch + dh)
    · exact ⟨_, _, 3, _, _, 0, fun w => plus_bad al ah bl bh ha hb h w, fun w => plus_ok cl ch dl dh hc hd h' w, .inr rfl⟩
    · exact ⟨_, _, 3, _, _, 3, fun w => plus_bad al ah bl bh ha hb h w, fun w => plus_bad cl ch dl dh hc hd h' w, .inr rfl⟩
theorem two_minus {al ah bl bh cl ch dl dh : Int} (ha : okS al ah) (hb : okS bl bh) (hc : okS cl ch) (hd : okS dl dh) (c1 : al ≤ cl) (c3 : ch ≤ ah) (d1 : bl ≤ dl) (d3 : dh ≤ bh) : TwoOk 10 al ah bl bh cl ch dl dh (ch - dh) := by
  have c2 := hc.2.1
  have d2 := hd.2.1
  by_cases h : okS (al - bh) (ah - bl)
  · have h' : okS (cl - dh) (ch - dl) := by unfold okS at *; omega
    exact ⟨_, _, 0, _, _, 0, fun w => minus_ok al ah bl bh ha hb h w, fun w => minus_ok cl ch dl dh hc hd h' w, .inl ⟨rfl, rfl, by omega, by omega, by omega, by omega, by omega, by omega, by unfold okS at *; omega, by unfold okS at *; omega⟩⟩
  · by_cases h' : okS (cl - dh) (ch - dl)
    · exact ⟨_, _, 3, _, _, 0, fun w => minus_bad al ah bl bh ha hb h w, fun w => minus_ok cl ch dl dh hc hd h' w, .inr rfl⟩
    · exact ⟨_, _, 3, _, _, 3, fun w => minus_bad al ah bl bh ha hb h w, fun w => minus_bad cl ch dl dh hc hd h' w, .inr rfl⟩
theorem two_times {al ah bl bh cl ch dl dh : Int} (ha : okS al ah) (hb : okS bl bh) (hc : okS cl ch) (hd : okS dl dh) (c1 : al ≤ cl) (c3 : ch ≤ ah) (d1 : bl ≤ dl) (d3 : dh ≤ bh) : TwoOk 11 al ah bl bh cl ch dl dh (cl * dl) := by
  have c2 := hc.2.1
  have d2 := hd.2.1
  by_cases h : okS (loP al ah bl bh) (hiP al ah bl bh)
  · obtain ⟨h', i1, i2, i3, i4⟩ := times_inside al ah bl bh cl ch dl dh c1 c2 c3 d1 d2 d3 h
    have := h.2.1
    have := h'.2.1
    exact ⟨_, _, 0, _, _, 0, fun w => times_ok al ah bl bh ha hb h w, fun w => times_ok cl ch dl dh hc hd h' w, .inl ⟨rfl, rfl, by omega, by omega, by omega, by omega, i3, i4, by have := h'.1; omega, by have := h'.2.2; omega⟩⟩
  · by_cases h' : okS (loP cl ch dl dh) (hiP cl ch dl dh)
    · exact ⟨_, _, 3, _, _, 0, fun w => times_bad al ah bl bh ha hb h w, fun w => times_ok cl ch dl dh hc hd h' w, .inr rfl⟩
    · exact ⟨_, _, 3, _, _, 3, fun w => times_bad al ah bl bh ha hb h w, fun w => times_bad cl ch dl dh hc hd h' w, .inr rfl⟩
theorem ediv_room {x n : Int} (hn : 1 ≤ n) (h1 : -1152921504606846976 ≤ x) (h2 : x ≤ 1152921504606846976) : -1152921504606846976 ≤ x / n ∧ x / n ≤ 1152921504606846976 :=
  ⟨Int.le_ediv_of_mul_le (by omega) (by omega), Int.ediv_le_of_le_mul (by omega) (by omega)⟩
/-- Over at a span and at one within it. -/
theorem two_over {al ah cl ch n : Int} (hc : cl ≤ ch) (c1 : al ≤ cl) (c3 : ch ≤ ah) (hn : 1 ≤ n) :
    al / n ≤ cl / n ∧ cl / n ≤ -(-ah / n) ∧ al / n ≤ -(-ch / n) ∧ -(-ch / n) ≤ -(-ah / n) ∧ cl / n * n ≤ cl ∧ ch ≤ -(-ch / n) * n ∧ cl < (cl / n + 1) * n ∧ (-(-ch / n) - 1) * n < ch := by
  have q1 : al / n ≤ cl / n := Int.ediv_le_ediv (by omega) c1
  have q2 : -ah / n ≤ -ch / n := Int.ediv_le_ediv (by omega) (by omega)
  obtain ⟨f1, f2⟩ := floor_facts cl n hn
  obtain ⟨f3, f4⟩ := floor_facts (-ch) n hn
  have q3 : cl / n ≤ -(-ch / n) := by
    have h1 : cl / n * n ≤ -(-ch / n) * n := by rw [Int.neg_mul]; omega
    exact Int.le_of_mul_le_mul_right h1 (by omega)
  refine ⟨q1, by omega, by omega, by omega, f1, by rw [Int.neg_mul]; omega, f2, ?_⟩
  have e : (-(-ch / n) - 1) * n = -((-ch / n + 1) * n) := by rw [← Int.neg_mul]; congr 1; omega
  rw [e]
  omega
end Go.Proofs.Ytogklhbodaghdaa
