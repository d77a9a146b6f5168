/-
  The document's Operate, for valid spans.
-/
import Derived.Test.YtdpmfenikomfkaaGreatE13
import Derived.Test.YtdpmfenikomfkaaGreatE26
import Derived.Deep.CutRange
import Derived.Deep.RegionHeld3
namespace Go.Proofs.YtdpmfenikomfkaaGreat
open Go.RowKit
set_option linter.unusedVariables false

def opF (op a b : Int) : Int := if op = 0 then a + b else if op = 1 then a - b else a * b
def opL (op al ah bl bh : Int) : List Int := [opF op al bl, opF op al bh, opF op ah bl, opF op ah bh]
/-- A block of two numbers. -/
def TX (w : World) (g : Nat) (lo hi : Int) : Prop := w.heap[g]? = some (.cells #[.int .i64 lo, .int .i64 hi] 3 (0, 0))
theorem TX.c0 {w : World} {g : Nat} {lo hi : Int} (h : TX w g lo hi) : w.cell? ⟨g, 0, none⟩ = some (.int .i64 lo) := cell_of_row _ _ _ _ _ _ h
theorem TX.c1 {w : World} {g : Nat} {lo hi : Int} (h : TX w g lo hi) : w.cell? ⟨g, 1, none⟩ = some (.int .i64 hi) := cell_of_row _ _ _ _ _ _ h
theorem TX.lt {w : World} {g : Nat} {lo hi : Int} (h : TX w g lo hi) : g < w.heap.size := (Array.getElem?_eq_some_iff.1 h).1
theorem TX.call {w w' : World} {g : Nat} {lo hi : Int} (h : TX w g lo hi) (hb : Below w.heap.size w w') : TX w' g lo hi := (hb.block _ h.lt).trans h
theorem op_cells {W0 w1 : World} {g : Nat} {al ah bl bh x y : Int} {T : TypeId} (h : W0.heap[g]? = some (.cells #[.int .i64 al, .int .i64 ah] T (0, 0)) ∧ W0.heap[g + 1]? = some (.cells #[.int .i64 bl, .int .i64 bh] T (0, 0)) ∧ W0.heap[g + 1 + 1]? = some (.cells #[.int .i64 x, .int .i64 y] T (0, 0))) (hb : Below W0.heap.size W0 w1) :
    w1.cell? ⟨g, 0, none⟩ = some (.int .i64 al) ∧ w1.cell? ⟨g, 1, none⟩ = some (.int .i64 ah) ∧ w1.cell? ⟨g + 1, 0, none⟩ = some (.int .i64 bl) ∧ w1.cell? ⟨g + 1, 1, none⟩ = some (.int .i64 bh) :=
  ⟨qblk_cell h.1 hb 0 _ rfl, qblk_cell h.1 hb 1 _ rfl, qblk_cell h.2.1 hb 0 _ rfl, qblk_cell h.2.1 hb 1 _ rfl⟩

/-- A box of a number. -/
def BX (w : World) (g : Nat) (u0 u1 u2 : Value) : Prop := w.heap[g]? = some (.cells #[u0, u1, u2] 41 (0, 0))
section
variable {w w' : World} {g B : Nat} {u0 u1 u2 : Value}
theorem BX.c0 (h : BX w g u0 u1 u2) : w.cell? ⟨g, 0, none⟩ = some u0 := cell_of_row _ _ _ _ _ _ h
theorem BX.c1 (h : BX w g u0 u1 u2) : w.cell? ⟨g, 1, none⟩ = some u1 := cell_of_row _ _ _ _ _ _ h
theorem BX.c2 (h : BX w g u0 u1 u2) : w.cell? ⟨g, 2, none⟩ = some u2 := cell_of_row _ _ _ _ _ _ h
theorem BX.fz (h : BX w g u0 u1 u2) (i : Nat) : w.frozen? ⟨g, i, none⟩ = false := frozen_of_row _ _ _ _ _ h
theorem BX.lt (h : BX w g u0 u1 u2) : g < w.heap.size := (Array.getElem?_eq_some_iff.1 h).1
theorem BX.call (h : BX w g u0 u1 u2) (hb : Below w.heap.size w w') : BX w' g u0 u1 u2 := (hb.block _ h.lt).trans h
theorem BX.alloc (h : BX w g u0 u1 u2) (o : Obj) : BX (w.alloc o) g u0 u1 u2 := h.call ((Below.refl _ w).alloc (Nat.le_refl _) o)
theorem BX.new2 (w : World) (o : Obj) (u0 u1 u2 : Value) : BX ((w.alloc o).alloc (.cells #[u0, u1, u2] 41)) (w.heap.size + 1) u0 u1 u2 := heap_alloc2_new _ _ _
theorem BX.new (w : World) (u0 u1 u2 : Value) : BX (w.alloc (.cells #[u0, u1, u2] 41)) w.heap.size u0 u1 u2 := heap_alloc_new w _
end
def ZB (w : World) (g : Nat) : Prop := BX w g (.bool false) (.slice none 0 0) (.slice none 0 0)
theorem obun {w w1 : World} (h : Below w.drew.heap.size w.drew w1) : Below w.heap.size w w1 := ⟨h.os, h.tape, h.output, h.size, h.block⟩
theorem obal {w w1 : World} {o : Obj} (h : Below (w.alloc o).heap.size (w.alloc o) w1) : Below w.heap.size w w1 := by
  have h0 := (Below.refl w.heap.size w).alloc (Nat.le_refl _) o
  exact h0.trans (h.mono h0.size)
theorem oz1 {w w1 : World} (h : Below (w.alloc (.cells #[.bool false, .slice none 0 0, .slice none 0 0] 41)).heap.size (w.alloc (.cells #[.bool false, .slice none 0 0, .slice none 0 0] 41)) w1) : ZB w1 w.heap.size := (BX.new w _ _ _).call h
theorem oz2 {w w1 : World} (h : Below ((w.alloc (.cells #[.bool false, .slice none 0 0, .slice none 0 0] 41)).alloc (.cells #[.bool false, .slice none 0 0, .slice none 0 0] 41)).heap.size ((w.alloc (.cells #[.bool false, .slice none 0 0, .slice none 0 0] 41)).alloc (.cells #[.bool false, .slice none 0 0, .slice none 0 0] 41)) w1) : ZB w1 w.heap.size ∧ ZB w1 (w.heap.size + 1) := by
  refine ⟨((BX.new w _ _ _).alloc _).call h, ?_⟩
  have := (BX.new (w.alloc (.cells #[.bool false, .slice none 0 0, .slice none 0 0] 41)) (.bool false) (.slice none 0 0) (.slice none 0 0)).call h
  simpa [ZB] using this
theorem qv_put {w : World} {p : Nat} {b : Bool} {A A' : Option Addr} {n c n' c' : Nat} {z : Int} {v : Value} (h : BX w p (.bool b) (.slice A n c) (.slice A' n' c')) (hq : QV w w.heap.size v z 1) (u0 u1 u2 : Value) : QV (((w.setCell ⟨p, 0, none⟩ u0).setCell ⟨p, 1, none⟩ u1).setCell ⟨p, 2, none⟩ u2) (((w.setCell ⟨p, 0, none⟩ u0).setCell ⟨p, 1, none⟩ u1).setCell ⟨p, 2, none⟩ u2).heap.size v z 1 := by
  obtain ⟨s2, B, m, d, B', m', d', rfl, q1, q2, q3, q4, q5⟩ := hq
  have hs : (((w.setCell ⟨p, 0, none⟩ u0).setCell ⟨p, 1, none⟩ u1).setCell ⟨p, 2, none⟩ u2).heap.size = w.heap.size := by simp
  have hf : ∀ a : Addr, a.block ≠ p → (((w.setCell ⟨p, 0, none⟩ u0).setCell ⟨p, 1, none⟩ u1).setCell ⟨p, 2, none⟩ u2).cell? a = w.cell? a := fun a ha => ((set_other ha).trans (set_other ha)).trans (set_other ha)
  rw [hs]
  exact ⟨s2, B, m, d, B', m', d', rfl, q1, q2.qne hf (qnoint3 h), q3, q4.qne hf (qnoint3 h), q5⟩
theorem two_boxes {S W : World} {p q : Nat} {s1 s2 : Bool} {A1 A1' A2 A2' : Option Addr} {n1 c1 n1' c1' n2 c2 n2' c2' : Nat} {x y : Int} (hb : Below S.heap.size S W) (hp : ZB W p) (hq : ZB W q) (hp0 : S.heap.size ≤ p) (hq0 : S.heap.size ≤ q) (hpq : p ≠ q)
    (hx : QV W W.heap.size (.agg #[.bool s1, .slice A1 n1 c1, .slice A1' n1' c1']) x 1) (hy : QV W W.heap.size (.agg #[.bool s2, .slice A2 n2 c2, .slice A2' n2' c2']) y 1) :
    ∃ gp gq, Value.pointer (some ⟨p, 0, none⟩) = .pointer (some ⟨gp, 0, none⟩) ∧ Value.pointer (some ⟨q, 0, none⟩) = .pointer (some ⟨gq, 0, none⟩) ∧ Below S.heap.size S ((((((W.setCell ⟨p, 0, none⟩ (.bool s1)).setCell ⟨p, 1, none⟩ (.slice A1 n1 c1)).setCell ⟨p, 2, none⟩ (.slice A1' n1' c1')).setCell ⟨q, 0, none⟩ (.bool s2)).setCell ⟨q, 1, none⟩ (.slice A2 n2 c2)).setCell ⟨q, 2, none⟩ (.slice A2' n2' c2')) ∧
      Bx ((((((W.setCell ⟨p, 0, none⟩ (.bool s1)).setCell ⟨p, 1, none⟩ (.slice A1 n1 c1)).setCell ⟨p, 2, none⟩ (.slice A1' n1' c1')).setCell ⟨q, 0, none⟩ (.bool s2)).setCell ⟨q, 1, none⟩ (.slice A2 n2 c2)).setCell ⟨q, 2, none⟩ (.slice A2' n2' c2')) gp x ∧
      Bx ((((((W.setCell ⟨p, 0, none⟩ (.bool s1)).setCell ⟨p, 1, none⟩ (.slice A1 n1 c1)).setCell ⟨p, 2, none⟩ (.slice A1' n1' c1')).setCell ⟨q, 0, none⟩ (.bool s2)).setCell ⟨q, 1, none⟩ (.slice A2 n2 c2)).setCell ⟨q, 2, none⟩ (.slice A2' n2' c2')) gq y := by
  obtain ⟨W1, hW1⟩ : ∃ W1, W1 = ((W.setCell ⟨p, 0, none⟩ (.bool s1)).setCell ⟨p, 1, none⟩ (.slice A1 n1 c1)).setCell ⟨p, 2, none⟩ (.slice A1' n1' c1') := ⟨_, rfl⟩
  have e1 : W1.heap[p]? = some (.cells #[.bool s1, .slice A1 n1 c1, .slice A1' n1' c1'] 41 (0, 0)) := by rw [hW1]; exact qset3_heap hp
  have e2 : ZB W1 q := by rw [hW1]; exact (bx_far (Ne.symm hpq)).trans hq
  have x1 : QV W1 W1.heap.size (.agg #[.bool s1, .slice A1 n1 c1, .slice A1' n1' c1']) x 1 := by rw [hW1]; exact qv_put hp hx _ _ _
  have y1 : QV W1 W1.heap.size (.agg #[.bool s2, .slice A2 n2 c2, .slice A2' n2' c2']) y 1 := by rw [hW1]; exact qv_put hp hy _ _ _
  have hb1 : Below S.heap.size S W1 := by rw [hW1]; exact ((hb.setCell hp0 _).setCell hp0 _).setCell hp0 _
  rw [← hW1]
  exact ⟨p, q, rfl, rfl, ((hb1.setCell hq0 _).setCell hq0 _).setCell hq0 _, ⟨_, _, _, _, _, _, _, (bx_far hpq).trans e1, qv_put e2 x1 _ _ _⟩, ⟨_, _, _, _, _, _, _, qset3_heap e2, qv_put e2 y1 _ _ _⟩⟩
theorem two_new_p {S W : World} {q : Nat} {s1 s2 : Bool} {A1 A1' A2 A2' : Option Addr} {n1 c1 n1' c1' n2 c2 n2' c2' : Nat} {x y : Int} (hb : Below S.heap.size S W)
    (hx : QV W W.heap.size (.agg #[.bool s1, .slice A1 n1 c1, .slice A1' n1' c1']) x 1) (hy : QV W W.heap.size (.agg #[.bool s2, .slice A2 n2 c2, .slice A2' n2' c2']) y 1) (hq : ZB W q) (hq0 : S.heap.size ≤ q) :
    ∃ gp gq, Value.pointer (some ⟨W.heap.size, 0, none⟩) = .pointer (some ⟨gp, 0, none⟩) ∧ Value.pointer (some ⟨q, 0, none⟩) = .pointer (some ⟨gq, 0, none⟩) ∧ Below S.heap.size S ((((W.setCell ⟨q, 0, none⟩ (.bool s2)).setCell ⟨q, 1, none⟩ (.slice A2 n2 c2)).setCell ⟨q, 2, none⟩ (.slice A2' n2' c2')).alloc (.cells #[.bool s1, .slice A1 n1 c1, .slice A1' n1' c1'] 41)) ∧
      Bx ((((W.setCell ⟨q, 0, none⟩ (.bool s2)).setCell ⟨q, 1, none⟩ (.slice A2 n2 c2)).setCell ⟨q, 2, none⟩ (.slice A2' n2' c2')).alloc (.cells #[.bool s1, .slice A1 n1 c1, .slice A1' n1' c1'] 41)) gp x ∧
      Bx ((((W.setCell ⟨q, 0, none⟩ (.bool s2)).setCell ⟨q, 1, none⟩ (.slice A2 n2 c2)).setCell ⟨q, 2, none⟩ (.slice A2' n2' c2')).alloc (.cells #[.bool s1, .slice A1 n1 c1, .slice A1' n1' c1'] 41)) gq y := by
  obtain ⟨W1, hW1⟩ : ∃ W1, W1 = ((W.setCell ⟨q, 0, none⟩ (.bool s2)).setCell ⟨q, 1, none⟩ (.slice A2 n2 c2)).setCell ⟨q, 2, none⟩ (.slice A2' n2' c2') := ⟨_, rfl⟩
  have e1 : W1.heap[q]? = some (.cells #[.bool s2, .slice A2 n2 c2, .slice A2' n2' c2'] 41 (0, 0)) := by rw [hW1]; exact qset3_heap hq
  have x1 : QV W1 W1.heap.size (.agg #[.bool s1, .slice A1 n1 c1, .slice A1' n1' c1']) x 1 := by rw [hW1]; exact qv_put hq hx _ _ _
  have y1 : QV W1 W1.heap.size (.agg #[.bool s2, .slice A2 n2 c2, .slice A2' n2' c2']) y 1 := by rw [hW1]; exact qv_put hq hy _ _ _
  have hb1 : Below S.heap.size S W1 := by rw [hW1]; exact ((hb.setCell hq0 _).setCell hq0 _).setCell hq0 _
  have hs : W1.heap.size = W.heap.size := by rw [hW1]; simp
  have ba : ∀ o, Below W1.heap.size W1 (W1.alloc o) := fun o => (Below.refl _ _).alloc (Nat.le_refl _) _
  rw [← hW1, ← hs]
  exact ⟨_, q, rfl, rfl, hb1.alloc hb1.size _, ⟨_, _, _, _, _, _, _, heap_alloc_new _ _, (x1.below (ba _) (Nat.le_refl _)).more (ba _).size⟩, bx_below ⟨_, _, _, _, _, _, _, e1, y1⟩ (ba _)⟩
theorem two_new_q {S W : World} {p : Nat} {s1 s2 : Bool} {A1 A1' A2 A2' : Option Addr} {n1 c1 n1' c1' n2 c2 n2' c2' : Nat} {x y : Int} (hb : Below S.heap.size S W)
    (hx : QV W W.heap.size (.agg #[.bool s1, .slice A1 n1 c1, .slice A1' n1' c1']) x 1) (hy : QV W W.heap.size (.agg #[.bool s2, .slice A2 n2 c2, .slice A2' n2' c2']) y 1) (hp : ZB W p) (hp0 : S.heap.size ≤ p) :
    ∃ gp gq, Value.pointer (some ⟨p, 0, none⟩) = .pointer (some ⟨gp, 0, none⟩) ∧ Value.pointer (some ⟨W.heap.size, 0, none⟩) = .pointer (some ⟨gq, 0, none⟩) ∧ Below S.heap.size S ((((W.setCell ⟨p, 0, none⟩ (.bool s1)).setCell ⟨p, 1, none⟩ (.slice A1 n1 c1)).setCell ⟨p, 2, none⟩ (.slice A1' n1' c1')).alloc (.cells #[.bool s2, .slice A2 n2 c2, .slice A2' n2' c2'] 41)) ∧
      Bx ((((W.setCell ⟨p, 0, none⟩ (.bool s1)).setCell ⟨p, 1, none⟩ (.slice A1 n1 c1)).setCell ⟨p, 2, none⟩ (.slice A1' n1' c1')).alloc (.cells #[.bool s2, .slice A2 n2 c2, .slice A2' n2' c2'] 41)) gp x ∧
      Bx ((((W.setCell ⟨p, 0, none⟩ (.bool s1)).setCell ⟨p, 1, none⟩ (.slice A1 n1 c1)).setCell ⟨p, 2, none⟩ (.slice A1' n1' c1')).alloc (.cells #[.bool s2, .slice A2 n2 c2, .slice A2' n2' c2'] 41)) gq y := by
  obtain ⟨gq, gp, a, b, c, d, e⟩ := two_new_p hb hy hx hp hp0
  exact ⟨gp, gq, b, a, c, e, d⟩
theorem two_new_pq {S W : World} {s1 s2 : Bool} {A1 A1' A2 A2' : Option Addr} {n1 c1 n1' c1' n2 c2 n2' c2' : Nat} {x y : Int} (hb : Below S.heap.size S W)
    (hx : QV W W.heap.size (.agg #[.bool s1, .slice A1 n1 c1, .slice A1' n1' c1']) x 1) (hy : QV W W.heap.size (.agg #[.bool s2, .slice A2 n2 c2, .slice A2' n2' c2']) y 1) :
    ∃ gp gq, Value.pointer (some ⟨W.heap.size, 0, none⟩) = .pointer (some ⟨gp, 0, none⟩) ∧ Value.pointer (some ⟨W.heap.size + 1, 0, none⟩) = .pointer (some ⟨gq, 0, none⟩) ∧ Below S.heap.size S ((W.alloc (.cells #[.bool s1, .slice A1 n1 c1, .slice A1' n1' c1'] 41)).alloc (.cells #[.bool s2, .slice A2 n2 c2, .slice A2' n2' c2'] 41)) ∧
      Bx ((W.alloc (.cells #[.bool s1, .slice A1 n1 c1, .slice A1' n1' c1'] 41)).alloc (.cells #[.bool s2, .slice A2 n2 c2, .slice A2' n2' c2'] 41)) gp x ∧
      Bx ((W.alloc (.cells #[.bool s1, .slice A1 n1 c1, .slice A1' n1' c1'] 41)).alloc (.cells #[.bool s2, .slice A2 n2 c2, .slice A2' n2' c2'] 41)) gq y := by
  have ba := ((Below.refl W.heap.size W).alloc (Nat.le_refl _) (.cells #[.bool s1, .slice A1 n1 c1, .slice A1' n1' c1'] 41)).alloc (by simp) (.cells #[.bool s2, .slice A2 n2 c2, .slice A2' n2' c2'] 41)
  exact ⟨_, _, rfl, rfl, hb.trans (ba.mono hb.size), ⟨_, _, _, _, _, _, _, heap_alloc2_old _ _ _, (hx.below ba (Nat.le_refl _)).more ba.size⟩, ⟨_, _, _, _, _, _, _, heap_alloc2_new _ _ _, (hy.below ba (Nat.le_refl _)).more ba.size⟩⟩
theorem two_new_qp {S W : World} {s1 s2 : Bool} {A1 A1' A2 A2' : Option Addr} {n1 c1 n1' c1' n2 c2 n2' c2' : Nat} {x y : Int} (hb : Below S.heap.size S W)
    (hx : QV W W.heap.size (.agg #[.bool s1, .slice A1 n1 c1, .slice A1' n1' c1']) x 1) (hy : QV W W.heap.size (.agg #[.bool s2, .slice A2 n2 c2, .slice A2' n2' c2']) y 1) :
    ∃ gp gq, Value.pointer (some ⟨W.heap.size + 1, 0, none⟩) = .pointer (some ⟨gp, 0, none⟩) ∧ Value.pointer (some ⟨W.heap.size, 0, none⟩) = .pointer (some ⟨gq, 0, none⟩) ∧ Below S.heap.size S ((W.alloc (.cells #[.bool s2, .slice A2 n2 c2, .slice A2' n2' c2'] 41)).alloc (.cells #[.bool s1, .slice A1 n1 c1, .slice A1' n1' c1'] 41)) ∧
      Bx ((W.alloc (.cells #[.bool s2, .slice A2 n2 c2, .slice A2' n2' c2'] 41)).alloc (.cells #[.bool s1, .slice A1 n1 c1, .slice A1' n1' c1'] 41)) gp x ∧
      Bx ((W.alloc (.cells #[.bool s2, .slice A2 n2 c2, .slice A2' n2' c2'] 41)).alloc (.cells #[.bool s1, .slice A1 n1 c1, .slice A1' n1' c1'] 41)) gq y := by
  obtain ⟨gq, gp, a, b, c, d, e⟩ := two_new_pq hb hy hx
  exact ⟨gp, gq, b, a, c, e, d⟩
theorem qs_own {w : World} {base : Nat} {v : Value} {zs : List Int} (h : QS w base v zs) : ∀ k, v.ownBlock = some k → k < w.heap.size := by
  obtain ⟨L, _, ho, _⟩ := h
  exact fun k hk => (World.ownsRow.lt ho k hk).2
theorem op_take (op al ah bl bh : Int) (k j : Nat) (hk : k < 2) (hj : j < 2) (x y : Int) (hx : x = if k = 0 then al else ah) (hy : y = if j = 0 then bl else bh) : (opL op al ah bl bh).take (2 * k + j) ++ [opF op x y] = (opL op al ah bl bh).take (2 * k + (j + 1)) := by
  have h1 : k = 0 ∨ k = 1 := by omega
  have h2 : j = 0 ∨ j = 1 := by omega
  rcases h1 with rfl | rfl <;> rcases h2 with rfl | rfl <;> simp [opL, hx, hy]
theorem op_cell {w : World} {g : Nat} {lo hi : Int} (h : TX w g lo hi) (k : Nat) (hk : k < 2) (x : Int) (hx : x = if k = 0 then lo else hi) : w.cell? ⟨g, k, none⟩ = some (.int .i64 x) := by
  have h1 : k = 0 ∨ k = 1 := by omega
  rcases h1 with rfl | rfl
  · rw [hx]; exact h.c0
  · rw [hx]; exact h.c1
theorem op_room {lo hi : Int} (h : okS lo hi) (k : Nat) (x : Int) (hx : x = if k = 0 then lo else hi) : -1152921504606846976 ≤ x ∧ x ≤ 1152921504606846976 := by
  unfold okS at h
  by_cases hk : k = 0
  · rw [hx, if_pos hk]; omega
  · rw [hx, if_neg hk]; omega
theorem op_small {x : Int} (h : -1152921504606846976 ≤ x ∧ x ≤ 1152921504606846976) : x.natAbs < B16 ^ 4 := by
  have e : B16 ^ 4 = 18446744073709551616 := by rw [B16_eq]
  rw [e]; omega
theorem op_lift {n : Nat} (h : n < B16 ^ 4) : n < B16 ^ 9 := Nat.lt_of_lt_of_le h (Nat.pow_le_pow_right (by rw [B16_eq]; omega) (by omega))
theorem opF_small {op x y : Int} (hop : op = 0 ∨ op = 1 ∨ op = 2) (h : -1152921504606846976 ≤ x ∧ x ≤ 1152921504606846976) (h' : -1152921504606846976 ≤ y ∧ y ≤ 1152921504606846976) : (opF op x y).natAbs < B16 ^ 9 := by
  have e : B16 ^ 9 = 22300745198530623141535718272648361505980416 := by rw [B16_eq]
  rw [e]
  unfold opF
  rcases hop with rfl | rfl | rfl
  · simp; omega
  · simp; omega
  · have : (x * y).natAbs ≤ 1152921504606846976 * 1152921504606846976 := by
      rw [Int.natAbs_mul]
      exact Nat.mul_le_mul (by omega) (by omega)
    simp
    omega
theorem opL_small {op al ah bl bh : Int} (hop : op = 0 ∨ op = 1 ∨ op = 2) (ha : okS al ah) (hb : okS bl bh) : ∀ z ∈ opL op al ah bl bh, z.natAbs < B16 ^ 9 := by
  unfold okS at ha hb
  intro z hz
  simp [opL] at hz
  rcases hz with rfl | rfl | rfl | rfl <;> exact opF_small hop (by omega) (by omega)

set_option maxRecDepth 100000 in
set_option maxHeartbeats 8000000 in
theorem doperate_ok (op al ah bl bh lo hi : Int) (hop : op = 0 ∨ op = 1 ∨ op = 2) (ha : okS al ah) (hb : okS bl bh) (hends : Ends (opL op al ah bl bh) 4 lo hi) (w : World) :
    Calls Tryz.prog 5 #[.int .i64 op, .agg #[.int .i64 al, .int .i64 ah], .agg #[.int .i64 bl, .int .i64 bh]] w (RetSp w lo hi) := by
  obtain ⟨W0, HW0, hw0, HG⟩ := S0ex w al ah bl bh
  have HO := Lib.hid (And.intro ha (And.intro hb (And.intro hends hop)))
  have HW := Lib.hid hw0
  obtain ⟨k0, k1, k2, k3⟩ := op_cells HG.out (Below.refl _ _)
  clear ha hb hends hop hw0
  go_enter Tryz.func5, Tryz.ntmps5
  go_wp2_with fail
  rw [← HW0.out]
  refine (rvyes HO.out.1 _).mono ?_
  rintro e w1 ⟨rfl, hb1⟩
  obtain ⟨_, _, m2, m3⟩ := op_cells HG.out hb1
  have HB1 := Lib.hid hb1
  clear k0 k1 k2 k3 hb1
  go_wp2_with fail
  refine (rvyes HO.out.2.1 _).mono ?_
  rintro e w2 ⟨rfl, hb2⟩
  have HB2 := Lib.hid (HB1.out.trans (hb2.mono HB1.out.size))
  clear m2 m3 hb2
  go_upto_region 3 with fail
  go_cut [8, 9] from 24 to 79 (fun s8 s9 wx => ∃ gx gy, s8 = .slice (some ⟨gx, 0, none⟩) 2 2 ∧ s9 = .slice (some ⟨gy, 0, none⟩) 2 2 ∧ Below w2.heap.size w2 wx ∧ TX wx gx al ah ∧ TX wx gy bl bh)
  case first => as_aux_lemma =>
    have KS := Lib.hid (fun (w' : World) (h : Below w2.heap.size w2 w') => op_cells HG.out (HB2.out.trans (h.mono HB2.out.size)))
    obtain ⟨p0, p1, p2, p3⟩ := KS.out _ (Below.refl _ _)
    go_region_held3 (fun w' => w'.cell? ⟨w.heap.size, 0, none⟩ = some (.int .i64 al) ∧ w'.cell? ⟨w.heap.size, 1, none⟩ = some (.int .i64 ah) ∧ w'.cell? ⟨w.heap.size + 1, 0, none⟩ = some (.int .i64 bl) ∧ w'.cell? ⟨w.heap.size + 1, 1, none⟩ = some (.int .i64 bh))
      (first
        | (refine KS.out _ ?_
           repeat (first
             | (with_reducible refine Below.setCell ?_ (by first | exact Nat.le_refl _ | (simp; done) | (dsimp only; omega)) _)
             | (with_reducible refine Below.drew ?_)
             | (with_reducible refine Below.alloc ?_ (by first | exact Nat.le_refl _ | (simp; done)) _))
           with_reducible exact Below.refl _ _)
        | go_keep)
      (fail)
    all_goals as_aux_lemma =>
      go_wp2_with fail
      go_meet
      case rel => exact ⟨_, _, rfl, rfl, (((Below.refl _ _).alloc (Nat.le_refl _) _).alloc (by simp) _).drew, (by first | exact heap_alloc2_old _ _ _ | exact heap_alloc2_new _ _ _), (by first | exact heap_alloc2_old _ _ _ | exact heap_alloc2_new _ _ _)⟩
  case rest =>
    obtain ⟨wx, rfl⟩ : ∃ x, x = wc := ⟨wc, rfl⟩
    obtain ⟨gx, gy, rfl, rfl, hbx, tx0, ty0⟩ := hcut
    have HX := Lib.hid (And.intro (HB2.out.trans (hbx.mono HB2.out.size)) (And.intro tx0 ty0))
    clear HB1 HB2 hbx tx0 ty0
    go_wp2
    go_loopw [10, 11] (fun v10 v11 wr => ∃ k : Nat, k ≤ 2 ∧ v11 = .int .i64 (k : Int) ∧ Hid (QS wr wx.heap.size v10 ((opL op al ah bl bh).take (2 * k))) ∧ Hid (Below wx.heap.size wx wr)) (fun _ iv _ => 2 - (numQ iv).toNat)
    case atStart => exact ⟨0, by omega, rfl, Lib.hid (qs_nil _ _), Lib.hid (Below.refl _ _)⟩
    case round =>
      obtain ⟨k, hk, rfl, HQ, HBr⟩ := hrel
      by_cases hk2 : k < 2
      · have x1 : (k : Int) < 2 := by omega
        have x2 : (0 : Int) ≤ (k : Int) := by omega
        go_wp2
        go_loopw [10, 12] (fun v10 v12 wr2 => ∃ j : Nat, j ≤ 2 ∧ v12 = .int .i64 (j : Int) ∧ Hid (QS wr2 wx.heap.size v10 ((opL op al ah bl bh).take (2 * k + j))) ∧ Hid (Below wx.heap.size wx wr2)) (fun _ iv _ => 2 - (numQ iv).toNat)
        case atStart => exact ⟨0, by omega, rfl, HQ, HBr⟩
        case round =>
          obtain ⟨wr2, rfl⟩ : ∃ x, x = wr := ⟨wr, rfl⟩
          obtain ⟨v10, rfl⟩ : ∃ x, x = u10 := ⟨u10, rfl⟩
          obtain ⟨j, hj, rfl, HQ2, HB2r⟩ := hrel
          by_cases hj2 : j < 2
          · have y1 : (j : Int) < 2 := by omega
            have y2 : (0 : Int) ≤ (j : Int) := by omega
            obtain ⟨xk, hxk⟩ : ∃ x, x = if k = 0 then al else ah := ⟨_, rfl⟩
            obtain ⟨yj, hyj⟩ : ∃ y, y = if j = 0 then bl else bh := ⟨_, rfl⟩
            have tx := HX.out.2.1.call HB2r.out
            have ty := HX.out.2.2.call HB2r.out
            have u0 := op_cell tx k hk2 xk hxk
            have u1 := op_cell ty j hj2 yj hyj
            have HR := Lib.hid (And.intro (op_room HO.out.1 k xk hxk) (op_room HO.out.2.1 j yj hyj))
            have HT := Lib.hid (op_take op al ah bl bh k j hk2 hj2 xk yj hxk hyj)
            clear hxk hyj
            go_upto_region 11 with fail
            go_cut [13, 14] from 38 to 74 (fun s13 s14 w5 => ∃ gp gq, s13 = .pointer (some ⟨gp, 0, none⟩) ∧ s14 = .pointer (some ⟨gq, 0, none⟩) ∧ Below wr2.heap.size wr2 w5 ∧ Bx w5 gp xk ∧ Bx w5 gq yj)
            case first => as_aux_lemma =>
              have KS := Lib.hid (fun (w' : World) (h : Below wr2.heap.size wr2 w') => (⟨(h.cell (p := ⟨gx, k, none⟩) tx.lt).trans u0, (h.cell (p := ⟨gy, j, none⟩) ty.lt).trans u1⟩ : w'.cell? ⟨gx, k, none⟩ = some (.int .i64 xk) ∧ w'.cell? ⟨gy, j, none⟩ = some (.int .i64 yj)))
              have HX1 := Lib.hid (whole_any xk (by have := HR.out; omega) (by have := HR.out; omega))
              have HY1 := Lib.hid (whole_any yj (by have := HR.out; omega) (by have := HR.out; omega))
              have tok1 : True := trivial
              clear tx ty
              go_region_held3 (fun w' => w'.cell? ⟨gx, k, none⟩ = some (.int .i64 xk) ∧ w'.cell? ⟨gy, j, none⟩ = some (.int .i64 yj))
                (first
                  | (refine KS.out _ ?_
                     repeat (first
                       | (with_reducible refine Below.setCell ?_ (by first | exact Nat.le_refl _ | (simp; done) | (dsimp only; omega)) _)
                       | (with_reducible refine Below.drew ?_)
                       | (with_reducible refine Below.alloc ?_ (by first | exact Nat.le_refl _ | (simp; done) | exact hb3.size | exact hb4.size | (simp; have := hb3.size; omega)) _))
                     with_reducible first | exact hb4 | exact hb3 | exact Below.refl _ _)
                  | go_keep)
                (first
                  | (go_at_call 19
                     have _t := tok1
                     refine (HX1.out _).mono ?_
                     rintro e w3 ⟨v3, rfl, ⟨s1, A1, n1, c1, A1', n1', c1', rfl, hq1⟩, hb3'⟩
                     have hb3 : Below wr2.heap.size wr2 w3 := by with_reducible first | exact obun hb3' | exact hb3' | exact obal (obun hb3') | exact obal hb3' | exact obal (obal (obun hb3')) | exact obal (obal hb3')
                     have QX := Lib.hid (show QV w3 w3.heap.size (.agg #[.bool s1, .slice A1 n1 c1, .slice A1' n1' c1']) xk 1 from ⟨_, _, _, _, _, _, _, rfl, hq1⟩)
                     try (have Z1 : Hid (ZB w3 wr2.heap.size) := (by with_reducible first | exact Lib.hid (oz1 (obun hb3')) | exact Lib.hid (oz1 hb3') | exact Lib.hid (oz2 (obun hb3')).1 | exact Lib.hid (oz2 hb3').1))
                     try (have Z2 : Hid (ZB w3 (wr2.heap.size + 1)) := (by with_reducible first | exact Lib.hid (oz2 (obun hb3')).2 | exact Lib.hid (oz2 hb3').2))
                     have tok2 : True := trivial
                     clear tok1 _t hb3' hq1)
                  | (go_at_call 19
                     have _t := tok2
                     refine (HY1.out _).mono ?_
                     rintro e w4 ⟨v4, rfl, ⟨s2, A2, n2, c2, A2', n2', c2', rfl, hq2⟩, hb4'⟩
                     have hb4a : Below w3.heap.size w3 w4 := by with_reducible first | exact hb4' | exact obun hb4' | exact obal hb4' | exact obal (obun hb4') | exact obal (obal hb4') | exact obal (obal (obun hb4'))
                     have hb4 : Below wr2.heap.size wr2 w4 := hb3.trans (hb4a.mono hb3.size)
                     have QY := Lib.hid (show QV w4 w4.heap.size (.agg #[.bool s2, .slice A2 n2 c2, .slice A2' n2' c2']) yj 1 from ⟨_, _, _, _, _, _, _, rfl, hq2⟩)
                     have QX4 := Lib.hid ((QX.out.below hb4a (Nat.le_refl _)).more hb4a.size)
                     have hsz := hb3.size
                     have hsz4 := hb4a.size
                     try (have Z3 : ZB w4 wr2.heap.size := Z1.out.call hb4a; have y0 := Z3.c0; have y1 := Z3.c1; have y2 := Z3.c2; have yf := Z3.fz; have y0o := fun o => (Z3.alloc o).c0; have y1o := fun o => (Z3.alloc o).c1; have y2o := fun o => (Z3.alloc o).c2; have yfo := fun o => (Z3.alloc o).fz; have ylt := Z3.lt; have yn1 : ¬ wr2.heap.size = w4.heap.size := (by omega); have yn2 : ¬ w4.heap.size = wr2.heap.size := (by omega); have HZ3 := Lib.hid Z3; clear Z3)
                     try (have Z4 : ZB w4 (wr2.heap.size + 1) := Z2.out.call hb4a; have v0 := Z4.c0; have v1 := Z4.c1; have v2 := Z4.c2; have vf := Z4.fz; have v0o := fun o => (Z4.alloc o).c0; have v1o := fun o => (Z4.alloc o).c1; have v2o := fun o => (Z4.alloc o).c2; have vfo := fun o => (Z4.alloc o).fz; have vlt := Z4.lt; have vn1 : ¬ (wr2.heap.size + 1) = w4.heap.size := (by omega); have vn2 : ¬ w4.heap.size = (wr2.heap.size + 1) := (by omega); have HZ4 := Lib.hid Z4; clear Z4)
                     try (have Z5 : ZB w4 w3.heap.size := (by with_reducible first | exact oz1 hb4' | exact oz1 (obun hb4') | exact (oz2 hb4').1 | exact (oz2 (obun hb4')).1); have t0 := Z5.c0; have t1 := Z5.c1; have t2 := Z5.c2; have tf := Z5.fz; have t0o := fun o => (Z5.alloc o).c0; have t1o := fun o => (Z5.alloc o).c1; have t2o := fun o => (Z5.alloc o).c2; have tfo := fun o => (Z5.alloc o).fz; have tlt := Z5.lt; have tn1 : ¬ w3.heap.size = w4.heap.size := (by omega); have tn2 : ¬ w4.heap.size = w3.heap.size := (by omega); have HZ5 := Lib.hid Z5; clear Z5)
                     try (have Z6 : ZB w4 (w3.heap.size + 1) := (by with_reducible first | exact (oz2 hb4').2 | exact (oz2 (obun hb4')).2); have s0 := Z6.c0; have s1 := Z6.c1; have s2 := Z6.c2; have sf := Z6.fz; have s0o := fun o => (Z6.alloc o).c0; have s1o := fun o => (Z6.alloc o).c1; have s2o := fun o => (Z6.alloc o).c2; have sfo := fun o => (Z6.alloc o).fz; have slt := Z6.lt; have sn1 : ¬ (w3.heap.size + 1) = w4.heap.size := (by omega); have sn2 : ¬ w4.heap.size = (w3.heap.size + 1) := (by omega); have HZ6 := Lib.hid Z6; clear Z6)
                     try (have Z1l := Z1.out.lt; have m1 : ¬ wr2.heap.size = w3.heap.size := (by omega); have m2 : ¬ w3.heap.size = wr2.heap.size := (by omega))
                     clear tok2 _t hb4' hq2))
              all_goals as_aux_lemma =>
                go_wp2_with fail
                go_meet
                case rel =>
                  have hs3 := hb3.size
                  have hs4 := hb4.size
                  first
                  | (with_reducible refine two_boxes hb4 ?_ ?_ ?_ ?_ ?_ QX4.out QY.out)
                  | (with_reducible refine two_new_p hb4 QX4.out QY.out ?_ ?_)
                  | (with_reducible refine two_new_q hb4 QX4.out QY.out ?_ ?_)
                  | (with_reducible exact two_new_pq hb4 QX4.out QY.out)
                  | (with_reducible exact two_new_qp hb4 QX4.out QY.out)
                  all_goals first
                  | with_reducible exact HZ3.out
                  | with_reducible exact HZ4.out
                  | with_reducible exact HZ5.out
                  | with_reducible exact HZ6.out
                  | (clear KS; omega)
            case rest =>
              obtain ⟨w5, rfl⟩ : ∃ x, x = wc := ⟨wc, rfl⟩
              obtain ⟨gp, gq, rfl, rfl, hb5, bp, bq⟩ := hcut
              obtain ⟨sp, Ap, np, cp, Ap', np', cp', hblp, hqp⟩ := bp
              obtain ⟨sq, Aq, nq, cq, Aq', nq', cq', hblq, hqq⟩ := bq
              have u0 := qblk_cell hblp (Below.refl _ _) 0 _ rfl
              have u1 := qblk_cell hblp (Below.refl _ _) 1 _ rfl
              have u2 := qblk_cell hblp (Below.refl _ _) 2 _ rfl
              have v0 := qblk_cell hblq (Below.refl _ _) 0 _ rfl
              have v1 := qblk_cell hblq (Below.refl _ _) 1 _ rfl
              have v2 := qblk_cell hblq (Below.refl _ _) 2 _ rfl
              have HB5 := Lib.hid hb5
              have HS := Lib.hid (And.intro (op_lift (op_small HR.out.1)) (op_lift (op_small HR.out.2)))
              clear hblp hblq hb5 tx ty
              rcases HO.out.2.2.2 with h | h | h
              · subst h
                have HC := Lib.hid (qadd_one xk yj 9 (by omega) HS.out.1 HS.out.2 _ _ w5.heap.size w5 hqp hqq (Nat.le_refl _))
                clear hqp hqq
                go_wp2_with fail
                refine HC.out.mono ?_
                rintro e w6 ⟨v6, rfl, hq6, hfr, hb6⟩
                have HQ6 := Lib.hid hq6
                obtain ⟨s6, A6, n6, c6, A6', n6', c6', rfl, -⟩ := hq6
                have hbw : Below wr2.heap.size wr2 w6 := HB5.out.trans (hb6.mono HB5.out.size)
                have HQS := Lib.hid (qs_below HQ2.out hbw)
                have hap := fun (ad : Addr) (e : some ad.block = v10.ownBlock) => qs_own HQ2.out ad.block e.symm
                have HF := Lib.hid (show (∀ ad, A6 = some ad → 0 < n6 → some ad.block ≠ v10.ownBlock) ∧ (∀ ad, A6' = some ad → 0 < n6' → some ad.block ≠ v10.ownBlock) from ⟨fun ad h _ e => by have q1 := hap ad e; have q2 := (hfr _ _ _ _ _ _ _ rfl).1 ad h; have q3 := HB5.out.size; omega, fun ad h _ e => by have q1 := hap ad e; have q2 := (hfr _ _ _ _ _ _ _ rfl).2 ad h; have q3 := HB5.out.size; omega⟩)
                have HBW := Lib.hid hbw
                have HLB := Lib.hid (show wx.heap.size ≤ w6.heap.size from Nat.le_trans HB2r.out.size hbw.size)
                clear hap hfr hb6 hbw u0 u1 u2 v0 v1 v2
                go_wp2_with (at_builtin
                             refine wpList_append_q rfl (.tmp 61) (.tmp 65) rfl wx.heap.size v10 _ rfl HQS.out _ _ _ _ _ _ _ _ rfl HQ6.out (fun ad h h0 => HF.out.1 ad h h0) (fun ad h h0 => HF.out.2 ad h h0) (by simp [opL]; omega) HLB.out ?_)
                intro v7 w7 hqs7 hb7
                have HQ7 := Lib.hid hqs7
                have HB7 := Lib.hid (HB2r.out.trans ((HBW.out.mono HB2r.out.size).trans hb7))
                clear hqs7 hb7
                go_wp2
                go_roundw
                case rel => exact ⟨j + 1, by omega, by first | rfl | go_num, Lib.hid (by have h := HQ7.out; have t := HT.out; rw [show opF 0 xk yj = xk + yj by simp [opF]] at t; rw [t] at h; exact h), HB7⟩
                case measure => simp [numQ]; omega
              · subst h
                have HC := Lib.hid (qsub_one xk yj 9 (by omega) HS.out.1 HS.out.2 _ _ w5.heap.size w5 hqp hqq (Nat.le_refl _))
                clear hqp hqq
                go_wp2_with fail
                refine HC.out.mono ?_
                rintro e w6 ⟨v6, rfl, hq6, hfr, hb6⟩
                have HQ6 := Lib.hid hq6
                obtain ⟨s6, A6, n6, c6, A6', n6', c6', rfl, -⟩ := hq6
                have hbw : Below wr2.heap.size wr2 w6 := HB5.out.trans (hb6.mono HB5.out.size)
                have HQS := Lib.hid (qs_below HQ2.out hbw)
                have hap := fun (ad : Addr) (e : some ad.block = v10.ownBlock) => qs_own HQ2.out ad.block e.symm
                have HF := Lib.hid (show (∀ ad, A6 = some ad → 0 < n6 → some ad.block ≠ v10.ownBlock) ∧ (∀ ad, A6' = some ad → 0 < n6' → some ad.block ≠ v10.ownBlock) from ⟨fun ad h _ e => by have q1 := hap ad e; have q2 := (hfr _ _ _ _ _ _ _ rfl).1 ad h; have q3 := HB5.out.size; omega, fun ad h _ e => by have q1 := hap ad e; have q2 := (hfr _ _ _ _ _ _ _ rfl).2 ad h; have q3 := HB5.out.size; omega⟩)
                have HBW := Lib.hid hbw
                have HLB := Lib.hid (show wx.heap.size ≤ w6.heap.size from Nat.le_trans HB2r.out.size hbw.size)
                clear hap hfr hb6 hbw u0 u1 u2 v0 v1 v2
                go_wp2_with (at_builtin
                             refine wpList_append_q rfl (.tmp 69) (.tmp 73) rfl wx.heap.size v10 _ rfl HQS.out _ _ _ _ _ _ _ _ rfl HQ6.out (fun ad h h0 => HF.out.1 ad h h0) (fun ad h h0 => HF.out.2 ad h h0) (by simp [opL]; omega) HLB.out ?_)
                intro v7 w7 hqs7 hb7
                have HQ7 := Lib.hid hqs7
                have HB7 := Lib.hid (HB2r.out.trans ((HBW.out.mono HB2r.out.size).trans hb7))
                clear hqs7 hb7
                go_wp2
                go_roundw
                case rel => exact ⟨j + 1, by omega, by first | rfl | go_num, Lib.hid (by have h := HQ7.out; have t := HT.out; rw [show opF 1 xk yj = xk - yj by simp [opF]] at t; rw [t] at h; exact h), HB7⟩
                case measure => simp [numQ]; omega
              · subst h
                have HC := Lib.hid (qmul_one xk yj 9 (by omega) HS.out.1 HS.out.2 _ _ w5.heap.size w5 hqp hqq (Nat.le_refl _))
                clear hqp hqq
                go_wp2_with fail
                refine HC.out.mono ?_
                rintro e w6 ⟨v6, rfl, hq6, hfr, hb6⟩
                have HQ6 := Lib.hid hq6
                obtain ⟨s6, A6, n6, c6, A6', n6', c6', rfl, -⟩ := hq6
                have hbw : Below wr2.heap.size wr2 w6 := HB5.out.trans (hb6.mono HB5.out.size)
                have HQS := Lib.hid (qs_below HQ2.out hbw)
                have hap := fun (ad : Addr) (e : some ad.block = v10.ownBlock) => qs_own HQ2.out ad.block e.symm
                have HF := Lib.hid (show (∀ ad, A6 = some ad → 0 < n6 → some ad.block ≠ v10.ownBlock) ∧ (∀ ad, A6' = some ad → 0 < n6' → some ad.block ≠ v10.ownBlock) from ⟨fun ad h _ e => by have q1 := hap ad e; have q2 := (hfr _ _ _ _ _ _ _ rfl).1 ad h; have q3 := HB5.out.size; omega, fun ad h _ e => by have q1 := hap ad e; have q2 := (hfr _ _ _ _ _ _ _ rfl).2 ad h; have q3 := HB5.out.size; omega⟩)
                have HBW := Lib.hid hbw
                have HLB := Lib.hid (show wx.heap.size ≤ w6.heap.size from Nat.le_trans HB2r.out.size hbw.size)
                clear hap hfr hb6 hbw u0 u1 u2 v0 v1 v2
                go_wp2_with (at_builtin
                             refine wpList_append_q rfl (.tmp 53) (.tmp 57) rfl wx.heap.size v10 _ rfl HQS.out _ _ _ _ _ _ _ _ rfl HQ6.out (fun ad h h0 => HF.out.1 ad h h0) (fun ad h h0 => HF.out.2 ad h h0) (by simp [opL]; omega) HLB.out ?_)
                intro v7 w7 hqs7 hb7
                have HQ7 := Lib.hid hqs7
                have HB7 := Lib.hid (HB2r.out.trans ((HBW.out.mono HB2r.out.size).trans hb7))
                clear hqs7 hb7
                go_wp2
                go_roundw
                case rel => exact ⟨j + 1, by omega, by first | rfl | go_num, Lib.hid (by have h := HQ7.out; have t := HT.out; rw [show opF 2 xk yj = xk * yj by simp [opF]] at t; rw [t] at h; exact h), HB7⟩
                case measure => simp [numQ]; omega
          · obtain rfl : j = 2 := by omega
            go_wp2
            exact ⟨⟨k + 1, by omega, by first | rfl | go_num, Lib.hid (by have h := HQ2.out; rw [show 2 * k + 2 = 2 * (k + 1) by omega] at h; exact h), HB2r⟩, by simp [numQ]; omega⟩
      · obtain rfl : k = 2 := by omega
        have hqs : QS wr wx.heap.size u10 (opL op al ah bl bh) := HQ.out
        have HQR := Lib.hid (show QR wr u10 (opL op al ah bl bh) from qs_cells hqs)
        have HAR := Lib.hid (daround_any (opL op al ah bl bh) 9 (by omega) (opL_small HO.out.2.2.2 HO.out.1 HO.out.2.1) (by simp [opL]) (by simp [opL]) u10 wr HQR.out lo hi HO.out.2.2.1)
        clear hqs
        go_wp2_with fail
        refine HAR.out.mono ?_
        rintro e w8 ⟨h8, hb8⟩
        have hb1 := HX.out.1.trans (HBr.out.mono HX.out.1.size)
        have hb08 := hb1.trans (hb8.mono hb1.size)
        obtain ⟨m0, m1⟩ := xy_cells HG.out.2.2 hb08
        have mf := xy_frozen HG.out.2.2 hb08
        have HB8 := Lib.hid (HW.out.trans (hb08.mono HW.out.size))
        clear hb8 hb1 hb08
        rcases h8 with ⟨b1, b2, rfl⟩ | ⟨b1, rfl⟩
        · have HH := Lib.hid (And.intro b1 b2)
          clear b1 b2
          go_wp2
          refine bodyPost_ret (v := .tuple #[.agg #[.int .i64 lo, .int .i64 hi], .int .i64 0]) (by simp [results, Tryz.results5, go_sem, m0, m1]) rfl ⟨.inl ⟨HH.out.1, HH.out.2, rfl⟩, ?_⟩
          exact Below.setCell (p := ⟨w.heap.size + 1 + 1, 1, none⟩) (Below.setCell (p := ⟨w.heap.size + 1 + 1, 0, none⟩) HB8.out (by show w.heap.size ≤ w.heap.size + 1 + 1; omega) _) (by show w.heap.size ≤ w.heap.size + 1 + 1; omega) _
        · have HH := Lib.hid b1
          clear b1
          go_wp2
          refine bodyPost_ret (v := .tuple #[.agg #[.int .i64 0, .int .i64 0], .int .i64 3]) (by simp [results, Tryz.results5, go_sem, m0, m1]) rfl ⟨.inr ⟨HH.out, rfl⟩, ?_⟩
          exact Below.setCell (p := ⟨w.heap.size + 1 + 1, 1, none⟩) (Below.setCell (p := ⟨w.heap.size + 1 + 1, 0, none⟩) HB8.out (by show w.heap.size ≤ w.heap.size + 1 + 1; omega) _) (by show w.heap.size ≤ w.heap.size + 1 + 1; omega) _
end Go.Proofs.YtdpmfenikomfkaaGreat
