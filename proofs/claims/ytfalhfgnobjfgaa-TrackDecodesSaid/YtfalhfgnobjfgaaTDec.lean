/-
  The program's Decode of a record.
-/
import Derived.Test.YtfalhfgnobjfgaaTErd
namespace Go.Proofs.Ytfalhfgnobjfgaa
open Go.RowKit Go.Maps

noncomputable def navF (X : List Nat) : Value := .agg #[.bool false, .int .i64 (rv false (rest X 0)), .int .i64 (rv true (rest X 1)), .int .i64 (rv true (rest X 2)), .int .i64 (rv true (rest X 3)), .int .i64 (rv false (rest X 4)), .int .i64 (rv true (rest X 5)), .int .i64 (rv true (rest X 6)), .int .i64 (rv true (rest X 7)), .int .i64 (rv true (rest X 8)), .int .i64 (rv false (rest X 9)), .int .i64 0, .int .i64 0, .int .i64 0]
noncomputable def navS (X : List Nat) : Value := .agg #[.bool true, .int .i64 0, .int .i64 0, .int .i64 0, .int .i64 0, .int .i64 0, .int .i64 0, .int .i64 0, .int .i64 0, .int .i64 0, .int .i64 0, .int .i64 (rv false (rest X 0)), .int .i64 (rv false (rest X 1)), .int .i64 (rv false (rest X 2))]
def navZ : Value := .agg #[.bool false, .int .i64 0, .int .i64 0, .int .i64 0, .int .i64 0, .int .i64 0, .int .i64 0, .int .i64 0, .int .i64 0, .int .i64 0, .int .i64 0, .int .i64 0, .int .i64 0, .int .i64 0]
def goodS (X : List Nat) : Prop := okR X 3 = true ∧ rest X 3 = [] ∧ okSync (rv false (rest X 0)) (rv false (rest X 1)) (rv false (rest X 2))
def goodF (X : List Nat) : Prop := okR X 10 = true ∧ rest X 10 = [] ∧ okFix (rv false (rest X 0)) (rv true (rest X 1)) (rv true (rest X 2)) (rv true (rest X 3)) (rv false (rest X 4)) (rv true (rest X 5)) (rv true (rest X 6)) (rv true (rest X 7)) (rv true (rest X 8)) (rv false (rest X 9))
/-- What bytes decode to. -/
def DecR : List Nat → Value → Int → Prop
  | [], nav, ce => nav = navZ ∧ ce = 4
  | x :: X, nav, ce => (x = 1 → (goodS X → nav = navS X ∧ ce = 0) ∧ (¬ goodS X → nav = navZ ∧ ce = 4)) ∧ (x = 0 → (goodF X → nav = navF X ∧ ce = 0) ∧ (¬ goodF X → nav = navZ ∧ ce = 4)) ∧ (x ≠ 0 → x ≠ 1 → nav = navZ ∧ ce = 4)
def RetDec (X : List Nat) (w : World) (e : Ending) (w' : World) : Prop := ∃ nav ce, e = .returned (.tuple #[nav, .int .i64 ce]) ∧ DecR X nav ce ∧ Below w.heap.size w w'
theorem fixK_eq (X : List Nat) : fixK X true = okR X 10 := by
  have a := okR_add X 1 3
  have b := okR_add X 4 1
  have c := okR_add X 5 4
  have d := okR_add X 9 1
  show (((((true && okR X 1) && okR (rest X 1) 3) && okR (rest X 4) 1) && okR (rest X 5) 4) && okR (rest X 9) 1) = okR X 10
  rw [Bool.true_and, a, b, c, d]
theorem fixY_eq (X : List Nat) : fixY X = rest X 10 := rfl
theorem stg0 (z0 z1 z2 z3 z4 z5 z6 z7 z8 z9 z10 z11 z12 z13 : Value) (vs : Nat → Int) : setsN #[z0, z1, z2, z3, z4, z5, z6, z7, z8, z9, z10, z11, z12, z13] (fun j => 1 + j) vs 1 = #[z0, .int .i64 (vs 0), z2, z3, z4, z5, z6, z7, z8, z9, z10, z11, z12, z13] := rfl
theorem stg1 (z0 z1 z2 z3 z4 z5 z6 z7 z8 z9 z10 z11 z12 z13 : Value) (vs : Nat → Int) : setsN #[z0, z1, z2, z3, z4, z5, z6, z7, z8, z9, z10, z11, z12, z13] (fun j => 2 + j) vs 3 = #[z0, z1, .int .i64 (vs 0), .int .i64 (vs 1), .int .i64 (vs 2), z5, z6, z7, z8, z9, z10, z11, z12, z13] := rfl
theorem stg2 (z0 z1 z2 z3 z4 z5 z6 z7 z8 z9 z10 z11 z12 z13 : Value) (vs : Nat → Int) : setsN #[z0, z1, z2, z3, z4, z5, z6, z7, z8, z9, z10, z11, z12, z13] (fun j => 5 + j) vs 1 = #[z0, z1, z2, z3, z4, .int .i64 (vs 0), z6, z7, z8, z9, z10, z11, z12, z13] := rfl
theorem stg3 (z0 z1 z2 z3 z4 z5 z6 z7 z8 z9 z10 z11 z12 z13 : Value) (vs : Nat → Int) : setsN #[z0, z1, z2, z3, z4, z5, z6, z7, z8, z9, z10, z11, z12, z13] (fun j => 6 + j) vs 4 = #[z0, z1, z2, z3, z4, z5, .int .i64 (vs 0), .int .i64 (vs 1), .int .i64 (vs 2), .int .i64 (vs 3), z10, z11, z12, z13] := rfl
theorem stg4 (z0 z1 z2 z3 z4 z5 z6 z7 z8 z9 z10 z11 z12 z13 : Value) (vs : Nat → Int) : setsN #[z0, z1, z2, z3, z4, z5, z6, z7, z8, z9, z10, z11, z12, z13] (fun j => 10 + j) vs 1 = #[z0, z1, z2, z3, z4, z5, z6, z7, z8, z9, .int .i64 (vs 0), z11, z12, z13] := rfl
theorem fixC_eq (X : List Nat) : fixC X #[.bool false, .int .i64 0, .int .i64 0, .int .i64 0, .int .i64 0, .int .i64 0, .int .i64 0, .int .i64 0, .int .i64 0, .int .i64 0, .int .i64 0, .int .i64 0, .int .i64 0, .int .i64 0] = #[.bool false, .int .i64 (rv false (rest X 0)), .int .i64 (rv true (rest X 1)), .int .i64 (rv true (rest X 2)), .int .i64 (rv true (rest X 3)), .int .i64 (rv false (rest X 4)), .int .i64 (rv true (rest X 5)), .int .i64 (rv true (rest X 6)), .int .i64 (rv true (rest X 7)), .int .i64 (rv true (rest X 8)), .int .i64 (rv false (rest X 9)), .int .i64 0, .int .i64 0, .int .i64 0] := by
  unfold fixC
  rw [stg0, stg1, stg2, stg3, stg4]
  simp only [rest_add, Nat.reduceAdd]
theorem syncC_eq (X : List Nat) : setsN #[.bool true, .int .i64 0, .int .i64 0, .int .i64 0, .int .i64 0, .int .i64 0, .int .i64 0, .int .i64 0, .int .i64 0, .int .i64 0, .int .i64 0, .int .i64 0, .int .i64 0, .int .i64 0] (fun j => 11 + j) (fun i => rv false (rest X i)) 3 = #[.bool true, .int .i64 0, .int .i64 0, .int .i64 0, .int .i64 0, .int .i64 0, .int .i64 0, .int .i64 0, .int .i64 0, .int .i64 0, .int .i64 0, .int .i64 (rv false (rest X 0)), .int .i64 (rv false (rest X 1)), .int .i64 (rv false (rest X 2))] := rfl

/-- The variables that Decode makes. -/
theorem dec_vars (w : World) (x : Bool) (sl : Value) (F1 F2 T2 : Nat) : ∀ W, W = (((((w.alloc (.cells #[.bool false, .int .i64 0, .int .i64 0, .int .i64 0, .int .i64 0, .int .i64 0, .int .i64 0, .int .i64 0, .int .i64 0, .int .i64 0, .int .i64 0, .int .i64 0, .int .i64 0, .int .i64 0] 29)).alloc (.cells #[.bool x, .int .i64 0, .int .i64 0, .int .i64 0, .int .i64 0, .int .i64 0, .int .i64 0, .int .i64 0, .int .i64 0, .int .i64 0, .int .i64 0, .int .i64 0, .int .i64 0, .int .i64 0] 29)).alloc (.cells #[sl] 30)).alloc (.cells #[.bool true] 4)).alloc (.cells #[.func (.func F1) #[] #[]] T2)).alloc (.cells #[.func (.func F2) #[] #[]] T2) →
    Below w.heap.size w W ∧ W.heap[w.heap.size]? = some (.cells #[.bool false, .int .i64 0, .int .i64 0, .int .i64 0, .int .i64 0, .int .i64 0, .int .i64 0, .int .i64 0, .int .i64 0, .int .i64 0, .int .i64 0, .int .i64 0, .int .i64 0, .int .i64 0] 29 (0, 0)) ∧ W.heap[w.heap.size + 1]? = some (.cells #[.bool x, .int .i64 0, .int .i64 0, .int .i64 0, .int .i64 0, .int .i64 0, .int .i64 0, .int .i64 0, .int .i64 0, .int .i64 0, .int .i64 0, .int .i64 0, .int .i64 0, .int .i64 0] 29 (0, 0)) ∧ W.heap[w.heap.size + 1 + 1]? = some (.cells #[sl] 30 (0, 0)) ∧ W.heap[w.heap.size + 1 + 1 + 1]? = some (.cells #[.bool true] 4 (0, 0)) ∧
    W.cell? ⟨w.heap.size + 1 + 1 + 1 + 1, 0, none⟩ = some (.func (.func F1) #[] #[]) ∧ W.cell? ⟨w.heap.size + 1 + 1 + 1 + 1 + 1, 0, none⟩ = some (.func (.func F2) #[] #[]) ∧ W.heap.size = w.heap.size + 1 + 1 + 1 + 1 + 1 + 1 := by
  intro W hW
  subst hW
  refine ⟨(((((Below.refl _ _).alloc (Nat.le_refl _) _).alloc (by simp) _).alloc (by simp; omega) _).alloc (by simp; omega) _).alloc (by simp; omega) _ |>.alloc (by simp; omega) _, ?_, ?_, ?_, ?_, ?_, ?_, by simp⟩
  · exact ho_ (ho_ (ho_ (ho_ (ho_ (hn_ _ _ _ rfl)))))
  · exact ho_ (ho_ (ho_ (ho_ (hn_ _ _ _ (by simp)))))
  · exact ho_ (ho_ (ho_ (hn_ _ _ _ (by simp))))
  · exact ho_ (ho_ (hn_ _ _ _ (by simp)))
  · exact cell_of_row _ _ 0 _ _ _ (ho_ (hn_ _ _ _ (by simp)))
  · exact cell_of_row _ _ 0 _ _ _ (hn_ _ _ _ (by simp))
where
  hn_ (w : World) (o : Obj) (k : Nat) (hk : k = w.heap.size) : (w.alloc o).heap[k]? = some o := by subst hk; exact heap_alloc_new w o
  ho_ {w : World} {o : Obj} {k : Nat} {x : Obj} (h : w.heap[k]? = some x) : (w.alloc o).heap[k]? = some x := (Below.heap_alloc w o k (Array.getElem?_eq_some_iff.1 h).1).trans h

theorem set14_heap {w : World} {g : Nat} {m0 m1 m2 m3 m4 m5 m6 m7 m8 m9 m10 m11 m12 m13 : Value} {T : TypeId} (v0 v1 v2 v3 v4 v5 v6 v7 v8 v9 v10 v11 v12 v13 : Value) (h : w.heap[g]? = some (.cells #[m0, m1, m2, m3, m4, m5, m6, m7, m8, m9, m10, m11, m12, m13] T (0, 0))) : ((((((((((((((w.setCell ⟨g, 0, none⟩ v0).setCell ⟨g, 1, none⟩ v1).setCell ⟨g, 2, none⟩ v2).setCell ⟨g, 3, none⟩ v3).setCell ⟨g, 4, none⟩ v4).setCell ⟨g, 5, none⟩ v5).setCell ⟨g, 6, none⟩ v6).setCell ⟨g, 7, none⟩ v7).setCell ⟨g, 8, none⟩ v8).setCell ⟨g, 9, none⟩ v9).setCell ⟨g, 10, none⟩ v10).setCell ⟨g, 11, none⟩ v11).setCell ⟨g, 12, none⟩ v12).setCell ⟨g, 13, none⟩ v13).heap[g]? = some (.cells #[v0, v1, v2, v3, v4, v5, v6, v7, v8, v9, v10, v11, v12, v13] T (0, 0)) := by
  have h0 : (w.setCell ⟨g, 0, none⟩ v0).heap[g]? = some (.cells #[v0, m1, m2, m3, m4, m5, m6, m7, m8, m9, m10, m11, m12, m13] T (0, 0)) := by rw [heap_setCell_same _ g 0 _ _ _ h]; rfl
  have h1 : ((w.setCell ⟨g, 0, none⟩ v0).setCell ⟨g, 1, none⟩ v1).heap[g]? = some (.cells #[v0, v1, m2, m3, m4, m5, m6, m7, m8, m9, m10, m11, m12, m13] T (0, 0)) := by rw [heap_setCell_same _ g 1 _ _ _ h0]; rfl
  have h2 : (((w.setCell ⟨g, 0, none⟩ v0).setCell ⟨g, 1, none⟩ v1).setCell ⟨g, 2, none⟩ v2).heap[g]? = some (.cells #[v0, v1, v2, m3, m4, m5, m6, m7, m8, m9, m10, m11, m12, m13] T (0, 0)) := by rw [heap_setCell_same _ g 2 _ _ _ h1]; rfl
  have h3 : ((((w.setCell ⟨g, 0, none⟩ v0).setCell ⟨g, 1, none⟩ v1).setCell ⟨g, 2, none⟩ v2).setCell ⟨g, 3, none⟩ v3).heap[g]? = some (.cells #[v0, v1, v2, v3, m4, m5, m6, m7, m8, m9, m10, m11, m12, m13] T (0, 0)) := by rw [heap_setCell_same _ g 3 _ _ _ h2]; rfl
  have h4 : (((((w.setCell ⟨g, 0, none⟩ v0).setCell ⟨g, 1, none⟩ v1).setCell ⟨g, 2, none⟩ v2).setCell ⟨g, 3, none⟩ v3).setCell ⟨g, 4, none⟩ v4).heap[g]? = some (.cells #[v0, v1, v2, v3, v4, m5, m6, m7, m8, m9, m10, m11, m12, m13] T (0, 0)) := by rw [heap_setCell_same _ g 4 _ _ _ h3]; rfl
  have h5 : ((((((w.setCell ⟨g, 0, none⟩ v0).setCell ⟨g, 1, none⟩ v1).setCell ⟨g, 2, none⟩ v2).setCell ⟨g, 3, none⟩ v3).setCell ⟨g, 4, none⟩ v4).setCell ⟨g, 5, none⟩ v5).heap[g]? = some (.cells #[v0, v1, v2, v3, v4, v5, m6, m7, m8, m9, m10, m11, m12, m13] T (0, 0)) := by rw [heap_setCell_same _ g 5 _ _ _ h4]; rfl
  have h6 : (((((((w.setCell ⟨g, 0, none⟩ v0).setCell ⟨g, 1, none⟩ v1).setCell ⟨g, 2, none⟩ v2).setCell ⟨g, 3, none⟩ v3).setCell ⟨g, 4, none⟩ v4).setCell ⟨g, 5, none⟩ v5).setCell ⟨g, 6, none⟩ v6).heap[g]? = some (.cells #[v0, v1, v2, v3, v4, v5, v6, m7, m8, m9, m10, m11, m12, m13] T (0, 0)) := by rw [heap_setCell_same _ g 6 _ _ _ h5]; rfl
  have h7 : ((((((((w.setCell ⟨g, 0, none⟩ v0).setCell ⟨g, 1, none⟩ v1).setCell ⟨g, 2, none⟩ v2).setCell ⟨g, 3, none⟩ v3).setCell ⟨g, 4, none⟩ v4).setCell ⟨g, 5, none⟩ v5).setCell ⟨g, 6, none⟩ v6).setCell ⟨g, 7, none⟩ v7).heap[g]? = some (.cells #[v0, v1, v2, v3, v4, v5, v6, v7, m8, m9, m10, m11, m12, m13] T (0, 0)) := by rw [heap_setCell_same _ g 7 _ _ _ h6]; rfl
  have h8 : (((((((((w.setCell ⟨g, 0, none⟩ v0).setCell ⟨g, 1, none⟩ v1).setCell ⟨g, 2, none⟩ v2).setCell ⟨g, 3, none⟩ v3).setCell ⟨g, 4, none⟩ v4).setCell ⟨g, 5, none⟩ v5).setCell ⟨g, 6, none⟩ v6).setCell ⟨g, 7, none⟩ v7).setCell ⟨g, 8, none⟩ v8).heap[g]? = some (.cells #[v0, v1, v2, v3, v4, v5, v6, v7, v8, m9, m10, m11, m12, m13] T (0, 0)) := by rw [heap_setCell_same _ g 8 _ _ _ h7]; rfl
  have h9 : ((((((((((w.setCell ⟨g, 0, none⟩ v0).setCell ⟨g, 1, none⟩ v1).setCell ⟨g, 2, none⟩ v2).setCell ⟨g, 3, none⟩ v3).setCell ⟨g, 4, none⟩ v4).setCell ⟨g, 5, none⟩ v5).setCell ⟨g, 6, none⟩ v6).setCell ⟨g, 7, none⟩ v7).setCell ⟨g, 8, none⟩ v8).setCell ⟨g, 9, none⟩ v9).heap[g]? = some (.cells #[v0, v1, v2, v3, v4, v5, v6, v7, v8, v9, m10, m11, m12, m13] T (0, 0)) := by rw [heap_setCell_same _ g 9 _ _ _ h8]; rfl
  have h10 : (((((((((((w.setCell ⟨g, 0, none⟩ v0).setCell ⟨g, 1, none⟩ v1).setCell ⟨g, 2, none⟩ v2).setCell ⟨g, 3, none⟩ v3).setCell ⟨g, 4, none⟩ v4).setCell ⟨g, 5, none⟩ v5).setCell ⟨g, 6, none⟩ v6).setCell ⟨g, 7, none⟩ v7).setCell ⟨g, 8, none⟩ v8).setCell ⟨g, 9, none⟩ v9).setCell ⟨g, 10, none⟩ v10).heap[g]? = some (.cells #[v0, v1, v2, v3, v4, v5, v6, v7, v8, v9, v10, m11, m12, m13] T (0, 0)) := by rw [heap_setCell_same _ g 10 _ _ _ h9]; rfl
  have h11 : ((((((((((((w.setCell ⟨g, 0, none⟩ v0).setCell ⟨g, 1, none⟩ v1).setCell ⟨g, 2, none⟩ v2).setCell ⟨g, 3, none⟩ v3).setCell ⟨g, 4, none⟩ v4).setCell ⟨g, 5, none⟩ v5).setCell ⟨g, 6, none⟩ v6).setCell ⟨g, 7, none⟩ v7).setCell ⟨g, 8, none⟩ v8).setCell ⟨g, 9, none⟩ v9).setCell ⟨g, 10, none⟩ v10).setCell ⟨g, 11, none⟩ v11).heap[g]? = some (.cells #[v0, v1, v2, v3, v4, v5, v6, v7, v8, v9, v10, v11, m12, m13] T (0, 0)) := by rw [heap_setCell_same _ g 11 _ _ _ h10]; rfl
  have h12 : (((((((((((((w.setCell ⟨g, 0, none⟩ v0).setCell ⟨g, 1, none⟩ v1).setCell ⟨g, 2, none⟩ v2).setCell ⟨g, 3, none⟩ v3).setCell ⟨g, 4, none⟩ v4).setCell ⟨g, 5, none⟩ v5).setCell ⟨g, 6, none⟩ v6).setCell ⟨g, 7, none⟩ v7).setCell ⟨g, 8, none⟩ v8).setCell ⟨g, 9, none⟩ v9).setCell ⟨g, 10, none⟩ v10).setCell ⟨g, 11, none⟩ v11).setCell ⟨g, 12, none⟩ v12).heap[g]? = some (.cells #[v0, v1, v2, v3, v4, v5, v6, v7, v8, v9, v10, v11, v12, m13] T (0, 0)) := by rw [heap_setCell_same _ g 12 _ _ _ h11]; rfl
  have h13 : ((((((((((((((w.setCell ⟨g, 0, none⟩ v0).setCell ⟨g, 1, none⟩ v1).setCell ⟨g, 2, none⟩ v2).setCell ⟨g, 3, none⟩ v3).setCell ⟨g, 4, none⟩ v4).setCell ⟨g, 5, none⟩ v5).setCell ⟨g, 6, none⟩ v6).setCell ⟨g, 7, none⟩ v7).setCell ⟨g, 8, none⟩ v8).setCell ⟨g, 9, none⟩ v9).setCell ⟨g, 10, none⟩ v10).setCell ⟨g, 11, none⟩ v11).setCell ⟨g, 12, none⟩ v12).setCell ⟨g, 13, none⟩ v13).heap[g]? = some (.cells #[v0, v1, v2, v3, v4, v5, v6, v7, v8, v9, v10, v11, v12, v13] T (0, 0)) := by rw [heap_setCell_same _ g 13 _ _ _ h12]; rfl
  exact h13
theorem set14_below {w0 w : World} {B g : Nat} (v0 v1 v2 v3 v4 v5 v6 v7 v8 v9 v10 v11 v12 v13 : Value) (h : Below B w0 w) (hg : B ≤ g) : Below B w0 ((((((((((((((w.setCell ⟨g, 0, none⟩ v0).setCell ⟨g, 1, none⟩ v1).setCell ⟨g, 2, none⟩ v2).setCell ⟨g, 3, none⟩ v3).setCell ⟨g, 4, none⟩ v4).setCell ⟨g, 5, none⟩ v5).setCell ⟨g, 6, none⟩ v6).setCell ⟨g, 7, none⟩ v7).setCell ⟨g, 8, none⟩ v8).setCell ⟨g, 9, none⟩ v9).setCell ⟨g, 10, none⟩ v10).setCell ⟨g, 11, none⟩ v11).setCell ⟨g, 12, none⟩ v12).setCell ⟨g, 13, none⟩ v13) :=
  (((((((((((((h.setCell hg _).setCell hg _).setCell hg _).setCell hg _).setCell hg _).setCell hg _).setCell hg _).setCell hg _).setCell hg _).setCell hg _).setCell hg _).setCell hg _).setCell hg _).setCell hg _

theorem dnoS {X : List Nat} (h : ¬ goodS X) : DecR (1 :: X) (.agg #[.bool false, .int .i64 0, .int .i64 0, .int .i64 0, .int .i64 0, .int .i64 0, .int .i64 0, .int .i64 0, .int .i64 0, .int .i64 0, .int .i64 0, .int .i64 0, .int .i64 0, .int .i64 0]) 4 := ⟨fun _ => ⟨fun hg => absurd hg h, fun _ => ⟨rfl, rfl⟩⟩, fun e => by omega, fun _ e => absurd rfl e⟩
theorem dnoF {X : List Nat} (h : ¬ goodF X) : DecR (0 :: X) (.agg #[.bool false, .int .i64 0, .int .i64 0, .int .i64 0, .int .i64 0, .int .i64 0, .int .i64 0, .int .i64 0, .int .i64 0, .int .i64 0, .int .i64 0, .int .i64 0, .int .i64 0, .int .i64 0]) 4 := ⟨fun e => by omega, fun _ => ⟨fun hg => absurd hg h, fun _ => ⟨rfl, rfl⟩⟩, fun e => absurd rfl e⟩
theorem dyesS {X : List Nat} {y0 y1 y2 : Int} (h1 : okR X 3 = true) (h2 : rest X 3 = []) (h3 : recE true 0 0 0 0 0 0 0 0 0 0 y0 y1 y2 = 0) (hy : y0 = rv false (rest X 0) ∧ y1 = rv false (rest X 1) ∧ y2 = rv false (rest X 2)) : DecR (1 :: X) (.agg #[.bool true, .int .i64 0, .int .i64 0, .int .i64 0, .int .i64 0, .int .i64 0, .int .i64 0, .int .i64 0, .int .i64 0, .int .i64 0, .int .i64 0, .int .i64 y0, .int .i64 y1, .int .i64 y2]) 0 := by
  obtain ⟨rfl, rfl, rfl⟩ := hy
  have hg : goodS X := ⟨h1, h2, by
    apply Classical.byContradiction
    intro hn
    simp [recE, hn] at h3⟩
  exact ⟨fun _ => ⟨fun _ => ⟨rfl, rfl⟩, fun h => absurd hg h⟩, fun e => by omega, fun _ e => absurd rfl e⟩
theorem dyesF {X : List Nat} {y0 y1 y2 y3 y4 y5 y6 y7 y8 y9 : Int} (h1 : okR X 10 = true) (h2 : rest X 10 = []) (h3 : recE false y0 y1 y2 y3 y4 y5 y6 y7 y8 y9 0 0 0 = 0) (hy : y0 = rv false (rest X 0) ∧ y1 = rv true (rest X 1) ∧ y2 = rv true (rest X 2) ∧ y3 = rv true (rest X 3) ∧ y4 = rv false (rest X 4) ∧ y5 = rv true (rest X 5) ∧ y6 = rv true (rest X 6) ∧ y7 = rv true (rest X 7) ∧ y8 = rv true (rest X 8) ∧ y9 = rv false (rest X 9)) : DecR (0 :: X) (.agg #[.bool false, .int .i64 y0, .int .i64 y1, .int .i64 y2, .int .i64 y3, .int .i64 y4, .int .i64 y5, .int .i64 y6, .int .i64 y7, .int .i64 y8, .int .i64 y9, .int .i64 0, .int .i64 0, .int .i64 0]) 0 := by
  obtain ⟨rfl, rfl, rfl, rfl, rfl, rfl, rfl, rfl, rfl, rfl⟩ := hy
  have hg : goodF X := ⟨h1, h2, by
    apply Classical.byContradiction
    intro hn
    simp [recE, hn] at h3⟩
  exact ⟨fun e => by omega, fun _ => ⟨fun _ => ⟨rfl, rfl⟩, fun h => absurd hg h⟩, fun e => absurd rfl e⟩

set_option maxRecDepth 100000 in
set_option maxHeartbeats 4000000 in
theorem dec_sync (X : List Nat) (b o n c B0 : Nat) (w : World) (hx : RB w B0 (.slice (some ⟨b, o, none⟩) n c) (1 :: X)) (hB : B0 ≤ w.heap.size) (hl : n ≤ 1000) :
    Calls Try.prog 8 #[.slice (some ⟨b, o, none⟩) n c] w (RetDec (1 :: X) w) := by
  have hmf : ∀ (fn : Fn) (first cap : Array Value) (w : World), (Instr.makeFunc fn first cap).run Try.prog w = .ok (.func fn first cap) w := fun _ _ _ _ => rfl
  have hln := hx.1.len
  have hcap := hx.1.cap
  have hn0 : 0 < n := by simp at hln; omega
  obtain ⟨b', o'', eA, hb, hc⟩ := hx.1.at_ hn0
  injection eA with eA
  injection eA with eb eo
  subst eb eo
  have c0 : w.cell? ⟨b, o, none⟩ = some (.int .u8 1) := hc 0 hn0
  have c0a := fun ob => (World.cell?_alloc_lt w ob ⟨b, o, none⟩ (by simp; omega)).trans c0
  obtain ⟨AD, hAD⟩ : ∃ AD, (if c = 1 then (some ⟨b, o, none⟩ : Option Addr) else some ⟨b, o + 1, none⟩) = AD := ⟨_, rfl⟩
  obtain ⟨o', e', hT⟩ := rb_tail2 (a := 1) hx (by omega) hAD
  subst e'
  have hT : RB w B0 (.slice (some ⟨b, o', none⟩) (n - 1) (c - 1)) X := hT
  have HX := Lib.hid (And.intro hT (And.intro hB hl))
  have HXl := Lib.hid hT.1.len
  have i1 : ¬ ((n : Int) = 0) := by omega
  have i2 : (0 : Int) < (n : Int) := by omega
  have i3 : (1 : Int) ≤ (n : Int) := by omega
  have i4 : 1 ≤ c := by omega
  unfold maxLen at hcap
  have HE := Lib.hid (dec_vars w true (.slice (some ⟨b, o', none⟩) (n - 1) (c - 1)) 23 24 52)
  clear hx hT hln hc
  go_enter Try.func8, Try.ntmps8
  go_wp2_with (first
    | (go_at_call 21; go_in)
    | (go_at_call 13; fail "EACH"))
  obtain ⟨WE, hWE⟩ : ∃ WE, WE = (((((w.alloc (.cells #[.bool false, .int .i64 0, .int .i64 0, .int .i64 0, .int .i64 0, .int .i64 0, .int .i64 0, .int .i64 0, .int .i64 0, .int .i64 0, .int .i64 0, .int .i64 0, .int .i64 0, .int .i64 0] 29)).alloc (.cells #[.bool true, .int .i64 0, .int .i64 0, .int .i64 0, .int .i64 0, .int .i64 0, .int .i64 0, .int .i64 0, .int .i64 0, .int .i64 0, .int .i64 0, .int .i64 0, .int .i64 0, .int .i64 0] 29)).alloc (.cells #[.slice (some ⟨b, o', none⟩) (n - 1) (c - 1)] 30)).alloc (.cells #[.bool true] 4)).alloc (.cells #[.func (.func 23) #[] #[]] 52)).alloc (.cells #[.func (.func 24) #[] #[]] 52) := ⟨_, rfl⟩
  obtain ⟨q1, q2, q3, q4, q5, q6, q7, q8⟩ := HE.out WE hWE
  rw [← hWE]
  have hS : RdSt WE w.heap.size (w.heap.size + 1 + 1) (w.heap.size + 1 + 1 + 1) (w.heap.size + 1) X true #[.bool true, .int .i64 0, .int .i64 0, .int .i64 0, .int .i64 0, .int .i64 0, .int .i64 0, .int .i64 0, .int .i64 0, .int .i64 0, .int .i64 0, .int .i64 0, .int .i64 0, .int .i64 0] := ⟨⟨b, o', n - 1, c - 1, q4, (HX.out.1.belowM q1 HX.out.2.1).more HX.out.2.1⟩, q5, q3⟩
  have hXl : X.length ≤ 1048576 := by have := HXl.out; omega
  have HES := Lib.hid (erd_sync (w.heap.size + 1) (w.heap.size + 1 + 1 + 1 + 1) (w.heap.size + 1 + 1 + 1 + 1 + 1) (w.heap.size + 1 + 1) (w.heap.size + 1 + 1 + 1) w.heap.size X true #[.bool true, .int .i64 0, .int .i64 0, .int .i64 0, .int .i64 0, .int .i64 0, .int .i64 0, .int .i64 0, .int .i64 0, .int .i64 0, .int .i64 0, .int .i64 0, .int .i64 0, .int .i64 0] WE hS rfl rfl q6 (by omega) hXl (by omega) (by omega) (by omega) (by omega) (by omega) (by omega) (by omega) (three_not (by omega) (by omega) (by omega)))
  have HQ := Lib.hid (And.intro q1 q2)
  clear hWE q1 q2 q3 q4 q5 q6 q7 hS hXl c0a c0 HE
  refine HES.out.mono ?_
  rintro e2 w2 ⟨rfl, ⟨⟨b2, o2, n2, c2, u1, u2⟩, u3, u4⟩, r2⟩
  rw [show (rest X 3 : List Nat) = rest X 3 from rfl] at u2
  rw [Bool.true_and] at u3
  rw [syncC_eq] at u4
  have u0 := (r2.block w.heap.size (by omega) (three_not (by omega) (by omega) (by omega))).trans HQ.out.2
  have hbw2 : Below w.heap.size w w2 := HQ.out.1.trans (r2.below HQ.out.1.size (by rintro k (rfl | rfl | rfl) <;> omega))
  have hl2 := u2.1.len
  clear r2 HES HQ
  have p1 : w2.cell? ⟨w.heap.size + 1 + 1, 0, none⟩ = some (.slice (some ⟨b2, o2, none⟩) n2 c2) := cell_of_row _ _ 0 _ _ _ u1
  have p2 : w2.cell? ⟨w.heap.size + 1 + 1 + 1, 0, none⟩ = some (.bool (okR X 3)) := cell_of_row _ _ 0 _ _ _ u3
  obtain ⟨y0, hy0⟩ : ∃ y, y = rv false (rest X 0) := ⟨_, rfl⟩
  obtain ⟨y1, hy1⟩ : ∃ y, y = rv false (rest X 1) := ⟨_, rfl⟩
  obtain ⟨y2, hy2⟩ : ∃ y, y = rv false (rest X 2) := ⟨_, rfl⟩
  have HY := Lib.hid (And.intro hy0 (And.intro hy1 (hy2)))
  rw [← hy0, ← hy1, ← hy2] at u4
  clear hy0 hy1 hy2
  obtain ⟨⟨k0, k1, k2, k3, k4, k5, k6⟩, k7, k8, k9, k10, k11, k12, k13⟩ := nv_blk u4 (Below.refl _ _)
  obtain ⟨⟨m0, m1, m2, m3, m4, m5, m6⟩, m7, m8, m9, m10, m11, m12, m13⟩ := nv_blk u0 (Below.refl _ _)
  have mf : ∀ i, w2.frozen? ⟨w.heap.size, i, none⟩ = false := fun i => by simp [World.frozen?, u0]
  have mf0 := mf 0
  have mf1 := mf 1
  have mf2 := mf 2
  have mf3 := mf 3
  have mf4 := mf 4
  have mf5 := mf 5
  have mf6 := mf 6
  have mf7 := mf 7
  have mf8 := mf 8
  have mf9 := mf 9
  have mf10 := mf 10
  have mf11 := mf 11
  have mf12 := mf 12
  have mf13 := mf 13
  have HU4 := Lib.hid u4
  have HU := Lib.hid (And.intro u0 hbw2)
  have HL2 := Lib.hid hl2
  have HV := Lib.hid (recErr_sync 0 0 0 0 0 0 0 0 0 0 y0 y1 y2 w2)
  obtain ⟨q, hq⟩ : ∃ q, q = okR X 3 := ⟨_, rfl⟩
  have HQ := Lib.hid hq
  rw [← hq] at p2
  clear u1 u3 u4 u2 u0 hbw2 mf hl2 hq
  cases q with
  | false =>
    go_wp2
    have hs := set14_heap (.bool false) (.int .i64 0) (.int .i64 0) (.int .i64 0) (.int .i64 0) (.int .i64 0) (.int .i64 0) (.int .i64 0) (.int .i64 0) (.int .i64 0) (.int .i64 0) (.int .i64 0) (.int .i64 0) (.int .i64 0) HU.out.1
    obtain ⟨⟨d0, d1, d2, d3, d4, d5, d6⟩, d7, d8, d9, d10, d11, d12, d13⟩ := nv_blk hs (Below.refl _ _)
    refine bodyPost_ret (v := .tuple #[.agg #[.bool false, .int .i64 0, .int .i64 0, .int .i64 0, .int .i64 0, .int .i64 0, .int .i64 0, .int .i64 0, .int .i64 0, .int .i64 0, .int .i64 0, .int .i64 0, .int .i64 0, .int .i64 0], .int .i64 4]) (by simp [results, Try.results8, go_sem, d0, d1, d2, d3, d4, d5, d6, d7, d8, d9, d10, d11, d12, d13]) rfl ⟨_, _, rfl, ?_, set14_below (.bool false) (.int .i64 0) (.int .i64 0) (.int .i64 0) (.int .i64 0) (.int .i64 0) (.int .i64 0) (.int .i64 0) (.int .i64 0) (.int .i64 0) (.int .i64 0) (.int .i64 0) (.int .i64 0) (.int .i64 0) HU.out.2 (Nat.le_refl _)⟩
    exact dnoS (fun hg => by have := hg.1; rw [← HQ.out] at this; cases this)
  | true =>
    by_cases hn2 : n2 = 0
    · subst hn2
      have hnil : rest X 3 = [] := List.eq_nil_of_length_eq_zero (HL2.out.symm)
      have HN := Lib.hid hnil
      clear hnil
      obtain ⟨ce, hce⟩ : ∃ ce, ce = recE true 0 0 0 0 0 0 0 0 0 0 y0 y1 y2 := ⟨_, rfl⟩
      have HCE := Lib.hid hce
      rw [← hce] at HV
      clear hce
      by_cases h0 : ce = 0
      · subst h0
        go_wp2_with fail
        refine HV.out.mono ?_
        rintro e3 w3 ⟨rfl, b3⟩
        obtain ⟨⟨k0', k1', k2', k3', k4', k5', k6'⟩, k7', k8', k9', k10', k11', k12', k13'⟩ := nv_blk HU4.out b3
        obtain ⟨⟨m0', m1', m2', m3', m4', m5', m6'⟩, m7', m8', m9', m10', m11', m12', m13'⟩ := nv_blk HU.out.1 b3
        have u0' := (b3.block w.heap.size (Array.getElem?_eq_some_iff.1 HU.out.1).1).trans HU.out.1
        have mf : ∀ i, w3.frozen? ⟨w.heap.size, i, none⟩ = false := fun i => by simp [World.frozen?, u0']
        have mg0 := mf 0
        have mg1 := mf 1
        have mg2 := mf 2
        have mg3 := mf 3
        have mg4 := mf 4
        have mg5 := mf 5
        have mg6 := mf 6
        have mg7 := mf 7
        have mg8 := mf 8
        have mg9 := mf 9
        have mg10 := mf 10
        have mg11 := mf 11
        have mg12 := mf 12
        have mg13 := mf 13
        have HB3 := Lib.hid (HU.out.2.trans (b3.mono HU.out.2.size))
        have HU3 := Lib.hid u0'
        clear k0 k1 k2 k3 k4 k5 k6 k7 k8 k9 k10 k11 k12 k13 m0 m1 m2 m3 m4 m5 m6 m7 m8 m9 m10 m11 m12 m13 b3 u0' mf mf0 mf1 mf2 mf3 mf4 mf5 mf6 mf7 mf8 mf9 mf10 mf11 mf12 mf13
        go_wp2
        have hs := set14_heap (.bool true) (.int .i64 0) (.int .i64 0) (.int .i64 0) (.int .i64 0) (.int .i64 0) (.int .i64 0) (.int .i64 0) (.int .i64 0) (.int .i64 0) (.int .i64 0) (.int .i64 y0) (.int .i64 y1) (.int .i64 y2) HU3.out
        obtain ⟨⟨d0, d1, d2, d3, d4, d5, d6⟩, d7, d8, d9, d10, d11, d12, d13⟩ := nv_blk hs (Below.refl _ _)
        refine bodyPost_ret (v := .tuple #[.agg #[.bool true, .int .i64 0, .int .i64 0, .int .i64 0, .int .i64 0, .int .i64 0, .int .i64 0, .int .i64 0, .int .i64 0, .int .i64 0, .int .i64 0, .int .i64 y0, .int .i64 y1, .int .i64 y2], .int .i64 0]) (by simp [results, Try.results8, go_sem, d0, d1, d2, d3, d4, d5, d6, d7, d8, d9, d10, d11, d12, d13]) rfl ⟨_, _, rfl, ?_, set14_below (.bool true) (.int .i64 0) (.int .i64 0) (.int .i64 0) (.int .i64 0) (.int .i64 0) (.int .i64 0) (.int .i64 0) (.int .i64 0) (.int .i64 0) (.int .i64 0) (.int .i64 y0) (.int .i64 y1) (.int .i64 y2) HB3.out (Nat.le_refl _)⟩
        exact dyesS (HQ.out.symm) HN.out HCE.out.symm HY.out
      · have hd : (ce != 0) = true := by simpa using h0
        go_wp2_with fail
        refine HV.out.mono ?_
        rintro e3 w3 ⟨rfl, b3⟩
        have u0' := (b3.block w.heap.size (Array.getElem?_eq_some_iff.1 HU.out.1).1).trans HU.out.1
        obtain ⟨⟨m0', m1', m2', m3', m4', m5', m6'⟩, m7', m8', m9', m10', m11', m12', m13'⟩ := nv_blk HU.out.1 b3
        have mf : ∀ i, w3.frozen? ⟨w.heap.size, i, none⟩ = false := fun i => by simp [World.frozen?, u0']
        have mg0 := mf 0
        have mg1 := mf 1
        have mg2 := mf 2
        have mg3 := mf 3
        have mg4 := mf 4
        have mg5 := mf 5
        have mg6 := mf 6
        have mg7 := mf 7
        have mg8 := mf 8
        have mg9 := mf 9
        have mg10 := mf 10
        have mg11 := mf 11
        have mg12 := mf 12
        have mg13 := mf 13
        have HB3 := Lib.hid (HU.out.2.trans (b3.mono HU.out.2.size))
        have HU3 := Lib.hid u0'
        clear k0 k1 k2 k3 k4 k5 k6 k7 k8 k9 k10 k11 k12 k13 m0 m1 m2 m3 m4 m5 m6 m7 m8 m9 m10 m11 m12 m13 b3 u0' mf mf0 mf1 mf2 mf3 mf4 mf5 mf6 mf7 mf8 mf9 mf10 mf11 mf12 mf13
        go_wp2
        have hs := set14_heap (.bool false) (.int .i64 0) (.int .i64 0) (.int .i64 0) (.int .i64 0) (.int .i64 0) (.int .i64 0) (.int .i64 0) (.int .i64 0) (.int .i64 0) (.int .i64 0) (.int .i64 0) (.int .i64 0) (.int .i64 0) HU3.out
        obtain ⟨⟨d0, d1, d2, d3, d4, d5, d6⟩, d7, d8, d9, d10, d11, d12, d13⟩ := nv_blk hs (Below.refl _ _)
        refine bodyPost_ret (v := .tuple #[.agg #[.bool false, .int .i64 0, .int .i64 0, .int .i64 0, .int .i64 0, .int .i64 0, .int .i64 0, .int .i64 0, .int .i64 0, .int .i64 0, .int .i64 0, .int .i64 0, .int .i64 0, .int .i64 0], .int .i64 4]) (by simp [results, Try.results8, go_sem, d0, d1, d2, d3, d4, d5, d6, d7, d8, d9, d10, d11, d12, d13]) rfl ⟨_, _, rfl, ?_, set14_below (.bool false) (.int .i64 0) (.int .i64 0) (.int .i64 0) (.int .i64 0) (.int .i64 0) (.int .i64 0) (.int .i64 0) (.int .i64 0) (.int .i64 0) (.int .i64 0) (.int .i64 0) (.int .i64 0) (.int .i64 0) HB3.out (Nat.le_refl _)⟩
        exact dnoS (fun hg => h0 (HCE.out.trans (by rw [HY.out.1, HY.out.2.1, HY.out.2.2]; have h1 := hg.2.2; simp [recE, h1, fixZ])))
    · have i5 : (0 : Int) < (n2 : Int) := by omega
      go_wp2
      have hs := set14_heap (.bool false) (.int .i64 0) (.int .i64 0) (.int .i64 0) (.int .i64 0) (.int .i64 0) (.int .i64 0) (.int .i64 0) (.int .i64 0) (.int .i64 0) (.int .i64 0) (.int .i64 0) (.int .i64 0) (.int .i64 0) HU.out.1
      obtain ⟨⟨d0, d1, d2, d3, d4, d5, d6⟩, d7, d8, d9, d10, d11, d12, d13⟩ := nv_blk hs (Below.refl _ _)
      refine bodyPost_ret (v := .tuple #[.agg #[.bool false, .int .i64 0, .int .i64 0, .int .i64 0, .int .i64 0, .int .i64 0, .int .i64 0, .int .i64 0, .int .i64 0, .int .i64 0, .int .i64 0, .int .i64 0, .int .i64 0, .int .i64 0], .int .i64 4]) (by simp [results, Try.results8, go_sem, d0, d1, d2, d3, d4, d5, d6, d7, d8, d9, d10, d11, d12, d13]) rfl ⟨_, _, rfl, ?_, set14_below (.bool false) (.int .i64 0) (.int .i64 0) (.int .i64 0) (.int .i64 0) (.int .i64 0) (.int .i64 0) (.int .i64 0) (.int .i64 0) (.int .i64 0) (.int .i64 0) (.int .i64 0) (.int .i64 0) (.int .i64 0) HU.out.2 (Nat.le_refl _)⟩
      exact dnoS (fun hg => hn2 (by rw [HL2.out, hg.2.1]; rfl))

set_option maxRecDepth 100000 in
set_option maxHeartbeats 4000000 in
theorem dec_fix (X : List Nat) (b o n c B0 : Nat) (w : World) (hx : RB w B0 (.slice (some ⟨b, o, none⟩) n c) (0 :: X)) (hB : B0 ≤ w.heap.size) (hl : n ≤ 1000) :
    Calls Try.prog 8 #[.slice (some ⟨b, o, none⟩) n c] w (RetDec (0 :: X) w) := by
  have hmf : ∀ (fn : Fn) (first cap : Array Value) (w : World), (Instr.makeFunc fn first cap).run Try.prog w = .ok (.func fn first cap) w := fun _ _ _ _ => rfl
  have hln := hx.1.len
  have hcap := hx.1.cap
  have hn0 : 0 < n := by simp at hln; omega
  obtain ⟨b', o'', eA, hb, hc⟩ := hx.1.at_ hn0
  injection eA with eA
  injection eA with eb eo
  subst eb eo
  have c0 : w.cell? ⟨b, o, none⟩ = some (.int .u8 0) := hc 0 hn0
  have c0a := fun ob => (World.cell?_alloc_lt w ob ⟨b, o, none⟩ (by simp; omega)).trans c0
  obtain ⟨AD, hAD⟩ : ∃ AD, (if c = 1 then (some ⟨b, o, none⟩ : Option Addr) else some ⟨b, o + 1, none⟩) = AD := ⟨_, rfl⟩
  obtain ⟨o', e', hT⟩ := rb_tail2 (a := 1) hx (by omega) hAD
  subst e'
  have hT : RB w B0 (.slice (some ⟨b, o', none⟩) (n - 1) (c - 1)) X := hT
  have HX := Lib.hid (And.intro hT (And.intro hB hl))
  have HXl := Lib.hid hT.1.len
  have i1 : ¬ ((n : Int) = 0) := by omega
  have i2 : (0 : Int) < (n : Int) := by omega
  have i3 : (1 : Int) ≤ (n : Int) := by omega
  have i4 : 1 ≤ c := by omega
  unfold maxLen at hcap
  have HE := Lib.hid (dec_vars w false (.slice (some ⟨b, o', none⟩) (n - 1) (c - 1)) 23 24 52)
  clear hx hT hln hc
  go_enter Try.func8, Try.ntmps8
  go_wp2_with (first
    | (go_at_call 21; go_in)
    | (go_at_call 13; fail "EACH"))
  obtain ⟨WE, hWE⟩ : ∃ WE, WE = (((((w.alloc (.cells #[.bool false, .int .i64 0, .int .i64 0, .int .i64 0, .int .i64 0, .int .i64 0, .int .i64 0, .int .i64 0, .int .i64 0, .int .i64 0, .int .i64 0, .int .i64 0, .int .i64 0, .int .i64 0] 29)).alloc (.cells #[.bool false, .int .i64 0, .int .i64 0, .int .i64 0, .int .i64 0, .int .i64 0, .int .i64 0, .int .i64 0, .int .i64 0, .int .i64 0, .int .i64 0, .int .i64 0, .int .i64 0, .int .i64 0] 29)).alloc (.cells #[.slice (some ⟨b, o', none⟩) (n - 1) (c - 1)] 30)).alloc (.cells #[.bool true] 4)).alloc (.cells #[.func (.func 23) #[] #[]] 52)).alloc (.cells #[.func (.func 24) #[] #[]] 52) := ⟨_, rfl⟩
  obtain ⟨q1, q2, q3, q4, q5, q6, q7, q8⟩ := HE.out WE hWE
  rw [← hWE]
  have hS : RdSt WE w.heap.size (w.heap.size + 1 + 1) (w.heap.size + 1 + 1 + 1) (w.heap.size + 1) X true #[.bool false, .int .i64 0, .int .i64 0, .int .i64 0, .int .i64 0, .int .i64 0, .int .i64 0, .int .i64 0, .int .i64 0, .int .i64 0, .int .i64 0, .int .i64 0, .int .i64 0, .int .i64 0] := ⟨⟨b, o', n - 1, c - 1, q4, (HX.out.1.belowM q1 HX.out.2.1).more HX.out.2.1⟩, q5, q3⟩
  have hXl : X.length ≤ 1048576 := by have := HXl.out; omega
  have HES := Lib.hid (erd_fix (w.heap.size + 1) (w.heap.size + 1 + 1 + 1 + 1) (w.heap.size + 1 + 1 + 1 + 1 + 1) (w.heap.size + 1 + 1) (w.heap.size + 1 + 1 + 1) w.heap.size X true #[.bool false, .int .i64 0, .int .i64 0, .int .i64 0, .int .i64 0, .int .i64 0, .int .i64 0, .int .i64 0, .int .i64 0, .int .i64 0, .int .i64 0, .int .i64 0, .int .i64 0, .int .i64 0] WE hS rfl rfl q6 (by omega) q7 (by omega) hXl (by omega) (by omega) (by omega) (by omega) (by omega) (by omega) (by omega) (three_not (by omega) (by omega) (by omega)) (three_not (by omega) (by omega) (by omega)))
  have HQ := Lib.hid (And.intro q1 q2)
  clear hWE q1 q2 q3 q4 q5 q6 q7 hS hXl c0a c0 HE
  refine HES.out.mono ?_
  rintro e2 w2 ⟨rfl, ⟨⟨b2, o2, n2, c2, u1, u2⟩, u3, u4⟩, r2⟩
  rw [fixY_eq] at u2
  rw [fixK_eq] at u3
  rw [fixC_eq] at u4
  have u0 := (r2.block w.heap.size (by omega) (three_not (by omega) (by omega) (by omega))).trans HQ.out.2
  have hbw2 : Below w.heap.size w w2 := HQ.out.1.trans (r2.below HQ.out.1.size (by rintro k (rfl | rfl | rfl) <;> omega))
  have hl2 := u2.1.len
  clear r2 HES HQ
  have p1 : w2.cell? ⟨w.heap.size + 1 + 1, 0, none⟩ = some (.slice (some ⟨b2, o2, none⟩) n2 c2) := cell_of_row _ _ 0 _ _ _ u1
  have p2 : w2.cell? ⟨w.heap.size + 1 + 1 + 1, 0, none⟩ = some (.bool (okR X 10)) := cell_of_row _ _ 0 _ _ _ u3
  obtain ⟨y0, hy0⟩ : ∃ y, y = rv false (rest X 0) := ⟨_, rfl⟩
  obtain ⟨y1, hy1⟩ : ∃ y, y = rv true (rest X 1) := ⟨_, rfl⟩
  obtain ⟨y2, hy2⟩ : ∃ y, y = rv true (rest X 2) := ⟨_, rfl⟩
  obtain ⟨y3, hy3⟩ : ∃ y, y = rv true (rest X 3) := ⟨_, rfl⟩
  obtain ⟨y4, hy4⟩ : ∃ y, y = rv false (rest X 4) := ⟨_, rfl⟩
  obtain ⟨y5, hy5⟩ : ∃ y, y = rv true (rest X 5) := ⟨_, rfl⟩
  obtain ⟨y6, hy6⟩ : ∃ y, y = rv true (rest X 6) := ⟨_, rfl⟩
  obtain ⟨y7, hy7⟩ : ∃ y, y = rv true (rest X 7) := ⟨_, rfl⟩
  obtain ⟨y8, hy8⟩ : ∃ y, y = rv true (rest X 8) := ⟨_, rfl⟩
  obtain ⟨y9, hy9⟩ : ∃ y, y = rv false (rest X 9) := ⟨_, rfl⟩
  have HY := Lib.hid (And.intro hy0 (And.intro hy1 (And.intro hy2 (And.intro hy3 (And.intro hy4 (And.intro hy5 (And.intro hy6 (And.intro hy7 (And.intro hy8 (hy9))))))))))
  rw [← hy0, ← hy1, ← hy2, ← hy3, ← hy4, ← hy5, ← hy6, ← hy7, ← hy8, ← hy9] at u4
  clear hy0 hy1 hy2 hy3 hy4 hy5 hy6 hy7 hy8 hy9
  obtain ⟨⟨k0, k1, k2, k3, k4, k5, k6⟩, k7, k8, k9, k10, k11, k12, k13⟩ := nv_blk u4 (Below.refl _ _)
  obtain ⟨⟨m0, m1, m2, m3, m4, m5, m6⟩, m7, m8, m9, m10, m11, m12, m13⟩ := nv_blk u0 (Below.refl _ _)
  have mf : ∀ i, w2.frozen? ⟨w.heap.size, i, none⟩ = false := fun i => by simp [World.frozen?, u0]
  have mf0 := mf 0
  have mf1 := mf 1
  have mf2 := mf 2
  have mf3 := mf 3
  have mf4 := mf 4
  have mf5 := mf 5
  have mf6 := mf 6
  have mf7 := mf 7
  have mf8 := mf 8
  have mf9 := mf 9
  have mf10 := mf 10
  have mf11 := mf 11
  have mf12 := mf 12
  have mf13 := mf 13
  have HU4 := Lib.hid u4
  have HU := Lib.hid (And.intro u0 hbw2)
  have HL2 := Lib.hid hl2
  have HV := Lib.hid (recErr_fix y0 y1 y2 y3 y4 y5 y6 y7 y8 y9 0 0 0 w2)
  obtain ⟨q, hq⟩ : ∃ q, q = okR X 10 := ⟨_, rfl⟩
  have HQ := Lib.hid hq
  rw [← hq] at p2
  clear u1 u3 u4 u2 u0 hbw2 mf hl2 hq
  cases q with
  | false =>
    go_wp2
    have hs := set14_heap (.bool false) (.int .i64 0) (.int .i64 0) (.int .i64 0) (.int .i64 0) (.int .i64 0) (.int .i64 0) (.int .i64 0) (.int .i64 0) (.int .i64 0) (.int .i64 0) (.int .i64 0) (.int .i64 0) (.int .i64 0) HU.out.1
    obtain ⟨⟨d0, d1, d2, d3, d4, d5, d6⟩, d7, d8, d9, d10, d11, d12, d13⟩ := nv_blk hs (Below.refl _ _)
    refine bodyPost_ret (v := .tuple #[.agg #[.bool false, .int .i64 0, .int .i64 0, .int .i64 0, .int .i64 0, .int .i64 0, .int .i64 0, .int .i64 0, .int .i64 0, .int .i64 0, .int .i64 0, .int .i64 0, .int .i64 0, .int .i64 0], .int .i64 4]) (by simp [results, Try.results8, go_sem, d0, d1, d2, d3, d4, d5, d6, d7, d8, d9, d10, d11, d12, d13]) rfl ⟨_, _, rfl, ?_, set14_below (.bool false) (.int .i64 0) (.int .i64 0) (.int .i64 0) (.int .i64 0) (.int .i64 0) (.int .i64 0) (.int .i64 0) (.int .i64 0) (.int .i64 0) (.int .i64 0) (.int .i64 0) (.int .i64 0) (.int .i64 0) HU.out.2 (Nat.le_refl _)⟩
    exact dnoF (fun hg => by have := hg.1; rw [← HQ.out] at this; cases this)
  | true =>
    by_cases hn2 : n2 = 0
    · subst hn2
      have hnil : rest X 10 = [] := List.eq_nil_of_length_eq_zero (HL2.out.symm)
      have HN := Lib.hid hnil
      clear hnil
      obtain ⟨ce, hce⟩ : ∃ ce, ce = recE false y0 y1 y2 y3 y4 y5 y6 y7 y8 y9 0 0 0 := ⟨_, rfl⟩
      have HCE := Lib.hid hce
      rw [← hce] at HV
      clear hce
      by_cases h0 : ce = 0
      · subst h0
        go_wp2_with fail
        refine HV.out.mono ?_
        rintro e3 w3 ⟨rfl, b3⟩
        obtain ⟨⟨k0', k1', k2', k3', k4', k5', k6'⟩, k7', k8', k9', k10', k11', k12', k13'⟩ := nv_blk HU4.out b3
        obtain ⟨⟨m0', m1', m2', m3', m4', m5', m6'⟩, m7', m8', m9', m10', m11', m12', m13'⟩ := nv_blk HU.out.1 b3
        have u0' := (b3.block w.heap.size (Array.getElem?_eq_some_iff.1 HU.out.1).1).trans HU.out.1
        have mf : ∀ i, w3.frozen? ⟨w.heap.size, i, none⟩ = false := fun i => by simp [World.frozen?, u0']
        have mg0 := mf 0
        have mg1 := mf 1
        have mg2 := mf 2
        have mg3 := mf 3
        have mg4 := mf 4
        have mg5 := mf 5
        have mg6 := mf 6
        have mg7 := mf 7
        have mg8 := mf 8
        have mg9 := mf 9
        have mg10 := mf 10
        have mg11 := mf 11
        have mg12 := mf 12
        have mg13 := mf 13
        have HB3 := Lib.hid (HU.out.2.trans (b3.mono HU.out.2.size))
        have HU3 := Lib.hid u0'
        clear k0 k1 k2 k3 k4 k5 k6 k7 k8 k9 k10 k11 k12 k13 m0 m1 m2 m3 m4 m5 m6 m7 m8 m9 m10 m11 m12 m13 b3 u0' mf mf0 mf1 mf2 mf3 mf4 mf5 mf6 mf7 mf8 mf9 mf10 mf11 mf12 mf13
        go_wp2
        have hs := set14_heap (.bool false) (.int .i64 y0) (.int .i64 y1) (.int .i64 y2) (.int .i64 y3) (.int .i64 y4) (.int .i64 y5) (.int .i64 y6) (.int .i64 y7) (.int .i64 y8) (.int .i64 y9) (.int .i64 0) (.int .i64 0) (.int .i64 0) HU3.out
        obtain ⟨⟨d0, d1, d2, d3, d4, d5, d6⟩, d7, d8, d9, d10, d11, d12, d13⟩ := nv_blk hs (Below.refl _ _)
        refine bodyPost_ret (v := .tuple #[.agg #[.bool false, .int .i64 y0, .int .i64 y1, .int .i64 y2, .int .i64 y3, .int .i64 y4, .int .i64 y5, .int .i64 y6, .int .i64 y7, .int .i64 y8, .int .i64 y9, .int .i64 0, .int .i64 0, .int .i64 0], .int .i64 0]) (by simp [results, Try.results8, go_sem, d0, d1, d2, d3, d4, d5, d6, d7, d8, d9, d10, d11, d12, d13]) rfl ⟨_, _, rfl, ?_, set14_below (.bool false) (.int .i64 y0) (.int .i64 y1) (.int .i64 y2) (.int .i64 y3) (.int .i64 y4) (.int .i64 y5) (.int .i64 y6) (.int .i64 y7) (.int .i64 y8) (.int .i64 y9) (.int .i64 0) (.int .i64 0) (.int .i64 0) HB3.out (Nat.le_refl _)⟩
        exact dyesF (HQ.out.symm) HN.out HCE.out.symm HY.out
      · have hd : (ce != 0) = true := by simpa using h0
        go_wp2_with fail
        refine HV.out.mono ?_
        rintro e3 w3 ⟨rfl, b3⟩
        have u0' := (b3.block w.heap.size (Array.getElem?_eq_some_iff.1 HU.out.1).1).trans HU.out.1
        obtain ⟨⟨m0', m1', m2', m3', m4', m5', m6'⟩, m7', m8', m9', m10', m11', m12', m13'⟩ := nv_blk HU.out.1 b3
        have mf : ∀ i, w3.frozen? ⟨w.heap.size, i, none⟩ = false := fun i => by simp [World.frozen?, u0']
        have mg0 := mf 0
        have mg1 := mf 1
        have mg2 := mf 2
        have mg3 := mf 3
        have mg4 := mf 4
        have mg5 := mf 5
        have mg6 := mf 6
        have mg7 := mf 7
        have mg8 := mf 8
        have mg9 := mf 9
        have mg10 := mf 10
        have mg11 := mf 11
        have mg12 := mf 12
        have mg13 := mf 13
        have HB3 := Lib.hid (HU.out.2.trans (b3.mono HU.out.2.size))
        have HU3 := Lib.hid u0'
        clear k0 k1 k2 k3 k4 k5 k6 k7 k8 k9 k10 k11 k12 k13 m0 m1 m2 m3 m4 m5 m6 m7 m8 m9 m10 m11 m12 m13 b3 u0' mf mf0 mf1 mf2 mf3 mf4 mf5 mf6 mf7 mf8 mf9 mf10 mf11 mf12 mf13
        go_wp2
        have hs := set14_heap (.bool false) (.int .i64 0) (.int .i64 0) (.int .i64 0) (.int .i64 0) (.int .i64 0) (.int .i64 0) (.int .i64 0) (.int .i64 0) (.int .i64 0) (.int .i64 0) (.int .i64 0) (.int .i64 0) (.int .i64 0) HU3.out
        obtain ⟨⟨d0, d1, d2, d3, d4, d5, d6⟩, d7, d8, d9, d10, d11, d12, d13⟩ := nv_blk hs (Below.refl _ _)
        refine bodyPost_ret (v := .tuple #[.agg #[.bool false, .int .i64 0, .int .i64 0, .int .i64 0, .int .i64 0, .int .i64 0, .int .i64 0, .int .i64 0, .int .i64 0, .int .i64 0, .int .i64 0, .int .i64 0, .int .i64 0, .int .i64 0], .int .i64 4]) (by simp [results, Try.results8, go_sem, d0, d1, d2, d3, d4, d5, d6, d7, d8, d9, d10, d11, d12, d13]) rfl ⟨_, _, rfl, ?_, set14_below (.bool false) (.int .i64 0) (.int .i64 0) (.int .i64 0) (.int .i64 0) (.int .i64 0) (.int .i64 0) (.int .i64 0) (.int .i64 0) (.int .i64 0) (.int .i64 0) (.int .i64 0) (.int .i64 0) (.int .i64 0) HB3.out (Nat.le_refl _)⟩
        exact dnoF (fun hg => h0 (HCE.out.trans (by rw [HY.out.1, HY.out.2.1, HY.out.2.2.1, HY.out.2.2.2.1, HY.out.2.2.2.2.1, HY.out.2.2.2.2.2.1, HY.out.2.2.2.2.2.2.1, HY.out.2.2.2.2.2.2.2.1, HY.out.2.2.2.2.2.2.2.2.1, HY.out.2.2.2.2.2.2.2.2.2]; have h1 := hg.2.2; simp [recE, h1, syncZ])))
    · have i5 : (0 : Int) < (n2 : Int) := by omega
      go_wp2
      have hs := set14_heap (.bool false) (.int .i64 0) (.int .i64 0) (.int .i64 0) (.int .i64 0) (.int .i64 0) (.int .i64 0) (.int .i64 0) (.int .i64 0) (.int .i64 0) (.int .i64 0) (.int .i64 0) (.int .i64 0) (.int .i64 0) HU.out.1
      obtain ⟨⟨d0, d1, d2, d3, d4, d5, d6⟩, d7, d8, d9, d10, d11, d12, d13⟩ := nv_blk hs (Below.refl _ _)
      refine bodyPost_ret (v := .tuple #[.agg #[.bool false, .int .i64 0, .int .i64 0, .int .i64 0, .int .i64 0, .int .i64 0, .int .i64 0, .int .i64 0, .int .i64 0, .int .i64 0, .int .i64 0, .int .i64 0, .int .i64 0, .int .i64 0], .int .i64 4]) (by simp [results, Try.results8, go_sem, d0, d1, d2, d3, d4, d5, d6, d7, d8, d9, d10, d11, d12, d13]) rfl ⟨_, _, rfl, ?_, set14_below (.bool false) (.int .i64 0) (.int .i64 0) (.int .i64 0) (.int .i64 0) (.int .i64 0) (.int .i64 0) (.int .i64 0) (.int .i64 0) (.int .i64 0) (.int .i64 0) (.int .i64 0) (.int .i64 0) (.int .i64 0) HU.out.2 (Nat.le_refl _)⟩
      exact dnoF (fun hg => hn2 (by rw [HL2.out, hg.2.1]; rfl))

end Go.Proofs.Ytfalhfgnobjfgaa
