/-
  Product of quaternions: the code's and the document's.
-/
import Derived.Test.YtdmopmgabieciaaKRbeam
namespace Go.Proofs.Ytdmopmgabieciaa
open Go.RowKit

def RetPr (w : World) (x y z u er : Int) (e : Ending) (w' : World) : Prop := e = .returned (.tuple #[.agg #[.int .i64 x, .int .i64 y, .int .i64 z, .int .i64 u], .int .i64 er]) ∧ Below w.heap.size w w'
theorem inB_bd {a b c d m : Int} (h : InB (-m) m [a, b, c, d]) : (-m ≤ a ∧ a ≤ m) ∧ (-m ≤ b ∧ b ≤ m) ∧ (-m ≤ c ∧ c ≤ m) ∧ (-m ≤ d ∧ d ≤ m) :=
  ⟨h a (by simp), h b (by simp), h c (by simp), h d (by simp)⟩
theorem sm_prod {a b c d e f g h : Int} (h1 : InB (-1000) 1000 [a, b, c, d]) (h2 : InB (-1000) 1000 [e, f, g, h]) : SM a b c d e f g h := by
  obtain ⟨x1, x2, x3, x4⟩ := inB_bd h1
  obtain ⟨y1, y2, y3, y4⟩ := inB_bd h2
  exact SM.of 1000 1000 x1 x2 x3 x4 y1 y2 y3 y4 (by omega)

theorem boxes3q (w : World) (ca cb cc : Array Value) (T T' T'' : TypeId) : ∃ W0, Hid (W0 = ((w.alloc (.cells ca T)).alloc (.cells cb T')).alloc (.cells cc T'')) ∧ Hid (Below w.heap.size w W0) ∧
    Hid (W0.heap[w.heap.size]? = some (.cells ca T (0, 0))) ∧ Hid (W0.heap[w.heap.size + 1]? = some (.cells cb T' (0, 0))) ∧ Hid (W0.heap[w.heap.size + 1 + 1]? = some (.cells cc T'' (0, 0))) := by
  have s1 : (w.alloc (.cells ca T)).heap.size = w.heap.size + 1 := by simp
  have s2 : ((w.alloc (.cells ca T)).alloc (.cells cb T')).heap.size = w.heap.size + 1 + 1 := by simp
  refine ⟨_, rfl, (((Below.refl _ _).alloc (Nat.le_refl _) _).alloc (by simp) _).alloc (by simp; omega) _, ?_, ?_, ?_⟩
  · exact (heap_alloc_old _ _ (by omega)).trans ((heap_alloc_old _ _ (by omega)).trans (heap_alloc_new w _))
  · have h := heap_alloc_new (w.alloc (.cells ca T)) (.cells cb T')
    rw [s1] at h
    exact (heap_alloc_old _ _ (by omega)).trans h
  · have h := heap_alloc_new ((w.alloc (.cells ca T)).alloc (.cells cb T')) (.cells cc T'')
    rw [s2] at h
    exact h

set_option maxRecDepth 100000 in
set_option maxHeartbeats 2000000 in
theorem product_any (a b c d e f g h : Int) (x y z u er : Int) (w : World)
    (hr : (InB (-1000) 1000 [a, b, c, d] ∧ InB (-1000) 1000 [e, f, g, h] ∧ x = q0 a b c d e f g h ∧ y = q1 a b c d e f g h ∧ z = q2 a b c d e f g h ∧ u = q3 a b c d e f g h ∧ er = 0) ∨
      (¬ (InB (-1000) 1000 [a, b, c, d] ∧ InB (-1000) 1000 [e, f, g, h]) ∧ x = 0 ∧ y = 0 ∧ z = 0 ∧ u = 0 ∧ er = 46)) :
    Calls Try.prog 22 #[.agg #[.int .i64 a, .int .i64 b, .int .i64 c, .int .i64 d], .agg #[.int .i64 e, .int .i64 f, .int .i64 g, .int .i64 h]] w (RetPr w x y z u er) := by
  obtain ⟨W0, HW0, HW, HG, HG', HG''⟩ := boxes3q w #[.int .i64 a, .int .i64 b, .int .i64 c, .int .i64 d] #[.int .i64 e, .int .i64 f, .int .i64 g, .int .i64 h] #[.int .i64 0, .int .i64 0, .int .i64 0, .int .i64 0] 31 31 31
  have HI := Lib.hid (iw_four HG.out (Below.refl _ W0))
  have HR := Lib.hid hr
  clear hr
  go_enter Try.func22, Try.ntmps22
  go_wp2_with fail
  rw [← HW0.out]
  refine (within_any (-1000) 1000 [a, b, c, d] _ 4 4 _ _ HI.out).mono ?_
  rintro en w1 ⟨rfl, hb1⟩
  by_cases h1 : InB (-1000) 1000 [a, b, c, d]
  · rw [decide_eq_true h1]
    have H1 := Lib.hid h1
    clear h1
    go_wp2_with fail
    refine (within_any (-1000) 1000 [e, f, g, h] _ 4 4 _ _ (iw_four HG'.out hb1)).mono ?_
    rintro en w2 ⟨rfl, hb2⟩
    have hc2 := bel_ hb1 hb2
    obtain ⟨d0, d1, d2, d3⟩ := four_cells HG''.out hc2
    have df := blk_frozen HG''.out hc2
    obtain ⟨p0, p1, p2, p3⟩ := four_cells HG.out hc2
    obtain ⟨r0, r1, r2, r3⟩ := four_cells HG'.out hc2
    by_cases h2 : InB (-1000) 1000 [e, f, g, h]
    · rw [decide_eq_true h2]
      have H2 := Lib.hid h2
      have HC := Lib.hid hc2
      clear h2 hb1 hb2 hc2
      go_wp2_with fail
      refine (times_any a b c d e f g h (sm_prod H1.out H2.out) _).mono ?_
      rintro en w3 ⟨rfl, hb3⟩
      have hc3 := bel_ HC.out hb3
      clear d0 d1 d2 d3 df p0 p1 p2 p3 r0 r1 r2 r3
      obtain ⟨d0, d1, d2, d3⟩ := four_cells HG''.out hc3
      have df := blk_frozen HG''.out hc3
      have HC3 := Lib.hid hc3
      clear hc3 hb3
      have HE : Hid (x = q0 a b c d e f g h ∧ y = q1 a b c d e f g h ∧ z = q2 a b c d e f g h ∧ u = q3 a b c d e f g h ∧ er = 0) := by
        rcases HR.out with h | h
        · exact h.2.2
        · exact absurd ⟨H1.out, H2.out⟩ h.1
      rw [← HE.out.1, ← HE.out.2.1, ← HE.out.2.2.1, ← HE.out.2.2.2.1, HE.out.2.2.2.2]
      go_wp2
      refine bodyPost_ret (v := .tuple #[.agg #[.int .i64 x, .int .i64 y, .int .i64 z, .int .i64 u], .int .i64 0]) (by simp [results, Try.results22, go_sem, d0, d1, d2, d3]) rfl ⟨by rw [HE.out.2.2.2.2], ?_⟩
      have hB := bel_ HW.out HC3.out
      repeat (refine Below.setCell ?_ (by show w.heap.size ≤ w.heap.size + 1 + 1; omega) _)
      exact hB
    · rw [decide_eq_false h2]
      have HE : Hid (x = 0 ∧ y = 0 ∧ z = 0 ∧ u = 0 ∧ er = 46) := by
        rcases HR.out with h | h
        · exact absurd h.2.1 h2
        · exact h.2
      have HC := Lib.hid hc2
      clear h2 hb1 hb2 hc2 p0 p1 p2 p3 r0 r1 r2 r3
      rw [HE.out.1, HE.out.2.1, HE.out.2.2.1, HE.out.2.2.2.1, HE.out.2.2.2.2]
      go_wp2
      refine bodyPost_ret (v := .tuple #[.agg #[.int .i64 0, .int .i64 0, .int .i64 0, .int .i64 0], .int .i64 46]) (by simp [results, Try.results22, go_sem, d0, d1, d2, d3]) rfl ⟨by rw [HE.out.1, HE.out.2.1, HE.out.2.2.1, HE.out.2.2.2.1, HE.out.2.2.2.2], ?_⟩
      have hB := bel_ HW.out HC.out
      repeat (refine Below.setCell ?_ (by show w.heap.size ≤ w.heap.size + 1 + 1; omega) _)
      exact hB
  · rw [decide_eq_false h1]
    have HE : Hid (x = 0 ∧ y = 0 ∧ z = 0 ∧ u = 0 ∧ er = 46) := by
      rcases HR.out with h | h
      · exact absurd h.1 h1
      · exact h.2
    obtain ⟨d0, d1, d2, d3⟩ := four_cells HG''.out hb1
    have df := blk_frozen HG''.out hb1
    have HC := Lib.hid hb1
    clear h1 hb1
    rw [HE.out.1, HE.out.2.1, HE.out.2.2.1, HE.out.2.2.2.1, HE.out.2.2.2.2]
    go_wp2
    refine bodyPost_ret (v := .tuple #[.agg #[.int .i64 0, .int .i64 0, .int .i64 0, .int .i64 0], .int .i64 46]) (by simp [results, Try.results22, go_sem, d0, d1, d2, d3]) rfl ⟨by rw [HE.out.1, HE.out.2.1, HE.out.2.2.1, HE.out.2.2.2.1, HE.out.2.2.2.2], ?_⟩
    have hB := bel_ HW.out HC.out
    repeat (refine Below.setCell ?_ (by show w.heap.size ≤ w.heap.size + 1 + 1; omega) _)
    exact hB

theorem inB_iff (a b c d : Int) : InB (-1000) 1000 [a, b, c, d] ↔ inM 1000 a ∧ inM 1000 b ∧ inM 1000 c ∧ inM 1000 d := by
  unfold InB inM
  simp only [List.mem_cons, List.not_mem_nil, or_false, forall_eq_or_imp, forall_eq]

def PrR (W0 : World) (a b c d e f g h : Int) (iv : Value) (wr : World) : Prop :=
  (iv = .int .i64 0 ∧ Below W0.heap.size W0 wr) ∨
  (iv = .int .i64 1 ∧ Below W0.heap.size W0 wr ∧ inM 1000 a ∧ inM 1000 e) ∨
  (iv = .int .i64 2 ∧ Below W0.heap.size W0 wr ∧ inM 1000 a ∧ inM 1000 b ∧ inM 1000 e ∧ inM 1000 f) ∨
  (iv = .int .i64 3 ∧ Below W0.heap.size W0 wr ∧ inM 1000 a ∧ inM 1000 b ∧ inM 1000 c ∧ inM 1000 e ∧ inM 1000 f ∧ inM 1000 g) ∨
  (iv = .int .i64 4 ∧ Below W0.heap.size W0 wr ∧ inM 1000 a ∧ inM 1000 b ∧ inM 1000 c ∧ inM 1000 d ∧ inM 1000 e ∧ inM 1000 f ∧ inM 1000 g ∧ inM 1000 h)

set_option maxRecDepth 100000 in
set_option maxHeartbeats 4000000 in
theorem refProduct_any (a b c d e f g h : Int) (x y z u er : Int) (w : World)
    (hr : (InB (-1000) 1000 [a, b, c, d] ∧ InB (-1000) 1000 [e, f, g, h] ∧ x = q0 a b c d e f g h ∧ y = q1 a b c d e f g h ∧ z = q2 a b c d e f g h ∧ u = q3 a b c d e f g h ∧ er = 0) ∨
      (¬ (InB (-1000) 1000 [a, b, c, d] ∧ InB (-1000) 1000 [e, f, g, h]) ∧ x = 0 ∧ y = 0 ∧ z = 0 ∧ u = 0 ∧ er = 46)) :
    Calls Try.prog 23 #[.agg #[.int .i64 a, .int .i64 b, .int .i64 c, .int .i64 d], .agg #[.int .i64 e, .int .i64 f, .int .i64 g, .int .i64 h]] w (RetPr w x y z u er) := by
  obtain ⟨W0, HW0, HW, HG, HG', HG''⟩ := boxes3q w #[.int .i64 a, .int .i64 b, .int .i64 c, .int .i64 d] #[.int .i64 e, .int .i64 f, .int .i64 g, .int .i64 h] #[.int .i64 0, .int .i64 0, .int .i64 0, .int .i64 0] 31 31 31
  have HR := Lib.hid hr
  clear hr
  go_enter Try.func23, Try.ntmps23
  go_wp2
  rw [← HW0.out]
  go_loopw [7] (fun iv wr => PrR W0 a b c d e f g h iv wr) (fun iv _ => 4 - (numOf iv).toNat)
  case atStart => exact Or.inl ⟨rfl, Below.refl _ _⟩
  case round =>
    unfold PrR at hrel
    rcases hrel with ⟨rfl, hb⟩ | ⟨rfl, hb, y0, y1⟩ | ⟨rfl, hb, y0, y1, y2, y3⟩ | ⟨rfl, hb, y0, y1, y2, y3, y4, y5⟩ | ⟨rfl, hb, y0, y1, y2, y3, y4, y5, y6, y7⟩
    · have HB := Lib.hid hb
      have cp := blk_cell HG.out hb 0 (.int .i64 a) rfl
      clear hb
      go_wp2_with fail
      refine (from_any (-1000) a 1000 _).mono ?_
      rintro en w2 ⟨rfl, hb2'⟩
      have HB2 := Lib.hid (HB.out.trans (hb2'.mono HB.out.size))
      clear hb2' cp
      by_cases hx : inM 1000 a
      · rw [show decide (-1000 ≤ a ∧ a ≤ 1000) = true from decide_eq_true hx]
        have HX := Lib.hid hx
        have cq := blk_cell HG'.out HB2.out 0 (.int .i64 e) rfl
        clear hx
        go_wp2_with fail
        refine (from_any (-1000) e 1000 _).mono ?_
        rintro en w3 ⟨rfl, hb3'⟩
        have HB3 := Lib.hid (HB2.out.trans (hb3'.mono HB2.out.size))
        clear hb3' cq
        by_cases hy : inM 1000 e
        · rw [show decide (-1000 ≤ e ∧ e ≤ 1000) = true from decide_eq_true hy]
          have HY := Lib.hid hy
          clear hy
          go_wp2
          go_roundw
          case rel => exact Or.inr (Or.inl ⟨rfl, HB3.out, HX.out, HY.out⟩)
          case measure => simp [numOf]
        · rw [show decide (-1000 ≤ e ∧ e ≤ 1000) = false from decide_eq_false hy]
          have HY := Lib.hid hy
          clear hy
          have HE : Hid (x = 0 ∧ y = 0 ∧ z = 0 ∧ u = 0 ∧ er = 46) := by
            rcases HR.out with hh | hh
            · exact absurd (((inB_iff _ _ _ _).1 hh.2.1).1) HY.out
            · exact hh.2
          obtain ⟨d0, d1, d2, d3⟩ := four_cells HG''.out HB3.out
          have df := blk_frozen HG''.out HB3.out
          go_wp2
          refine bodyPost_ret (v := .tuple #[.agg #[.int .i64 0, .int .i64 0, .int .i64 0, .int .i64 0], .int .i64 46]) (by simp [results, Try.results23, go_sem, d0, d1, d2, d3]) rfl ⟨by rw [HE.out.1, HE.out.2.1, HE.out.2.2.1, HE.out.2.2.2.1, HE.out.2.2.2.2], ?_⟩
          have hB := bel_ HW.out HB3.out
          repeat (refine Below.setCell ?_ (by show w.heap.size ≤ w.heap.size + 1 + 1; omega) _)
          exact hB
      · rw [show decide (-1000 ≤ a ∧ a ≤ 1000) = false from decide_eq_false hx]
        have HX := Lib.hid hx
        clear hx
        have HE : Hid (x = 0 ∧ y = 0 ∧ z = 0 ∧ u = 0 ∧ er = 46) := by
          rcases HR.out with hh | hh
          · exact absurd (((inB_iff _ _ _ _).1 hh.1).1) HX.out
          · exact hh.2
        obtain ⟨d0, d1, d2, d3⟩ := four_cells HG''.out HB2.out
        have df := blk_frozen HG''.out HB2.out
        go_wp2
        refine bodyPost_ret (v := .tuple #[.agg #[.int .i64 0, .int .i64 0, .int .i64 0, .int .i64 0], .int .i64 46]) (by simp [results, Try.results23, go_sem, d0, d1, d2, d3]) rfl ⟨by rw [HE.out.1, HE.out.2.1, HE.out.2.2.1, HE.out.2.2.2.1, HE.out.2.2.2.2], ?_⟩
        have hB := bel_ HW.out HB2.out
        repeat (refine Below.setCell ?_ (by show w.heap.size ≤ w.heap.size + 1 + 1; omega) _)
        exact hB

    · have HB := Lib.hid hb
      have Z0 := Lib.hid y0
      clear y0
      have Z1 := Lib.hid y1
      clear y1
      have cp := blk_cell HG.out hb 1 (.int .i64 b) rfl
      clear hb
      go_wp2_with fail
      refine (from_any (-1000) b 1000 _).mono ?_
      rintro en w2 ⟨rfl, hb2'⟩
      have HB2 := Lib.hid (HB.out.trans (hb2'.mono HB.out.size))
      clear hb2' cp
      by_cases hx : inM 1000 b
      · rw [show decide (-1000 ≤ b ∧ b ≤ 1000) = true from decide_eq_true hx]
        have HX := Lib.hid hx
        have cq := blk_cell HG'.out HB2.out 1 (.int .i64 f) rfl
        clear hx
        go_wp2_with fail
        refine (from_any (-1000) f 1000 _).mono ?_
        rintro en w3 ⟨rfl, hb3'⟩
        have HB3 := Lib.hid (HB2.out.trans (hb3'.mono HB2.out.size))
        clear hb3' cq
        by_cases hy : inM 1000 f
        · rw [show decide (-1000 ≤ f ∧ f ≤ 1000) = true from decide_eq_true hy]
          have HY := Lib.hid hy
          clear hy
          go_wp2
          go_roundw
          case rel => exact Or.inr (Or.inr (Or.inl ⟨rfl, HB3.out, Z0.out, HX.out, Z1.out, HY.out⟩))
          case measure => simp [numOf]
        · rw [show decide (-1000 ≤ f ∧ f ≤ 1000) = false from decide_eq_false hy]
          have HY := Lib.hid hy
          clear hy
          have HE : Hid (x = 0 ∧ y = 0 ∧ z = 0 ∧ u = 0 ∧ er = 46) := by
            rcases HR.out with hh | hh
            · exact absurd (((inB_iff _ _ _ _).1 hh.2.1).2.1) HY.out
            · exact hh.2
          obtain ⟨d0, d1, d2, d3⟩ := four_cells HG''.out HB3.out
          have df := blk_frozen HG''.out HB3.out
          go_wp2
          refine bodyPost_ret (v := .tuple #[.agg #[.int .i64 0, .int .i64 0, .int .i64 0, .int .i64 0], .int .i64 46]) (by simp [results, Try.results23, go_sem, d0, d1, d2, d3]) rfl ⟨by rw [HE.out.1, HE.out.2.1, HE.out.2.2.1, HE.out.2.2.2.1, HE.out.2.2.2.2], ?_⟩
          have hB := bel_ HW.out HB3.out
          repeat (refine Below.setCell ?_ (by show w.heap.size ≤ w.heap.size + 1 + 1; omega) _)
          exact hB
      · rw [show decide (-1000 ≤ b ∧ b ≤ 1000) = false from decide_eq_false hx]
        have HX := Lib.hid hx
        clear hx
        have HE : Hid (x = 0 ∧ y = 0 ∧ z = 0 ∧ u = 0 ∧ er = 46) := by
          rcases HR.out with hh | hh
          · exact absurd (((inB_iff _ _ _ _).1 hh.1).2.1) HX.out
          · exact hh.2
        obtain ⟨d0, d1, d2, d3⟩ := four_cells HG''.out HB2.out
        have df := blk_frozen HG''.out HB2.out
        go_wp2
        refine bodyPost_ret (v := .tuple #[.agg #[.int .i64 0, .int .i64 0, .int .i64 0, .int .i64 0], .int .i64 46]) (by simp [results, Try.results23, go_sem, d0, d1, d2, d3]) rfl ⟨by rw [HE.out.1, HE.out.2.1, HE.out.2.2.1, HE.out.2.2.2.1, HE.out.2.2.2.2], ?_⟩
        have hB := bel_ HW.out HB2.out
        repeat (refine Below.setCell ?_ (by show w.heap.size ≤ w.heap.size + 1 + 1; omega) _)
        exact hB

    · have HB := Lib.hid hb
      have Z0 := Lib.hid y0
      clear y0
      have Z1 := Lib.hid y1
      clear y1
      have Z2 := Lib.hid y2
      clear y2
      have Z3 := Lib.hid y3
      clear y3
      have cp := blk_cell HG.out hb 2 (.int .i64 c) rfl
      clear hb
      go_wp2_with fail
      refine (from_any (-1000) c 1000 _).mono ?_
      rintro en w2 ⟨rfl, hb2'⟩
      have HB2 := Lib.hid (HB.out.trans (hb2'.mono HB.out.size))
      clear hb2' cp
      by_cases hx : inM 1000 c
      · rw [show decide (-1000 ≤ c ∧ c ≤ 1000) = true from decide_eq_true hx]
        have HX := Lib.hid hx
        have cq := blk_cell HG'.out HB2.out 2 (.int .i64 g) rfl
        clear hx
        go_wp2_with fail
        refine (from_any (-1000) g 1000 _).mono ?_
        rintro en w3 ⟨rfl, hb3'⟩
        have HB3 := Lib.hid (HB2.out.trans (hb3'.mono HB2.out.size))
        clear hb3' cq
        by_cases hy : inM 1000 g
        · rw [show decide (-1000 ≤ g ∧ g ≤ 1000) = true from decide_eq_true hy]
          have HY := Lib.hid hy
          clear hy
          go_wp2
          go_roundw
          case rel => exact Or.inr (Or.inr (Or.inr (Or.inl ⟨rfl, HB3.out, Z0.out, Z1.out, HX.out, Z2.out, Z3.out, HY.out⟩)))
          case measure => simp [numOf]
        · rw [show decide (-1000 ≤ g ∧ g ≤ 1000) = false from decide_eq_false hy]
          have HY := Lib.hid hy
          clear hy
          have HE : Hid (x = 0 ∧ y = 0 ∧ z = 0 ∧ u = 0 ∧ er = 46) := by
            rcases HR.out with hh | hh
            · exact absurd (((inB_iff _ _ _ _).1 hh.2.1).2.2.1) HY.out
            · exact hh.2
          obtain ⟨d0, d1, d2, d3⟩ := four_cells HG''.out HB3.out
          have df := blk_frozen HG''.out HB3.out
          go_wp2
          refine bodyPost_ret (v := .tuple #[.agg #[.int .i64 0, .int .i64 0, .int .i64 0, .int .i64 0], .int .i64 46]) (by simp [results, Try.results23, go_sem, d0, d1, d2, d3]) rfl ⟨by rw [HE.out.1, HE.out.2.1, HE.out.2.2.1, HE.out.2.2.2.1, HE.out.2.2.2.2], ?_⟩
          have hB := bel_ HW.out HB3.out
          repeat (refine Below.setCell ?_ (by show w.heap.size ≤ w.heap.size + 1 + 1; omega) _)
          exact hB
      · rw [show decide (-1000 ≤ c ∧ c ≤ 1000) = false from decide_eq_false hx]
        have HX := Lib.hid hx
        clear hx
        have HE : Hid (x = 0 ∧ y = 0 ∧ z = 0 ∧ u = 0 ∧ er = 46) := by
          rcases HR.out with hh | hh
          · exact absurd (((inB_iff _ _ _ _).1 hh.1).2.2.1) HX.out
          · exact hh.2
        obtain ⟨d0, d1, d2, d3⟩ := four_cells HG''.out HB2.out
        have df := blk_frozen HG''.out HB2.out
        go_wp2
        refine bodyPost_ret (v := .tuple #[.agg #[.int .i64 0, .int .i64 0, .int .i64 0, .int .i64 0], .int .i64 46]) (by simp [results, Try.results23, go_sem, d0, d1, d2, d3]) rfl ⟨by rw [HE.out.1, HE.out.2.1, HE.out.2.2.1, HE.out.2.2.2.1, HE.out.2.2.2.2], ?_⟩
        have hB := bel_ HW.out HB2.out
        repeat (refine Below.setCell ?_ (by show w.heap.size ≤ w.heap.size + 1 + 1; omega) _)
        exact hB

    · have HB := Lib.hid hb
      have Z0 := Lib.hid y0
      clear y0
      have Z1 := Lib.hid y1
      clear y1
      have Z2 := Lib.hid y2
      clear y2
      have Z3 := Lib.hid y3
      clear y3
      have Z4 := Lib.hid y4
      clear y4
      have Z5 := Lib.hid y5
      clear y5
      have cp := blk_cell HG.out hb 3 (.int .i64 d) rfl
      clear hb
      go_wp2_with fail
      refine (from_any (-1000) d 1000 _).mono ?_
      rintro en w2 ⟨rfl, hb2'⟩
      have HB2 := Lib.hid (HB.out.trans (hb2'.mono HB.out.size))
      clear hb2' cp
      by_cases hx : inM 1000 d
      · rw [show decide (-1000 ≤ d ∧ d ≤ 1000) = true from decide_eq_true hx]
        have HX := Lib.hid hx
        have cq := blk_cell HG'.out HB2.out 3 (.int .i64 h) rfl
        clear hx
        go_wp2_with fail
        refine (from_any (-1000) h 1000 _).mono ?_
        rintro en w3 ⟨rfl, hb3'⟩
        have HB3 := Lib.hid (HB2.out.trans (hb3'.mono HB2.out.size))
        clear hb3' cq
        by_cases hy : inM 1000 h
        · rw [show decide (-1000 ≤ h ∧ h ≤ 1000) = true from decide_eq_true hy]
          have HY := Lib.hid hy
          clear hy
          go_wp2
          go_roundw
          case rel => exact Or.inr (Or.inr (Or.inr (Or.inr (⟨rfl, HB3.out, Z0.out, Z1.out, Z2.out, HX.out, Z3.out, Z4.out, Z5.out, HY.out⟩))))
          case measure => simp [numOf]
        · rw [show decide (-1000 ≤ h ∧ h ≤ 1000) = false from decide_eq_false hy]
          have HY := Lib.hid hy
          clear hy
          have HE : Hid (x = 0 ∧ y = 0 ∧ z = 0 ∧ u = 0 ∧ er = 46) := by
            rcases HR.out with hh | hh
            · exact absurd (((inB_iff _ _ _ _).1 hh.2.1).2.2.2) HY.out
            · exact hh.2
          obtain ⟨d0, d1, d2, d3⟩ := four_cells HG''.out HB3.out
          have df := blk_frozen HG''.out HB3.out
          go_wp2
          refine bodyPost_ret (v := .tuple #[.agg #[.int .i64 0, .int .i64 0, .int .i64 0, .int .i64 0], .int .i64 46]) (by simp [results, Try.results23, go_sem, d0, d1, d2, d3]) rfl ⟨by rw [HE.out.1, HE.out.2.1, HE.out.2.2.1, HE.out.2.2.2.1, HE.out.2.2.2.2], ?_⟩
          have hB := bel_ HW.out HB3.out
          repeat (refine Below.setCell ?_ (by show w.heap.size ≤ w.heap.size + 1 + 1; omega) _)
          exact hB
      · rw [show decide (-1000 ≤ d ∧ d ≤ 1000) = false from decide_eq_false hx]
        have HX := Lib.hid hx
        clear hx
        have HE : Hid (x = 0 ∧ y = 0 ∧ z = 0 ∧ u = 0 ∧ er = 46) := by
          rcases HR.out with hh | hh
          · exact absurd (((inB_iff _ _ _ _).1 hh.1).2.2.2) HX.out
          · exact hh.2
        obtain ⟨d0, d1, d2, d3⟩ := four_cells HG''.out HB2.out
        have df := blk_frozen HG''.out HB2.out
        go_wp2
        refine bodyPost_ret (v := .tuple #[.agg #[.int .i64 0, .int .i64 0, .int .i64 0, .int .i64 0], .int .i64 46]) (by simp [results, Try.results23, go_sem, d0, d1, d2, d3]) rfl ⟨by rw [HE.out.1, HE.out.2.1, HE.out.2.2.1, HE.out.2.2.2.1, HE.out.2.2.2.2], ?_⟩
        have hB := bel_ HW.out HB2.out
        repeat (refine Below.setCell ?_ (by show w.heap.size ≤ w.heap.size + 1 + 1; omega) _)
        exact hB

    · have HB := Lib.hid hb
      have H1 := Lib.hid ((inB_iff a b c d).2 ⟨y0, y1, y2, y3⟩)
      have H2 := Lib.hid ((inB_iff e f g h).2 ⟨y4, y5, y6, y7⟩)
      obtain ⟨p0, p1, p2, p3⟩ := four_cells HG.out hb
      obtain ⟨r0, r1, r2, r3⟩ := four_cells HG'.out hb
      clear hb y0 y1 y2 y3 y4 y5 y6 y7
      have b1 := inB_bd H1.out
      obtain ⟨b1, b2, b3, b4⟩ := b1
      go_wp2_with fail
      refine (refTimes_any a b c d e f g h (sm_prod H1.out H2.out) (by omega) (by omega) (by omega) (by omega) _).mono ?_
      rintro en w3 ⟨rfl, hb3⟩
      have hc3 := bel_ HB.out hb3
      clear p0 p1 p2 p3 r0 r1 r2 r3
      obtain ⟨d0, d1, d2, d3⟩ := four_cells HG''.out hc3
      have df := blk_frozen HG''.out hc3
      have HC3 := Lib.hid hc3
      clear hc3 hb3
      have HE : Hid (x = q0 a b c d e f g h ∧ y = q1 a b c d e f g h ∧ z = q2 a b c d e f g h ∧ u = q3 a b c d e f g h ∧ er = 0) := by
        rcases HR.out with h | h
        · exact h.2.2
        · exact absurd ⟨H1.out, H2.out⟩ h.1
      rw [← HE.out.1, ← HE.out.2.1, ← HE.out.2.2.1, ← HE.out.2.2.2.1]
      go_wp2
      refine bodyPost_ret (v := .tuple #[.agg #[.int .i64 x, .int .i64 y, .int .i64 z, .int .i64 u], .int .i64 0]) (by simp [results, Try.results23, go_sem, d0, d1, d2, d3]) rfl ⟨by rw [HE.out.2.2.2.2], ?_⟩
      have hB := bel_ HW.out HC3.out
      repeat (refine Below.setCell ?_ (by show w.heap.size ≤ w.heap.size + 1 + 1; omega) _)
      exact hB
end Go.Proofs.Ytdmopmgabieciaa
