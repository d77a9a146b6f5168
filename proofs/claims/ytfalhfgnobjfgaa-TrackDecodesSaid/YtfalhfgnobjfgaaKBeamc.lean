/-
  Beam, the program's; the check at the end of every statement.
-/
import Derived.Test.YtfalhfgnobjfgaaKBeam
import Derived.Deep.RegionHeld3
namespace Go.Proofs.Ytfalhfgnobjfgaa
open Go.RowKit

def numOf (v : Value) : Int := match v with | .int _ n => n | _ => 0

def RetBm (w : World) (x y z n er : Int) (e : Ending) (w' : World) : Prop := e = .returned (.tuple #[.agg #[.int .i64 x, .int .i64 y, .int .i64 z], .int .i64 n, .int .i64 er]) ∧ Below w.heap.size w w'

theorem bel_ {w W w1 : World} (h0 : Below w.heap.size w W) (h : Below W.heap.size W w1) : Below w.heap.size w w1 := h0.trans (h.mono h0.size)
theorem below_unK {w w1 : World} (h : Below w.drew.heap.size w.drew w1) : Below w.heap.size w w1 := by
  exact ⟨h.os, h.tape, h.output, h.size, h.block⟩

theorem boxes2n (w : World) (ca cb : Array Value) (T T' : TypeId) : ∃ W0, Hid (W0 = (w.alloc (.cells ca T)).alloc (.cells cb T')) ∧ Hid (Below w.heap.size w W0) ∧
    Hid (W0.heap[w.heap.size]? = some (.cells ca T (0, 0))) ∧ Hid (W0.heap[w.heap.size + 1]? = some (.cells cb T' (0, 0))) ∧ W0.heap.size = w.heap.size + 1 + 1 :=
  ⟨_, rfl, ((Below.refl _ _).alloc (Nat.le_refl _) _).alloc (by simp) _, heap_alloc2_old _ _ _, heap_alloc2_new _ _ _, by simp⟩

theorem blk_frozen {W0 w1 : World} {g : Nat} {cs : Array Value} {T : TypeId} (hblk : W0.heap[g]? = some (.cells cs T (0, 0))) (h : Below W0.heap.size W0 w1) : ∀ i, w1.frozen? ⟨g, i, none⟩ = false := by
  have hlt : g < W0.heap.size := (Array.getElem?_eq_some_iff.1 hblk).1
  exact fun i => frozen_of_row _ _ _ _ _ ((h.block g hlt).trans hblk)

set_option maxRecDepth 100000 in
set_option maxHeartbeats 1000000 in
theorem beam_bad (a b c d : Int) (h : ¬ okT a b c d 4000000) (w : World) :
    Calls Try.prog 20 #[.agg #[.int .i64 a, .int .i64 b, .int .i64 c, .int .i64 d]] w (RetBm w 0 0 0 0 46) := by
  obtain ⟨W0, HW0, HW, HG, HG', hsz⟩ := boxes2n w #[.int .i64 a, .int .i64 b, .int .i64 c, .int .i64 d] #[.int .i64 0, .int .i64 0, .int .i64 0] 23 22
  have HN := Lib.hid h
  clear h
  go_enter Try.func20, Try.ntmps20
  go_wp2_with fail
  rw [← HW0.out]
  refine (isTurn_any a b c d 4000000 (by omega) _).mono ?_
  rintro e w1 ⟨rfl, hb1⟩
  rw [decide_eq_false HN.out]
  have c0 := blk_cell HG'.out hb1 0 (.int .i64 0) rfl
  have c1 := blk_cell HG'.out hb1 1 (.int .i64 0) rfl
  have c2 := blk_cell HG'.out hb1 2 (.int .i64 0) rfl
  have cf := blk_frozen HG'.out hb1
  go_wp2
  refine bodyPost_ret (v := .tuple #[.agg #[.int .i64 0, .int .i64 0, .int .i64 0], .int .i64 0, .int .i64 46]) (by simp [results, Try.results20, go_sem, c0, c1, c2]) rfl ⟨rfl, ?_⟩
  exact Below.setCell (p := ⟨w.heap.size + 1, 2, none⟩) (Below.setCell (p := ⟨w.heap.size + 1, 1, none⟩) (Below.setCell (p := ⟨w.heap.size + 1, 0, none⟩) (bel_ HW.out hb1) (by show w.heap.size ≤ w.heap.size + 1; omega) _) (by show w.heap.size ≤ w.heap.size + 1; omega) _) (by show w.heap.size ≤ w.heap.size + 1; omega) _


theorem okT_bd {a b c d m : Int} (h : okT a b c d m) : (-m ≤ a ∧ a ≤ m) ∧ (-m ≤ b ∧ b ≤ m) ∧ (-m ≤ c ∧ c ≤ m) ∧ (-m ≤ d ∧ d ≤ m) :=
  ⟨h.2 a (by simp), h.2 b (by simp), h.2 c (by simp), h.2 d (by simp)⟩
theorem SM.of {a b c d e f g h : Int} (X Y : Int) (h1 : -X ≤ a ∧ a ≤ X) (h2 : -X ≤ b ∧ b ≤ X) (h3 : -X ≤ c ∧ c ≤ X) (h4 : -X ≤ d ∧ d ≤ X) (g1 : -Y ≤ e ∧ e ≤ Y) (g2 : -Y ≤ f ∧ f ≤ Y) (g3 : -Y ≤ g ∧ g ≤ Y) (g4 : -Y ≤ h ∧ h ≤ Y) (hxy : X * Y ≤ 1000000000000000000) : SM a b c d e f g h :=
  ⟨sm_of X Y h1 g1 hxy, sm_of X Y h1 g2 hxy, sm_of X Y h1 g3 hxy, sm_of X Y h1 g4 hxy, sm_of X Y h2 g1 hxy, sm_of X Y h2 g2 hxy, sm_of X Y h2 g3 hxy, sm_of X Y h2 g4 hxy,
   sm_of X Y h3 g1 hxy, sm_of X Y h3 g2 hxy, sm_of X Y h3 g3 hxy, sm_of X Y h3 g4 hxy, sm_of X Y h4 g1 hxy, sm_of X Y h4 g2 hxy, sm_of X Y h4 g3 hxy, sm_of X Y h4 g4 hxy⟩
theorem sm_down {a b c d : Int} (h : okT a b c d 4000000) : SM a b c d 0 0 0 (-1) := by
  obtain ⟨h1, h2, h3, h4⟩ := okT_bd h
  exact SM.of 4000000 1 h1 h2 h3 h4 (by omega) (by omega) (by omega) (by omega) (by omega)
theorem sm_back {a b c d : Int} (h : okT a b c d 4000000) : SM d (-c) b (-a) a (-b) (-c) (-d) := by
  obtain ⟨h1, h2, h3, h4⟩ := okT_bd h
  exact SM.of 4000000 4000000 (by omega) (by omega) (by omega) (by omega) (by omega) (by omega) (by omega) (by omega) (by omega)
theorem sm_self {a b c d : Int} (h : okT a b c d 4000000) : SM a b c d a (-b) (-c) (-d) := by
  obtain ⟨h1, h2, h3, h4⟩ := okT_bd h
  exact SM.of 4000000 4000000 (by omega) (by omega) (by omega) (by omega) (by omega) (by omega) (by omega) (by omega) (by omega)
theorem down_q (a b c d : Int) : q0 a b c d 0 0 0 (-1) = d ∧ q1 a b c d 0 0 0 (-1) = -c ∧ q2 a b c d 0 0 0 (-1) = b ∧ q3 a b c d 0 0 0 (-1) = -a := by
  unfold q0 q1 q2 q3
  omega
theorem boxes2w (w : World) (ca cb : Array Value) (T T' : TypeId) : ∃ W0, Hid (W0 = (w.alloc (.cells ca T)).alloc (.cells cb T')) ∧ Hid (Below w.heap.size w W0) ∧ W0.heap.size = w.heap.size + 1 + 1 ∧
    Hid (W0.heap[w.heap.size]? = some (.cells ca T (0, 0))) ∧ Hid (W0.heap[w.heap.size + 1]? = some (.cells cb T' (0, 0))) :=
  ⟨_, rfl, ((Below.refl _ _).alloc (Nat.le_refl _) _).alloc (by simp) _, by simp, heap_alloc2_old _ _ _, heap_alloc2_new _ _ _⟩
theorem four_cells {W0 w1 : World} {g : Nat} {a b c d : Value} {T : TypeId} (hG : W0.heap[g]? = some (.cells #[a, b, c, d] T (0, 0))) (h : Below W0.heap.size W0 w1) :
    w1.cell? ⟨g, 0, none⟩ = some a ∧ w1.cell? ⟨g, 1, none⟩ = some b ∧ w1.cell? ⟨g, 2, none⟩ = some c ∧ w1.cell? ⟨g, 3, none⟩ = some d :=
  ⟨blk_cell hG h 0 a rfl, blk_cell hG h 1 b rfl, blk_cell hG h 2 c rfl, blk_cell hG h 3 d rfl⟩

theorem four_drew {w1 : World} {g : Nat} {a b c d : Value} (h : w1.cell? ⟨g, 0, none⟩ = some a ∧ w1.cell? ⟨g, 1, none⟩ = some b ∧ w1.cell? ⟨g, 2, none⟩ = some c ∧ w1.cell? ⟨g, 3, none⟩ = some d) :
    w1.drew.cell? ⟨g, 0, none⟩ = some a ∧ w1.drew.cell? ⟨g, 1, none⟩ = some b ∧ w1.drew.cell? ⟨g, 2, none⟩ = some c ∧ w1.drew.cell? ⟨g, 3, none⟩ = some d := h
theorem below_al {w w1 : World} {o : Obj} (h : Below (w.alloc o).heap.size (w.alloc o) w1) : Below w.heap.size w w1 := bel_ ((Below.refl _ _).alloc (Nat.le_refl _) o) h
/-- What a block of four zeros reads as. -/
def ZC (w1 : World) (g : Nat) : Prop := w1.cell? ⟨g, 0, none⟩ = some (.int .i64 0) ∧ w1.cell? ⟨g, 1, none⟩ = some (.int .i64 0) ∧ w1.cell? ⟨g, 2, none⟩ = some (.int .i64 0) ∧ w1.cell? ⟨g, 3, none⟩ = some (.int .i64 0) ∧ ∀ i, w1.frozen? ⟨g, i, none⟩ = false
theorem zc {w w1 : World} {T : TypeId} (h : Below (w.alloc (.cells #[.int .i64 0, .int .i64 0, .int .i64 0, .int .i64 0] T)).heap.size (w.alloc (.cells #[.int .i64 0, .int .i64 0, .int .i64 0, .int .i64 0] T)) w1) : ZC w1 w.heap.size := by
  obtain ⟨h1, h2, h3, h4⟩ := four_cells (heap_alloc_new w _) h
  exact ⟨h1, h2, h3, h4, blk_frozen (heap_alloc_new w _) h⟩
theorem zkeep {w1 w2 : World} {g : Nat} (h : ZC w1 g) (hb : Below w1.heap.size w1 w2) : ZC w2 g := by
  obtain ⟨h1, h2, h3, h4, h5⟩ := h
  have hg : g < w1.heap.size := World.block_lt_of_cell? _ _ h1
  exact ⟨(hb.cell (p := ⟨g, 0, none⟩) hg).trans h1, (hb.cell (p := ⟨g, 1, none⟩) hg).trans h2, (hb.cell (p := ⟨g, 2, none⟩) hg).trans h3, (hb.cell (p := ⟨g, 3, none⟩) hg).trans h4, fun i => (hb.frozen (p := ⟨g, i, none⟩) hg).trans (h5 i)⟩

theorem ix4 (a b c d : Value) : ∀ w, (Instr.index 23 (.agg #[a, b, c, d]) (.int .i64 0)).run Try.prog w = .ok a w := fun _ => by kernel_rfl
def U4 (w1 : World) (g : Nat) (a b c d : Value) : Prop := w1.cell? ⟨g, 0, none⟩ = some a ∧ w1.cell? ⟨g, 1, none⟩ = some b ∧ w1.cell? ⟨g, 2, none⟩ = some c ∧ w1.cell? ⟨g, 3, none⟩ = some d
theorem uA {w3 w4 : World} {a b c d : Value} {T : TypeId} (h : Below (w3.alloc (.cells #[a, b, c, d] T)).heap.size (w3.alloc (.cells #[a, b, c, d] T)) w4) : U4 w4 w3.heap.size a b c d := four_cells (heap_alloc_new w3 _) h
theorem uB {w3 w4 : World} {g : Nat} {a b c d : Value} (hz : ZC w3 g) (h : Below ((((w3.setCell ⟨g, 0, none⟩ a).setCell ⟨g, 1, none⟩ b).setCell ⟨g, 2, none⟩ c).setCell ⟨g, 3, none⟩ d).heap.size ((((w3.setCell ⟨g, 0, none⟩ a).setCell ⟨g, 1, none⟩ b).setCell ⟨g, 2, none⟩ c).setCell ⟨g, 3, none⟩ d) w4) : U4 w4 g a b c d := by
  obtain ⟨h1, h2, h3, h4, h5⟩ := hz
  have hg : g < w3.heap.size := World.block_lt_of_cell? _ _ h1
  refine ⟨(h.cell (p := ⟨g, 0, none⟩) (by simpa using hg)).trans (by simp [go_sem, h1, h2, h3, h4]), (h.cell (p := ⟨g, 1, none⟩) (by simpa using hg)).trans (by simp [go_sem, h1, h2, h3, h4]), (h.cell (p := ⟨g, 2, none⟩) (by simpa using hg)).trans (by simp [go_sem, h1, h2, h3, h4]), (h.cell (p := ⟨g, 3, none⟩) (by simpa using hg)).trans (by simp [go_sem, h1, h2, h3, h4])⟩

set_option maxRecDepth 100000 in
set_option maxHeartbeats 1000000 in
theorem beam_ok (a b c d : Int) (h : okT a b c d 4000000) (w : World) :
    Calls Try.prog 20 #[.agg #[.int .i64 a, .int .i64 b, .int .i64 c, .int .i64 d]] w
      (RetBm w (q1 d (-c) b (-a) a (-b) (-c) (-d)) (q2 d (-c) b (-a) a (-b) (-c) (-d)) (q3 d (-c) b (-a) a (-b) (-c) (-d)) (q0 a b c d a (-b) (-c) (-d)) 0) := by
  obtain ⟨W0, HW0, HW, HG, HG', hsz⟩ := boxes2n w #[.int .i64 a, .int .i64 b, .int .i64 c, .int .i64 d] #[.int .i64 0, .int .i64 0, .int .i64 0] 23 22
  have HN := Lib.hid h
  clear h
  go_enter Try.func20, Try.ntmps20
  go_wp2_with fail
  rw [← HW0.out]
  refine (isTurn_any a b c d 4000000 (by omega) _).mono ?_
  rintro e w1 ⟨rfl, hb1⟩
  rw [decide_eq_true HN.out]
  have c0 := blk_cell HG'.out hb1 0 (.int .i64 0) rfl
  have c1 := blk_cell HG'.out hb1 1 (.int .i64 0) rfl
  have c2 := blk_cell HG'.out hb1 2 (.int .i64 0) rfl
  have cf := blk_frozen HG'.out hb1
  have a0 := blk_cell HG.out hb1 0 (.int .i64 a) rfl
  have a1 := blk_cell HG.out hb1 1 (.int .i64 b) rfl
  have a2 := blk_cell HG.out hb1 2 (.int .i64 c) rfl
  have a3 := blk_cell HG.out hb1 3 (.int .i64 d) rfl
  obtain ⟨i1, i2, i3, i4⟩ := okT_bd HN.out
  have HB1 := Lib.hid hb1
  go_wp2
  obtain ⟨W2, HW2, hb2, hsz2, G5, G6⟩ := boxes2w w1 #[.int .i64 a, .int .i64 (-b), .int .i64 (-c), .int .i64 (-d)] #[.int .i64 0, .int .i64 0, .int .i64 0, .int .i64 (-1)] 23 23
  rw [← HW2.out]
  have K1 := Lib.hid (And.intro (four_cells HG.out (HB1.out.trans (hb2.out.mono HB1.out.size))) (And.intro (four_cells G5.out (Below.refl _ _)) (four_cells G6.out (Below.refl _ _))))
  have KG := Lib.hid (fun (w' : World) (h : Below W2.heap.size W2 w') => And.intro (four_cells HG.out (HB1.out.trans ((hb2.out.trans (h.mono hb2.out.size)).mono HB1.out.size))) (And.intro (four_cells G5.out h) (four_cells G6.out h)))
  have KD := Lib.hid (And.intro (four_drew K1.out.1) (And.intro (four_drew K1.out.2.1) (four_drew K1.out.2.2)))
  clear a0 a1 a2 a3 hb1 hsz2
  have tok1 : True := trivial
  go_region_held3 (fun w' => (w'.cell? ⟨w.heap.size, 0, none⟩ = some (.int .i64 a) ∧ w'.cell? ⟨w.heap.size, 1, none⟩ = some (.int .i64 b) ∧ w'.cell? ⟨w.heap.size, 2, none⟩ = some (.int .i64 c) ∧ w'.cell? ⟨w.heap.size, 3, none⟩ = some (.int .i64 d)) ∧
      (w'.cell? ⟨w1.heap.size, 0, none⟩ = some (.int .i64 a) ∧ w'.cell? ⟨w1.heap.size, 1, none⟩ = some (.int .i64 (-b)) ∧ w'.cell? ⟨w1.heap.size, 2, none⟩ = some (.int .i64 (-c)) ∧ w'.cell? ⟨w1.heap.size, 3, none⟩ = some (.int .i64 (-d))) ∧
      (w'.cell? ⟨w1.heap.size + 1, 0, none⟩ = some (.int .i64 0) ∧ w'.cell? ⟨w1.heap.size + 1, 1, none⟩ = some (.int .i64 0) ∧ w'.cell? ⟨w1.heap.size + 1, 2, none⟩ = some (.int .i64 0) ∧ w'.cell? ⟨w1.heap.size + 1, 3, none⟩ = some (.int .i64 (-1))))
    (first
      | (with_reducible exact KD.out)
      | (refine KG.out _ ?_
         repeat (first
           | (with_reducible refine Below.setCell ?_ (by first | exact Nat.le_refl _ | exact hb3.size) _)
           | (with_reducible refine Below.drew ?_)
           | (with_reducible refine Below.alloc ?_ (by first | exact Nat.le_refl _ | exact hb3.size | exact hb4.size) _))
         first
           | (with_reducible exact hb4)
           | (with_reducible exact hb3)
           | (with_reducible exact Below.refl _ _))
      | go_keep)
    (first
      | (go_at_call 33
         have _t := tok1
         refine (times_any a b c d 0 0 0 (-1) (sm_down HN.out) _).mono ?_
         rintro e w2 ⟨rfl, hb3'⟩
         rw [(down_q a b c d).1, (down_q a b c d).2.1, (down_q a b c d).2.2.1, (down_q a b c d).2.2.2]
         have hb3 : Below W2.heap.size W2 w2 := by with_reducible first | exact hb3' | exact below_unK hb3' | exact below_al hb3' | exact below_al (below_unK hb3')
         try (have Z1 : Hid (ZC w2 W2.heap.size) := (by with_reducible first | exact Lib.hid (zc hb3') | exact Lib.hid (zc (below_unK hb3'))))
         have tok2 : True := trivial
         clear tok1 _t hb3')
      | (go_at_call 33
         have _t := tok2
         refine (times_any d (-c) b (-a) a (-b) (-c) (-d) (sm_back HN.out) _).mono ?_
         rintro e w3 ⟨rfl, hb4'⟩
         have hb4a : Below w2.heap.size w2 w3 := by with_reducible first | exact hb4' | exact below_unK hb4' | exact below_al hb4' | exact below_al (below_unK hb4')
         try (have Z2 : ZC w3 W2.heap.size := (by with_reducible exact zkeep Z1.out hb4a); have HZ2 := Lib.hid Z2; obtain ⟨y0, y1, y2, y3, yf⟩ := Z2)
         try (have Z3 : ZC w3 w2.heap.size := (by with_reducible first | exact zc hb4' | exact zc (below_unK hb4')); have HZ3 := Lib.hid Z3; obtain ⟨x0, x1, x2, x3, xf⟩ := Z3)
         have hb4 : Below W2.heap.size W2 w3 := hb3.trans (hb4a.mono hb3.size)
         clear tok2 _t hb4'))
  all_goals
    go_wp2_with fail
    refine (times_any a b c d a (-b) (-c) (-d) (sm_self HN.out) _).mono ?_
    rintro e w4 ⟨rfl, hb5⟩
    have hb6 : Below W2.heap.size W2 w4 := by
      refine bel_ ?_ hb5
      repeat (first
        | (with_reducible refine Below.setCell ?_ (by first | exact Nat.le_refl _ | exact hb3.size) _)
        | (with_reducible refine Below.drew ?_)
        | (with_reducible refine Below.alloc ?_ (by first | exact Nat.le_refl _ | exact hb3.size | exact hb4.size) _))
      first
        | (with_reducible exact hb4)
        | (with_reducible exact hb3)
        | (with_reducible exact Below.refl _ _)
    have hb7 : Below W0.heap.size W0 w4 := HB1.out.trans ((hb2.out.trans (hb6.mono hb2.out.size)).mono HB1.out.size)
    have d0 := blk_cell HG'.out hb7 0 (.int .i64 0) rfl
    have d1 := blk_cell HG'.out hb7 1 (.int .i64 0) rfl
    have d2 := blk_cell HG'.out hb7 2 (.int .i64 0) rfl
    have df := blk_frozen HG'.out hb7
    try (have u : U4 w4 w3.heap.size (.int .i64 (q0 d (-c) b (-a) a (-b) (-c) (-d))) (.int .i64 (q1 d (-c) b (-a) a (-b) (-c) (-d))) (.int .i64 (q2 d (-c) b (-a) a (-b) (-c) (-d))) (.int .i64 (q3 d (-c) b (-a) a (-b) (-c) (-d))) := (by with_reducible exact uA hb5); obtain ⟨u0, u1, u2, u3⟩ := u)
    try (have u : U4 w4 w2.heap.size (.int .i64 (q0 d (-c) b (-a) a (-b) (-c) (-d))) (.int .i64 (q1 d (-c) b (-a) a (-b) (-c) (-d))) (.int .i64 (q2 d (-c) b (-a) a (-b) (-c) (-d))) (.int .i64 (q3 d (-c) b (-a) a (-b) (-c) (-d))) := (by with_reducible exact uB HZ3.out hb5); obtain ⟨u0, u1, u2, u3⟩ := u)
    try (have u : U4 w4 W2.heap.size (.int .i64 (q0 d (-c) b (-a) a (-b) (-c) (-d))) (.int .i64 (q1 d (-c) b (-a) a (-b) (-c) (-d))) (.int .i64 (q2 d (-c) b (-a) a (-b) (-c) (-d))) (.int .i64 (q3 d (-c) b (-a) a (-b) (-c) (-d))) := (by with_reducible exact uB HZ2.out hb5); obtain ⟨u0, u1, u2, u3⟩ := u)
    clear hb5
    have HB7 := Lib.hid hb7
    clear hb7 hb6
    have ix := ix4 (.int .i64 (q0 a b c d a (-b) (-c) (-d))) (.int .i64 (q1 a b c d a (-b) (-c) (-d))) (.int .i64 (q2 a b c d a (-b) (-c) (-d))) (.int .i64 (q3 a b c d a (-b) (-c) (-d)))
    go_wp2
    refine bodyPost_ret (v := .tuple #[.agg #[.int .i64 (q1 d (-c) b (-a) a (-b) (-c) (-d)), .int .i64 (q2 d (-c) b (-a) a (-b) (-c) (-d)), .int .i64 (q3 d (-c) b (-a) a (-b) (-c) (-d))], .int .i64 (q0 a b c d a (-b) (-c) (-d)), .int .i64 0]) (by simp [results, Try.results20, go_sem, d0, d1, d2]) rfl ⟨rfl, ?_⟩
    exact Below.setCell (p := ⟨w.heap.size + 1, 2, none⟩) (Below.setCell (p := ⟨w.heap.size + 1, 1, none⟩) (Below.setCell (p := ⟨w.heap.size + 1, 0, none⟩) (bel_ HW.out HB7.out) (by show w.heap.size ≤ w.heap.size + 1; omega) _) (by show w.heap.size ≤ w.heap.size + 1; omega) _) (by show w.heap.size ≤ w.heap.size + 1; omega) _
end Go.Proofs.Ytfalhfgnobjfgaa
