/-
  Beam, the document's.
-/
import Derived.Test.YtdmopmgabieciaaKTurns
namespace Go.Proofs.Ytdmopmgabieciaa
open Go.RowKit

set_option maxRecDepth 100000 in
set_option maxHeartbeats 1000000 in
theorem refBeam_bad (a b c d : Int) (h : ¬ okT a b c d 4000000) (w : World) :
    Calls Try.prog 25 #[.agg #[.int .i64 a, .int .i64 b, .int .i64 c, .int .i64 d]] w (RetBm w 0 0 0 0 46) := by
  obtain ⟨W0, HW0, HW, HG, HG', hsz⟩ := boxes2n w #[.int .i64 a, .int .i64 b, .int .i64 c, .int .i64 d] #[.int .i64 0, .int .i64 0, .int .i64 0] 31 26
  have HN := Lib.hid h
  clear h
  go_enter Try.func25, Try.ntmps25
  go_wp2_with fail
  rw [← HW0.out]
  refine (turns_any a b c d 4000000 (by omega) _).mono ?_
  rintro e w1 ⟨rfl, hb1⟩
  rw [decide_eq_false HN.out]
  have c0 := blk_cell HG'.out hb1 0 (.int .i64 0) rfl
  have c1 := blk_cell HG'.out hb1 1 (.int .i64 0) rfl
  have c2 := blk_cell HG'.out hb1 2 (.int .i64 0) rfl
  have cf := blk_frozen HG'.out hb1
  go_wp2
  refine bodyPost_ret (v := .tuple #[.agg #[.int .i64 0, .int .i64 0, .int .i64 0], .int .i64 0, .int .i64 46]) (by simp [results, Try.results25, go_sem, c0, c1, c2]) rfl ⟨rfl, ?_⟩
  exact Below.setCell (p := ⟨w.heap.size + 1, 2, none⟩) (Below.setCell (p := ⟨w.heap.size + 1, 1, none⟩) (Below.setCell (p := ⟨w.heap.size + 1, 0, none⟩) (bel_ HW.out hb1) (by show w.heap.size ≤ w.heap.size + 1; omega) _) (by show w.heap.size ≤ w.heap.size + 1; omega) _) (by show w.heap.size ≤ w.heap.size + 1; omega) _



set_option maxRecDepth 100000 in
set_option maxHeartbeats 1000000 in
theorem refBeam_ok (a b c d : Int) (h : okT a b c d 4000000) (w : World) :
    Calls Try.prog 25 #[.agg #[.int .i64 a, .int .i64 b, .int .i64 c, .int .i64 d]] w
      (RetBm w (q1 d (-c) b (-a) a (-b) (-c) (-d)) (q2 d (-c) b (-a) a (-b) (-c) (-d)) (q3 d (-c) b (-a) a (-b) (-c) (-d)) (q0 a b c d a (-b) (-c) (-d)) 0) := by
  obtain ⟨W0, HW0, HW, HG, HG', hsz⟩ := boxes2n w #[.int .i64 a, .int .i64 b, .int .i64 c, .int .i64 d] #[.int .i64 0, .int .i64 0, .int .i64 0] 31 26
  have HN := Lib.hid h
  clear h
  go_enter Try.func25, Try.ntmps25
  go_wp2_with fail
  rw [← HW0.out]
  refine (turns_any a b c d 4000000 (by omega) _).mono ?_
  rintro e w1 ⟨rfl, hb1⟩
  rw [decide_eq_true HN.out]
  have c0 := blk_cell HG'.out hb1 0 (.int .i64 0) rfl
  have c1 := blk_cell HG'.out hb1 1 (.int .i64 0) rfl
  have c2 := blk_cell HG'.out hb1 2 (.int .i64 0) rfl
  have cf := blk_frozen HG'.out hb1
  have a0 := blk_cell HG.out hb1 0 (.int .i64 a) rfl
  have a1 := blk_cell HG.out hb1 1 (.int .i64 b) rfl
  have a2 := blk_cell HG.out hb1 2 (.int .i64 c) rfl
  have a3 := blk_cell HG.out hb1 3 (.int .i64 d) rfl
  obtain ⟨i1, i2, i3, i4⟩ := okT_bd HN.out
  have HB1 := Lib.hid hb1
  have hsl : w.heap.size < w1.heap.size := by have := hb1.size; omega
  go_wp2_with fail
  refine (refTimes_any a b c d a (-b) (-c) (-d) (sm_self HN.out) (by omega) (by omega) (by omega) (by omega) _).mono ?_
  rintro e W2 ⟨rfl, hbW'⟩
  have hbW := Lib.hid (below_al hbW')
  have G5 := Lib.hid ((hbW'.block w1.heap.size (by simp)).trans (heap_alloc_new w1 _))
  clear hbW' c0 c1 c2 cf a0 a1 a2 a3 hb1
  have ix := ix4 (.int .i64 (q0 a b c d a (-b) (-c) (-d))) (.int .i64 (q1 a b c d a (-b) (-c) (-d))) (.int .i64 (q2 a b c d a (-b) (-c) (-d))) (.int .i64 (q3 a b c d a (-b) (-c) (-d)))
  go_wp2_with fail
  have KG := Lib.hid (fun (w' : World) (h : Below W2.heap.size W2 w') => And.intro (four_cells HG.out (HB1.out.trans ((hbW.out.trans (h.mono hbW.out.size)).mono HB1.out.size))) (four_cells G5.out h))
  have KD := Lib.hid (KG.out _ (Below.refl W2.heap.size W2).drew)
  have tok1 : True := trivial
  go_region_held3 (fun w' => (w'.cell? ⟨w.heap.size, 0, none⟩ = some (.int .i64 a) ∧ w'.cell? ⟨w.heap.size, 1, none⟩ = some (.int .i64 b) ∧ w'.cell? ⟨w.heap.size, 2, none⟩ = some (.int .i64 c) ∧ w'.cell? ⟨w.heap.size, 3, none⟩ = some (.int .i64 d)) ∧
      (w'.cell? ⟨w1.heap.size, 0, none⟩ = some (.int .i64 a) ∧ w'.cell? ⟨w1.heap.size, 1, none⟩ = some (.int .i64 (-b)) ∧ w'.cell? ⟨w1.heap.size, 2, none⟩ = some (.int .i64 (-c)) ∧ w'.cell? ⟨w1.heap.size, 3, none⟩ = some (.int .i64 (-d))))
    (first
      | (with_reducible exact KD.out)
      | (refine KG.out _ ?_
         repeat (first
           | (with_reducible refine Below.setCell ?_ (by first | exact Nat.le_refl _ | exact hb3.size) _)
           | (with_reducible refine Below.drew ?_)
           | (with_reducible refine Below.alloc ?_ (by first | exact Nat.le_refl _ | exact hb3.size | exact hb4.size) _))
         first
           | (with_reducible exact hb4)
           | (with_reducible exact hb3)
           | (with_reducible exact Below.refl _ _))
      | go_keep)
    (first
      | (go_at_call 64
         have _t := tok1
         refine (refTimes_any a b c d 0 0 0 (-1) (sm_down HN.out) (by omega) (by omega) (by omega) (by omega) _).mono ?_
         rintro e w2 ⟨rfl, hb3'⟩
         rw [(down_q a b c d).1, (down_q a b c d).2.1, (down_q a b c d).2.2.1, (down_q a b c d).2.2.2]
         have hb3 : Below W2.heap.size W2 w2 := by with_reducible first | exact hb3' | exact below_un hb3' | exact below_al hb3' | exact below_al (below_un hb3')
         try (have Z1 : Hid (ZC w2 W2.heap.size) := (by with_reducible first | exact Lib.hid (zc hb3') | exact Lib.hid (zc (below_un hb3'))))
         have tok2 : True := trivial
         clear tok1 _t hb3')
      | (go_at_call 64
         have _t := tok2
         refine (refTimes_any d (-c) b (-a) a (-b) (-c) (-d) (sm_back HN.out) (by omega) (by omega) (by omega) (by omega) _).mono ?_
         rintro e w3 ⟨rfl, hb4'⟩
         have hb4a : Below w2.heap.size w2 w3 := by with_reducible first | exact hb4' | exact below_un hb4' | exact below_al hb4' | exact below_al (below_un hb4')
         try (have Z2 : ZC w3 W2.heap.size := (by with_reducible exact zkeep Z1.out hb4a); have HZ2 := Lib.hid Z2; obtain ⟨y0, y1, y2, y3, yf⟩ := Z2)
         try (have Z3 : ZC w3 w2.heap.size := (by with_reducible first | exact zc hb4' | exact zc (below_un hb4')); have HZ3 := Lib.hid Z3; obtain ⟨x0, x1, x2, x3, xf⟩ := Z3)
         have hb4 : Below W2.heap.size W2 w3 := hb3.trans (hb4a.mono hb3.size)
         clear tok2 _t hb4'))
  all_goals
    first
      | (obtain ⟨X, hX⟩ : ∃ X, X = w3.alloc (.cells #[.int .i64 (q0 d (-c) b (-a) a (-b) (-c) (-d)), .int .i64 (q1 d (-c) b (-a) a (-b) (-c) (-d)), .int .i64 (q2 d (-c) b (-a) a (-b) (-c) (-d)), .int .i64 (q3 d (-c) b (-a) a (-b) (-c) (-d))] 31) := ⟨_, rfl⟩
         rw [← hX]
         have u : U4 X w3.heap.size (.int .i64 (q0 d (-c) b (-a) a (-b) (-c) (-d))) (.int .i64 (q1 d (-c) b (-a) a (-b) (-c) (-d))) (.int .i64 (q2 d (-c) b (-a) a (-b) (-c) (-d))) (.int .i64 (q3 d (-c) b (-a) a (-b) (-c) (-d))) := by rw [hX]; exact uA (Below.refl _ _))
      | (obtain ⟨X, hX⟩ : ∃ X, X = (World.setCell (World.setCell (World.setCell (World.setCell w3 ⟨w2.heap.size, 0, none⟩ (.int .i64 (q0 d (-c) b (-a) a (-b) (-c) (-d)))) ⟨w2.heap.size, 1, none⟩ (.int .i64 (q1 d (-c) b (-a) a (-b) (-c) (-d)))) ⟨w2.heap.size, 2, none⟩ (.int .i64 (q2 d (-c) b (-a) a (-b) (-c) (-d)))) ⟨w2.heap.size, 3, none⟩ (.int .i64 (q3 d (-c) b (-a) a (-b) (-c) (-d)))) := ⟨_, rfl⟩
         rw [← hX]
         have u : U4 X w2.heap.size (.int .i64 (q0 d (-c) b (-a) a (-b) (-c) (-d))) (.int .i64 (q1 d (-c) b (-a) a (-b) (-c) (-d))) (.int .i64 (q2 d (-c) b (-a) a (-b) (-c) (-d))) (.int .i64 (q3 d (-c) b (-a) a (-b) (-c) (-d))) := by rw [hX]; exact uB HZ3.out (Below.refl _ _))
      | (obtain ⟨X, hX⟩ : ∃ X, X = (World.setCell (World.setCell (World.setCell (World.setCell w3 ⟨W2.heap.size, 0, none⟩ (.int .i64 (q0 d (-c) b (-a) a (-b) (-c) (-d)))) ⟨W2.heap.size, 1, none⟩ (.int .i64 (q1 d (-c) b (-a) a (-b) (-c) (-d)))) ⟨W2.heap.size, 2, none⟩ (.int .i64 (q2 d (-c) b (-a) a (-b) (-c) (-d)))) ⟨W2.heap.size, 3, none⟩ (.int .i64 (q3 d (-c) b (-a) a (-b) (-c) (-d)))) := ⟨_, rfl⟩
         rw [← hX]
         have u : U4 X W2.heap.size (.int .i64 (q0 d (-c) b (-a) a (-b) (-c) (-d))) (.int .i64 (q1 d (-c) b (-a) a (-b) (-c) (-d))) (.int .i64 (q2 d (-c) b (-a) a (-b) (-c) (-d))) (.int .i64 (q3 d (-c) b (-a) a (-b) (-c) (-d))) := by rw [hX]; exact uB HZ2.out (Below.refl _ _))
    obtain ⟨u0, u1, u2, u3⟩ := u
    have hb6 : Below W2.heap.size W2 X := by
      rw [hX]
      repeat (first
        | (with_reducible refine Below.setCell ?_ (by first | exact Nat.le_refl _ | exact hb3.size) _)
        | (with_reducible refine Below.drew ?_)
        | (with_reducible refine Below.alloc ?_ (by first | exact Nat.le_refl _ | exact hb3.size | exact hb4.size) _))
      first
        | (with_reducible exact hb4)
        | (with_reducible exact hb3)
        | (with_reducible exact Below.refl _ _)
    have hb7 : Below W0.heap.size W0 X := HB1.out.trans ((hbW.out.trans (hb6.mono hbW.out.size)).mono HB1.out.size)
    have d0 := blk_cell HG'.out hb7 0 (.int .i64 0) rfl
    have d1 := blk_cell HG'.out hb7 1 (.int .i64 0) rfl
    have d2 := blk_cell HG'.out hb7 2 (.int .i64 0) rfl
    have df := blk_frozen HG'.out hb7
    have HB7 := Lib.hid hb7
    clear hb7 hb6 hX
    go_wp2
    refine bodyPost_ret (v := .tuple #[.agg #[.int .i64 (q1 d (-c) b (-a) a (-b) (-c) (-d)), .int .i64 (q2 d (-c) b (-a) a (-b) (-c) (-d)), .int .i64 (q3 d (-c) b (-a) a (-b) (-c) (-d))], .int .i64 (q0 a b c d a (-b) (-c) (-d)), .int .i64 0]) (by simp [results, Try.results25, go_sem, d0, d1, d2]) rfl ⟨rfl, ?_⟩
    exact Below.setCell (p := ⟨w.heap.size + 1, 2, none⟩) (Below.setCell (p := ⟨w.heap.size + 1, 1, none⟩) (Below.setCell (p := ⟨w.heap.size + 1, 0, none⟩) (bel_ HW.out HB7.out) (by show w.heap.size ≤ w.heap.size + 1; omega) _) (by show w.heap.size ≤ w.heap.size + 1; omega) _) (by show w.heap.size ≤ w.heap.size + 1; omega) _
end Go.Proofs.Ytdmopmgabieciaa
