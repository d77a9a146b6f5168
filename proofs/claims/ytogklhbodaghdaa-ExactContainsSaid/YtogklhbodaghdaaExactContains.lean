/-
  For any spans and numbers the law ExactContains returns true and leaves its argument as it was: no condition.
-/
import Derived.Test.YtogklhbodaghdaaCtn
import Derived.Test.YtogklhbodaghdaaParts
import Derived.Deep.CutRange
import Derived.BigQuiet
import Derived.Deep.RegionHeld3
namespace Go.Proofs.Ytogklhbodaghdaa.exactContains
open Go.Proofs.Ytogklhbodaghdaa
open Go.ChangeShapes Go.WideShapes Go.ChangeAt Go.RowKit Go.Joins
set_option linter.unusedVariables false

theorem parts_cells {w W0 w' : World} {al ah bl bh i j k l : Int} (h0 : W0.heap[w.heap.size]? = some (.cells #[.int .i64 al, .int .i64 ah, .int .i64 bl, .int .i64 bh, .int .u32 i, .int .u32 j, .int .u32 k, .int .u32 l] 26 (0, 0))) (hb : Below W0.heap.size W0 w') :
    w'.cell? ⟨w.heap.size, 0, none⟩ = some (.int .i64 al) ∧ w'.cell? ⟨w.heap.size, 1, none⟩ = some (.int .i64 ah) ∧ w'.cell? ⟨w.heap.size, 2, none⟩ = some (.int .i64 bl) ∧ w'.cell? ⟨w.heap.size, 3, none⟩ = some (.int .i64 bh) ∧ w'.cell? ⟨w.heap.size, 4, none⟩ = some (.int .u32 i) ∧ w'.cell? ⟨w.heap.size, 5, none⟩ = some (.int .u32 j) ∧ w'.cell? ⟨w.heap.size, 6, none⟩ = some (.int .u32 k) ∧ w'.cell? ⟨w.heap.size, 7, none⟩ = some (.int .u32 l) := by
  have g := (hb.block _ (Array.getElem?_eq_some_iff.1 h0).1).trans h0
  exact ⟨cell_of_row _ _ _ _ _ _ g, cell_of_row _ _ _ _ _ _ g, cell_of_row _ _ _ _ _ _ g, cell_of_row _ _ _ _ _ _ g, cell_of_row _ _ _ _ _ _ g, cell_of_row _ _ _ _ _ _ g, cell_of_row _ _ _ _ _ _ g, cell_of_row _ _ _ _ _ _ g⟩
theorem two_cells_ {w w' : World} {ga gb : Nat} {al ah bl bh : Int} (ka : SX w ga al ah) (kb : SX w gb bl bh) (hb : Below w.heap.size w w') :
    w'.cell? ⟨ga, 0, none⟩ = some (.int .i64 al) ∧ w'.cell? ⟨ga, 1, none⟩ = some (.int .i64 ah) ∧ w'.cell? ⟨gb, 0, none⟩ = some (.int .i64 bl) ∧ w'.cell? ⟨gb, 1, none⟩ = some (.int .i64 bh) :=
  ⟨(ka.call hb).c0, (ka.call hb).c1, (kb.call hb).c0, (kb.call hb).c1⟩
theorem bun {w w1 : World} (h : Below w.drew.heap.size w.drew w1) : Below w.heap.size w w1 := ⟨h.os, h.tape, h.output, h.size, h.block⟩
theorem bal {w w1 : World} {o : Obj} (h : Below (w.alloc o).heap.size (w.alloc o) w1) : Below w.heap.size w w1 := by
  have h0 := (Below.refl w.heap.size w).alloc (Nat.le_refl _) o
  exact h0.trans (h.mono h0.size)
theorem nz1 {w w1 : World} (h : Below (w.alloc (.cells #[.int .i64 0, .int .i64 0] 23)).heap.size (w.alloc (.cells #[.int .i64 0, .int .i64 0] 23)) w1) : SX w1 w.heap.size 0 0 := (SX.new w 0 0).call h
theorem nz2 {w w1 : World} (h : Below ((w.alloc (.cells #[.int .i64 0, .int .i64 0] 23)).alloc (.cells #[.int .i64 0, .int .i64 0] 23)).heap.size ((w.alloc (.cells #[.int .i64 0, .int .i64 0] 23)).alloc (.cells #[.int .i64 0, .int .i64 0] 23)) w1) : SX w1 w.heap.size 0 0 ∧ SX w1 (w.heap.size + 1) 0 0 := by
  refine ⟨((SX.new w 0 0).alloc _).call h, ?_⟩
  have := (SX.new (w.alloc (.cells #[.int .i64 0, .int .i64 0] 23)) 0 0).call h
  simpa using this

set_option maxRecDepth 100000 in
set_option maxHeartbeats 8000000 in
theorem walk (al ah bl bh i j k l : Int) (hi : 0 ≤ i ∧ i ≤ 4294967295) (hj : 0 ≤ j ∧ j ≤ 4294967295) (hk : 0 ≤ k ∧ k ≤ 4294967295) (hl : 0 ≤ l ∧ l ≤ 4294967295) (w : World) :
    Calls Try.prog 3 #[.agg #[.int .i64 al, .int .i64 ah, .int .i64 bl, .int .i64 bh, .int .u32 i, .int .u32 j, .int .u32 k, .int .u32 l]] w (RetB w true) := by
  obtain ⟨W0, hW0⟩ : ∃ W0, W0 = w.alloc (.cells #[.int .i64 al, .int .i64 ah, .int .i64 bl, .int .i64 bh, .int .u32 i, .int .u32 j, .int .u32 k, .int .u32 l] 26) := ⟨_, rfl⟩
  have hb0 : Below w.heap.size w W0 := by rw [hW0]; exact (Below.refl _ w).alloc (Nat.le_refl _) _
  have g0 : W0.heap[w.heap.size]? = some (.cells #[.int .i64 al, .int .i64 ah, .int .i64 bl, .int .i64 bh, .int .u32 i, .int .u32 j, .int .u32 k, .int .u32 l] 26 (0, 0)) := by rw [hW0]; exact heap_alloc_new w _
  have H0 := Lib.hid (And.intro hb0 (And.intro g0 hW0))
  have KS := Lib.hid (fun (w' : World) (h : Below W0.heap.size W0 w') => parts_cells H0.out.2.1 h)
  clear hb0 g0 hW0
  go_enter Try.func3, Try.ntmps3
  go_upto_region 1 with fail
  rw [← H0.out.2.2]
  go_cut [3, 4, 5, 6, 7, 8] from 16 to 263 (fun s3 s4 s5 s6 s7 s8 wx => ∃ ga gb, s3 = .pointer (some ⟨ga, 0, none⟩) ∧ s4 = .pointer (some ⟨gb, 0, none⟩) ∧ s5 = .int .u32 i ∧ s6 = .int .u32 j ∧ s7 = .int .u32 k ∧ s8 = .int .u32 l ∧ Below w.heap.size w wx ∧ SX wx ga al ah ∧ SX wx gb bl bh)
  case first => as_aux_lemma =>
    obtain ⟨p0, p1, p2, p3, p4, p5, p6, p7⟩ := KS.out _ (Below.refl _ _)
    go_region_held3 (fun w' => w'.cell? ⟨w.heap.size, 0, none⟩ = some (.int .i64 al) ∧ w'.cell? ⟨w.heap.size, 1, none⟩ = some (.int .i64 ah) ∧ w'.cell? ⟨w.heap.size, 2, none⟩ = some (.int .i64 bl) ∧ w'.cell? ⟨w.heap.size, 3, none⟩ = some (.int .i64 bh) ∧ w'.cell? ⟨w.heap.size, 4, none⟩ = some (.int .u32 i) ∧ w'.cell? ⟨w.heap.size, 5, none⟩ = some (.int .u32 j) ∧ w'.cell? ⟨w.heap.size, 6, none⟩ = some (.int .u32 k) ∧ w'.cell? ⟨w.heap.size, 7, none⟩ = some (.int .u32 l))
      (first
        | (refine KS.out _ ?_
           repeat (first
             | (with_reducible refine Below.setCell ?_ (by first | exact Nat.le_refl _ | (simp; done) | (dsimp only; omega)) _)
             | (with_reducible refine Below.drew ?_)
             | (with_reducible refine Below.alloc ?_ (by first | exact Nat.le_refl _ | (simp; done)) _))
           with_reducible exact Below.refl _ _)
        | go_keep)
      (fail)
    · go_wp2_with fail
      go_meet
      case rel => exact ⟨_, _, rfl, rfl, rfl, rfl, rfl, rfl, ((H0.out.1.alloc H0.out.1.size _).alloc (Nat.le_trans H0.out.1.size (by simp)) _).drew, heap_alloc2_old _ _ _, heap_alloc2_new _ _ _⟩
    · go_wp2_with fail
      go_meet
      case rel => exact ⟨_, _, rfl, rfl, rfl, rfl, rfl, rfl, ((H0.out.1.alloc H0.out.1.size _).alloc (Nat.le_trans H0.out.1.size (by simp)) _).drew, heap_alloc2_new _ _ _, heap_alloc2_old _ _ _⟩
  case rest =>
    obtain ⟨ga, gb, rfl, rfl, rfl, rfl, rfl, rfl, hb1, ka, kb⟩ := hcut
    clear KS H0 W0
    by_cases hga : okS al ah
    · have xa0 := ka.c0
      have xa1 := ka.c1
      have HA := Lib.hid (And.intro hb1 (And.intro ka kb))
      clear hb1 ka kb
      go_wp2_with fail
      refine (good_yes al ah hga _).mono ?_
      rintro en w1 ⟨rfl, hb2⟩
      have ka := HA.out.2.1.call hb2
      have kb := HA.out.2.2.call hb2
      have HB := Lib.hid (And.intro (HA.out.1.trans (hb2.mono HA.out.1.size)) (And.intro ka kb))
      have xb0 := kb.c0
      have xb1 := kb.c1
      clear xa0 xa1 HA ka kb hb2
      by_cases hgb : okS bl bh
      · go_wp2_with fail
        refine (good_yes bl bh hgb _).mono ?_
        rintro en w2 ⟨rfl, hb3⟩
        have ka := HB.out.2.1.call hb3
        have kb := HB.out.2.2.call hb3
        have HC := Lib.hid (And.intro (HB.out.1.trans (hb3.mono HB.out.1.size)) (And.intro ka kb))
        clear xb0 xb1 HB ka kb hb3
        obtain ⟨cl, ch, c1, c2, c3, hC⟩ := part_any al ah i j hga hi.1 hi.2 hj.1 hj.2
        obtain ⟨dl, dh, d1, d2, d3, hD⟩ := part_any bl bh k l hgb hk.1 hk.2 hl.1 hl.2
        go_upto_region 4 with fail
        go_cut [9, 10] from 16 to 263 (fun s9 s10 wx => ∃ gc gd, s9 = .pointer (some ⟨gc, 0, none⟩) ∧ s10 = .pointer (some ⟨gd, 0, none⟩) ∧ Below w2.heap.size w2 wx ∧ SX wx gc cl ch ∧ SX wx gd dl dh)
        case first => as_aux_lemma =>
          have KS := Lib.hid (fun (w' : World) (h : Below w2.heap.size w2 w') => two_cells_ HC.out.2.1 HC.out.2.2 h)
          obtain ⟨p0, p1, p2, p3⟩ := KS.out _ (Below.refl _ _)
          have tok1 : True := trivial
          go_region_held3 (fun w' => w'.cell? ⟨ga, 0, none⟩ = some (.int .i64 al) ∧ w'.cell? ⟨ga, 1, none⟩ = some (.int .i64 ah) ∧ w'.cell? ⟨gb, 0, none⟩ = some (.int .i64 bl) ∧ w'.cell? ⟨gb, 1, none⟩ = some (.int .i64 bh))
            (first
              | (refine KS.out _ ?_
                 repeat (first
                   | (with_reducible refine Below.setCell ?_ (by first | exact Nat.le_refl _ | (simp; done) | (dsimp only; omega)) _)
                   | (with_reducible refine Below.drew ?_)
                   | (with_reducible refine Below.alloc ?_ (by first | exact Nat.le_refl _ | (simp; done) | exact hb3.size | exact hb4.size | (simp; have := hb3.size; omega)) _))
                 with_reducible first | exact hb4 | exact hb3 | exact Below.refl _ _)
              | go_keep)
            (first
              | (go_at_call 7
                 have _t := tok1
                 refine (hC _).mono ?_
                 rintro e w3 ⟨rfl, hb3'⟩
                 have hb3 : Below w2.heap.size w2 w3 := by with_reducible first | exact bun hb3' | exact hb3' | exact bal (bun hb3') | exact bal hb3' | exact bal (bal (bun hb3')) | exact bal (bal hb3')
                 try (have Z1 : Hid (SX w3 w2.heap.size 0 0) := (by with_reducible first | exact Lib.hid (nz1 (bun hb3')) | exact Lib.hid (nz1 hb3') | exact Lib.hid (nz2 (bun hb3')).1 | exact Lib.hid (nz2 hb3').1))
                 try (have Z2 : Hid (SX w3 (w2.heap.size + 1) 0 0) := (by with_reducible first | exact Lib.hid (nz2 (bun hb3')).2 | exact Lib.hid (nz2 hb3').2))
                 have tok2 : True := trivial
                 clear tok1 _t hb3')
              | (go_at_call 7
                 have _t := tok2
                 refine (hD _).mono ?_
                 rintro e w4 ⟨rfl, hb4'⟩
                 have hb4a : Below w3.heap.size w3 w4 := by with_reducible first | exact hb4' | exact bun hb4' | exact bal hb4' | exact bal (bun hb4') | exact bal (bal hb4') | exact bal (bal (bun hb4'))
                 have hb4 : Below w2.heap.size w2 w4 := hb3.trans (hb4a.mono hb3.size)
                 have hsz := hb3.size
                 have hsz4 := hb4a.size
                 try (have Z3 : SX w4 w2.heap.size 0 0 := Z1.out.call hb4a; have y0 := Z3.c0; have y1 := Z3.c1; have yf := Z3.fz; have y0o := fun o => (Z3.alloc o).c0; have y1o := fun o => (Z3.alloc o).c1; have yfo := fun o => (Z3.alloc o).fz; have ylt := Z3.lt; have yn1 : ¬ w2.heap.size = w4.heap.size := (by omega); have yn2 : ¬ w4.heap.size = w2.heap.size := (by omega); have HZ3 := Lib.hid Z3; clear Z3)
                 try (have Z4 : SX w4 (w2.heap.size + 1) 0 0 := Z2.out.call hb4a; have v0 := Z4.c0; have v1 := Z4.c1; have vf := Z4.fz; have v0o := fun o => (Z4.alloc o).c0; have v1o := fun o => (Z4.alloc o).c1; have vfo := fun o => (Z4.alloc o).fz; have vlt := Z4.lt; have vn1 : ¬ (w2.heap.size + 1) = w4.heap.size := (by omega); have vn2 : ¬ w4.heap.size = (w2.heap.size + 1) := (by omega); have HZ4 := Lib.hid Z4; clear Z4)
                 try (have Z5 : SX w4 w3.heap.size 0 0 := (by with_reducible first | exact nz1 hb4' | exact nz1 (bun hb4') | exact (nz2 hb4').1 | exact (nz2 (bun hb4')).1); have t0 := Z5.c0; have t1 := Z5.c1; have tf := Z5.fz; have t0o := fun o => (Z5.alloc o).c0; have t1o := fun o => (Z5.alloc o).c1; have tfo := fun o => (Z5.alloc o).fz; have tlt := Z5.lt; have tn1 : ¬ w3.heap.size = w4.heap.size := (by omega); have tn2 : ¬ w4.heap.size = w3.heap.size := (by omega); have HZ5 := Lib.hid Z5; clear Z5)
                 try (have Z6 : SX w4 (w3.heap.size + 1) 0 0 := (by with_reducible first | exact (nz2 hb4').2 | exact (nz2 (bun hb4')).2); have s0 := Z6.c0; have s1 := Z6.c1; have sf := Z6.fz; have s0o := fun o => (Z6.alloc o).c0; have s1o := fun o => (Z6.alloc o).c1; have sfo := fun o => (Z6.alloc o).fz; have slt := Z6.lt; have sn1 : ¬ (w3.heap.size + 1) = w4.heap.size := (by omega); have sn2 : ¬ w4.heap.size = (w3.heap.size + 1) := (by omega); have HZ6 := Lib.hid Z6; clear Z6)
                 try (have Z1l := Z1.out.lt; have m1 : ¬ w2.heap.size = w3.heap.size := (by omega); have m2 : ¬ w3.heap.size = w2.heap.size := (by omega))
                 clear tok2 _t hb4'))
          all_goals as_aux_lemma =>
            go_wp2_with fail
            go_meet
            case rel =>
              refine ⟨_, _, rfl, rfl, ?_, ?_, ?_⟩
              · repeat (first
                  | (with_reducible refine Below.setCell ?_ (by first | exact Nat.le_refl _ | (simp; done) | (dsimp only; omega)) _)
                  | (with_reducible refine Below.alloc ?_ (by first | exact Nat.le_refl _ | exact hb4.size | (simp; done) | (simp; omega)) _))
                exact hb4
              · first
                | (with_reducible refine (SX.new _ _ _).alloc _)
                | (with_reducible refine SX.new2 _ _ _ _)
                | (with_reducible refine SX.new' _ _ ?_; simp; done)
                | (with_reducible refine (SX.store HZ3.out _ _).alloc _)
                | ((with_reducible refine ((SX.store HZ3.out _ _).other ?_).other ?_) <;> (dsimp only; omega))
                | ((with_reducible refine SX.store ((HZ3.out.other ?_).other ?_) _ _) <;> (dsimp only; omega))
                | (with_reducible refine (SX.store HZ4.out _ _).alloc _)
                | ((with_reducible refine ((SX.store HZ4.out _ _).other ?_).other ?_) <;> (dsimp only; omega))
                | ((with_reducible refine SX.store ((HZ4.out.other ?_).other ?_) _ _) <;> (dsimp only; omega))
                | (with_reducible refine (SX.store HZ5.out _ _).alloc _)
                | ((with_reducible refine ((SX.store HZ5.out _ _).other ?_).other ?_) <;> (dsimp only; omega))
                | ((with_reducible refine SX.store ((HZ5.out.other ?_).other ?_) _ _) <;> (dsimp only; omega))
                | (with_reducible refine (SX.store HZ6.out _ _).alloc _)
                | ((with_reducible refine ((SX.store HZ6.out _ _).other ?_).other ?_) <;> (dsimp only; omega))
                | ((with_reducible refine SX.store ((HZ6.out.other ?_).other ?_) _ _) <;> (dsimp only; omega))
              · first
                | (with_reducible refine (SX.new _ _ _).alloc _)
                | (with_reducible refine SX.new2 _ _ _ _)
                | (with_reducible refine SX.new' _ _ ?_; simp; done)
                | (with_reducible refine (SX.store HZ3.out _ _).alloc _)
                | ((with_reducible refine ((SX.store HZ3.out _ _).other ?_).other ?_) <;> (dsimp only; omega))
                | ((with_reducible refine SX.store ((HZ3.out.other ?_).other ?_) _ _) <;> (dsimp only; omega))
                | (with_reducible refine (SX.store HZ4.out _ _).alloc _)
                | ((with_reducible refine ((SX.store HZ4.out _ _).other ?_).other ?_) <;> (dsimp only; omega))
                | ((with_reducible refine SX.store ((HZ4.out.other ?_).other ?_) _ _) <;> (dsimp only; omega))
                | (with_reducible refine (SX.store HZ5.out _ _).alloc _)
                | ((with_reducible refine ((SX.store HZ5.out _ _).other ?_).other ?_) <;> (dsimp only; omega))
                | ((with_reducible refine SX.store ((HZ5.out.other ?_).other ?_) _ _) <;> (dsimp only; omega))
                | (with_reducible refine (SX.store HZ6.out _ _).alloc _)
                | ((with_reducible refine ((SX.store HZ6.out _ _).other ?_).other ?_) <;> (dsimp only; omega))
                | ((with_reducible refine SX.store ((HZ6.out.other ?_).other ?_) _ _) <;> (dsimp only; omega))
        case rest =>
          obtain ⟨gc, gd, rfl, rfl, hb2, kc, kd⟩ := hcut
          rename_i wd
          have hokc : okS cl ch := by unfold okS at *; omega
          have hokd : okS dl dh := by unfold okS at *; omega
          have hb3 := HC.out.1.trans (hb2.mono HC.out.1.size)
          have ka := HC.out.2.1.call hb2
          have kb := HC.out.2.2.call hb2
          have HE := Lib.hid (And.intro hb3 (And.intro ka (And.intro kb (And.intro kc kd))))
          clear HC hb2 hb3 ka kb kc kd
          have xc0 := HE.out.2.2.2.1.c0
          have xc1 := HE.out.2.2.2.1.c1
          clear hC hD
          go_wp2_with fail
          refine (valid_yes cl ch hokc _).mono ?_
          rintro en w3 ⟨rfl, hb3⟩
          have xd0 := (HE.out.2.2.2.2.call hb3).c0
          have xd1 := (HE.out.2.2.2.2.call hb3).c1
          have HB3 := Lib.hid hb3
          clear xc0 xc1 hb3
          go_wp2_with fail
          refine (valid_yes dl dh hokd _).mono ?_
          rintro en w4 ⟨rfl, hb4⟩
          have hb24 := HB3.out.trans (hb4.mono HB3.out.size)
          have HF := Lib.hid (And.intro (HE.out.1.trans (hb24.mono HE.out.1.size)) (And.intro (HE.out.2.1.call hb24) (And.intro (HE.out.2.2.1.call hb24) (And.intro (HE.out.2.2.2.1.call hb24) (HE.out.2.2.2.2.call hb24)))))
          clear HE HB3 xd0 xd1 hb4 hb24
          obtain ⟨pl, ph, e, ql, qh, g, hP, hQ, hcs⟩ := two_plus hga hgb hokc hokd c1 c3 d1 d3
          have HP1 := Lib.hid (And.intro hP (And.intro hQ hcs))
          clear hP hQ hcs
          have xa0 := (HF.out.2.1).c0
          have xa1 := (HF.out.2.1).c1
          have xb0 := (HF.out.2.2.1).c0
          have xb1 := (HF.out.2.2.1).c1
          go_wp2_with fail
          refine (HP1.out.1 _).mono ?_
          rintro en w5 ⟨rfl, hb5⟩
          obtain ⟨W5, hW5⟩ : ∃ W5, W5 = w5.alloc (.cells #[.int .i64 pl, .int .i64 ph] 23) := ⟨_, rfl⟩
          have hb5' : Below w4.heap.size w4 W5 := by rw [hW5]; exact hb5.alloc hb5.size _
          have kp : SX W5 w5.heap.size pl ph := by rw [hW5]; exact SX.new _ _ _
          have HG := Lib.hid (And.intro hb5' (And.intro kp hW5))
          have HGP := Lib.hid hb5.size
          clear xa0 xa1 xb0 xb1 hb5 hb5' kp hW5
          have yc0 := (HF.out.2.2.2.1.call HG.out.1).c0
          have yc1 := (HF.out.2.2.2.1.call HG.out.1).c1
          have yd0 := (HF.out.2.2.2.2.call HG.out.1).c0
          have yd1 := (HF.out.2.2.2.2.call HG.out.1).c1
          rw [HG.out.2.2] at yc0 yc1 yd0 yd1
          go_wp2_with fail
          rw [← HG.out.2.2]
          refine (HP1.out.2.1 _).mono ?_
          rintro en w6 ⟨rfl, hb6⟩
          obtain ⟨W6, hW6⟩ : ∃ W6, W6 = w6.alloc (.cells #[.int .i64 ql, .int .i64 qh] 23) := ⟨_, rfl⟩
          have hb6' : Below W5.heap.size W5 W6 := by rw [hW6]; exact hb6.alloc hb6.size _
          have kq : SX W6 w6.heap.size ql qh := by rw [hW6]; exact SX.new _ _ _
          have HW1 := Lib.hid (And.intro (HG.out.1.trans (hb6'.mono HG.out.1.size)) (And.intro (HG.out.2.1.call hb6') (And.intro kq hW6)))
          have HGQ := Lib.hid (show w4.heap.size ≤ w6.heap.size ∧ w5.heap.size < w6.heap.size by have := HG.out.1.size; have := hb6.size; have := HG.out.2.1.lt; omega)
          clear hb6 hb6' kq hW6 HG
          go_upto_region 9 with fail
          rw [← HW1.out.2.2.2]
          go_cut [104] from 16 to 263 (fun s wx => s = .bool false ∧ Below w4.heap.size w4 wx ∧ SX wx w5.heap.size pl ph ∧ SX wx w6.heap.size ql qh)
          case first => as_aux_lemma =>
            clear yc0 yc1 yd0 yd1
            rcases HP1.out.2.2 with ⟨rfl, rfl, i1, i2, i3, i4, i5, i6, i7, i8⟩ | rfl
            · have tX : IntKind.i64.wrap (cl + dh) = cl + dh := by rw [IntKind.wrap_i64]; omega
              have zp0 := HW1.out.2.1.c0
              have zp1 := HW1.out.2.1.c1
              have zq0 := HW1.out.2.2.1.c0
              have zq1 := HW1.out.2.2.1.c1
              go_wp2_with fail
              refine (inside_yes ql pl ph i1 i2 _).mono ?_
              rintro en v1 ⟨rfl, hv1⟩
              have hb1 := HW1.out.1.trans (hv1.mono HW1.out.1.size)
              have kp1 := HW1.out.2.1.call hv1
              have kq1 := HW1.out.2.2.1.call hv1
              have H1 := Lib.hid (And.intro hb1 (And.intro kp1 kq1))
              clear zp0 zp1 zq0 zq1 hv1 hb1 kp1 kq1
              have zp0 := H1.out.2.1.c0
              have zp1 := H1.out.2.1.c1
              have zq0 := H1.out.2.2.c0
              have zq1 := H1.out.2.2.c1
              go_wp2_with fail
              refine (inside_yes qh pl ph i3 i4 _).mono ?_
              rintro en v2 ⟨rfl, hv2⟩
              have hb2 := H1.out.1.trans (hv2.mono H1.out.1.size)
              have kp2 := H1.out.2.1.call hv2
              have kq2 := H1.out.2.2.call hv2
              have H2 := Lib.hid (And.intro hb2 (And.intro kp2 kq2))
              clear zp0 zp1 zq0 zq1 hv2 hb2 kp2 kq2
              have zq0 := H2.out.2.2.c0
              have zq1 := H2.out.2.2.c1
              have yc0 := (HF.out.2.2.2.1.call H2.out.1).c0
              have yc1 := (HF.out.2.2.2.1.call H2.out.1).c1
              have yd0 := (HF.out.2.2.2.2.call H2.out.1).c0
              have yd1 := (HF.out.2.2.2.2.call H2.out.1).c1
              go_wp2_with fail
              refine (inside_yes (cl + dh) ql qh i5 i6 _).mono ?_
              rintro en v3 ⟨rfl, hv3⟩
              clear yc0 yc1 yd0 yd1 zq0 zq1
              go_wp2_with fail
              go_meet
              case rel => exact ⟨rfl, H2.out.1.trans (hv3.mono H2.out.1.size), H2.out.2.1.call hv3, H2.out.2.2.call hv3⟩
            · go_wp2_with fail
              go_meet
              case rel => exact ⟨rfl, HW1.out.1, HW1.out.2.1, HW1.out.2.2.1⟩
          case rest =>
            obtain ⟨rfl, hbz, kpz, kqz⟩ := hcut
            obtain ⟨z1, hz1⟩ : ∃ x, x = wc := ⟨_, rfl⟩
            subst hz1
            have HZ1 := Lib.hid (And.intro hbz (And.intro kpz kqz))
            clear hbz kpz kqz HW1 HP1 yc0 yc1 yd0 yd1
            obtain ⟨pl2, ph2, e2, ql2, qh2, g2, hP, hQ, hcs⟩ := two_minus hga hgb hokc hokd c1 c3 d1 d3
            have HP2 := Lib.hid (And.intro hP (And.intro hQ hcs))
            clear hP hQ hcs
            have xa0 := (HF.out.2.1.call HZ1.out.1).c0
            have xa1 := (HF.out.2.1.call HZ1.out.1).c1
            have xb0 := (HF.out.2.2.1.call HZ1.out.1).c0
            have xb1 := (HF.out.2.2.1.call HZ1.out.1).c1
            go_wp2_with fail
            refine (HP2.out.1 _).mono ?_
            rintro en s2 ⟨rfl, hb⟩
            have sp0 := (HZ1.out.2.1.call hb).c0
            have sp1 := (HZ1.out.2.1.call hb).c1
            have spf := (HZ1.out.2.1.call hb).fz
            obtain ⟨S2, hW⟩ : ∃ W, W = (s2.setCell ⟨w5.heap.size, 0, none⟩ (.int .i64 pl2)).setCell ⟨w5.heap.size, 1, none⟩ (.int .i64 ph2) := ⟨_, rfl⟩
            have HS2 := Lib.hid (And.intro (show Below w4.heap.size w4 S2 by rw [hW]; exact ((HZ1.out.1.trans (hb.mono HZ1.out.1.size)).setCell HGP.out _).setCell HGP.out _) (And.intro (show SX S2 w5.heap.size _ _ by rw [hW]; exact (HZ1.out.2.1.call hb).store _ _) (And.intro (show SX S2 w6.heap.size _ _ by rw [hW]; exact ((HZ1.out.2.2.call hb).other (by have := HGQ.out.2; dsimp only; omega)).other (by have := HGQ.out.2; dsimp only; omega)) hW)))
            clear hb hW
            clear xa0 xa1 xb0 xb1
            have yc0 := (HF.out.2.2.2.1.call HS2.out.1).c0
            have yc1 := (HF.out.2.2.2.1.call HS2.out.1).c1
            have yd0 := (HF.out.2.2.2.2.call HS2.out.1).c0
            have yd1 := (HF.out.2.2.2.2.call HS2.out.1).c1
            rw [HS2.out.2.2.2] at yc0 yc1 yd0 yd1
            go_wp2_with fail
            rw [← HS2.out.2.2.2]
            clear sp0 sp1 spf
            refine (HP2.out.2.1 _).mono ?_
            rintro en t2 ⟨rfl, hb⟩
            have sq0 := (HS2.out.2.2.1.call hb).c0
            have sq1 := (HS2.out.2.2.1.call hb).c1
            have sqf := (HS2.out.2.2.1.call hb).fz
            obtain ⟨T2, hW⟩ : ∃ W, W = (t2.setCell ⟨w6.heap.size, 0, none⟩ (.int .i64 ql2)).setCell ⟨w6.heap.size, 1, none⟩ (.int .i64 qh2) := ⟨_, rfl⟩
            have HT2 := Lib.hid (And.intro (show Below w4.heap.size w4 T2 by rw [hW]; exact ((HS2.out.1.trans (hb.mono HS2.out.1.size)).setCell HGQ.out.1 _).setCell HGQ.out.1 _) (And.intro (show SX T2 w5.heap.size _ _ by rw [hW]; exact ((HS2.out.2.1.call hb).other (by have := HGQ.out.2; dsimp only; omega)).other (by have := HGQ.out.2; dsimp only; omega)) (And.intro (show SX T2 w6.heap.size _ _ by rw [hW]; exact (HS2.out.2.2.1.call hb).store _ _) hW)))
            clear hb hW
            have HW2 := HT2
            clear HS2
            go_upto_region 13 with fail
            rw [← HW2.out.2.2.2]
            go_cut [146] from 16 to 263 (fun s wx => s = .bool false ∧ Below w4.heap.size w4 wx ∧ SX wx w5.heap.size pl2 ph2 ∧ SX wx w6.heap.size ql2 qh2)
            case first => as_aux_lemma =>
              clear yc0 yc1 yd0 yd1
              rcases HP2.out.2.2 with ⟨rfl, rfl, i1, i2, i3, i4, i5, i6, i7, i8⟩ | rfl
              · have tX : IntKind.i64.wrap (ch - dh) = ch - dh := by rw [IntKind.wrap_i64]; omega
                have zp0 := HW2.out.2.1.c0
                have zp1 := HW2.out.2.1.c1
                have zq0 := HW2.out.2.2.1.c0
                have zq1 := HW2.out.2.2.1.c1
                go_wp2_with fail
                refine (inside_yes ql2 pl2 ph2 i1 i2 _).mono ?_
                rintro en v1 ⟨rfl, hv1⟩
                have hb1 := HW2.out.1.trans (hv1.mono HW2.out.1.size)
                have kp1 := HW2.out.2.1.call hv1
                have kq1 := HW2.out.2.2.1.call hv1
                have H1 := Lib.hid (And.intro hb1 (And.intro kp1 kq1))
                clear zp0 zp1 zq0 zq1 hv1 hb1 kp1 kq1
                have zp0 := H1.out.2.1.c0
                have zp1 := H1.out.2.1.c1
                have zq0 := H1.out.2.2.c0
                have zq1 := H1.out.2.2.c1
                go_wp2_with fail
                refine (inside_yes qh2 pl2 ph2 i3 i4 _).mono ?_
                rintro en v2 ⟨rfl, hv2⟩
                have hb2 := H1.out.1.trans (hv2.mono H1.out.1.size)
                have kp2 := H1.out.2.1.call hv2
                have kq2 := H1.out.2.2.call hv2
                have H2 := Lib.hid (And.intro hb2 (And.intro kp2 kq2))
                clear zp0 zp1 zq0 zq1 hv2 hb2 kp2 kq2
                have zq0 := H2.out.2.2.c0
                have zq1 := H2.out.2.2.c1
                have yc0 := (HF.out.2.2.2.1.call H2.out.1).c0
                have yc1 := (HF.out.2.2.2.1.call H2.out.1).c1
                have yd0 := (HF.out.2.2.2.2.call H2.out.1).c0
                have yd1 := (HF.out.2.2.2.2.call H2.out.1).c1
                go_wp2_with fail
                refine (inside_yes (ch - dh) ql2 qh2 i5 i6 _).mono ?_
                rintro en v3 ⟨rfl, hv3⟩
                clear yc0 yc1 yd0 yd1 zq0 zq1
                go_wp2_with fail
                go_meet
                case rel => exact ⟨rfl, H2.out.1.trans (hv3.mono H2.out.1.size), H2.out.2.1.call hv3, H2.out.2.2.call hv3⟩
              · go_wp2_with fail
                go_meet
                case rel => exact ⟨rfl, HW2.out.1, HW2.out.2.1, HW2.out.2.2.1⟩
            case rest =>
              obtain ⟨rfl, hbz, kpz, kqz⟩ := hcut
              obtain ⟨z2, hz2⟩ : ∃ x, x = wc := ⟨_, rfl⟩
              subst hz2
              have HZ2 := Lib.hid (And.intro hbz (And.intro kpz kqz))
              clear hbz kpz kqz HW2 HP2 yc0 yc1 yd0 yd1
              obtain ⟨pl3, ph3, e3, ql3, qh3, g3, hP, hQ, hcs⟩ := two_times hga hgb hokc hokd c1 c3 d1 d3
              have HP3 := Lib.hid (And.intro hP (And.intro hQ hcs))
              clear hP hQ hcs
              have xa0 := (HF.out.2.1.call HZ2.out.1).c0
              have xa1 := (HF.out.2.1.call HZ2.out.1).c1
              have xb0 := (HF.out.2.2.1.call HZ2.out.1).c0
              have xb1 := (HF.out.2.2.1.call HZ2.out.1).c1
              go_wp2_with fail
              refine (HP3.out.1 _).mono ?_
              rintro en s3 ⟨rfl, hb⟩
              have sp0 := (HZ2.out.2.1.call hb).c0
              have sp1 := (HZ2.out.2.1.call hb).c1
              have spf := (HZ2.out.2.1.call hb).fz
              obtain ⟨S3, hW⟩ : ∃ W, W = (s3.setCell ⟨w5.heap.size, 0, none⟩ (.int .i64 pl3)).setCell ⟨w5.heap.size, 1, none⟩ (.int .i64 ph3) := ⟨_, rfl⟩
              have HS3 := Lib.hid (And.intro (show Below w4.heap.size w4 S3 by rw [hW]; exact ((HZ2.out.1.trans (hb.mono HZ2.out.1.size)).setCell HGP.out _).setCell HGP.out _) (And.intro (show SX S3 w5.heap.size _ _ by rw [hW]; exact (HZ2.out.2.1.call hb).store _ _) (And.intro (show SX S3 w6.heap.size _ _ by rw [hW]; exact ((HZ2.out.2.2.call hb).other (by have := HGQ.out.2; dsimp only; omega)).other (by have := HGQ.out.2; dsimp only; omega)) hW)))
              clear hb hW
              clear xa0 xa1 xb0 xb1
              have yc0 := (HF.out.2.2.2.1.call HS3.out.1).c0
              have yc1 := (HF.out.2.2.2.1.call HS3.out.1).c1
              have yd0 := (HF.out.2.2.2.2.call HS3.out.1).c0
              have yd1 := (HF.out.2.2.2.2.call HS3.out.1).c1
              rw [HS3.out.2.2.2] at yc0 yc1 yd0 yd1
              go_wp2_with fail
              rw [← HS3.out.2.2.2]
              clear sp0 sp1 spf
              refine (HP3.out.2.1 _).mono ?_
              rintro en t3 ⟨rfl, hb⟩
              have sq0 := (HS3.out.2.2.1.call hb).c0
              have sq1 := (HS3.out.2.2.1.call hb).c1
              have sqf := (HS3.out.2.2.1.call hb).fz
              obtain ⟨T3, hW⟩ : ∃ W, W = (t3.setCell ⟨w6.heap.size, 0, none⟩ (.int .i64 ql3)).setCell ⟨w6.heap.size, 1, none⟩ (.int .i64 qh3) := ⟨_, rfl⟩
              have HT3 := Lib.hid (And.intro (show Below w4.heap.size w4 T3 by rw [hW]; exact ((HS3.out.1.trans (hb.mono HS3.out.1.size)).setCell HGQ.out.1 _).setCell HGQ.out.1 _) (And.intro (show SX T3 w5.heap.size _ _ by rw [hW]; exact ((HS3.out.2.1.call hb).other (by have := HGQ.out.2; dsimp only; omega)).other (by have := HGQ.out.2; dsimp only; omega)) (And.intro (show SX T3 w6.heap.size _ _ by rw [hW]; exact (HS3.out.2.2.1.call hb).store _ _) hW)))
              clear hb hW
              have HW3 := HT3
              clear HS3
              go_upto_region 17 with fail
              rw [← HW3.out.2.2.2]
              go_cut [188] from 16 to 263 (fun s wx => s = .bool false ∧ Below w4.heap.size w4 wx ∧ SX wx w5.heap.size pl3 ph3 ∧ SX wx w6.heap.size ql3 qh3)
              case first => as_aux_lemma =>
                clear yc0 yc1 yd0 yd1
                rcases HP3.out.2.2 with ⟨rfl, rfl, i1, i2, i3, i4, i5, i6, i7, i8⟩ | rfl
                · have tX : IntKind.i64.wrap (cl * dl) = cl * dl := by rw [IntKind.wrap_i64]; omega
                  have zp0 := HW3.out.2.1.c0
                  have zp1 := HW3.out.2.1.c1
                  have zq0 := HW3.out.2.2.1.c0
                  have zq1 := HW3.out.2.2.1.c1
                  go_wp2_with fail
                  refine (inside_yes ql3 pl3 ph3 i1 i2 _).mono ?_
                  rintro en v1 ⟨rfl, hv1⟩
                  have hb1 := HW3.out.1.trans (hv1.mono HW3.out.1.size)
                  have kp1 := HW3.out.2.1.call hv1
                  have kq1 := HW3.out.2.2.1.call hv1
                  have H1 := Lib.hid (And.intro hb1 (And.intro kp1 kq1))
                  clear zp0 zp1 zq0 zq1 hv1 hb1 kp1 kq1
                  have zp0 := H1.out.2.1.c0
                  have zp1 := H1.out.2.1.c1
                  have zq0 := H1.out.2.2.c0
                  have zq1 := H1.out.2.2.c1
                  go_wp2_with fail
                  refine (inside_yes qh3 pl3 ph3 i3 i4 _).mono ?_
                  rintro en v2 ⟨rfl, hv2⟩
                  have hb2 := H1.out.1.trans (hv2.mono H1.out.1.size)
                  have kp2 := H1.out.2.1.call hv2
                  have kq2 := H1.out.2.2.call hv2
                  have H2 := Lib.hid (And.intro hb2 (And.intro kp2 kq2))
                  clear zp0 zp1 zq0 zq1 hv2 hb2 kp2 kq2
                  have zq0 := H2.out.2.2.c0
                  have zq1 := H2.out.2.2.c1
                  have yc0 := (HF.out.2.2.2.1.call H2.out.1).c0
                  have yc1 := (HF.out.2.2.2.1.call H2.out.1).c1
                  have yd0 := (HF.out.2.2.2.2.call H2.out.1).c0
                  have yd1 := (HF.out.2.2.2.2.call H2.out.1).c1
                  go_wp2_with fail
                  refine (inside_yes (cl * dl) ql3 qh3 i5 i6 _).mono ?_
                  rintro en v3 ⟨rfl, hv3⟩
                  clear yc0 yc1 yd0 yd1 zq0 zq1
                  go_wp2_with fail
                  go_meet
                  case rel => exact ⟨rfl, H2.out.1.trans (hv3.mono H2.out.1.size), H2.out.2.1.call hv3, H2.out.2.2.call hv3⟩
                · go_wp2_with fail
                  go_meet
                  case rel => exact ⟨rfl, HW3.out.1, HW3.out.2.1, HW3.out.2.2.1⟩
              case rest =>
                obtain ⟨rfl, hbz, kpz, kqz⟩ := hcut
                obtain ⟨z3, hz3⟩ : ∃ x, x = wc := ⟨_, rfl⟩
                subst hz3
                have HZ3 := Lib.hid (And.intro hbz (And.intro kpz kqz))
                clear hbz kpz kqz HW3 HP3 yc0 yc1 yd0 yd1
                have hq1 := Int.tmod_nonneg 1000 hi.1
                have hq2 := Int.tmod_lt_of_pos i (show (0 : Int) < 1000 by omega)
                obtain ⟨q, hq⟩ : ∃ q, Int.tmod i 1000 = q := ⟨_, rfl⟩
                rw [hq] at hq1 hq2
                obtain ⟨N, hN⟩ : ∃ N, 1 + q = N := ⟨_, rfl⟩
                have hN1 : 1 ≤ N := by omega
                have hN2 : N ≤ 1000 := by omega
                have hO := two_over c2 c1 c3 hN1
                have bq1 := ediv_room hN1 hokc.1 (by have := hokc.2; omega)
                have bq2 : -1152921504606846976 ≤ -(-ch / N) ∧ -(-ch / N) ≤ 1152921504606846976 := by have := ediv_room (x := -ch) hN1 (by have := hokc.2; omega) (by have := hokc.1; have := hokc.2; omega); omega
                have hP := fun w => over_ok al ah N hga hN1 (by omega) w
                have hQ := fun w => over_ok cl ch N hokc hN1 (by omega) w
                obtain ⟨pl4, e1⟩ : ∃ x, al / N = x := ⟨_, rfl⟩
                obtain ⟨ph4, e2⟩ : ∃ x, -(-ah / N) = x := ⟨_, rfl⟩
                obtain ⟨ql4, e3⟩ : ∃ x, cl / N = x := ⟨_, rfl⟩
                obtain ⟨qh4, e4⟩ : ∃ x, -(-ch / N) = x := ⟨_, rfl⟩
                rw [e1, e2, e3, e4] at hO
                rw [e3] at bq1
                rw [e4] at bq2
                rw [e1, e2] at hP
                rw [e3, e4] at hQ
                have HP4 := Lib.hid (And.intro hP (And.intro hQ hO))
                have tw1 : IntKind.u32.wrap q = q := by rw [IntKind.wrap_u32]; omega
                have tw2 : IntKind.i64.wrap q = q := by rw [IntKind.wrap_i64]; omega
                have tw3 : IntKind.i64.wrap (1 + q) = 1 + q := by rw [IntKind.wrap_i64]; omega
                clear hP hQ hO e1 e2 e3 e4
                have xa0 := (HF.out.2.1.call HZ3.out.1).c0
                have xa1 := (HF.out.2.1.call HZ3.out.1).c1
                go_wp2_with fail
                refine (HP4.out.1 _).mono ?_
                rintro en s4 ⟨rfl, hb⟩
                have sp0 := (HZ3.out.2.1.call hb).c0
                have sp1 := (HZ3.out.2.1.call hb).c1
                have spf := (HZ3.out.2.1.call hb).fz
                obtain ⟨S4, hW⟩ : ∃ W, W = (s4.setCell ⟨w5.heap.size, 0, none⟩ (.int .i64 pl4)).setCell ⟨w5.heap.size, 1, none⟩ (.int .i64 ph4) := ⟨_, rfl⟩
                have HS4 := Lib.hid (And.intro (show Below w4.heap.size w4 S4 by rw [hW]; exact ((HZ3.out.1.trans (hb.mono HZ3.out.1.size)).setCell HGP.out _).setCell HGP.out _) (And.intro (show SX S4 w5.heap.size _ _ by rw [hW]; exact (HZ3.out.2.1.call hb).store _ _) (And.intro (show SX S4 w6.heap.size _ _ by rw [hW]; exact ((HZ3.out.2.2.call hb).other (by have := HGQ.out.2; dsimp only; omega)).other (by have := HGQ.out.2; dsimp only; omega)) hW)))
                clear hb hW
                clear xa0 xa1
                have yc0 := (HF.out.2.2.2.1.call HS4.out.1).c0
                have yc1 := (HF.out.2.2.2.1.call HS4.out.1).c1
                rw [HS4.out.2.2.2] at yc0 yc1
                go_wp2_with fail
                rw [← HS4.out.2.2.2]
                clear sp0 sp1 spf
                refine (HP4.out.2.1 _).mono ?_
                rintro en t4 ⟨rfl, hb⟩
                have sq0 := (HS4.out.2.2.1.call hb).c0
                have sq1 := (HS4.out.2.2.1.call hb).c1
                have sqf := (HS4.out.2.2.1.call hb).fz
                obtain ⟨T4, hW⟩ : ∃ W, W = (t4.setCell ⟨w6.heap.size, 0, none⟩ (.int .i64 ql4)).setCell ⟨w6.heap.size, 1, none⟩ (.int .i64 qh4) := ⟨_, rfl⟩
                have HT4 := Lib.hid (And.intro (show Below w4.heap.size w4 T4 by rw [hW]; exact ((HS4.out.1.trans (hb.mono HS4.out.1.size)).setCell HGQ.out.1 _).setCell HGQ.out.1 _) (And.intro (show SX T4 w5.heap.size _ _ by rw [hW]; exact ((HS4.out.2.1.call hb).other (by have := HGQ.out.2; dsimp only; omega)).other (by have := HGQ.out.2; dsimp only; omega)) (And.intro (show SX T4 w6.heap.size _ _ by rw [hW]; exact (HS4.out.2.2.1.call hb).store _ _) hW)))
                clear hb hW
                clear HS4 yc0 yc1
                go_upto_region 22 with fail
                rw [← HT4.out.2.2.2]
                clear sq0 sq1 sqf tw1 tw2 tw3 hq hN hq1 hq2
                obtain ⟨i1, i2, i3, i4, i5, i6, i7, i8⟩ := HP4.out.2.2
                have bc := hokc
                unfold okS at bc
                have m1 : (ql4 + 1) * N = ql4 * N + N := by rw [Int.add_mul, Int.one_mul]
                have m2 : (qh4 - 1) * N = qh4 * N - N := by rw [Int.sub_mul, Int.one_mul]
                have r1 : IntKind.i64.wrap (ql4 * N) = ql4 * N := by rw [IntKind.wrap_i64]; omega
                have r2 : IntKind.i64.wrap (qh4 * N) = qh4 * N := by rw [IntKind.wrap_i64]; omega
                have r3 : IntKind.i64.wrap (ql4 + 1) = ql4 + 1 := by rw [IntKind.wrap_i64]; omega
                have r4 : IntKind.i64.wrap (qh4 - 1) = qh4 - 1 := by rw [IntKind.wrap_i64]; omega
                have r5 : IntKind.i64.wrap ((ql4 + 1) * N) = (ql4 + 1) * N := by rw [IntKind.wrap_i64]; omega
                have r6 : IntKind.i64.wrap ((qh4 - 1) * N) = (qh4 - 1) * N := by rw [IntKind.wrap_i64]; omega
                clear m1 m2
                have zp0 := HT4.out.2.1.c0
                have zp1 := HT4.out.2.1.c1
                have zq0 := HT4.out.2.2.1.c0
                have zq1 := HT4.out.2.2.1.c1
                go_wp2_with fail
                refine (inside_yes ql4 pl4 ph4 i1 i2 _).mono ?_
                rintro en v1 ⟨rfl, hv1⟩
                have H1 := Lib.hid (And.intro (HT4.out.1.trans (hv1.mono HT4.out.1.size)) (And.intro (HT4.out.2.1.call hv1) (HT4.out.2.2.1.call hv1)))
                clear zp0 zp1 zq0 zq1 hv1
                have zp0 := H1.out.2.1.c0
                have zp1 := H1.out.2.1.c1
                have zq0 := H1.out.2.2.c0
                have zq1 := H1.out.2.2.c1
                go_wp2_with fail
                refine (inside_yes qh4 pl4 ph4 i3 i4 _).mono ?_
                rintro en v2 ⟨rfl, hv2⟩
                have H2 := Lib.hid (And.intro (H1.out.1.trans (hv2.mono H1.out.1.size)) (H1.out.2.2.call hv2))
                clear zp0 zp1 zq0 zq1 hv2
                have zq0 := H2.out.2.c0
                have zq1 := H2.out.2.c1
                have yc0 := (HF.out.2.2.2.1.call H2.out.1).c0
                have yc1 := (HF.out.2.2.2.1.call H2.out.1).c1
                go_wp2_with fail
                refine (first_any _).mono ?_
                rintro e w6 ⟨rfl, hb6⟩
                go_wp2
                go_ret
                exact ⟨rfl, HF.out.1.trans ((H2.out.1.trans (hb6.mono H2.out.1.size)).mono HF.out.1.size)⟩
      · have hno := hgb
        go_wp2_with fail
        refine (good_no bl bh hno _).mono ?_
        rintro en w2 ⟨rfl, hb3⟩
        have HC := Lib.hid (And.intro (HB.out.1.trans (hb3.mono HB.out.1.size)) (And.intro (HB.out.2.1.call hb3) (HB.out.2.2.call hb3)))
        clear xb0 xb1 HB hb3
        have xa0 := HC.out.2.1.c0
        have xa1 := HC.out.2.1.c1
        go_wp2_with fail
        refine (valid_yes al ah hga _).mono ?_
        rintro en w3 ⟨rfl, hb3⟩
        have HD := Lib.hid (And.intro (HC.out.1.trans (hb3.mono HC.out.1.size)) (HC.out.2.2.call hb3))
        clear xa0 xa1 HC hb3
        have xb0 := HD.out.2.c0
        have xb1 := HD.out.2.c1
        go_wp2_with fail
        refine (valid_no bl bh hno _).mono ?_
        rintro en w4 ⟨rfl, hb4⟩
        have HE := Lib.hid (HD.out.1.trans (hb4.mono HD.out.1.size))
        clear xb0 xb1 HD hb4
        go_wp2_with fail
        refine (first_any _).mono ?_
        rintro e w6 ⟨rfl, hb6⟩
        go_wp2
        go_ret
        exact ⟨rfl, HE.out.trans (hb6.mono HE.out.size)⟩
    · have hno := hga
      have xa0 := ka.c0
      have xa1 := ka.c1
      have HA := Lib.hid (And.intro hb1 ka)
      clear hb1 ka kb
      go_wp2_with fail
      refine (good_no al ah hno _).mono ?_
      rintro en w1 ⟨rfl, hb2⟩
      have HB := Lib.hid (And.intro (HA.out.1.trans (hb2.mono HA.out.1.size)) (HA.out.2.call hb2))
      clear xa0 xa1 HA hb2
      have xa0 := HB.out.2.c0
      have xa1 := HB.out.2.c1
      go_wp2_with fail
      refine (valid_no al ah hno _).mono ?_
      rintro en w2 ⟨rfl, hb3⟩
      have HC := Lib.hid (HB.out.1.trans (hb3.mono HB.out.1.size))
      clear xa0 xa1 HB hb3
      go_wp2_with fail
      refine (first_any _).mono ?_
      rintro e w6 ⟨rfl, hb6⟩
      go_wp2
      go_ret
      exact ⟨rfl, HC.out.trans (hb6.mono HC.out.size)⟩
set_option maxRecDepth 100000 in
theorem lifted (os : Os) (started : os.Started) (H : Type) (enc : TypeId × Value → H) :
    ReturnsInHanded {} Try.checked os 3 .any (Rows.exactContainsSpec.pre6 enc Try.prog Try.f3 Rows.exactContainsRow.domain false) (Rows.exactContainsSpec.post enc Try.prog Try.f3 false true false false) := by
  refine returnsInHanded_of_change (C := Try.checked) ownTry started (by kernel_rfl) Try.func3
    (ChangeSpec.witness6 (enc := enc) (C := Try.checked) false ⟨#[], #[.agg #[.int .i64 0, .int .i64 0, .int .i64 0, .int .i64 0, .int .u32 0, .int .u32 0, .int .u32 0, .int .u32 0]], []⟩ 8 (by kernel_rfl) (by kernel_rfl) (by kernel_rfl) (by kernel_rfl)) ?_
  intro W base args ds gs before hval0 hW hcnd _
  have hval : ∀ (j : Nat) t v, Try.f3.params[j]? = some t → args[j]? = some v → Value.okWide Try.prog W .any base t v := hval0
  have hW' := hW
  obtain ⟨p, q, hA0, hV, rfl, hfz, hnd⟩ := hW
  have hA : DataW.TrodAll enc Try.prog W 0 (fun _ => true) true Try.f3.params.toList args.toList ds p := hA0
  rw [Try.params3] at hA hval
  obtain ⟨v0, d0, rfl, rfl, h0⟩ := trodAll_one hA
  obtain ⟨rfl, rfl⟩ := trodVars_none hV
  obtain ⟨al, ah, bl, bh, i, j, k, l, hi, hj, hk, hl, rfl⟩ := open_parts (hval 0 26 v0 rfl rfl) h0
  clear hA0 hval0
  refine (walk al ah bl bh i j k l hi hj hk hl W).mono fun e W' ⟨he, hg⟩ => ?_
  subst he
  exact ⟨_, rfl, post_reads laidOut (by kernel_rfl) hW' rfl (fun _ _ _ => trodAll_mk1 (shut_bool Try.underlying4 _)) (fun _ => rfl) rfl hg (ok_one (by kernel_rfl) rfl (okWide_bool_mk Try.underlying4 _))⟩

theorem over : Rows.exactContainsRow.holds Try.pinned (OpenSpec.ofChange Rows.exactContainsSpec) :=
  OpenClaim.holds_of_wide 3 Try.f3 rfl rfl rfl rfl rfl rfl rfl ⟨rfl, rfl, rfl, rfl, rfl⟩ rfl rfl rfl rfl rfl (by kernel_rfl) Try.func3 (by kernel_rfl)
    (of_decide_eq_true (by kernel_rfl)) (by unfold Func.isWrapper; first | (rw [if_pos (by decide +kernel)]; kernel_rfl) | (rw [if_neg (by decide +kernel)]; exact ⟨rfl, rfl⟩))
    (fun os started H enc _ => lifted os started H enc)

theorem proved : Rows.ExactContainsSaid := over
end Go.Proofs.Ytogklhbodaghdaa.exactContains
