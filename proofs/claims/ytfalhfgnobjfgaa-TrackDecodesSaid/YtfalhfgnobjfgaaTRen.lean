/-
  The document's Encode of a record.
-/
import Derived.Test.YtfalhfgnobjfgaaTReb
import Derived.Deep.CutRange
import Derived.BigQuiet
namespace Go.Proofs.Ytfalhfgnobjfgaa
open Go.RowKit Go.Maps
attribute [local go_sem ↓] eqFixZ eqSyncZ


theorem hp_new (w : World) (o : Obj) (k : Nat) (hk : k = w.heap.size) : (w.alloc o).heap[k]? = some o := by subst hk; exact heap_alloc_new w o
theorem hp_old {w : World} (o : Obj) {k : Nat} {x : Obj} (h : w.heap[k]? = some x) : (w.alloc o).heap[k]? = some x := (Below.heap_alloc w o k (Array.getElem?_eq_some_iff.1 h).1).trans h
theorem rbk {w : World} {x g : Nat} {T : TypeId} {fr : Nat × Nat} (h : w.heap[g]? = some (.cells #[.int .u8 (x : Int)] T fr)) : RB w w.heap.size (.slice (some ⟨g, 0, none⟩) 1 1) [x] := by
  refine ⟨RW.mk rfl (Nat.le_refl _) (by simp [maxLen]) (fun _ => ⟨g, 0, rfl, (Array.getElem?_eq_some_iff.1 h).1, fun j hj => ?_⟩), nz_some⟩
  obtain rfl : j = 0 := by omega
  exact cell_of_row _ g 0 _ _ _ h
theorem ibk {w : World} {g k : Nat} {cs : Array Value} {T : TypeId} {zs : Nat → Int} (h : w.heap[g]? = some (.cells cs T (0, 0))) (hz : ∀ j, j < k → cs[j]? = some (.int .i64 (zs j))) : IntB w g k zs := ⟨cs, T, h, hz⟩
theorem RB.al {w : World} {v : Value} {X : List Nat} (h : RB w w.heap.size v X) (o : Obj) : RB (w.alloc o) (w.alloc o).heap.size v X := (h.alloc (Nat.le_refl _) o).more (by simp)

set_option maxRecDepth 100000 in
set_option maxHeartbeats 2000000 in
theorem renc_sync (t x y z e a b c d tl sc nv er : Int) (w : World) (h : recE true t x y z e a b c d tl sc nv er = 0) :
    Calls Try.prog 6 #[.agg #[.bool true, .int .i64 t, .int .i64 x, .int .i64 y, .int .i64 z, .int .i64 e, .int .i64 a, .int .i64 b, .int .i64 c, .int .i64 d, .int .i64 tl, .int .i64 sc, .int .i64 nv, .int .i64 er]] w (RetRen w 0 (encL true t x y z e a b c d tl sc nv er)) := by
  obtain ⟨W0, HW0, hw0, HG, z0⟩ := N0ex w true t x y z e a b c d tl sc nv er
  obtain ⟨⟨k0, k1, k2, k3, k4, k5, k6⟩, k7, k8, k9, k10, k11, k12, k13⟩ := nv_blk HG.out (Below.refl _ _)
  have hok : okSync sc nv er := by
    apply Classical.byContradiction
    intro hn
    simp [recE, hn] at h
  have hz : fixZ t x y z e a b c d tl := by
    apply Classical.byContradiction
    intro hn
    simp [recE, hn, hok] at h
  have HV := Lib.hid (refValidSync_any sc nv er W0)
  rw [decide_eq_true hok] at HV
  obtain ⟨g1, g2, g3⟩ := sync_ok hok
  have HOK := Lib.hid (And.intro g1 (And.intro g2 g3))
  have hzd := decide_eq_true hz
  clear h hok hz g1 g2 g3
  go_enter Try.func6, Try.ntmps6
  go_wp2_with fail
  rw [← HW0.out]
  go_wp2_with fail
  refine HV.out.mono ?_
  rintro e1 w1 ⟨rfl, b1⟩
  obtain ⟨⟨k0', k1', k2', k3', k4', k5', k6'⟩, k7', k8', k9', k10', k11', k12', k13'⟩ := nv_blk HG.out b1
  have hzl : w.heap.size < w1.heap.size := Nat.lt_of_lt_of_le z0 b1.size
  have k11a := fun o => (World.cell?_alloc_lt w1 o ⟨w.heap.size, 11, none⟩ hzl).trans k11'
  have k12a := fun o => (World.cell?_alloc_lt w1 o ⟨w.heap.size, 12, none⟩ hzl).trans k12'
  have k13a := fun o => (World.cell?_alloc_lt w1 o ⟨w.heap.size, 13, none⟩ hzl).trans k13'
  have HB1 := Lib.hid (hw0.trans (b1.mono hw0.size))
  clear k0 k1 k2 k3 k4 k5 k6 k7 k8 k9 k10 k11 k12 k13 b1
  go_wp2_with fail
  refine (lnumbers_any _ 1 1 _ 3 (syncN sc nv er) [1] _ (rbk (hp_old _ (hp_new _ _ _ rfl))) (ibk (hp_new _ _ _ (by simp)) (by intro j hj; match j, hj with | 0, _ => rfl | 1, _ => rfl | 2, _ => rfl)) (by intro j hj; match j, hj with | 0, _ => exact HOK.out.1 | 1, _ => exact HOK.out.2.1 | 2, _ => exact HOK.out.2.2) (by simp) (by omega)).mono ?_
  rintro e2 w2 ⟨v2, rfl, hv2, b2⟩
  have HR := Lib.hid (And.intro hv2 (HB1.out.trans ((((Below.refl _ _).alloc (Nat.le_refl _) _).alloc (by simp) _).trans (b2.mono (by simp; omega)) |>.mono HB1.out.size)))
  clear hv2 b2
  go_wp2
  go_ret2
  exact ⟨_, rfl, HR.out.1, HR.out.2⟩

/-- The copy of the fix. -/
theorem fx_blk {W0 w1 : World} {g : Nat} {t x y z e a b c d tl : Value} {T : TypeId} (h : W0.heap[g]? = some (.cells #[t, x, y, z, e, a, b, c, d, tl] T (0, 0))) (hb : Below W0.heap.size W0 w1) :
    (w1.cell? ⟨g, 0, none⟩ = some t ∧ w1.cell? ⟨g, 1, none⟩ = some x ∧ w1.cell? ⟨g, 2, none⟩ = some y ∧ w1.cell? ⟨g, 3, none⟩ = some z ∧ w1.cell? ⟨g, 4, none⟩ = some e) ∧
    (w1.cell? ⟨g, 5, none⟩ = some a ∧ w1.cell? ⟨g, 6, none⟩ = some b ∧ w1.cell? ⟨g, 7, none⟩ = some c ∧ w1.cell? ⟨g, 8, none⟩ = some d ∧ w1.cell? ⟨g, 9, none⟩ = some tl) := by
  have h1 := (hb.block g (Array.getElem?_eq_some_iff.1 h).1).trans h
  exact ⟨⟨cell_of_row _ _ _ _ _ _ h1, cell_of_row _ _ _ _ _ _ h1, cell_of_row _ _ _ _ _ _ h1, cell_of_row _ _ _ _ _ _ h1, cell_of_row _ _ _ _ _ _ h1⟩, cell_of_row _ _ _ _ _ _ h1, cell_of_row _ _ _ _ _ _ h1, cell_of_row _ _ _ _ _ _ h1, cell_of_row _ _ _ _ _ _ h1, cell_of_row _ _ _ _ _ _ h1⟩

set_option maxRecDepth 100000 in
set_option maxHeartbeats 8000000 in
theorem renc_fix (t x y z e a b c d tl sc nv er : Int) (w : World) (h : recE false t x y z e a b c d tl sc nv er = 0) :
    Calls Try.prog 6 #[.agg #[.bool false, .int .i64 t, .int .i64 x, .int .i64 y, .int .i64 z, .int .i64 e, .int .i64 a, .int .i64 b, .int .i64 c, .int .i64 d, .int .i64 tl, .int .i64 sc, .int .i64 nv, .int .i64 er]] w (RetRen w 0 (encL false t x y z e a b c d tl sc nv er)) := by
  obtain ⟨W0, HW0, hw0, HG, z0⟩ := N0ex w false t x y z e a b c d tl sc nv er
  obtain ⟨⟨k0, k1, k2, k3, k4, k5, k6⟩, k7, k8, k9, k10, k11, k12, k13⟩ := nv_blk HG.out (Below.refl _ _)
  have hok : okFix t x y z e a b c d tl := by
    apply Classical.byContradiction
    intro hn
    simp [recE, hn] at h
  have hz : syncZ sc nv er := by
    apply Classical.byContradiction
    intro hn
    simp [recE, hn, hok] at h
  obtain ⟨W1, HW1, hw1, HG1, z1⟩ : ∃ W1, Hid (W1 = W0.alloc (.cells #[.int .i64 t, .int .i64 x, .int .i64 y, .int .i64 z, .int .i64 e, .int .i64 a, .int .i64 b, .int .i64 c, .int .i64 d, .int .i64 tl] 25)) ∧ Below W0.heap.size W0 W1 ∧ Hid (W1.heap[W0.heap.size]? = some (.cells #[.int .i64 t, .int .i64 x, .int .i64 y, .int .i64 z, .int .i64 e, .int .i64 a, .int .i64 b, .int .i64 c, .int .i64 d, .int .i64 tl] 25 (0, 0))) ∧ W0.heap.size < W1.heap.size :=
    ⟨_, rfl, (Below.refl _ _).alloc (Nat.le_refl _) _, heap_alloc_new W0 _, by simp⟩
  obtain ⟨⟨f0, f1, f2, f3, f4⟩, f5, f6, f7, f8, f9⟩ := fx_blk HG1.out (Below.refl _ _)
  have HV := Lib.hid (refValidFix_any t x y z e a b c d tl W1)
  rw [decide_eq_true hok] at HV
  have HOK := Lib.hid (fix_ok hok)
  have hzd := decide_eq_true hz
  clear h hok hz
  go_enter Try.func6, Try.ntmps6
  go_wp2_with fail
  rw [← HW0.out]
  go_wp2_with fail
  rw [← HW1.out]
  refine HV.out.mono ?_
  rintro e1 w1 ⟨rfl, b1⟩
  obtain ⟨⟨k0', k1', k2', k3', k4', k5', k6'⟩, k7', k8', k9', k10', k11', k12', k13'⟩ := nv_blk HG.out (hw1.trans (b1.mono hw1.size))
  have HGx := Lib.hid ((b1.block W0.heap.size z1).trans HG1.out)
  have HB1 := Lib.hid (hw0.trans ((hw1.trans (b1.mono hw1.size)).mono hw0.size))
  have hs0 : W0.heap.size = w.heap.size + 1 := by rw [HW0.out]; simp
  rw [hs0] at HGx
  obtain ⟨gf, hgf⟩ : ∃ gf, gf = w.heap.size + 1 := ⟨_, rfl⟩
  rw [← hgf] at HGx
  clear k0 k1 k2 k3 k4 k5 k6 k7 k8 k9 k10 k11 k12 k13 b1 f0 f1 f2 f3 f4 f5 f6 f7 f8 f9 k1' k2' k3' k4' k5' k6' k7' k8' k9' k10'
  have HGF := Lib.hid hgf
  rw [← hgf]
  clear hgf
  go_upto_region 12 with fail
  clear k0' k11' k12' k13'
  have HL0 := Lib.hid (show ([0] : List Nat).length ≤ 1 from Nat.le_refl _)
  obtain ⟨M1, hM1⟩ : ∃ M1, M1 = ([0] : List Nat) ++ encs false (oneN t) 1 := ⟨_, rfl⟩
  have HM1 := Lib.hid hM1
  have HL1 := Lib.hid (show M1.length ≤ 37 from by have h1 := HL0.out; have h2 := encs_len (sg := false) (zs := (oneN t)) 1 (by intro j hj; match j, hj with | 0, _ => exact HOK.out.1); rw [hM1, List.length_append]; omega)
  clear hM1
  obtain ⟨M2, hM2⟩ : ∃ M2, M2 = M1 ++ encs true (posN x y z) 3 := ⟨_, rfl⟩
  have HM2 := Lib.hid hM2
  have HL2 := Lib.hid (show M2.length ≤ 73 from by have h1 := HL1.out; have h2 := encs_len (sg := true) (zs := (posN x y z)) 3 (by intro j hj; match j, hj with | 0, _ => exact HOK.out.2.1.1 | 1, _ => exact HOK.out.2.1.2.1 | 2, _ => exact HOK.out.2.1.2.2); rw [hM2, List.length_append]; omega)
  clear hM2
  obtain ⟨M3, hM3⟩ : ∃ M3, M3 = M2 ++ encs false (oneN e) 1 := ⟨_, rfl⟩
  have HM3 := Lib.hid hM3
  have HL3 := Lib.hid (show M3.length ≤ 109 from by have h1 := HL2.out; have h2 := encs_len (sg := false) (zs := (oneN e)) 1 (by intro j hj; match j, hj with | 0, _ => exact HOK.out.2.2.1); rw [hM3, List.length_append]; omega)
  clear hM3
  obtain ⟨M4, hM4⟩ : ∃ M4, M4 = M3 ++ encs true (quatN a b c d) 4 := ⟨_, rfl⟩
  have HM4 := Lib.hid hM4
  have HL4 := Lib.hid (show M4.length ≤ 145 from by have h1 := HL3.out; have h2 := encs_len (sg := true) (zs := (quatN a b c d)) 4 (by intro j hj; match j, hj with | 0, _ => exact HOK.out.2.2.2.1.1 | 1, _ => exact HOK.out.2.2.2.1.2.1 | 2, _ => exact HOK.out.2.2.2.1.2.2.1 | 3, _ => exact HOK.out.2.2.2.1.2.2.2); rw [hM4, List.length_append]; omega)
  clear hM4
  obtain ⟨M5, hM5⟩ : ∃ M5, M5 = M4 ++ encs false (oneN tl) 1 := ⟨_, rfl⟩
  have HM5 := Lib.hid hM5
  have HL5 := Lib.hid (show M5.length ≤ 181 from by have h1 := HL4.out; have h2 := encs_len (sg := false) (zs := (oneN tl)) 1 (by intro j hj; match j, hj with | 0, _ => exact HOK.out.2.2.2.2); rw [hM5, List.length_append]; omega)
  clear hM5
  have KK := Lib.hid (fun (w' : World) (hb : Below w1.heap.size w1 w') => (⟨(fx_blk HGx.out hb).1.1, (fx_blk HGx.out hb).1.2.1, (fx_blk HGx.out hb).1.2.2.1, (fx_blk HGx.out hb).1.2.2.2.1⟩ : w'.cell? ⟨gf, 0, none⟩ = some (.int .i64 t) ∧ w'.cell? ⟨gf, 1, none⟩ = some (.int .i64 x) ∧ w'.cell? ⟨gf, 2, none⟩ = some (.int .i64 y) ∧ w'.cell? ⟨gf, 3, none⟩ = some (.int .i64 z)))
  go_cut [5] from 6 to 76 (fun s5 wx => ∃ A c, s5 = .slice A M2.length c ∧ RB wx wx.heap.size (.slice A M2.length c) M2 ∧ Below w1.heap.size w1 wx)
  case first => as_aux_lemma =>
    obtain ⟨p0, p1, p2, p3⟩ := KK.out _ (Below.refl _ _)
    go_region_held3 (fun w' => w'.cell? ⟨gf, 0, none⟩ = some (.int .i64 t) ∧ w'.cell? ⟨gf, 1, none⟩ = some (.int .i64 x) ∧ w'.cell? ⟨gf, 2, none⟩ = some (.int .i64 y) ∧ w'.cell? ⟨gf, 3, none⟩ = some (.int .i64 z))
      (first
        | (refine KK.out _ ?_
           repeat (first
             | (with_reducible refine Below.drew ?_)
             | (with_reducible refine Below.alloc ?_ (by first | exact Nat.le_refl _ | (simp; done) | (simp; omega) | exact hb3.size | (have := hb3.size; simp; omega)) _))
           with_reducible first | exact hb3 | exact hb4 | exact Below.refl _ _)
        | go_keep)
      (first
        | (go_at_call 17
           refine (lnumbers_any _ _ _ _ 1 (oneN t) ([0]) _ (rbk (by first | exact hp_new _ _ _ (by simp) | exact hp_old _ (hp_new _ _ _ (by simp)) | exact hp_old _ (hp_old _ (hp_new _ _ _ (by simp))))) (ibk (cs := #[.int .i64 t]) (by first | exact hp_new _ _ _ (by simp) | exact hp_old _ (hp_new _ _ _ (by simp)) | exact hp_old _ (hp_old _ (hp_new _ _ _ (by simp)))) (by intro j hj; match j, hj with | 0, _ => rfl)) (by intro j hj; match j, hj with | 0, _ => exact HOK.out.1) (by have := HL0.out; omega) (by omega)).mono ?_
           rintro e w3 ⟨v3, rfl, hv3, b3⟩
           rw [← HM1.out] at hv3
           obtain ⟨A3, c3, e3⟩ := hv3.form
           subst e3
           have hb3 : Below w1.heap.size w1 w3 := by
             refine Below.trans ?_ (b3.mono (by simp <;> omega))
             repeat (first
               | (with_reducible refine Below.drew ?_)
               | (with_reducible refine Below.alloc ?_ (by first | exact Nat.le_refl _ | (simp; done) | (simp; omega)) _))
             with_reducible exact Below.refl _ _
           have HV3 := Lib.hid (And.intro hv3 b3)
           clear hv3 b3)
        | (go_at_call 19
           refine (lsigned_any _ _ _ _ 3 (posN x y z) M1 _ (by first | exact HV3.out.1 | exact HV3.out.1.al _) (by first | exact ibk (cs := #[.int .i64 x, .int .i64 y, .int .i64 z]) (hp_new _ _ _ rfl) (by intro j hj; match j, hj with | 0, _ => rfl | 1, _ => rfl | 2, _ => rfl) | exact (ibk (cs := #[.int .i64 x, .int .i64 y, .int .i64 z]) (by first | exact hp_new _ _ _ (by simp) | exact hp_old _ (hp_new _ _ _ (by simp)) | exact hp_old _ (hp_old _ (hp_new _ _ _ (by simp)))) (by intro j hj; match j, hj with | 0, _ => rfl | 1, _ => rfl | 2, _ => rfl)).below HV3.out.2) (by intro j hj; match j, hj with | 0, _ => exact HOK.out.2.1.1 | 1, _ => exact HOK.out.2.1.2.1 | 2, _ => exact HOK.out.2.1.2.2) (by have := HL1.out; omega) (by omega)).mono ?_
           rintro e w4 ⟨v4, rfl, hv4, b4⟩
           rw [← HM2.out] at hv4
           obtain ⟨A4, c4, e4⟩ := hv4.form
           subst e4
           have hb4 : Below w1.heap.size w1 w4 := by
             first
             | exact hb3.trans (b4.mono hb3.size)
             | exact (hb3.alloc hb3.size _).trans (b4.mono (by have := hb3.size; simp; omega))
           have HV4 := Lib.hid (And.intro hv4 hb4)
           clear hv4 b4))
    all_goals
      go_wp2_with fail
      go_meet
      case rel => exact ⟨_, _, rfl, HV4.out.1, HV4.out.2⟩
  case rest =>
    obtain ⟨A2, c2, rfl, hr2, hb2⟩ := hcut
    obtain ⟨wx, rfl⟩ : ∃ x, x = wc := ⟨wc, rfl⟩
    have HG2 := Lib.hid ((hb2.block gf (Array.getElem?_eq_some_iff.1 HGx.out).1).trans HGx.out)
    have HR2 := Lib.hid (And.intro hr2 hb2)
    clear hr2 hb2 KK
    go_upto_region 13 with fail
    have KK := Lib.hid (fun (w' : World) (hb : Below wx.heap.size wx w') => (⟨(fx_blk HG2.out hb).1.2.2.2.2, (fx_blk HG2.out hb).2.1, (fx_blk HG2.out hb).2.2.1, (fx_blk HG2.out hb).2.2.2.1, (fx_blk HG2.out hb).2.2.2.2.1⟩ : w'.cell? ⟨gf, 4, none⟩ = some (.int .i64 e) ∧ w'.cell? ⟨gf, 5, none⟩ = some (.int .i64 a) ∧ w'.cell? ⟨gf, 6, none⟩ = some (.int .i64 b) ∧ w'.cell? ⟨gf, 7, none⟩ = some (.int .i64 c) ∧ w'.cell? ⟨gf, 8, none⟩ = some (.int .i64 d)))
    go_cut [5] from 6 to 76 (fun s5 wy => ∃ A c, s5 = .slice A M4.length c ∧ RB wy wy.heap.size (.slice A M4.length c) M4 ∧ Below wx.heap.size wx wy)
    case first => as_aux_lemma =>
      obtain ⟨p0, p1, p2, p3, p4⟩ := KK.out _ (Below.refl _ _)
      have HRd := Lib.hid (show RB wx.drew wx.drew.heap.size (.slice A2 M2.length c2) M2 from ⟨HR2.out.1.1.drew, HR2.out.1.2⟩)
      go_region_held3 (fun w' => w'.cell? ⟨gf, 4, none⟩ = some (.int .i64 e) ∧ w'.cell? ⟨gf, 5, none⟩ = some (.int .i64 a) ∧ w'.cell? ⟨gf, 6, none⟩ = some (.int .i64 b) ∧ w'.cell? ⟨gf, 7, none⟩ = some (.int .i64 c) ∧ w'.cell? ⟨gf, 8, none⟩ = some (.int .i64 d))
        (first
          | (refine KK.out _ ?_
             repeat (first
               | (with_reducible refine Below.drew ?_)
               | (with_reducible refine Below.alloc ?_ (by first | exact Nat.le_refl _ | (simp; done) | (simp; omega) | exact hb3.size | (have := hb3.size; simp; omega)) _))
             with_reducible first | exact hb3 | exact hb4 | exact Below.refl _ _)
          | go_keep)
        (first
          | (go_at_call 17
             refine (lnumbers_any _ _ _ _ 1 (oneN e) (M2) _ (by first | exact HRd.out.al _ | exact (HRd.out.al _).al _) (ibk (cs := #[.int .i64 e]) (by first | exact hp_new _ _ _ (by simp) | exact hp_old _ (hp_new _ _ _ (by simp)) | exact hp_old _ (hp_old _ (hp_new _ _ _ (by simp)))) (by intro j hj; match j, hj with | 0, _ => rfl)) (by intro j hj; match j, hj with | 0, _ => exact HOK.out.2.2.1) (by have := HL2.out; omega) (by omega)).mono ?_
             rintro e w3 ⟨v3, rfl, hv3, b3⟩
             rw [← HM3.out] at hv3
             obtain ⟨A3, c3, e3⟩ := hv3.form
             subst e3
             have hb3 : Below wx.heap.size wx w3 := by
               refine Below.trans ?_ (b3.mono (by simp <;> omega))
               repeat (first
                 | (with_reducible refine Below.drew ?_)
                 | (with_reducible refine Below.alloc ?_ (by first | exact Nat.le_refl _ | (simp; done) | (simp; omega)) _))
               with_reducible exact Below.refl _ _
             have HV3 := Lib.hid (And.intro hv3 b3)
             clear hv3 b3)
          | (go_at_call 19
             refine (lsigned_any _ _ _ _ 4 (quatN a b c d) M3 _ (by first | exact HV3.out.1 | exact HV3.out.1.al _) (by first | exact ibk (cs := #[.int .i64 a, .int .i64 b, .int .i64 c, .int .i64 d]) (hp_new _ _ _ rfl) (by intro j hj; match j, hj with | 0, _ => rfl | 1, _ => rfl | 2, _ => rfl | 3, _ => rfl) | exact (ibk (cs := #[.int .i64 a, .int .i64 b, .int .i64 c, .int .i64 d]) (by first | exact hp_new _ _ _ (by simp) | exact hp_old _ (hp_new _ _ _ (by simp)) | exact hp_old _ (hp_old _ (hp_new _ _ _ (by simp)))) (by intro j hj; match j, hj with | 0, _ => rfl | 1, _ => rfl | 2, _ => rfl | 3, _ => rfl)).below HV3.out.2) (by intro j hj; match j, hj with | 0, _ => exact HOK.out.2.2.2.1.1 | 1, _ => exact HOK.out.2.2.2.1.2.1 | 2, _ => exact HOK.out.2.2.2.1.2.2.1 | 3, _ => exact HOK.out.2.2.2.1.2.2.2) (by have := HL3.out; omega) (by omega)).mono ?_
             rintro e w4 ⟨v4, rfl, hv4, b4⟩
             rw [← HM4.out] at hv4
             obtain ⟨A4, c4, e4⟩ := hv4.form
             subst e4
             have hb4 : Below wx.heap.size wx w4 := by
               first
               | exact hb3.trans (b4.mono hb3.size)
               | exact (hb3.alloc hb3.size _).trans (b4.mono (by have := hb3.size; simp; omega))
             have HV4 := Lib.hid (And.intro hv4 hb4)
             clear hv4 b4))
      all_goals
        go_wp2_with fail
        go_meet
        case rel => exact ⟨_, _, rfl, HV4.out.1, HV4.out.2⟩
    case rest =>
      obtain ⟨A4, c4, rfl, hr4, hb4⟩ := hcut
      obtain ⟨wy, rfl⟩ : ∃ x, x = wc := ⟨wc, rfl⟩
      have HG4 := Lib.hid ((hb4.block gf (Array.getElem?_eq_some_iff.1 HG2.out).1).trans HG2.out)
      have HR4 := Lib.hid (And.intro hr4 (HR2.out.2.trans (hb4.mono HR2.out.2.size)))
      clear hr4 hb4 KK
      go_upto_region 14 with fail
      have KK := Lib.hid (fun (w' : World) (hb : Below wy.heap.size wy w') => ((fx_blk HG4.out hb).2.2.2.2.2 : w'.cell? ⟨gf, 9, none⟩ = some (.int .i64 tl)))
      have k1 := KK.out wy (Below.refl _ _)
      go_wp2_with fail
      refine (lnumbers_any _ _ _ _ 1 (oneN tl) M4 _ (HR4.out.1.al _) (ibk (cs := #[.int .i64 tl]) (hp_new _ _ _ rfl) (by intro j hj; match j, hj with | 0, _ => rfl)) (by intro j hj; match j, hj with | 0, _ => exact HOK.out.2.2.2.2) (by have := HL4.out; omega) (by omega)).mono ?_
      rintro e w5 ⟨v5, rfl, hv5, b5⟩
      rw [← HM5.out] at hv5
      obtain ⟨A5, c5, e5⟩ := hv5.form
      subst e5
      have hb5 : Below wy.heap.size wy w5 := ((Below.refl _ _).alloc (Nat.le_refl _) _).trans (b5.mono (by simp))
      have HV5 := Lib.hid (And.intro hv5 hb5)
      clear hv5 b5 hb5
      all_goals
        have HM := Lib.hid (show M5 = encL false t x y z e a b c d tl sc nv er from by
          rw [HM5.out, HM4.out, HM3.out, HM2.out, HM1.out]
          simp [encL, fixL, List.append_assoc])
        have HBl := Lib.hid (HB1.out.trans ((HR4.out.2.mono HB1.out.size).trans (HV5.out.2.mono (Nat.le_trans HB1.out.size HR4.out.2.size))))
        go_wp2
        go_ret2
        exact ⟨_, rfl, by rw [← HM.out]; exact HV5.out.1, HBl.out⟩

end Go.Proofs.Ytfalhfgnobjfgaa
