/-
  For any two quaternions the law TrackTurns returns true and leaves its arguments as they were: no condition.
-/
import Derived.Test.YtdmopmgabieciaaKAwake
import Derived.Test.YtdmopmgabieciaaKProd
import Derived.Test.YtdmopmgabieciaaKFlat
namespace Go.Proofs.Ytdmopmgabieciaa.trackTurns
open Go.Proofs.Ytdmopmgabieciaa
open Go.ChangeShapes Go.WideShapes Go.ChangeAt Go.RowKit Go.Joins
set_option linter.unusedVariables false
attribute [local go_sem] eqArr4 eqArr3

theorem prod_ex (a b c d e f g h : Int) : ∃ x y z u er, (InB (-1000) 1000 [a, b, c, d] ∧ InB (-1000) 1000 [e, f, g, h] ∧ x = q0 a b c d e f g h ∧ y = q1 a b c d e f g h ∧ z = q2 a b c d e f g h ∧ u = q3 a b c d e f g h ∧ er = 0) ∨
      (¬ (InB (-1000) 1000 [a, b, c, d] ∧ InB (-1000) 1000 [e, f, g, h]) ∧ x = 0 ∧ y = 0 ∧ z = 0 ∧ u = 0 ∧ er = (46 : Int)) := by
  by_cases hh : InB (-1000) 1000 [a, b, c, d] ∧ InB (-1000) 1000 [e, f, g, h]
  · exact ⟨_, _, _, _, _, Or.inl ⟨hh.1, hh.2, rfl, rfl, rfl, rfl, rfl⟩⟩
  · exact ⟨_, _, _, _, _, Or.inr ⟨hh, rfl, rfl, rfl, rfl, rfl⟩⟩
theorem beam_ex (a b c d : Int) : ∃ x y z n er, (∀ w, Calls Try.prog 24 #[.agg #[.int .i64 a, .int .i64 b, .int .i64 c, .int .i64 d]] w (RetBm w x y z n er)) ∧
    (∀ w, Calls Try.prog 25 #[.agg #[.int .i64 a, .int .i64 b, .int .i64 c, .int .i64 d]] w (RetBm w x y z n er)) := by
  by_cases hh : okT a b c d 4000000
  · exact ⟨_, _, _, _, _, fun w => beam_ok a b c d hh w, fun w => refBeam_ok a b c d hh w⟩
  · exact ⟨_, _, _, _, _, fun w => beam_bad a b c d hh w, fun w => refBeam_bad a b c d hh w⟩

theorem four_keep {w1 w2 : World} {g : Nat} {a b c d : Value} (h : w1.cell? ⟨g, 0, none⟩ = some a ∧ w1.cell? ⟨g, 1, none⟩ = some b ∧ w1.cell? ⟨g, 2, none⟩ = some c ∧ w1.cell? ⟨g, 3, none⟩ = some d) (hb : Below w1.heap.size w1 w2) :
    w2.cell? ⟨g, 0, none⟩ = some a ∧ w2.cell? ⟨g, 1, none⟩ = some b ∧ w2.cell? ⟨g, 2, none⟩ = some c ∧ w2.cell? ⟨g, 3, none⟩ = some d := by
  have hg : g < w1.heap.size := World.block_lt_of_cell? _ _ h.1
  exact ⟨(hb.cell (p := ⟨g, 0, none⟩) hg).trans h.1, (hb.cell (p := ⟨g, 1, none⟩) hg).trans h.2.1, (hb.cell (p := ⟨g, 2, none⟩) hg).trans h.2.2.1, (hb.cell (p := ⟨g, 3, none⟩) hg).trans h.2.2.2⟩
theorem three_cells' {W0 w1 : World} {g : Nat} {a b c : Value} {T : TypeId} (hG : W0.heap[g]? = some (.cells #[a, b, c] T (0, 0))) (h : Below W0.heap.size W0 w1) :
    w1.cell? ⟨g, 0, none⟩ = some a ∧ w1.cell? ⟨g, 1, none⟩ = some b ∧ w1.cell? ⟨g, 2, none⟩ = some c :=
  ⟨blk_cell hG h 0 a rfl, blk_cell hG h 1 b rfl, blk_cell hG h 2 c rfl⟩

set_option maxRecDepth 100000 in
set_option maxHeartbeats 4000000 in
theorem walk (a b c d e f g h : Int) (w : World) :
    Calls Try.prog 5 #[.agg #[.int .i64 a, .int .i64 b, .int .i64 c, .int .i64 d], .agg #[.int .i64 e, .int .i64 f, .int .i64 g, .int .i64 h]] w (RetB w true) := by
  obtain ⟨W0, HW0, HW, HG, HG'⟩ := boxes2 w #[.int .i64 a, .int .i64 b, .int .i64 c, .int .i64 d] #[.int .i64 e, .int .i64 f, .int .i64 g, .int .i64 h] 31 31
  obtain ⟨x, y, z, u, er, hp⟩ := prod_ex a b c d e f g h
  obtain ⟨bx, b_y, bz, bn, be, hbm⟩ := beam_ex e f g h
  have HP := Lib.hid hp
  have HB := Lib.hid hbm
  clear hp hbm
  have ee : (er == er) = true := by simp
  have en : (bn == bn) = true := by simp
  have eb : (be == be) = true := by simp
  go_enter Try.func5, Try.ntmps5
  go_wp2_with fail
  rw [← HW0.out]
  refine (product_any a b c d e f g h x y z u er _ HP.out).mono ?_
  rintro en1 w1 ⟨rfl, hb1⟩
  have P1 := four_cells HG.out hb1
  obtain ⟨p0, p1, p2, p3⟩ := P1
  obtain ⟨r0, r1, r2, r3⟩ := four_cells HG'.out hb1
  have HB1 := Lib.hid hb1
  have z1 : w.heap.size < w1.heap.size := by have := hb1.size; have := (Array.getElem?_eq_some_iff.1 HG.out).1; omega
  have z1' : w.heap.size + 1 < w1.heap.size := by have := hb1.size; have := (Array.getElem?_eq_some_iff.1 HG'.out).1; omega
  clear hb1
  go_wp2_with fail
  refine (refProduct_any a b c d e f g h x y z u er _ HP.out).mono ?_
  rintro en1 w2 ⟨rfl, hb2⟩
  have U1 := Lib.hid (four_cells (heap_alloc_new w1 _) hb2)
  have HB2 := Lib.hid (bel_ HB1.out (below_al hb2))
  have z2 : w1.heap.size < w2.heap.size := by have := hb2.size; simp at this; omega
  clear p0 p1 p2 p3 r0 r1 r2 r3 hb2
  obtain ⟨r0, r1, r2, r3⟩ := four_cells HG'.out HB2.out
  have z2' : w.heap.size + 1 < w2.heap.size := by omega
  go_wp2_with fail
  refine (HB.out.1 _).mono ?_
  rintro en1 w3 ⟨rfl, hb3⟩
  have U2 := Lib.hid (four_cells (heap_alloc_new w2 _) hb3)
  have U1' := Lib.hid (fun (w' : World) (h : Below w2.heap.size w2 w') => four_keep U1.out h)
  have HB3 := Lib.hid (bel_ HB2.out (below_al hb3))
  have V3 := Lib.hid (below_al hb3)
  have z3 : w2.heap.size < w3.heap.size := by have := hb3.size; simp at this; omega
  clear r0 r1 r2 r3 hb3
  obtain ⟨r0, r1, r2, r3⟩ := four_cells HG'.out HB3.out
  have z3' : w.heap.size + 1 < w3.heap.size := by omega
  go_wp2_with fail
  refine (HB.out.2 _).mono ?_
  rintro en1 w4 ⟨rfl, hb4⟩
  have U3 := Lib.hid (three_cells' (heap_alloc_new w3 _) hb4)
  have V4 := Lib.hid (bel_ V3.out (below_al hb4))
  have HB4 := Lib.hid (bel_ HB3.out (below_al hb4))
  have z4 : w3.heap.size < w4.heap.size := by have := hb4.size; simp at this; omega
  have W4 := below_al hb4
  obtain ⟨k0, k1, k2, k3⟩ := U1'.out w4 V4.out
  obtain ⟨l0, l1, l2, l3⟩ := four_keep U2.out W4
  obtain ⟨m0, m1, m2⟩ := U3.out
  have z5 : w1.heap.size < w4.heap.size := by omega
  have z6 : w2.heap.size < w4.heap.size := by omega
  clear hb4 W4 r0 r1 r2 r3
  go_wp2_with fail
  refine (awake_any _).mono ?_
  rintro en1 w5 ⟨rfl, hb5⟩
  go_wp2
  go_ret
  exact ⟨rfl, bel_ HW.out (bel_ HB4.out (below_al hb5))⟩

set_option maxRecDepth 100000 in
theorem lifted (os : Os) (started : os.Started) (H : Type) (enc : TypeId × Value → H) :
    ReturnsInHanded {} Try.checked os 5 .any (Rows.trackTurnsSpec.pre6 enc Try.prog Try.f5 Rows.trackTurnsRow.domain false) (Rows.trackTurnsSpec.post enc Try.prog Try.f5 false true false false) := by
  refine returnsInHanded_of_change (C := Try.checked) ownTry started (by kernel_rfl) Try.func5
    (ChangeSpec.witness6 (enc := enc) (C := Try.checked) false ⟨#[], #[.agg #[.int .i64 0, .int .i64 0, .int .i64 0, .int .i64 0], .agg #[.int .i64 0, .int .i64 0, .int .i64 0, .int .i64 0]], []⟩ 8 (by kernel_rfl) (by kernel_rfl) (by kernel_rfl) (by kernel_rfl)) ?_
  intro W base args ds gs before hval0 hW hcnd _
  have hval : ∀ (j : Nat) t v, Try.f5.params[j]? = some t → args[j]? = some v → Value.okWide Try.prog W .any base t v := hval0
  have hW' := hW
  obtain ⟨p, q, hA0, hV, rfl, hfz, hnd⟩ := hW
  have hA : DataW.TrodAll enc Try.prog W 0 (fun _ => true) true Try.f5.params.toList args.toList ds p := hA0
  rw [Try.params5] at hA hval
  obtain ⟨v0, v1, d0, d1, p0, p1, rfl, rfl, rfl, h0, h1⟩ := trodAll_two hA
  obtain ⟨rfl, rfl⟩ := trodVars_none hV
  obtain ⟨L0, _, hl0, rfl⟩ := open_flat (k := 4) (okWide_array Try.underlying31 (hval 0 31 v0 rfl rfl)) (by kernel_rfl) (by kernel_rfl) h0
  obtain ⟨L1, _, hl1, rfl⟩ := open_flat (k := 4) (okWide_array Try.underlying31 (hval 1 31 v1 rfl rfl)) (by kernel_rfl) (by kernel_rfl) h1
  obtain ⟨a, b, c, d, rfl⟩ := list4 hl0
  obtain ⟨e, f, g, h, rfl⟩ := list4 hl1
  clear hA0 hval0
  refine (walk a b c d e f g h W).mono fun e W' ⟨he, hg⟩ => ?_
  subst he
  exact ⟨_, rfl, post_reads laidOut (by kernel_rfl) hW' rfl (fun _ _ _ => trodAll_mk1 (shut_bool Try.underlying4 _)) (fun _ => rfl) rfl hg (ok_one (by kernel_rfl) rfl (okWide_bool_mk Try.underlying4 _))⟩

theorem over : Rows.trackTurnsRow.holds Try.pinned (OpenSpec.ofChange Rows.trackTurnsSpec) :=
  OpenClaim.holds_of_wide 5 Try.f5 rfl rfl rfl rfl rfl rfl rfl ⟨rfl, rfl, rfl, rfl, rfl⟩ rfl rfl rfl rfl rfl (by kernel_rfl) Try.func5 (by kernel_rfl)
    (of_decide_eq_true (by kernel_rfl)) (by unfold Func.isWrapper; first | (rw [if_pos (by decide +kernel)]; kernel_rfl) | (rw [if_neg (by decide +kernel)]; exact ⟨rfl, rfl⟩))
    (fun os started H enc _ => lifted os started H enc)

theorem proved : Rows.TrackTurnsSaid := over
end Go.Proofs.Ytdmopmgabieciaa.trackTurns
