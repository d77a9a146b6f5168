/-
  The document's Encode of a record where it refuses.
-/
import Derived.Test.YtfalhfgnobjfgaaTNum
namespace Go.Proofs.Ytfalhfgnobjfgaa
open Go.RowKit Go.Maps
attribute [local go_sem ↓] eqFixZ eqSyncZ

def RetRen (w : World) (ce : Int) (L : List Nat) (e : Ending) (w' : World) : Prop := ∃ v, e = .returned (.tuple #[v, .int .i64 ce]) ∧ RB w' w'.heap.size v L ∧ Below w.heap.size w w'

set_option maxRecDepth 100000 in
set_option maxHeartbeats 2000000 in
theorem rencBad_sync (t x y z e a b c d tl sc nv er : Int) (w : World) (ce : Int) (h : recE true t x y z e a b c d tl sc nv er = ce) (h0 : ce ≠ 0) :
    Calls Try.prog 6 #[.agg #[.bool true, .int .i64 t, .int .i64 x, .int .i64 y, .int .i64 z, .int .i64 e, .int .i64 a, .int .i64 b, .int .i64 c, .int .i64 d, .int .i64 tl, .int .i64 sc, .int .i64 nv, .int .i64 er]] w (RetRen w ce []) := by
  obtain ⟨W0, HW0, hw0, HG, z0⟩ := N0ex w true t x y z e a b c d tl sc nv er
  obtain ⟨⟨k0, k1, k2, k3, k4, k5, k6⟩, k7, k8, k9, k10, k11, k12, k13⟩ := nv_blk HG.out (Below.refl _ _)
  have HV := Lib.hid (refValidSync_any sc nv er W0)
  by_cases hok : okSync sc nv er
  · have hz : ¬ fixZ t x y z e a b c d tl := fun hz => h0 (by rw [← h]; simp [recE, hok, hz])
    have h2 : ce = 2 := by rw [← h]; simp [recE, hok, hz]
    rw [decide_eq_true hok] at HV
    have hzd := decide_eq_false hz
    subst h2
    clear h hok hz
    go_enter Try.func6, Try.ntmps6
    go_wp2_with fail
    rw [← HW0.out]
    go_wp2_with fail
    refine HV.out.mono ?_
    rintro e1 w1 ⟨rfl, b1⟩
    obtain ⟨⟨k0', k1', k2', k3', k4', k5', k6'⟩, k7', k8', k9', k10', k11', k12', k13'⟩ := nv_blk HG.out b1
    have HB1 := Lib.hid (hw0.trans (b1.mono hw0.size))
    clear k0 k1 k2 k3 k4 k5 k6 k7 k8 k9 k10 k11 k12 k13 b1
    go_wp2
    go_ret2
    exact ⟨_, rfl, rb_nil, HB1.out⟩
  · have h2 : ce = 41 := by rw [← h]; simp [recE, hok]
    rw [decide_eq_false hok] at HV
    subst h2
    clear h hok
    go_enter Try.func6, Try.ntmps6
    go_wp2_with fail
    rw [← HW0.out]
    go_wp2_with fail
    refine HV.out.mono ?_
    rintro e1 w1 ⟨rfl, b1⟩
    have HB1 := Lib.hid (hw0.trans (b1.mono hw0.size))
    clear k0 k1 k2 k3 k4 k5 k6 k7 k8 k9 k10 k11 k12 k13 b1
    go_wp2
    go_ret2
    exact ⟨_, rfl, rb_nil, HB1.out⟩

set_option maxRecDepth 100000 in
set_option maxHeartbeats 2000000 in
theorem rencBad_fix (t x y z e a b c d tl sc nv er : Int) (w : World) (ce : Int) (h : recE false t x y z e a b c d tl sc nv er = ce) (h0 : ce ≠ 0) :
    Calls Try.prog 6 #[.agg #[.bool false, .int .i64 t, .int .i64 x, .int .i64 y, .int .i64 z, .int .i64 e, .int .i64 a, .int .i64 b, .int .i64 c, .int .i64 d, .int .i64 tl, .int .i64 sc, .int .i64 nv, .int .i64 er]] w (RetRen w ce []) := by
  obtain ⟨W0, HW0, hw0, HG, z0⟩ := N0ex w false t x y z e a b c d tl sc nv er
  obtain ⟨⟨k0, k1, k2, k3, k4, k5, k6⟩, k7, k8, k9, k10, k11, k12, k13⟩ := nv_blk HG.out (Below.refl _ _)
  obtain ⟨W1, HW1, hw1, HG1, z1⟩ : ∃ W1, Hid (W1 = W0.alloc (.cells #[.int .i64 t, .int .i64 x, .int .i64 y, .int .i64 z, .int .i64 e, .int .i64 a, .int .i64 b, .int .i64 c, .int .i64 d, .int .i64 tl] 25)) ∧ Below W0.heap.size W0 W1 ∧ Hid (W1.heap[W0.heap.size]? = some (.cells #[.int .i64 t, .int .i64 x, .int .i64 y, .int .i64 z, .int .i64 e, .int .i64 a, .int .i64 b, .int .i64 c, .int .i64 d, .int .i64 tl] 25 (0, 0))) ∧ W0.heap.size < W1.heap.size :=
    ⟨_, rfl, (Below.refl _ _).alloc (Nat.le_refl _) _, heap_alloc_new W0 _, by simp⟩
  have HV := Lib.hid (refValidFix_any t x y z e a b c d tl W1)
  by_cases hok : okFix t x y z e a b c d tl
  · have hz : ¬ syncZ sc nv er := fun hz => h0 (by rw [← h]; simp [recE, hok, hz])
    have h2 : ce = 2 := by rw [← h]; simp [recE, hok, hz]
    rw [decide_eq_true hok] at HV
    have hzd := decide_eq_false hz
    subst h2
    clear h hok hz
    go_enter Try.func6, Try.ntmps6
    go_wp2_with fail
    rw [← HW0.out]
    go_wp2_with fail
    rw [← HW1.out]
    refine HV.out.mono ?_
    rintro e1 w1 ⟨rfl, b1⟩
    obtain ⟨⟨k0', k1', k2', k3', k4', k5', k6'⟩, k7', k8', k9', k10', k11', k12', k13'⟩ := nv_blk HG.out (hw1.trans (b1.mono hw1.size))
    have HB1 := Lib.hid (hw0.trans ((hw1.trans (b1.mono hw1.size)).mono hw0.size))
    clear k0 k1 k2 k3 k4 k5 k6 k7 k8 k9 k10 k11 k12 k13 b1
    go_wp2
    go_ret2
    exact ⟨_, rfl, rb_nil, HB1.out⟩
  · have h2 : ce = 40 := by rw [← h]; simp [recE, hok]
    rw [decide_eq_false hok] at HV
    subst h2
    clear h hok
    go_enter Try.func6, Try.ntmps6
    go_wp2_with fail
    rw [← HW0.out]
    go_wp2_with fail
    rw [← HW1.out]
    refine HV.out.mono ?_
    rintro e1 w1 ⟨rfl, b1⟩
    have HB1 := Lib.hid (hw0.trans ((hw1.trans (b1.mono hw1.size)).mono hw0.size))
    clear k0 k1 k2 k3 k4 k5 k6 k7 k8 k9 k10 k11 k12 k13 b1
    go_wp2
    go_ret2
    exact ⟨_, rfl, rb_nil, HB1.out⟩
end Go.Proofs.Ytfalhfgnobjfgaa
