/-
  Which records are valid: the program's recordError.
-/
import Derived.Test.YtfalhfgnobjfgaaTMem
namespace Go.Proofs.Ytfalhfgnobjfgaa
open Go.RowKit Go.Maps

theorem eqArr4a (a b c d e f g h : Int) (w : World) : (Op.equalIn 9999 23 (.agg #[.int .i64 a, .int .i64 b, .int .i64 c, .int .i64 d]) (.agg #[.int .i64 e, .int .i64 f, .int .i64 g, .int .i64 h])).run Try.prog w = .ok (decide (a = e ∧ b = f ∧ c = g ∧ d = h)) w := by
  have u3 := Try.underlying3
  have a3 := Try.isAgg3
  have z3 := Try.sizeOf3
  rw [show (9999 : Nat) = 9998 + 1 from rfl, Op.equalIn]
  simp only [Sem.run_bind, run_underlying Try.underlying23, Result.andThen_ok]
  simp only [Std.Legacy.Range.forIn_eq_forIn_range', Std.Legacy.Range.size, Nat.sub_zero, Nat.add_sub_cancel, Nat.div_one, List.range'_succ, List.range'_zero, List.forIn_cons, List.forIn_nil]
  go_simp
  by_cases h0 : a = e <;> by_cases h1 : b = f <;> by_cases h2 : c = g <;> by_cases h3 : d = h <;> simp [h0, h1, h2, h3]

set_option maxRecDepth 100000 in
theorem eqArr3a (a b c e f g : Int) (w : World) : (Op.equalIn 9999 22 (.agg #[.int .i64 a, .int .i64 b, .int .i64 c]) (.agg #[.int .i64 e, .int .i64 f, .int .i64 g])).run Try.prog w = .ok (decide (a = e ∧ b = f ∧ c = g)) w := by
  have u3 := Try.underlying3
  have a3 := Try.isAgg3
  have z3 := Try.sizeOf3
  rw [show (9999 : Nat) = 9998 + 1 from rfl, Op.equalIn]
  simp only [Sem.run_bind, run_underlying Try.underlying22, Result.andThen_ok]
  simp only [Std.Legacy.Range.forIn_eq_forIn_range', Std.Legacy.Range.size, Nat.sub_zero, Nat.add_sub_cancel, Nat.div_one, List.range'_succ, List.range'_zero, List.forIn_cons, List.forIn_nil]
  go_simp
  by_cases h0 : a = e <;> by_cases h1 : b = f <;> by_cases h2 : c = g <;> simp [h0, h1, h2]

theorem eqArr4b (a b c d e f g h : Int) (w : World) : (Op.equalIn 9998 23 (.agg #[.int .i64 a, .int .i64 b, .int .i64 c, .int .i64 d]) (.agg #[.int .i64 e, .int .i64 f, .int .i64 g, .int .i64 h])).run Try.prog w = .ok (decide (a = e ∧ b = f ∧ c = g ∧ d = h)) w := by
  have u3 := Try.underlying3
  have a3 := Try.isAgg3
  have z3 := Try.sizeOf3
  rw [show (9998 : Nat) = 9997 + 1 from rfl, Op.equalIn]
  simp only [Sem.run_bind, run_underlying Try.underlying23, Result.andThen_ok]
  simp only [Std.Legacy.Range.forIn_eq_forIn_range', Std.Legacy.Range.size, Nat.sub_zero, Nat.add_sub_cancel, Nat.div_one, List.range'_succ, List.range'_zero, List.forIn_cons, List.forIn_nil]
  go_simp
  by_cases h0 : a = e <;> by_cases h1 : b = f <;> by_cases h2 : c = g <;> by_cases h3 : d = h <;> simp [h0, h1, h2, h3]

set_option maxRecDepth 100000 in
theorem eqArr3b (a b c e f g : Int) (w : World) : (Op.equalIn 9998 22 (.agg #[.int .i64 a, .int .i64 b, .int .i64 c]) (.agg #[.int .i64 e, .int .i64 f, .int .i64 g])).run Try.prog w = .ok (decide (a = e ∧ b = f ∧ c = g)) w := by
  have u3 := Try.underlying3
  have a3 := Try.isAgg3
  have z3 := Try.sizeOf3
  rw [show (9998 : Nat) = 9997 + 1 from rfl, Op.equalIn]
  simp only [Sem.run_bind, run_underlying Try.underlying22, Result.andThen_ok]
  simp only [Std.Legacy.Range.forIn_eq_forIn_range', Std.Legacy.Range.size, Nat.sub_zero, Nat.add_sub_cancel, Nat.div_one, List.range'_succ, List.range'_zero, List.forIn_cons, List.forIn_nil]
  go_simp
  by_cases h0 : a = e <;> by_cases h1 : b = f <;> by_cases h2 : c = g <;> simp [h0, h1, h2]

attribute [local go_sem] eqArr4a eqArr3a eqArr4b eqArr3b

def fixZ (t x y z e a b c d tl : Int) : Prop := t = 0 ∧ x = 0 ∧ y = 0 ∧ z = 0 ∧ e = 0 ∧ a = 0 ∧ b = 0 ∧ c = 0 ∧ d = 0 ∧ tl = 0
instance (t x y z e a b c d tl : Int) : Decidable (fixZ t x y z e a b c d tl) := by unfold fixZ; infer_instance
def syncZ (sc nv er : Int) : Prop := sc = 0 ∧ nv = 0 ∧ er = 0
instance (sc nv er : Int) : Decidable (syncZ sc nv er) := by unfold syncZ; infer_instance
set_option maxRecDepth 100000 in
theorem eqFixZ (t x y z e a b c d tl : Int) (w : World) : (Op.equalIn 10000 25 (.agg #[.int .i64 t, .int .i64 x, .int .i64 y, .int .i64 z, .int .i64 e, .int .i64 a, .int .i64 b, .int .i64 c, .int .i64 d, .int .i64 tl]) (.agg #[.int .i64 0, .int .i64 0, .int .i64 0, .int .i64 0, .int .i64 0, .int .i64 0, .int .i64 0, .int .i64 0, .int .i64 0, .int .i64 0])).run Try.prog w = .ok (decide (fixZ t x y z e a b c d tl)) w := by
  rw [show (10000 : Nat) = 9999 + 1 from rfl, Op.equalIn]
  simp only [Sem.run_bind, run_underlying Try.underlying25, Result.andThen_ok]
  go_simp
  unfold fixZ
  by_cases h0 : t = 0
  · by_cases h1 : x = 0 ∧ y = 0 ∧ z = 0
    · obtain ⟨h1, h2, h3⟩ := h1
      by_cases h4 : e = 0
      · by_cases h5 : a = 0 ∧ b = 0 ∧ c = 0 ∧ d = 0
        · obtain ⟨h5, h6, h7, h8⟩ := h5
          by_cases h9 : tl = 0 <;> simp [h0, h1, h2, h3, h4, h5, h6, h7, h8, h9]
        · simp [h0, h1, h2, h3, h4, h5]
          grind
      · simp [h0, h1, h2, h3, h4]
    · simp [h0, h1]
      grind
  · simp [h0]
set_option maxRecDepth 100000 in
theorem eqSyncZ (sc nv er : Int) (w : World) : (Op.equalIn 10000 27 (.agg #[.int .i64 sc, .int .i64 nv, .int .i64 er]) (.agg #[.int .i64 0, .int .i64 0, .int .i64 0])).run Try.prog w = .ok (decide (syncZ sc nv er)) w := by
  rw [show (10000 : Nat) = 9999 + 1 from rfl, Op.equalIn]
  simp only [Sem.run_bind, run_underlying Try.underlying27, Result.andThen_ok]
  go_simp
  unfold syncZ
  by_cases h0 : sc = 0 <;> by_cases h1 : nv = 0 <;> by_cases h2 : er = 0 <;> simp [h0, h1, h2]
attribute [local go_sem ↓] eqFixZ eqSyncZ

/-- What is wrong with a record. -/
def recE (s : Bool) (t x y z e a b c d tl sc nv er : Int) : Int :=
  if s = true then (if okSync sc nv er then (if fixZ t x y z e a b c d tl then 0 else 2) else 41) else (if okFix t x y z e a b c d tl then (if syncZ sc nv er then 0 else 2) else 40)

theorem N0ex (w : World) (s : Bool) (t x y z e a b c d tl sc nv er : Int) : ∃ W0, Hid (W0 = w.alloc (.cells #[.bool s, .int .i64 t, .int .i64 x, .int .i64 y, .int .i64 z, .int .i64 e, .int .i64 a, .int .i64 b, .int .i64 c, .int .i64 d, .int .i64 tl, .int .i64 sc, .int .i64 nv, .int .i64 er] 29)) ∧ Below w.heap.size w W0 ∧
    Hid (W0.heap[w.heap.size]? = some (.cells #[.bool s, .int .i64 t, .int .i64 x, .int .i64 y, .int .i64 z, .int .i64 e, .int .i64 a, .int .i64 b, .int .i64 c, .int .i64 d, .int .i64 tl, .int .i64 sc, .int .i64 nv, .int .i64 er] 29 (0, 0))) ∧ w.heap.size < W0.heap.size :=
  ⟨_, rfl, (Below.refl _ _).alloc (Nat.le_refl _) _, heap_alloc_new w _, by simp⟩
theorem nv_blk {W0 w1 : World} {g : Nat} {s t x y z e a b c d tl sc nv er : Value} {T : TypeId} (h : W0.heap[g]? = some (.cells #[s, t, x, y, z, e, a, b, c, d, tl, sc, nv, er] T (0, 0))) (hb : Below W0.heap.size W0 w1) :
    (w1.cell? ⟨g, 0, none⟩ = some s ∧ w1.cell? ⟨g, 1, none⟩ = some t ∧ w1.cell? ⟨g, 2, none⟩ = some x ∧ w1.cell? ⟨g, 3, none⟩ = some y ∧ w1.cell? ⟨g, 4, none⟩ = some z ∧ w1.cell? ⟨g, 5, none⟩ = some e ∧ w1.cell? ⟨g, 6, none⟩ = some a) ∧
    (w1.cell? ⟨g, 7, none⟩ = some b ∧ w1.cell? ⟨g, 8, none⟩ = some c ∧ w1.cell? ⟨g, 9, none⟩ = some d ∧ w1.cell? ⟨g, 10, none⟩ = some tl ∧ w1.cell? ⟨g, 11, none⟩ = some sc ∧ w1.cell? ⟨g, 12, none⟩ = some nv ∧ w1.cell? ⟨g, 13, none⟩ = some er) := by
  have h1 := (hb.block g (Array.getElem?_eq_some_iff.1 h).1).trans h
  exact ⟨⟨cell_of_row _ _ _ _ _ _ h1, cell_of_row _ _ _ _ _ _ h1, cell_of_row _ _ _ _ _ _ h1, cell_of_row _ _ _ _ _ _ h1, cell_of_row _ _ _ _ _ _ h1, cell_of_row _ _ _ _ _ _ h1, cell_of_row _ _ _ _ _ _ h1⟩,
    cell_of_row _ _ _ _ _ _ h1, cell_of_row _ _ _ _ _ _ h1, cell_of_row _ _ _ _ _ _ h1, cell_of_row _ _ _ _ _ _ h1, cell_of_row _ _ _ _ _ _ h1, cell_of_row _ _ _ _ _ _ h1, cell_of_row _ _ _ _ _ _ h1⟩

def RetRe (w : World) (ce : Int) (e : Ending) (w' : World) : Prop := e = .returned (.int .i64 ce) ∧ Below w.heap.size w w'

set_option maxRecDepth 100000 in
set_option maxHeartbeats 2000000 in
theorem recErr_sync (t x y z e a b c d tl sc nv er : Int) (w : World) :
    Calls Try.prog 10 #[.agg #[.bool true, .int .i64 t, .int .i64 x, .int .i64 y, .int .i64 z, .int .i64 e, .int .i64 a, .int .i64 b, .int .i64 c, .int .i64 d, .int .i64 tl, .int .i64 sc, .int .i64 nv, .int .i64 er]] w (RetRe w (recE true t x y z e a b c d tl sc nv er)) := by
  obtain ⟨W0, HW0, hw0, HG, z0⟩ := N0ex w true t x y z e a b c d tl sc nv er
  obtain ⟨⟨k0, k1, k2, k3, k4, k5, k6⟩, k7, k8, k9, k10, k11, k12, k13⟩ := nv_blk HG.out (Below.refl _ _)
  have HV := Lib.hid (validSync_any sc nv er W0)
  obtain ⟨v, hv⟩ : ∃ v, v = decide (okSync sc nv er) := ⟨_, rfl⟩
  obtain ⟨q, hq⟩ : ∃ q, q = decide (fixZ t x y z e a b c d tl) := ⟨_, rfl⟩
  have hR : recE true t x y z e a b c d tl sc nv er = if v = true then (if q = true then 0 else 2) else 41 := by
    subst hv
    subst hq
    simp [recE]
  have HR := Lib.hid hR
  rw [← hv] at HV
  have HQ := Lib.hid hq
  have hq' := hq.symm
  clear hv hR hq
  cases v with
  | true =>
    cases q with
    | true =>
      go_enter Try.func10, Try.ntmps10
      go_wp2_with fail
      rw [← HW0.out]
      go_wp2_with fail
      refine HV.out.mono ?_
      rintro e w1 ⟨rfl, b1⟩
      obtain ⟨⟨k0', k1', k2', k3', k4', k5', k6'⟩, k7', k8', k9', k10', k11', k12', k13'⟩ := nv_blk HG.out b1
      clear k0 k1 k2 k3 k4 k5 k6 k7 k8 k9 k10 k11 k12 k13
      go_wp2
      go_ret
      exact ⟨by rw [HR.out]; rfl, hw0.trans (b1.mono hw0.size)⟩
    | false =>
      go_enter Try.func10, Try.ntmps10
      go_wp2_with fail
      rw [← HW0.out]
      go_wp2_with fail
      refine HV.out.mono ?_
      rintro e w1 ⟨rfl, b1⟩
      obtain ⟨⟨k0', k1', k2', k3', k4', k5', k6'⟩, k7', k8', k9', k10', k11', k12', k13'⟩ := nv_blk HG.out b1
      clear k0 k1 k2 k3 k4 k5 k6 k7 k8 k9 k10 k11 k12 k13
      go_wp2
      go_ret
      exact ⟨by rw [HR.out]; rfl, hw0.trans (b1.mono hw0.size)⟩
  | false =>
    go_enter Try.func10, Try.ntmps10
    go_wp2_with fail
    rw [← HW0.out]
    go_wp2_with fail
    refine HV.out.mono ?_
    rintro e w1 ⟨rfl, b1⟩
    obtain ⟨⟨k0', k1', k2', k3', k4', k5', k6'⟩, k7', k8', k9', k10', k11', k12', k13'⟩ := nv_blk HG.out b1
    clear k0 k1 k2 k3 k4 k5 k6 k7 k8 k9 k10 k11 k12 k13
    go_wp2
    go_ret
    exact ⟨by rw [HR.out]; rfl, hw0.trans (b1.mono hw0.size)⟩

set_option maxRecDepth 100000 in
set_option maxHeartbeats 2000000 in
theorem recErr_fix (t x y z e a b c d tl sc nv er : Int) (w : World) :
    Calls Try.prog 10 #[.agg #[.bool false, .int .i64 t, .int .i64 x, .int .i64 y, .int .i64 z, .int .i64 e, .int .i64 a, .int .i64 b, .int .i64 c, .int .i64 d, .int .i64 tl, .int .i64 sc, .int .i64 nv, .int .i64 er]] w (RetRe w (recE false t x y z e a b c d tl sc nv er)) := by
  obtain ⟨W0, HW0, hw0, HG, z0⟩ := N0ex w false t x y z e a b c d tl sc nv er
  obtain ⟨⟨k0, k1, k2, k3, k4, k5, k6⟩, k7, k8, k9, k10, k11, k12, k13⟩ := nv_blk HG.out (Below.refl _ _)
  have HV := Lib.hid (validFix_any t x y z e a b c d tl W0)
  obtain ⟨v, hv⟩ : ∃ v, v = decide (okFix t x y z e a b c d tl) := ⟨_, rfl⟩
  obtain ⟨q, hq⟩ : ∃ q, q = decide (syncZ sc nv er) := ⟨_, rfl⟩
  have hR : recE false t x y z e a b c d tl sc nv er = if v = true then (if q = true then 0 else 2) else 40 := by
    subst hv
    subst hq
    simp [recE]
  have HR := Lib.hid hR
  rw [← hv] at HV
  have HQ := Lib.hid hq
  have hq' := hq.symm
  clear hv hR hq
  cases v with
  | true =>
    cases q with
    | true =>
      go_enter Try.func10, Try.ntmps10
      go_wp2_with fail
      rw [← HW0.out]
      go_wp2_with fail
      refine HV.out.mono ?_
      rintro e w1 ⟨rfl, b1⟩
      obtain ⟨⟨k0', k1', k2', k3', k4', k5', k6'⟩, k7', k8', k9', k10', k11', k12', k13'⟩ := nv_blk HG.out b1
      clear k0 k1 k2 k3 k4 k5 k6 k7 k8 k9 k10 k11 k12 k13
      go_wp2
      go_ret
      exact ⟨by rw [HR.out]; rfl, hw0.trans (b1.mono hw0.size)⟩
    | false =>
      go_enter Try.func10, Try.ntmps10
      go_wp2_with fail
      rw [← HW0.out]
      go_wp2_with fail
      refine HV.out.mono ?_
      rintro e w1 ⟨rfl, b1⟩
      obtain ⟨⟨k0', k1', k2', k3', k4', k5', k6'⟩, k7', k8', k9', k10', k11', k12', k13'⟩ := nv_blk HG.out b1
      clear k0 k1 k2 k3 k4 k5 k6 k7 k8 k9 k10 k11 k12 k13
      go_wp2
      go_ret
      exact ⟨by rw [HR.out]; rfl, hw0.trans (b1.mono hw0.size)⟩
  | false =>
    go_enter Try.func10, Try.ntmps10
    go_wp2_with fail
    rw [← HW0.out]
    go_wp2_with fail
    refine HV.out.mono ?_
    rintro e w1 ⟨rfl, b1⟩
    obtain ⟨⟨k0', k1', k2', k3', k4', k5', k6'⟩, k7', k8', k9', k10', k11', k12', k13'⟩ := nv_blk HG.out b1
    clear k0 k1 k2 k3 k4 k5 k6 k7 k8 k9 k10 k11 k12 k13
    go_wp2
    go_ret
    exact ⟨by rw [HR.out]; rfl, hw0.trans (b1.mono hw0.size)⟩

end Go.Proofs.Ytfalhfgnobjfgaa
