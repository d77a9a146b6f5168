/-
  The program's Encode of a record.
-/
import Derived.Test.YtfalhfgnobjfgaaTEnc
namespace Go.Proofs.Ytfalhfgnobjfgaa
open Go.RowKit Go.Maps

def encL (s : Bool) (t x y z e a b c d tl sc nv er : Int) : List Nat := if s = true then 1 :: syncL sc nv er else 0 :: fixL t x y z e a b c d tl
def RetEnc (w : World) (ce : Int) (L : List Nat) (e : Ending) (w' : World) : Prop := ∃ v, e = .returned (.tuple #[v, .int .i64 ce]) ∧ Bd w' v L ∧ Below w.heap.size w w'

/-- The variables that Encode makes. -/
theorem enc_vars (w : World) (xi : Int) (x : Nat) (hx : xi = (x : Int)) (F1 F2 T2 : Nat) : ∀ W, W = (((w.alloc (.cells #[.int .u8 xi] 5)).alloc (.cells #[.slice (some ⟨w.heap.size, 0, none⟩) 1 1] 30)).alloc (.cells #[.func (.func F1) #[] #[]] T2)).alloc (.cells #[.func (.func F2) #[] #[]] T2) →
    Below w.heap.size w W ∧ VarB W (w.heap.size + 1) [x] ∧ W.cell? ⟨w.heap.size + 1 + 1, 0, none⟩ = some (.func (.func F1) #[] #[]) ∧ W.cell? ⟨w.heap.size + 1 + 1 + 1, 0, none⟩ = some (.func (.func F2) #[] #[]) ∧ W.heap.size = w.heap.size + 1 + 1 + 1 + 1 := by
  subst hx
  intro W hW
  subst hW
  have hb1 : Below w.heap.size w (w.alloc (.cells #[.int .u8 (x : Int)] 5)) := (Below.refl _ _).alloc (Nat.le_refl _) _
  have hB : Bd (w.alloc (.cells #[.int .u8 (x : Int)] 5)) (.slice (some ⟨w.heap.size, 0, none⟩) 1 1) [x] := World.ownsRow_lit w #[.int .u8 (x : Int)] 1 (Nat.zero_le _) (by unfold maxLen; omega) (by simp)
  have hV : VarB ((w.alloc (.cells #[.int .u8 (x : Int)] 5)).alloc (.cells #[.slice (some ⟨w.heap.size, 0, none⟩) 1 1] 30)) (w.heap.size + 1) [x] := ⟨_, heap_alloc2_new w _ _, hB.below ((Below.refl _ _).alloc (Nat.le_refl _) _)⟩
  refine ⟨((hb1.alloc (by simp) _).alloc (by simp; omega) _).alloc (by simp; omega) _, (hV.below ((Below.refl _ _).alloc (Nat.le_refl _) _)).below ((Below.refl _ _).alloc (Nat.le_refl _) _), ?_, ?_, by simp⟩
  · refine (World.cell?_alloc_lt _ _ ⟨w.heap.size + 1 + 1, 0, none⟩ (by simp)).trans ?_
    have hq := heap_alloc_new ((w.alloc (.cells #[.int .u8 (x : Int)] 5)).alloc (.cells #[.slice (some ⟨w.heap.size, 0, none⟩) 1 1] 30)) (.cells #[.func (.func F1) #[] #[]] T2)
    rw [show ((w.alloc (.cells #[.int .u8 (x : Int)] 5)).alloc (.cells #[.slice (some ⟨w.heap.size, 0, none⟩) 1 1] 30)).heap.size = w.heap.size + 1 + 1 by simp] at hq
    exact cell_of_row _ _ 0 _ _ _ hq
  · have hq := heap_alloc_new (((w.alloc (.cells #[.int .u8 (x : Int)] 5)).alloc (.cells #[.slice (some ⟨w.heap.size, 0, none⟩) 1 1] 30)).alloc (.cells #[.func (.func F1) #[] #[]] T2)) (.cells #[.func (.func F2) #[] #[]] T2)
    rw [show (((w.alloc (.cells #[.int .u8 (x : Int)] 5)).alloc (.cells #[.slice (some ⟨w.heap.size, 0, none⟩) 1 1] 30)).alloc (.cells #[.func (.func F1) #[] #[]] T2)).heap.size = w.heap.size + 1 + 1 + 1 by simp] at hq
    exact cell_of_row _ _ 0 _ _ _ hq

set_option maxRecDepth 100000 in
set_option maxHeartbeats 4000000 in
theorem enc_sync (t x y z e a b c d tl sc nv er : Int) (w : World) (h : recE true t x y z e a b c d tl sc nv er = 0) :
    Calls Try.prog 5 #[.agg #[.bool true, .int .i64 t, .int .i64 x, .int .i64 y, .int .i64 z, .int .i64 e, .int .i64 a, .int .i64 b, .int .i64 c, .int .i64 d, .int .i64 tl, .int .i64 sc, .int .i64 nv, .int .i64 er]] w (RetEnc w 0 (encL true t x y z e a b c d tl sc nv er)) := by
  have hmf : ∀ (fn : Fn) (first cap : Array Value) (w : World), (Instr.makeFunc fn first cap).run Try.prog w = .ok (.func fn first cap) w := fun _ _ _ _ => rfl
  obtain ⟨W0, HW0, hw0, HG, z0⟩ := N0ex w true t x y z e a b c d tl sc nv er
  obtain ⟨⟨k0, k1, k2, k3, k4, k5, k6⟩, k7, k8, k9, k10, k11, k12, k13⟩ := nv_blk HG.out (Below.refl _ _)
  have HV := Lib.hid (recErr_sync t x y z e a b c d tl sc nv er W0)
  rw [h] at HV
  have hok : okSync sc nv er := by
    apply Classical.byContradiction
    intro hn
    simp [recE, hn] at h
  have HOK := Lib.hid hok
  clear h hok
  go_enter Try.func5, Try.ntmps5
  go_wp2_with fail
  rw [← HW0.out]
  refine HV.out.mono ?_
  rintro e1 w1 ⟨rfl, b1⟩
  obtain ⟨⟨k0', k1', k2', k3', k4', k5', k6'⟩, k7', k8', k9', k10', k11', k12', k13'⟩ := nv_blk HG.out b1
  have hne := World.new_ne w1 ⟨w.heap.size, 0, none⟩ k0'
  have hzl : w.heap.size < w1.heap.size := Nat.lt_of_lt_of_le z0 b1.size
  have kaa : ∀ o o', ((w1.alloc o).alloc o').cell? ⟨w.heap.size, 0, none⟩ = some (.bool true) := fun o o' => (World.cell?_alloc_lt _ o' ⟨w.heap.size, 0, none⟩ (by simp; omega)).trans ((World.cell?_alloc_lt w1 o ⟨w.heap.size, 0, none⟩ hzl).trans k0')
  have HB1 := Lib.hid b1
  have HE := Lib.hid (enc_vars w1 1 1 rfl 14 15 40)
  clear k0 k1 k2 k3 k4 k5 k6 k7 k8 k9 k10 k11 k12 k13 k1' k2' k3' k4' k5' k6' k7' k8' k9' k10' k11' k12' k13' b1
  go_wp2_with (first
    | (go_at_call 11; go_in)
    | (go_at_call 13; fail "EACH"))
  obtain ⟨WE, hWE⟩ : ∃ WE, WE = (((w1.alloc (.cells #[.int .u8 1] 5)).alloc (.cells #[.slice (some ⟨w1.heap.size, 0, none⟩) 1 1] 30)).alloc (.cells #[.func (.func 14) #[] #[]] 40)).alloc (.cells #[.func (.func 15) #[] #[]] 40) := ⟨_, rfl⟩
  obtain ⟨q1, q2, q3, q4, q5⟩ := HE.out WE hWE
  rw [← hWE]
  have hN := (q1.block w.heap.size hzl).trans ((HB1.out.block w.heap.size z0).trans HG.out)
  have hb0 : Below w.heap.size w WE := hw0.trans ((HB1.out.mono hw0.size).trans (q1.mono (Nat.le_of_lt hzl)))
  have HB2 := Lib.hid hb0
  have HES := Lib.hid (each_sync w.heap.size (w1.heap.size + 1 + 1) (w1.heap.size + 1 + 1 + 1) (w1.heap.size + 1) t x y z e a b c d tl sc nv er [1] WE hN q3 (by omega) q2 (by simp) (by omega) (by omega) HOK.out)
  clear hWE q1 q2 q3 q4 hN hb0 kaa k0'
  refine HES.out.mono ?_
  rintro e2 w2 ⟨rfl, r1, r2⟩
  obtain ⟨v2, u1, u2⟩ := r1
  obtain ⟨A2, c2, e3⟩ := (bd_rb u2).form
  subst e3
  have b0 : w2.cell? ⟨w1.heap.size + 1, 0, none⟩ = some (.slice A2 _ c2) := cell_of_row _ _ 0 _ _ _ u1
  have HR := Lib.hid (And.intro u2 (HB2.out.trans (r2.below HB2.out.size (by rintro k rfl; omega))))
  obtain ⟨N2, hN2⟩ : ∃ N2, N2 = ([1] ++ syncL sc nv er).length := ⟨_, rfl⟩
  rw [← hN2] at b0
  have HN2 := Lib.hid hN2
  clear u1 u2 r2 hN2
  go_wp2
  go_ret2
  exact ⟨_, rfl, by have := HR.out.1; rw [← HN2.out] at this; exact this, HR.out.2⟩

set_option maxRecDepth 100000 in
set_option maxHeartbeats 4000000 in
theorem enc_fix (t x y z e a b c d tl sc nv er : Int) (w : World) (h : recE false t x y z e a b c d tl sc nv er = 0) :
    Calls Try.prog 5 #[.agg #[.bool false, .int .i64 t, .int .i64 x, .int .i64 y, .int .i64 z, .int .i64 e, .int .i64 a, .int .i64 b, .int .i64 c, .int .i64 d, .int .i64 tl, .int .i64 sc, .int .i64 nv, .int .i64 er]] w (RetEnc w 0 (encL false t x y z e a b c d tl sc nv er)) := by
  have hmf : ∀ (fn : Fn) (first cap : Array Value) (w : World), (Instr.makeFunc fn first cap).run Try.prog w = .ok (.func fn first cap) w := fun _ _ _ _ => rfl
  obtain ⟨W0, HW0, hw0, HG, z0⟩ := N0ex w false t x y z e a b c d tl sc nv er
  obtain ⟨⟨k0, k1, k2, k3, k4, k5, k6⟩, k7, k8, k9, k10, k11, k12, k13⟩ := nv_blk HG.out (Below.refl _ _)
  have HV := Lib.hid (recErr_fix t x y z e a b c d tl sc nv er W0)
  rw [h] at HV
  have hok : okFix t x y z e a b c d tl := by
    apply Classical.byContradiction
    intro hn
    simp [recE, hn] at h
  have HOK := Lib.hid hok
  clear h hok
  go_enter Try.func5, Try.ntmps5
  go_wp2_with fail
  rw [← HW0.out]
  refine HV.out.mono ?_
  rintro e1 w1 ⟨rfl, b1⟩
  obtain ⟨⟨k0', k1', k2', k3', k4', k5', k6'⟩, k7', k8', k9', k10', k11', k12', k13'⟩ := nv_blk HG.out b1
  have hne := World.new_ne w1 ⟨w.heap.size, 0, none⟩ k0'
  have hzl : w.heap.size < w1.heap.size := Nat.lt_of_lt_of_le z0 b1.size
  have kaa : ∀ o o', ((w1.alloc o).alloc o').cell? ⟨w.heap.size, 0, none⟩ = some (.bool false) := fun o o' => (World.cell?_alloc_lt _ o' ⟨w.heap.size, 0, none⟩ (by simp; omega)).trans ((World.cell?_alloc_lt w1 o ⟨w.heap.size, 0, none⟩ hzl).trans k0')
  have HB1 := Lib.hid b1
  have HE := Lib.hid (enc_vars w1 0 0 rfl 14 15 40)
  clear k0 k1 k2 k3 k4 k5 k6 k7 k8 k9 k10 k11 k12 k13 k1' k2' k3' k4' k5' k6' k7' k8' k9' k10' k11' k12' k13' b1
  go_wp2_with (first
    | (go_at_call 11; go_in)
    | (go_at_call 13; fail "EACH"))
  obtain ⟨WE, hWE⟩ : ∃ WE, WE = (((w1.alloc (.cells #[.int .u8 0] 5)).alloc (.cells #[.slice (some ⟨w1.heap.size, 0, none⟩) 1 1] 30)).alloc (.cells #[.func (.func 14) #[] #[]] 40)).alloc (.cells #[.func (.func 15) #[] #[]] 40) := ⟨_, rfl⟩
  obtain ⟨q1, q2, q3, q4, q5⟩ := HE.out WE hWE
  rw [← hWE]
  have hN := (q1.block w.heap.size hzl).trans ((HB1.out.block w.heap.size z0).trans HG.out)
  have hb0 : Below w.heap.size w WE := hw0.trans ((HB1.out.mono hw0.size).trans (q1.mono (Nat.le_of_lt hzl)))
  have HB2 := Lib.hid hb0
  have HES := Lib.hid (each_fix w.heap.size (w1.heap.size + 1 + 1) (w1.heap.size + 1 + 1 + 1) (w1.heap.size + 1) t x y z e a b c d tl sc nv er WE hN q3 (by omega) q4 (by omega) [0] q2 (by simp) (by omega) (by omega) (by omega) HOK.out)
  clear hWE q1 q2 q3 q4 hN hb0 kaa k0'
  refine HES.out.mono ?_
  rintro e2 w2 ⟨rfl, r1, r2⟩
  obtain ⟨v2, u1, u2⟩ := r1
  obtain ⟨A2, c2, e3⟩ := (bd_rb u2).form
  subst e3
  have b0 : w2.cell? ⟨w1.heap.size + 1, 0, none⟩ = some (.slice A2 _ c2) := cell_of_row _ _ 0 _ _ _ u1
  have HR := Lib.hid (And.intro u2 (HB2.out.trans (r2.below HB2.out.size (by rintro k rfl; omega))))
  obtain ⟨N2, hN2⟩ : ∃ N2, N2 = ([0] ++ fixL t x y z e a b c d tl).length := ⟨_, rfl⟩
  rw [← hN2] at b0
  have HN2 := Lib.hid hN2
  clear u1 u2 r2 hN2
  go_wp2
  go_ret2
  exact ⟨_, rfl, by have := HR.out.1; rw [← HN2.out] at this; exact this, HR.out.2⟩

set_option maxRecDepth 100000 in
set_option maxHeartbeats 2000000 in
theorem encBad_sync (t x y z e a b c d tl sc nv er : Int) (w : World) (ce : Int) (h : recE true t x y z e a b c d tl sc nv er = ce) (h0 : ce ≠ 0) :
    Calls Try.prog 5 #[.agg #[.bool true, .int .i64 t, .int .i64 x, .int .i64 y, .int .i64 z, .int .i64 e, .int .i64 a, .int .i64 b, .int .i64 c, .int .i64 d, .int .i64 tl, .int .i64 sc, .int .i64 nv, .int .i64 er]] w (RetEnc w ce []) := by
  obtain ⟨W0, HW0, hw0, HG, z0⟩ := N0ex w true t x y z e a b c d tl sc nv er
  obtain ⟨⟨k0, k1, k2, k3, k4, k5, k6⟩, k7, k8, k9, k10, k11, k12, k13⟩ := nv_blk HG.out (Below.refl _ _)
  have HV := Lib.hid (recErr_sync t x y z e a b c d tl sc nv er W0)
  rw [h] at HV
  have hd : (ce != 0) = true := by simpa using h0
  clear h
  go_enter Try.func5, Try.ntmps5
  go_wp2_with fail
  rw [← HW0.out]
  refine HV.out.mono ?_
  rintro e1 w1 ⟨rfl, b1⟩
  have HB := Lib.hid (hw0.trans (b1.mono hw0.size))
  clear b1 k0 k1 k2 k3 k4 k5 k6 k7 k8 k9 k10 k11 k12 k13
  go_wp2
  go_ret2
  exact ⟨_, rfl, World.ownsRow_nil _ _ _ _, HB.out⟩

set_option maxRecDepth 100000 in
set_option maxHeartbeats 2000000 in
theorem encBad_fix (t x y z e a b c d tl sc nv er : Int) (w : World) (ce : Int) (h : recE false t x y z e a b c d tl sc nv er = ce) (h0 : ce ≠ 0) :
    Calls Try.prog 5 #[.agg #[.bool false, .int .i64 t, .int .i64 x, .int .i64 y, .int .i64 z, .int .i64 e, .int .i64 a, .int .i64 b, .int .i64 c, .int .i64 d, .int .i64 tl, .int .i64 sc, .int .i64 nv, .int .i64 er]] w (RetEnc w ce []) := by
  obtain ⟨W0, HW0, hw0, HG, z0⟩ := N0ex w false t x y z e a b c d tl sc nv er
  obtain ⟨⟨k0, k1, k2, k3, k4, k5, k6⟩, k7, k8, k9, k10, k11, k12, k13⟩ := nv_blk HG.out (Below.refl _ _)
  have HV := Lib.hid (recErr_fix t x y z e a b c d tl sc nv er W0)
  rw [h] at HV
  have hd : (ce != 0) = true := by simpa using h0
  clear h
  go_enter Try.func5, Try.ntmps5
  go_wp2_with fail
  rw [← HW0.out]
  refine HV.out.mono ?_
  rintro e1 w1 ⟨rfl, b1⟩
  have HB := Lib.hid (hw0.trans (b1.mono hw0.size))
  clear b1 k0 k1 k2 k3 k4 k5 k6 k7 k8 k9 k10 k11 k12 k13
  go_wp2
  go_ret2
  exact ⟨_, rfl, World.ownsRow_nil _ _ _ _, HB.out⟩

end Go.Proofs.Ytfalhfgnobjfgaa
