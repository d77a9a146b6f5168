/-
  The document's Decode of a record.
-/
import Derived.Test.YtfalhfgnobjfgaaTNext
import Derived.Test.YtfalhfgnobjfgaaTRen
namespace Go.Proofs.Ytfalhfgnobjfgaa
open Go.RowKit Go.Maps

def DcSt (w : World) (B rb nb : Nat) (Y : List Nat) (ok : Bool) (C : Array Value) : Prop := RcSt w B rb Y ok ∧ w.heap[nb]? = some (.cells C 29 (0, 0))
def TwoS (rb nb k : Nat) : Prop := k = rb ∨ k = nb
theorem dc_step {w wa : World} {B rb nb off : Nat} {Y : List Nat} {ok : Bool} {C : Array Value} {e : Ending} {sg : Bool} {v : Int} (h : DcSt w B rb nb Y ok C) (hn : RetNx w B rb sg Y ok e wa) (h1 : nb ≠ rb) (hB : B ≤ nb) :
    DcSt (wa.setCell ⟨nb, off, none⟩ (.int .i64 v)) B rb nb (Y.drop (rk Y)) (ok && decide (re Y = 0)) (C.set! off (.int .i64 v)) ∧ Only (TwoS rb nb) w (wa.setCell ⟨nb, off, none⟩ (.int .i64 v)) := by
  obtain ⟨_, ⟨b, o, n, c, g1, g2⟩, hO⟩ := hn
  have e1 := (hO.block nb (Array.getElem?_eq_some_iff.1 h.2).1 h1).trans h.2
  refine ⟨⟨⟨b, o, n, c, (heap_setCell_other _ _ rb _ (Ne.symm h1)).trans g1, g2.below ((Below.refl _ _).setCell hB _)⟩, ?_⟩, (hO.mono (fun _ _ e => .inl e)).trans (only_set _ (.inr rfl))⟩
  rw [heap_setCell_same wa nb off _ _ _ e1]
  simp
theorem rc_val {w wa : World} {B rb : Nat} {sg : Bool} {Y : List Nat} {ok : Bool} {e : Ending} (hn : RetNx w B rb sg Y ok e wa) : e = .returned (.int .i64 (rv sg Y)) := hn.1
/-- The record's cells behind a call of the reader. -/
theorem dc_cell {w wa : World} {B rb nb : Nat} {Y : List Nat} {ok : Bool} {C : Array Value} {e : Ending} {sg : Bool} (h : DcSt w B rb nb Y ok C) (hn : RetNx w B rb sg Y ok e wa) (h1 : nb ≠ rb) (off : Nat) (hs : off < C.size) :
    (∃ u, wa.cell? ⟨nb, off, none⟩ = some u) ∧ wa.frozen? ⟨nb, off, none⟩ = false := by
  have e1 := (hn.2.2.block nb (Array.getElem?_eq_some_iff.1 h.2).1 h1).trans h.2
  refine ⟨⟨C[off], ?_⟩, by simp [World.frozen?, e1]⟩
  rw [cell_of_row _ nb off _ _ _ e1]
  simp [hs]

theorem rdc_vars (w : World) (x : Bool) (sl : Value) : ∀ W, W = ((w.alloc (.cells #[.bool false, .int .i64 0, .int .i64 0, .int .i64 0, .int .i64 0, .int .i64 0, .int .i64 0, .int .i64 0, .int .i64 0, .int .i64 0, .int .i64 0, .int .i64 0, .int .i64 0, .int .i64 0] 29)).alloc (.cells #[sl, .bool false] 57)).alloc (.cells #[.bool x, .int .i64 0, .int .i64 0, .int .i64 0, .int .i64 0, .int .i64 0, .int .i64 0, .int .i64 0, .int .i64 0, .int .i64 0, .int .i64 0, .int .i64 0, .int .i64 0, .int .i64 0] 29) →
    Below w.heap.size w W ∧ W.heap[w.heap.size]? = some (.cells #[.bool false, .int .i64 0, .int .i64 0, .int .i64 0, .int .i64 0, .int .i64 0, .int .i64 0, .int .i64 0, .int .i64 0, .int .i64 0, .int .i64 0, .int .i64 0, .int .i64 0, .int .i64 0] 29 (0, 0)) ∧ W.heap[w.heap.size + 1]? = some (.cells #[sl, .bool false] 57 (0, 0)) ∧ W.heap[w.heap.size + 1 + 1]? = some (.cells #[.bool x, .int .i64 0, .int .i64 0, .int .i64 0, .int .i64 0, .int .i64 0, .int .i64 0, .int .i64 0, .int .i64 0, .int .i64 0, .int .i64 0, .int .i64 0, .int .i64 0, .int .i64 0] 29 (0, 0)) ∧ W.heap.size = w.heap.size + 1 + 1 + 1 := by
  intro W hW
  subst hW
  refine ⟨(((Below.refl _ _).alloc (Nat.le_refl _) _).alloc (by simp) _).alloc (by simp; omega) _, hp_old _ (hp_old _ (hp_new _ _ _ rfl)), hp_old _ (hp_new _ _ _ (by simp)), hp_new _ _ _ (by simp), by simp⟩

set_option maxRecDepth 100000 in
set_option maxHeartbeats 8000000 in
theorem rdec_sync (X : List Nat) (hA : AllB X) (b o n c B0 : Nat) (w : World) (hx : RB w B0 (.slice (some ⟨b, o, none⟩) n c) (1 :: X)) (hB : B0 ≤ w.heap.size) (hl : n ≤ 1000) :
    Calls Try.prog 9 #[.slice (some ⟨b, o, none⟩) n c] w (RetDec (1 :: X) w) := by
  have hln := hx.1.len
  have hcap := hx.1.cap
  have hn0 : 0 < n := by simp at hln; omega
  obtain ⟨b', o'', eA, hb, hc⟩ := hx.1.at_ hn0
  injection eA with eA
  injection eA with eb eo
  subst eb eo
  have c0 : w.cell? ⟨b, o, none⟩ = some (.int .u8 1) := hc 0 hn0
  have c0a := fun ob => (World.cell?_alloc_lt w ob ⟨b, o, none⟩ (by simp; omega)).trans c0
  have c0c : ∀ o1 o2 o3, (((w.alloc o1).alloc o2).alloc o3).cell? ⟨b, o, none⟩ = some (.int .u8 1) := fun o1 o2 o3 => (World.cell?_alloc_lt _ o3 ⟨b, o, none⟩ (by simp; omega)).trans ((World.cell?_alloc_lt _ o2 ⟨b, o, none⟩ (by simp; omega)).trans (c0a o1))
  obtain ⟨AD, hAD⟩ : ∃ AD, (if c = 1 then (some ⟨b, o, none⟩ : Option Addr) else some ⟨b, o + 1, none⟩) = AD := ⟨_, rfl⟩
  obtain ⟨o', e', hT⟩ := rb_tail2 (a := 1) hx (by omega) hAD
  subst e'
  have hT : RB w B0 (.slice (some ⟨b, o', none⟩) (n - 1) (c - 1)) X := hT
  have HX := Lib.hid (And.intro hT (And.intro hB hA))
  have i1 : ¬ ((n : Int) = 0) := by omega
  have i2 : (0 : Int) < (n : Int) := by omega
  have i3 : (1 : Int) ≤ (n : Int) := by omega
  have i4 : 1 ≤ c := by omega
  unfold maxLen at hcap
  have HE := Lib.hid (rdc_vars w true (.slice (some ⟨b, o', none⟩) (n - 1) (c - 1)))
  have HAr := Lib.hid (fun j => (show AllB (rest X j) from by
    induction j with
    | zero => exact hA
    | succ j ih => exact ih.drop _))
  clear hx hT hln hc hA
  go_enter Try.func9, Try.ntmps9
  go_wp2_with fail
  obtain ⟨WE, hWE⟩ : ∃ WE, WE = ((w.alloc (.cells #[.bool false, .int .i64 0, .int .i64 0, .int .i64 0, .int .i64 0, .int .i64 0, .int .i64 0, .int .i64 0, .int .i64 0, .int .i64 0, .int .i64 0, .int .i64 0, .int .i64 0, .int .i64 0] 29)).alloc (.cells #[.slice (some ⟨b, o', none⟩) (n - 1) (c - 1), .bool false] 57)).alloc (.cells #[.bool true, .int .i64 0, .int .i64 0, .int .i64 0, .int .i64 0, .int .i64 0, .int .i64 0, .int .i64 0, .int .i64 0, .int .i64 0, .int .i64 0, .int .i64 0, .int .i64 0, .int .i64 0] 29) := ⟨_, rfl⟩
  obtain ⟨q1, q2, q3, q4, q5⟩ := HE.out WE hWE
  rw [← hWE]
  have hS : DcSt WE w.heap.size (w.heap.size + 1) (w.heap.size + 1 + 1) (rest X 0) (okR X 0) #[.bool true, .int .i64 0, .int .i64 0, .int .i64 0, .int .i64 0, .int .i64 0, .int .i64 0, .int .i64 0, .int .i64 0, .int .i64 0, .int .i64 0, .int .i64 0, .int .i64 0, .int .i64 0] := ⟨⟨b, o', n - 1, c - 1, q3, (HX.out.1.belowM q1 HX.out.2.1).more HX.out.2.1⟩, q4⟩
  have HS0 := Lib.hid hS
  have HQ := Lib.hid (And.intro q1 q2)
  have HO0 := Lib.hid (Only.refl (TwoS (w.heap.size + 1) (w.heap.size + 1 + 1)) WE)
  have HNB := Lib.hid (show w.heap.size + 1 + 1 ≠ w.heap.size + 1 from by omega)
  clear hWE q1 q2 q3 q4 hS c0a c0c c0 HE
  obtain ⟨y0, hy0⟩ : ∃ y, y = rv false (rest X 0) := ⟨_, rfl⟩
  have HY0 := Lib.hid hy0
  refine (next_any false (w.heap.size + 1) w.heap.size (rest X 0) (okR X 0) WE HS0.out.1 (HAr.out 0) (by omega)).mono ?_
  rintro e1 wa0 hn0
  have hv0 := rc_val hn0
  rw [← hy0] at hv0
  subst hv0
  obtain ⟨⟨ua0, ca0⟩, fa0⟩ := dc_cell HS0.out hn0 HNB.out 11 (by show 11 < 14; omega)
  have hst0 := dc_step (off := 11) (v := y0) HS0.out hn0 HNB.out (by omega)
  obtain ⟨wb0, hw0⟩ : ∃ W, W = wa0.setCell ⟨w.heap.size + 1 + 1, 11, none⟩ (.int .i64 y0) := ⟨_, rfl⟩
  rw [← hw0] at hst0
  have HS1 := Lib.hid (show DcSt wb0 w.heap.size (w.heap.size + 1) (w.heap.size + 1 + 1) (rest X 1) (okR X 1) #[.bool true, .int .i64 0, .int .i64 0, .int .i64 0, .int .i64 0, .int .i64 0, .int .i64 0, .int .i64 0, .int .i64 0, .int .i64 0, .int .i64 0, .int .i64 y0, .int .i64 0, .int .i64 0] from hst0.1)
  have HO1 := Lib.hid (HO0.out.trans hst0.2)
  have HW0 := Lib.hid hw0
  clear hn0 hst0 hw0 hy0
  go_wp2_with fail
  rw [← HW0.out]
  obtain ⟨y1, hy1⟩ : ∃ y, y = rv false (rest X 1) := ⟨_, rfl⟩
  have HY1 := Lib.hid hy1
  refine (next_any false (w.heap.size + 1) w.heap.size (rest X 1) (okR X 1) wb0 HS1.out.1 (HAr.out 1) (by omega)).mono ?_
  rintro e1 wa1 hn1
  have hv1 := rc_val hn1
  rw [← hy1] at hv1
  subst hv1
  obtain ⟨⟨ua1, ca1⟩, fa1⟩ := dc_cell HS1.out hn1 HNB.out 12 (by show 12 < 14; omega)
  have hst1 := dc_step (off := 12) (v := y1) HS1.out hn1 HNB.out (by omega)
  obtain ⟨wb1, hw1⟩ : ∃ W, W = wa1.setCell ⟨w.heap.size + 1 + 1, 12, none⟩ (.int .i64 y1) := ⟨_, rfl⟩
  rw [← hw1] at hst1
  have HS2 := Lib.hid (show DcSt wb1 w.heap.size (w.heap.size + 1) (w.heap.size + 1 + 1) (rest X 2) (okR X 2) #[.bool true, .int .i64 0, .int .i64 0, .int .i64 0, .int .i64 0, .int .i64 0, .int .i64 0, .int .i64 0, .int .i64 0, .int .i64 0, .int .i64 0, .int .i64 y0, .int .i64 y1, .int .i64 0] from hst1.1)
  have HO2 := Lib.hid (HO1.out.trans hst1.2)
  have HW1 := Lib.hid hw1
  clear hn1 hst1 hw1 hy1
  go_wp2_with fail
  rw [← HW1.out]
  obtain ⟨y2, hy2⟩ : ∃ y, y = rv false (rest X 2) := ⟨_, rfl⟩
  have HY2 := Lib.hid hy2
  refine (next_any false (w.heap.size + 1) w.heap.size (rest X 2) (okR X 2) wb1 HS2.out.1 (HAr.out 2) (by omega)).mono ?_
  rintro e1 wa2 hn2
  have hv2 := rc_val hn2
  rw [← hy2] at hv2
  subst hv2
  obtain ⟨⟨ua2, ca2⟩, fa2⟩ := dc_cell HS2.out hn2 HNB.out 13 (by show 13 < 14; omega)
  have hst2 := dc_step (off := 13) (v := y2) HS2.out hn2 HNB.out (by omega)
  obtain ⟨wb2, hw2⟩ : ∃ W, W = wa2.setCell ⟨w.heap.size + 1 + 1, 13, none⟩ (.int .i64 y2) := ⟨_, rfl⟩
  rw [← hw2] at hst2
  have HS3 := Lib.hid (show DcSt wb2 w.heap.size (w.heap.size + 1) (w.heap.size + 1 + 1) (rest X 3) (okR X 3) #[.bool true, .int .i64 0, .int .i64 0, .int .i64 0, .int .i64 0, .int .i64 0, .int .i64 0, .int .i64 0, .int .i64 0, .int .i64 0, .int .i64 0, .int .i64 y0, .int .i64 y1, .int .i64 y2] from hst2.1)
  have HO3 := Lib.hid (HO2.out.trans hst2.2)
  have HW2 := Lib.hid hw2
  clear hn2 hst2 hw2 hy2
  have u4 := HS3.out.2
  have HY := Lib.hid (And.intro HY0.out (And.intro HY1.out HY2.out))
  obtain ⟨⟨k0, k1, k2, k3, k4, k5, k6⟩, k7, k8, k9, k10, k11, k12, k13⟩ := nv_blk u4 (Below.refl _ _)
  have u0 := (HO3.out.block w.heap.size (by omega) (by rintro (e | e) <;> omega)).trans HQ.out.2
  obtain ⟨⟨m0, m1, m2, m3, m4, m5, m6⟩, m7, m8, m9, m10, m11, m12, m13⟩ := nv_blk u0 (Below.refl _ _)
  have hbw2 : Below w.heap.size w wb2 := HQ.out.1.trans (HO3.out.below HQ.out.1.size (by rintro k (rfl | rfl) <;> omega))
  obtain ⟨b2, o2, n2, c2, u1, u2⟩ := HS3.out.1
  have p1 : wb2.cell? ⟨w.heap.size + 1, 0, none⟩ = some (.slice (some ⟨b2, o2, none⟩) n2 c2) := cell_of_row _ _ 0 _ _ _ u1
  have p2 : wb2.cell? ⟨w.heap.size + 1, 1, none⟩ = some (.bool (!okR X 3)) := cell_of_row _ _ 1 _ _ _ u1
  have hl2 := u2.1.len
  obtain ⟨ce, hce⟩ : ∃ ce, recE true 0 0 0 0 0 0 0 0 0 0 y0 y1 y2 = ce := ⟨_, rfl⟩
  have HV : Hid (∃ LL, Calls Try.prog 6 #[.agg #[.bool true, .int .i64 0, .int .i64 0, .int .i64 0, .int .i64 0, .int .i64 0, .int .i64 0, .int .i64 0, .int .i64 0, .int .i64 0, .int .i64 0, .int .i64 y0, .int .i64 y1, .int .i64 y2]] wb2 (RetRen wb2 ce LL)) := by
    by_cases h0 : ce = 0
    · subst h0
      exact ⟨_, renc_sync 0 0 0 0 0 0 0 0 0 0 y0 y1 y2 wb2 hce⟩
    · exact ⟨_, rencBad_sync 0 0 0 0 0 0 0 0 0 0 y0 y1 y2 wb2 ce hce h0⟩
  obtain ⟨LL, HV⟩ := HV.out
  have HCE := Lib.hid hce.symm
  have HL2 := Lib.hid hl2
  obtain ⟨q, hq⟩ : ∃ q, q = okR X 3 := ⟨_, rfl⟩
  have HQq := Lib.hid hq
  rw [← hq] at p2
  have HVV := Lib.hid HV
  have HU := Lib.hid (And.intro u0 (And.intro hbw2 (And.intro u4 u1)))
  clear u0 hbw2 u1 u2 hl2 hce hq HV u4
  rw [HW2.out] at k0 k1 k2 k3 k4 k5 k6 k7 k8 k9 k10 k11 k12 k13
  go_wp2_with fail
  rw [← HW2.out]
  refine HVV.out.mono ?_
  rintro e3 w3 ⟨v3, rfl, _, b3⟩
  obtain ⟨⟨k0', k1', k2', k3', k4', k5', k6'⟩, k7', k8', k9', k10', k11', k12', k13'⟩ := nv_blk HU.out.2.2.1 b3
  obtain ⟨⟨m0', m1', m2', m3', m4', m5', m6'⟩, m7', m8', m9', m10', m11', m12', m13'⟩ := nv_blk HU.out.1 b3
  have u0' := (b3.block w.heap.size (Array.getElem?_eq_some_iff.1 HU.out.1).1).trans HU.out.1
  have u1' := (b3.block (w.heap.size + 1) (Array.getElem?_eq_some_iff.1 HU.out.2.2.2).1).trans HU.out.2.2.2
  have p1' : w3.cell? ⟨w.heap.size + 1, 0, none⟩ = some (.slice (some ⟨b2, o2, none⟩) n2 c2) := cell_of_row _ _ 0 _ _ _ u1'
  have p2' : w3.cell? ⟨w.heap.size + 1, 1, none⟩ = some (.bool (!q)) := by rw [HQq.out]; exact cell_of_row _ _ 1 _ _ _ u1'
  have mf : ∀ i, w3.frozen? ⟨w.heap.size, i, none⟩ = false := fun i => by simp [World.frozen?, u0']
  have mg0 := mf 0
  have mg1 := mf 1
  have mg2 := mf 2
  have mg3 := mf 3
  have mg4 := mf 4
  have mg5 := mf 5
  have mg6 := mf 6
  have mg7 := mf 7
  have mg8 := mf 8
  have mg9 := mf 9
  have mg10 := mf 10
  have mg11 := mf 11
  have mg12 := mf 12
  have mg13 := mf 13
  have HB3 := Lib.hid (HU.out.2.1.trans (b3.mono HU.out.2.1.size))
  have HU3 := Lib.hid u0'
  clear k0 k1 k2 k3 k4 k5 k6 k7 k8 k9 k10 k11 k12 k13 m0 m1 m2 m3 m4 m5 m6 m7 m8 m9 m10 m11 m12 m13 b3 u0' u1' mf p1 p2
  have hzs := set14_heap (.bool false) (.int .i64 0) (.int .i64 0) (.int .i64 0) (.int .i64 0) (.int .i64 0) (.int .i64 0) (.int .i64 0) (.int .i64 0) (.int .i64 0) (.int .i64 0) (.int .i64 0) (.int .i64 0) (.int .i64 0) HU3.out
  have hys := set14_heap (.bool true) (.int .i64 0) (.int .i64 0) (.int .i64 0) (.int .i64 0) (.int .i64 0) (.int .i64 0) (.int .i64 0) (.int .i64 0) (.int .i64 0) (.int .i64 0) (.int .i64 y0) (.int .i64 y1) (.int .i64 y2) HU3.out
  have HZS := Lib.hid hzs
  have HYS := Lib.hid hys
  clear hzs hys
  cases q with
  | false =>
    go_wp2
    obtain ⟨⟨d0, d1, d2, d3, d4, d5, d6⟩, d7, d8, d9, d10, d11, d12, d13⟩ := nv_blk HZS.out (Below.refl _ _)
    refine bodyPost_ret (v := .tuple #[.agg #[.bool false, .int .i64 0, .int .i64 0, .int .i64 0, .int .i64 0, .int .i64 0, .int .i64 0, .int .i64 0, .int .i64 0, .int .i64 0, .int .i64 0, .int .i64 0, .int .i64 0, .int .i64 0], .int .i64 4]) (by simp [results, Try.results9, go_sem, d0, d1, d2, d3, d4, d5, d6, d7, d8, d9, d10, d11, d12, d13]) rfl ⟨_, _, rfl, ?_, set14_below (.bool false) (.int .i64 0) (.int .i64 0) (.int .i64 0) (.int .i64 0) (.int .i64 0) (.int .i64 0) (.int .i64 0) (.int .i64 0) (.int .i64 0) (.int .i64 0) (.int .i64 0) (.int .i64 0) (.int .i64 0) HB3.out (Nat.le_refl _)⟩
    exact dnoS (fun hg => by have := hg.1; rw [← HQq.out] at this; cases this)
  | true =>
    by_cases hn2 : n2 = 0
    · subst hn2
      have hnil : rest X 3 = [] := List.eq_nil_of_length_eq_zero (HL2.out.symm)
      have HN := Lib.hid hnil
      clear hnil
      by_cases h0 : ce = 0
      · subst h0
        go_wp2
        obtain ⟨⟨d0, d1, d2, d3, d4, d5, d6⟩, d7, d8, d9, d10, d11, d12, d13⟩ := nv_blk HYS.out (Below.refl _ _)
        refine bodyPost_ret (v := .tuple #[.agg #[.bool true, .int .i64 0, .int .i64 0, .int .i64 0, .int .i64 0, .int .i64 0, .int .i64 0, .int .i64 0, .int .i64 0, .int .i64 0, .int .i64 0, .int .i64 y0, .int .i64 y1, .int .i64 y2], .int .i64 0]) (by simp [results, Try.results9, go_sem, d0, d1, d2, d3, d4, d5, d6, d7, d8, d9, d10, d11, d12, d13]) rfl ⟨_, _, rfl, ?_, set14_below (.bool true) (.int .i64 0) (.int .i64 0) (.int .i64 0) (.int .i64 0) (.int .i64 0) (.int .i64 0) (.int .i64 0) (.int .i64 0) (.int .i64 0) (.int .i64 0) (.int .i64 y0) (.int .i64 y1) (.int .i64 y2) HB3.out (Nat.le_refl _)⟩
        exact dyesS (HQq.out.symm) HN.out HCE.out.symm HY.out
      · have hd : (ce != 0) = true := by simpa using h0
        go_wp2
        obtain ⟨⟨d0, d1, d2, d3, d4, d5, d6⟩, d7, d8, d9, d10, d11, d12, d13⟩ := nv_blk HZS.out (Below.refl _ _)
        refine bodyPost_ret (v := .tuple #[.agg #[.bool false, .int .i64 0, .int .i64 0, .int .i64 0, .int .i64 0, .int .i64 0, .int .i64 0, .int .i64 0, .int .i64 0, .int .i64 0, .int .i64 0, .int .i64 0, .int .i64 0, .int .i64 0], .int .i64 4]) (by simp [results, Try.results9, go_sem, d0, d1, d2, d3, d4, d5, d6, d7, d8, d9, d10, d11, d12, d13]) rfl ⟨_, _, rfl, ?_, set14_below (.bool false) (.int .i64 0) (.int .i64 0) (.int .i64 0) (.int .i64 0) (.int .i64 0) (.int .i64 0) (.int .i64 0) (.int .i64 0) (.int .i64 0) (.int .i64 0) (.int .i64 0) (.int .i64 0) (.int .i64 0) HB3.out (Nat.le_refl _)⟩
        exact dnoS (fun hg => h0 (HCE.out.trans (by rw [HY.out.1, HY.out.2.1, HY.out.2.2]; have h1 := hg.2.2; simp [recE, h1, fixZ])))
    · have i5 : (0 : Int) < (n2 : Int) := by omega
      go_wp2
      obtain ⟨⟨d0, d1, d2, d3, d4, d5, d6⟩, d7, d8, d9, d10, d11, d12, d13⟩ := nv_blk HZS.out (Below.refl _ _)
      refine bodyPost_ret (v := .tuple #[.agg #[.bool false, .int .i64 0, .int .i64 0, .int .i64 0, .int .i64 0, .int .i64 0, .int .i64 0, .int .i64 0, .int .i64 0, .int .i64 0, .int .i64 0, .int .i64 0, .int .i64 0, .int .i64 0], .int .i64 4]) (by simp [results, Try.results9, go_sem, d0, d1, d2, d3, d4, d5, d6, d7, d8, d9, d10, d11, d12, d13]) rfl ⟨_, _, rfl, ?_, set14_below (.bool false) (.int .i64 0) (.int .i64 0) (.int .i64 0) (.int .i64 0) (.int .i64 0) (.int .i64 0) (.int .i64 0) (.int .i64 0) (.int .i64 0) (.int .i64 0) (.int .i64 0) (.int .i64 0) (.int .i64 0) HB3.out (Nat.le_refl _)⟩
      exact dnoS (fun hg => hn2 (by rw [HL2.out, hg.2.1]; rfl))

def LpR (wL : World) (B rb nb i0 off k : Nat) (X : List Nat) (C : Array Value) (iv : Value) (wr : World) : Prop :=
  ∃ j : Nat, iv = .int .i64 (j : Int) ∧ j ≤ k ∧ Hid (DcSt wr B rb nb (rest X (i0 + j)) (okR X (i0 + j)) (setsN C (fun j => off + j) (fun i => rv true (rest X (i0 + i))) j)) ∧ Only (TwoS rb nb) wL wr

set_option maxRecDepth 100000 in
set_option maxHeartbeats 8000000 in
theorem rdec_fix (X : List Nat) (hA : AllB X) (b o n c B0 : Nat) (w : World) (hx : RB w B0 (.slice (some ⟨b, o, none⟩) n c) (0 :: X)) (hB : B0 ≤ w.heap.size) (hl : n ≤ 1000) :
    Calls Try.prog 9 #[.slice (some ⟨b, o, none⟩) n c] w (RetDec (0 :: X) w) := by
  have hln := hx.1.len
  have hcap := hx.1.cap
  have hn0 : 0 < n := by simp at hln; omega
  obtain ⟨b', o'', eA, hb, hc⟩ := hx.1.at_ hn0
  injection eA with eA
  injection eA with eb eo
  subst eb eo
  have c0 : w.cell? ⟨b, o, none⟩ = some (.int .u8 0) := hc 0 hn0
  have c0a := fun ob => (World.cell?_alloc_lt w ob ⟨b, o, none⟩ (by simp; omega)).trans c0
  have c0c : ∀ o1 o2 o3, (((w.alloc o1).alloc o2).alloc o3).cell? ⟨b, o, none⟩ = some (.int .u8 0) := fun o1 o2 o3 => (World.cell?_alloc_lt _ o3 ⟨b, o, none⟩ (by simp; omega)).trans ((World.cell?_alloc_lt _ o2 ⟨b, o, none⟩ (by simp; omega)).trans (c0a o1))
  obtain ⟨AD, hAD⟩ : ∃ AD, (if c = 1 then (some ⟨b, o, none⟩ : Option Addr) else some ⟨b, o + 1, none⟩) = AD := ⟨_, rfl⟩
  obtain ⟨o', e', hT⟩ := rb_tail2 (a := 1) hx (by omega) hAD
  subst e'
  have hT : RB w B0 (.slice (some ⟨b, o', none⟩) (n - 1) (c - 1)) X := hT
  have HX := Lib.hid (And.intro hT (And.intro hB hA))
  have i1 : ¬ ((n : Int) = 0) := by omega
  have i2 : (0 : Int) < (n : Int) := by omega
  have i3 : (1 : Int) ≤ (n : Int) := by omega
  have i4 : 1 ≤ c := by omega
  unfold maxLen at hcap
  have HE := Lib.hid (rdc_vars w false (.slice (some ⟨b, o', none⟩) (n - 1) (c - 1)))
  have HAr := Lib.hid (fun j => (show AllB (rest X j) from by
    induction j with
    | zero => exact hA
    | succ j ih => exact ih.drop _))
  clear hx hT hln hc hA
  go_enter Try.func9, Try.ntmps9
  go_wp2_with fail
  obtain ⟨WE, hWE⟩ : ∃ WE, WE = ((w.alloc (.cells #[.bool false, .int .i64 0, .int .i64 0, .int .i64 0, .int .i64 0, .int .i64 0, .int .i64 0, .int .i64 0, .int .i64 0, .int .i64 0, .int .i64 0, .int .i64 0, .int .i64 0, .int .i64 0] 29)).alloc (.cells #[.slice (some ⟨b, o', none⟩) (n - 1) (c - 1), .bool false] 57)).alloc (.cells #[.bool false, .int .i64 0, .int .i64 0, .int .i64 0, .int .i64 0, .int .i64 0, .int .i64 0, .int .i64 0, .int .i64 0, .int .i64 0, .int .i64 0, .int .i64 0, .int .i64 0, .int .i64 0] 29) := ⟨_, rfl⟩
  obtain ⟨q1, q2, q3, q4, q5⟩ := HE.out WE hWE
  rw [← hWE]
  have hS : DcSt WE w.heap.size (w.heap.size + 1) (w.heap.size + 1 + 1) (rest X 0) (okR X 0) #[.bool false, .int .i64 0, .int .i64 0, .int .i64 0, .int .i64 0, .int .i64 0, .int .i64 0, .int .i64 0, .int .i64 0, .int .i64 0, .int .i64 0, .int .i64 0, .int .i64 0, .int .i64 0] := ⟨⟨b, o', n - 1, c - 1, q3, (HX.out.1.belowM q1 HX.out.2.1).more HX.out.2.1⟩, q4⟩
  have HS0 := Lib.hid hS
  have HQ := Lib.hid (And.intro q1 q2)
  have HO0 := Lib.hid (Only.refl (TwoS (w.heap.size + 1) (w.heap.size + 1 + 1)) WE)
  have HNB := Lib.hid (show w.heap.size + 1 + 1 ≠ w.heap.size + 1 from by omega)
  clear hWE q1 q2 q3 q4 hS c0a c0c c0 HE
  obtain ⟨y0, hy0⟩ : ∃ y, y = rv false (rest X 0) := ⟨_, rfl⟩
  have HY0 := Lib.hid hy0
  refine (next_any false (w.heap.size + 1) w.heap.size (rest X 0) (okR X 0) WE HS0.out.1 (HAr.out 0) (by omega)).mono ?_
  rintro e1 wa0 hn0
  have hv0 := rc_val hn0
  rw [← hy0] at hv0
  subst hv0
  obtain ⟨⟨ua0, ca0⟩, fa0⟩ := dc_cell HS0.out hn0 HNB.out 1 (by show 1 < 14; omega)
  have hst0 := dc_step (off := 1) (v := y0) HS0.out hn0 HNB.out (by omega)
  obtain ⟨wb0, hw0⟩ : ∃ W, W = wa0.setCell ⟨w.heap.size + 1 + 1, 1, none⟩ (.int .i64 y0) := ⟨_, rfl⟩
  rw [← hw0] at hst0
  have HS1 := Lib.hid (show DcSt wb0 w.heap.size (w.heap.size + 1) (w.heap.size + 1 + 1) (rest X 1) (okR X 1) #[.bool false, .int .i64 y0, .int .i64 0, .int .i64 0, .int .i64 0, .int .i64 0, .int .i64 0, .int .i64 0, .int .i64 0, .int .i64 0, .int .i64 0, .int .i64 0, .int .i64 0, .int .i64 0] from hst0.1)
  have HO1 := Lib.hid (HO0.out.trans hst0.2)
  have HW0 := Lib.hid hw0
  clear hn0 hst0 hw0 hy0
  go_wp2_with fail
  rw [← HW0.out]
  go_loopw [45] (fun iv wr => LpR wb0 w.heap.size (w.heap.size + 1) (w.heap.size + 1 + 1) 1 2 3 X #[.bool false, .int .i64 y0, .int .i64 0, .int .i64 0, .int .i64 0, .int .i64 0, .int .i64 0, .int .i64 0, .int .i64 0, .int .i64 0, .int .i64 0, .int .i64 0, .int .i64 0, .int .i64 0] iv wr) (fun iv _ => 3 - (intOf1 iv).toNat)
  case atStart => exact ⟨0, rfl, by omega, HS1, Only.refl _ _⟩
  case round =>
    obtain ⟨j, rfl, hj, HV, hO⟩ := hrel
    by_cases hjk : j < 3
    · have j1 : (0 : Int) ≤ (j : Int) := by omega
      have j2 : (j : Int) < 3 := by omega
      go_wp2_with fail
      refine (next_any true (w.heap.size + 1) w.heap.size (rest X (1 + j)) (okR X (1 + j)) wr HV.out.1 (HAr.out (1 + j)) (by omega)).mono ?_
      rintro e1 wa hn
      obtain rfl := rc_val hn
      obtain ⟨⟨ua, ca⟩, fa⟩ := dc_cell HV.out hn HNB.out (2 + j) (by rw [setsN_size]; show 2 + j < 14; omega)
      have hst := dc_step (off := 2 + j) (v := rv true (rest X (1 + j))) HV.out hn HNB.out (by omega)
      have HST := Lib.hid (And.intro hst.1 (hO.trans hst.2))
      clear hn hst
      go_wp2
      go_roundw
      case rel => exact ⟨j + 1, by go_num, by omega, HST.out.1, HST.out.2⟩
      case measure => simp [intOf1]; omega
    · obtain rfl : j = 3 := by omega
      obtain ⟨wb3, hwx⟩ : ∃ W, W = wr := ⟨_, rfl⟩
      subst hwx
      have hS9 := HV.out
      rw [stg1] at hS9
      obtain ⟨y1, hy1⟩ : ∃ y, y = rv true (rest X 1) := ⟨_, rfl⟩
      have HY1 := Lib.hid hy1
      obtain ⟨y2, hy2⟩ : ∃ y, y = rv true (rest X 2) := ⟨_, rfl⟩
      have HY2 := Lib.hid hy2
      obtain ⟨y3, hy3⟩ : ∃ y, y = rv true (rest X 3) := ⟨_, rfl⟩
      have HY3 := Lib.hid hy3
      have hS9 : DcSt _ w.heap.size (w.heap.size + 1) (w.heap.size + 1 + 1) (rest X 4) (okR X 4) #[.bool false, .int .i64 y0, .int .i64 (rv true (rest X 1)), .int .i64 (rv true (rest X 2)), .int .i64 (rv true (rest X 3)), .int .i64 0, .int .i64 0, .int .i64 0, .int .i64 0, .int .i64 0, .int .i64 0, .int .i64 0, .int .i64 0, .int .i64 0] := hS9
      rw [← hy1, ← hy2, ← hy3] at hS9
      clear hy1 hy2 hy3
      have HS4 := Lib.hid (show DcSt wb3 w.heap.size (w.heap.size + 1) (w.heap.size + 1 + 1) (rest X 4) (okR X 4) #[.bool false, .int .i64 y0, .int .i64 y1, .int .i64 y2, .int .i64 y3, .int .i64 0, .int .i64 0, .int .i64 0, .int .i64 0, .int .i64 0, .int .i64 0, .int .i64 0, .int .i64 0, .int .i64 0] from hS9)
      have HO4 := Lib.hid (HO1.out.trans hO)
      clear hS9 hO HV
      go_wp2_with fail
      obtain ⟨y4, hy4⟩ : ∃ y, y = rv false (rest X 4) := ⟨_, rfl⟩
      have HY4 := Lib.hid hy4
      refine (next_any false (w.heap.size + 1) w.heap.size (rest X 4) (okR X 4) wb3 HS4.out.1 (HAr.out 4) (by omega)).mono ?_
      rintro e1 wa4 hn4
      have hv4 := rc_val hn4
      rw [← hy4] at hv4
      subst hv4
      obtain ⟨⟨ua4, ca4⟩, fa4⟩ := dc_cell HS4.out hn4 HNB.out 5 (by show 5 < 14; omega)
      have hst4 := dc_step (off := 5) (v := y4) HS4.out hn4 HNB.out (by omega)
      obtain ⟨wb4, hw4⟩ : ∃ W, W = wa4.setCell ⟨w.heap.size + 1 + 1, 5, none⟩ (.int .i64 y4) := ⟨_, rfl⟩
      rw [← hw4] at hst4
      have HS5 := Lib.hid (show DcSt wb4 w.heap.size (w.heap.size + 1) (w.heap.size + 1 + 1) (rest X 5) (okR X 5) #[.bool false, .int .i64 y0, .int .i64 y1, .int .i64 y2, .int .i64 y3, .int .i64 y4, .int .i64 0, .int .i64 0, .int .i64 0, .int .i64 0, .int .i64 0, .int .i64 0, .int .i64 0, .int .i64 0] from hst4.1)
      have HO5 := Lib.hid (HO4.out.trans hst4.2)
      have HW4 := Lib.hid hw4
      clear hn4 hst4 hw4 hy4
      go_wp2_with fail
      rw [← HW4.out]
      go_loopw [59] (fun iv wr => LpR wb4 w.heap.size (w.heap.size + 1) (w.heap.size + 1 + 1) 5 6 4 X #[.bool false, .int .i64 y0, .int .i64 y1, .int .i64 y2, .int .i64 y3, .int .i64 y4, .int .i64 0, .int .i64 0, .int .i64 0, .int .i64 0, .int .i64 0, .int .i64 0, .int .i64 0, .int .i64 0] iv wr) (fun iv _ => 4 - (intOf1 iv).toNat)
      case atStart => exact ⟨0, rfl, by omega, HS5, Only.refl _ _⟩
      case round =>
        obtain ⟨j, rfl, hj, HV, hO⟩ := hrel
        by_cases hjk : j < 4
        · have j1 : (0 : Int) ≤ (j : Int) := by omega
          have j2 : (j : Int) < 4 := by omega
          go_wp2_with fail
          refine (next_any true (w.heap.size + 1) w.heap.size (rest X (5 + j)) (okR X (5 + j)) wr HV.out.1 (HAr.out (5 + j)) (by omega)).mono ?_
          rintro e1 wa hn
          obtain rfl := rc_val hn
          obtain ⟨⟨ua, ca⟩, fa⟩ := dc_cell HV.out hn HNB.out (6 + j) (by rw [setsN_size]; show 6 + j < 14; omega)
          have hst := dc_step (off := 6 + j) (v := rv true (rest X (5 + j))) HV.out hn HNB.out (by omega)
          have HST := Lib.hid (And.intro hst.1 (hO.trans hst.2))
          clear hn hst
          go_wp2
          go_roundw
          case rel => exact ⟨j + 1, by go_num, by omega, HST.out.1, HST.out.2⟩
          case measure => simp [intOf1]; omega
        · obtain rfl : j = 4 := by omega
          obtain ⟨wb8, hwx⟩ : ∃ W, W = wr := ⟨_, rfl⟩
          subst hwx
          have hS9 := HV.out
          rw [stg3] at hS9
          obtain ⟨y5, hy5⟩ : ∃ y, y = rv true (rest X 5) := ⟨_, rfl⟩
          have HY5 := Lib.hid hy5
          obtain ⟨y6, hy6⟩ : ∃ y, y = rv true (rest X 6) := ⟨_, rfl⟩
          have HY6 := Lib.hid hy6
          obtain ⟨y7, hy7⟩ : ∃ y, y = rv true (rest X 7) := ⟨_, rfl⟩
          have HY7 := Lib.hid hy7
          obtain ⟨y8, hy8⟩ : ∃ y, y = rv true (rest X 8) := ⟨_, rfl⟩
          have HY8 := Lib.hid hy8
          have hS9 : DcSt _ w.heap.size (w.heap.size + 1) (w.heap.size + 1 + 1) (rest X 9) (okR X 9) #[.bool false, .int .i64 y0, .int .i64 y1, .int .i64 y2, .int .i64 y3, .int .i64 y4, .int .i64 (rv true (rest X 5)), .int .i64 (rv true (rest X 6)), .int .i64 (rv true (rest X 7)), .int .i64 (rv true (rest X 8)), .int .i64 0, .int .i64 0, .int .i64 0, .int .i64 0] := hS9
          rw [← hy5, ← hy6, ← hy7, ← hy8] at hS9
          clear hy5 hy6 hy7 hy8
          have HS9 := Lib.hid (show DcSt wb8 w.heap.size (w.heap.size + 1) (w.heap.size + 1 + 1) (rest X 9) (okR X 9) #[.bool false, .int .i64 y0, .int .i64 y1, .int .i64 y2, .int .i64 y3, .int .i64 y4, .int .i64 y5, .int .i64 y6, .int .i64 y7, .int .i64 y8, .int .i64 0, .int .i64 0, .int .i64 0, .int .i64 0] from hS9)
          have HO9 := Lib.hid (HO5.out.trans hO)
          clear hS9 hO HV
          go_wp2_with fail
          obtain ⟨y9, hy9⟩ : ∃ y, y = rv false (rest X 9) := ⟨_, rfl⟩
          have HY9 := Lib.hid hy9
          refine (next_any false (w.heap.size + 1) w.heap.size (rest X 9) (okR X 9) wb8 HS9.out.1 (HAr.out 9) (by omega)).mono ?_
          rintro e1 wa9 hn9
          have hv9 := rc_val hn9
          rw [← hy9] at hv9
          subst hv9
          obtain ⟨⟨ua9, ca9⟩, fa9⟩ := dc_cell HS9.out hn9 HNB.out 10 (by show 10 < 14; omega)
          have hst9 := dc_step (off := 10) (v := y9) HS9.out hn9 HNB.out (by omega)
          obtain ⟨wb9, hw9⟩ : ∃ W, W = wa9.setCell ⟨w.heap.size + 1 + 1, 10, none⟩ (.int .i64 y9) := ⟨_, rfl⟩
          rw [← hw9] at hst9
          have HS10 := Lib.hid (show DcSt wb9 w.heap.size (w.heap.size + 1) (w.heap.size + 1 + 1) (rest X 10) (okR X 10) #[.bool false, .int .i64 y0, .int .i64 y1, .int .i64 y2, .int .i64 y3, .int .i64 y4, .int .i64 y5, .int .i64 y6, .int .i64 y7, .int .i64 y8, .int .i64 y9, .int .i64 0, .int .i64 0, .int .i64 0] from hst9.1)
          have HO10 := Lib.hid (HO9.out.trans hst9.2)
          have HW9 := Lib.hid hw9
          clear hn9 hst9 hw9 hy9
          have u4 := HS10.out.2
          have HY := Lib.hid (And.intro HY0.out (And.intro HY1.out (And.intro HY2.out (And.intro HY3.out (And.intro HY4.out (And.intro HY5.out (And.intro HY6.out (And.intro HY7.out (And.intro HY8.out (HY9.out))))))))))
          obtain ⟨⟨k0, k1, k2, k3, k4, k5, k6⟩, k7, k8, k9, k10, k11, k12, k13⟩ := nv_blk u4 (Below.refl _ _)
          have u0 := (HO10.out.block w.heap.size (by omega) (by rintro (e | e) <;> omega)).trans HQ.out.2
          obtain ⟨⟨m0, m1, m2, m3, m4, m5, m6⟩, m7, m8, m9, m10, m11, m12, m13⟩ := nv_blk u0 (Below.refl _ _)
          have hbw2 : Below w.heap.size w wb9 := HQ.out.1.trans (HO10.out.below HQ.out.1.size (by rintro k (rfl | rfl) <;> omega))
          obtain ⟨b2, o2, n2, c2, u1, u2⟩ := HS10.out.1
          have p1 : wb9.cell? ⟨w.heap.size + 1, 0, none⟩ = some (.slice (some ⟨b2, o2, none⟩) n2 c2) := cell_of_row _ _ 0 _ _ _ u1
          have p2 : wb9.cell? ⟨w.heap.size + 1, 1, none⟩ = some (.bool (!okR X 10)) := cell_of_row _ _ 1 _ _ _ u1
          have hl2 := u2.1.len
          obtain ⟨ce, hce⟩ : ∃ ce, recE false y0 y1 y2 y3 y4 y5 y6 y7 y8 y9 0 0 0 = ce := ⟨_, rfl⟩
          have HV : Hid (∃ LL, Calls Try.prog 6 #[.agg #[.bool false, .int .i64 y0, .int .i64 y1, .int .i64 y2, .int .i64 y3, .int .i64 y4, .int .i64 y5, .int .i64 y6, .int .i64 y7, .int .i64 y8, .int .i64 y9, .int .i64 0, .int .i64 0, .int .i64 0]] wb9 (RetRen wb9 ce LL)) := by
            by_cases h0 : ce = 0
            · subst h0
              exact ⟨_, renc_fix y0 y1 y2 y3 y4 y5 y6 y7 y8 y9 0 0 0 wb9 hce⟩
            · exact ⟨_, rencBad_fix y0 y1 y2 y3 y4 y5 y6 y7 y8 y9 0 0 0 wb9 ce hce h0⟩
          obtain ⟨LL, HV⟩ := HV.out
          have HCE := Lib.hid hce.symm
          have HL2 := Lib.hid hl2
          obtain ⟨q, hq⟩ : ∃ q, q = okR X 10 := ⟨_, rfl⟩
          have HQq := Lib.hid hq
          rw [← hq] at p2
          have HVV := Lib.hid HV
          have HU := Lib.hid (And.intro u0 (And.intro hbw2 (And.intro u4 u1)))
          clear u0 hbw2 u1 u2 hl2 hce hq HV u4
          rw [HW9.out] at k0 k1 k2 k3 k4 k5 k6 k7 k8 k9 k10 k11 k12 k13
          go_wp2_with fail
          rw [← HW9.out]
          refine HVV.out.mono ?_
          rintro e3 w3 ⟨v3, rfl, _, b3⟩
          obtain ⟨⟨k0', k1', k2', k3', k4', k5', k6'⟩, k7', k8', k9', k10', k11', k12', k13'⟩ := nv_blk HU.out.2.2.1 b3
          obtain ⟨⟨m0', m1', m2', m3', m4', m5', m6'⟩, m7', m8', m9', m10', m11', m12', m13'⟩ := nv_blk HU.out.1 b3
          have u0' := (b3.block w.heap.size (Array.getElem?_eq_some_iff.1 HU.out.1).1).trans HU.out.1
          have u1' := (b3.block (w.heap.size + 1) (Array.getElem?_eq_some_iff.1 HU.out.2.2.2).1).trans HU.out.2.2.2
          have p1' : w3.cell? ⟨w.heap.size + 1, 0, none⟩ = some (.slice (some ⟨b2, o2, none⟩) n2 c2) := cell_of_row _ _ 0 _ _ _ u1'
          have p2' : w3.cell? ⟨w.heap.size + 1, 1, none⟩ = some (.bool (!q)) := by rw [HQq.out]; exact cell_of_row _ _ 1 _ _ _ u1'
          have mf : ∀ i, w3.frozen? ⟨w.heap.size, i, none⟩ = false := fun i => by simp [World.frozen?, u0']
          have mg0 := mf 0
          have mg1 := mf 1
          have mg2 := mf 2
          have mg3 := mf 3
          have mg4 := mf 4
          have mg5 := mf 5
          have mg6 := mf 6
          have mg7 := mf 7
          have mg8 := mf 8
          have mg9 := mf 9
          have mg10 := mf 10
          have mg11 := mf 11
          have mg12 := mf 12
          have mg13 := mf 13
          have HB3 := Lib.hid (HU.out.2.1.trans (b3.mono HU.out.2.1.size))
          have HU3 := Lib.hid u0'
          clear k0 k1 k2 k3 k4 k5 k6 k7 k8 k9 k10 k11 k12 k13 m0 m1 m2 m3 m4 m5 m6 m7 m8 m9 m10 m11 m12 m13 b3 u0' u1' mf p1 p2
          have hzs := set14_heap (.bool false) (.int .i64 0) (.int .i64 0) (.int .i64 0) (.int .i64 0) (.int .i64 0) (.int .i64 0) (.int .i64 0) (.int .i64 0) (.int .i64 0) (.int .i64 0) (.int .i64 0) (.int .i64 0) (.int .i64 0) HU3.out
          have hys := set14_heap (.bool false) (.int .i64 y0) (.int .i64 y1) (.int .i64 y2) (.int .i64 y3) (.int .i64 y4) (.int .i64 y5) (.int .i64 y6) (.int .i64 y7) (.int .i64 y8) (.int .i64 y9) (.int .i64 0) (.int .i64 0) (.int .i64 0) HU3.out
          have HZS := Lib.hid hzs
          have HYS := Lib.hid hys
          clear hzs hys
          cases q with
          | false =>
            go_wp2
            obtain ⟨⟨d0, d1, d2, d3, d4, d5, d6⟩, d7, d8, d9, d10, d11, d12, d13⟩ := nv_blk HZS.out (Below.refl _ _)
            refine bodyPost_ret (v := .tuple #[.agg #[.bool false, .int .i64 0, .int .i64 0, .int .i64 0, .int .i64 0, .int .i64 0, .int .i64 0, .int .i64 0, .int .i64 0, .int .i64 0, .int .i64 0, .int .i64 0, .int .i64 0, .int .i64 0], .int .i64 4]) (by simp [results, Try.results9, go_sem, d0, d1, d2, d3, d4, d5, d6, d7, d8, d9, d10, d11, d12, d13]) rfl ⟨_, _, rfl, ?_, set14_below (.bool false) (.int .i64 0) (.int .i64 0) (.int .i64 0) (.int .i64 0) (.int .i64 0) (.int .i64 0) (.int .i64 0) (.int .i64 0) (.int .i64 0) (.int .i64 0) (.int .i64 0) (.int .i64 0) (.int .i64 0) HB3.out (Nat.le_refl _)⟩
            exact dnoF (fun hg => by have := hg.1; rw [← HQq.out] at this; cases this)
          | true =>
            by_cases hn2 : n2 = 0
            · subst hn2
              have hnil : rest X 10 = [] := List.eq_nil_of_length_eq_zero (HL2.out.symm)
              have HN := Lib.hid hnil
              clear hnil
              by_cases h0 : ce = 0
              · subst h0
                go_wp2
                obtain ⟨⟨d0, d1, d2, d3, d4, d5, d6⟩, d7, d8, d9, d10, d11, d12, d13⟩ := nv_blk HYS.out (Below.refl _ _)
                refine bodyPost_ret (v := .tuple #[.agg #[.bool false, .int .i64 y0, .int .i64 y1, .int .i64 y2, .int .i64 y3, .int .i64 y4, .int .i64 y5, .int .i64 y6, .int .i64 y7, .int .i64 y8, .int .i64 y9, .int .i64 0, .int .i64 0, .int .i64 0], .int .i64 0]) (by simp [results, Try.results9, go_sem, d0, d1, d2, d3, d4, d5, d6, d7, d8, d9, d10, d11, d12, d13]) rfl ⟨_, _, rfl, ?_, set14_below (.bool false) (.int .i64 y0) (.int .i64 y1) (.int .i64 y2) (.int .i64 y3) (.int .i64 y4) (.int .i64 y5) (.int .i64 y6) (.int .i64 y7) (.int .i64 y8) (.int .i64 y9) (.int .i64 0) (.int .i64 0) (.int .i64 0) HB3.out (Nat.le_refl _)⟩
                exact dyesF (HQq.out.symm) HN.out HCE.out.symm HY.out
              · have hd : (ce != 0) = true := by simpa using h0
                go_wp2
                obtain ⟨⟨d0, d1, d2, d3, d4, d5, d6⟩, d7, d8, d9, d10, d11, d12, d13⟩ := nv_blk HZS.out (Below.refl _ _)
                refine bodyPost_ret (v := .tuple #[.agg #[.bool false, .int .i64 0, .int .i64 0, .int .i64 0, .int .i64 0, .int .i64 0, .int .i64 0, .int .i64 0, .int .i64 0, .int .i64 0, .int .i64 0, .int .i64 0, .int .i64 0, .int .i64 0], .int .i64 4]) (by simp [results, Try.results9, go_sem, d0, d1, d2, d3, d4, d5, d6, d7, d8, d9, d10, d11, d12, d13]) rfl ⟨_, _, rfl, ?_, set14_below (.bool false) (.int .i64 0) (.int .i64 0) (.int .i64 0) (.int .i64 0) (.int .i64 0) (.int .i64 0) (.int .i64 0) (.int .i64 0) (.int .i64 0) (.int .i64 0) (.int .i64 0) (.int .i64 0) (.int .i64 0) HB3.out (Nat.le_refl _)⟩
                exact dnoF (fun hg => h0 (HCE.out.trans (by rw [HY.out.1, HY.out.2.1, HY.out.2.2.1, HY.out.2.2.2.1, HY.out.2.2.2.2.1, HY.out.2.2.2.2.2.1, HY.out.2.2.2.2.2.2.1, HY.out.2.2.2.2.2.2.2.1, HY.out.2.2.2.2.2.2.2.2.1, HY.out.2.2.2.2.2.2.2.2.2]; have h1 := hg.2.2; simp [recE, h1, syncZ])))
            · have i5 : (0 : Int) < (n2 : Int) := by omega
              go_wp2
              obtain ⟨⟨d0, d1, d2, d3, d4, d5, d6⟩, d7, d8, d9, d10, d11, d12, d13⟩ := nv_blk HZS.out (Below.refl _ _)
              refine bodyPost_ret (v := .tuple #[.agg #[.bool false, .int .i64 0, .int .i64 0, .int .i64 0, .int .i64 0, .int .i64 0, .int .i64 0, .int .i64 0, .int .i64 0, .int .i64 0, .int .i64 0, .int .i64 0, .int .i64 0, .int .i64 0], .int .i64 4]) (by simp [results, Try.results9, go_sem, d0, d1, d2, d3, d4, d5, d6, d7, d8, d9, d10, d11, d12, d13]) rfl ⟨_, _, rfl, ?_, set14_below (.bool false) (.int .i64 0) (.int .i64 0) (.int .i64 0) (.int .i64 0) (.int .i64 0) (.int .i64 0) (.int .i64 0) (.int .i64 0) (.int .i64 0) (.int .i64 0) (.int .i64 0) (.int .i64 0) (.int .i64 0) HB3.out (Nat.le_refl _)⟩
              exact dnoF (fun hg => hn2 (by rw [HL2.out, hg.2.1]; rfl))

end Go.Proofs.Ytfalhfgnobjfgaa
