/-
  Floor, Ceil, Int of fractions, and exact.end.
-/
import Derived.Test.YtogklhbodaghdaaFracd
namespace Go.Proofs.Ytogklhbodaghdaa
open Go.RowKit

def flo (neg : Bool) (n d : Nat) : Nat := if neg = true ∧ n % d ≠ 0 then n / d + 1 else n / d

set_option maxRecDepth 100000 in
set_option maxHeartbeats 1000000 in
theorem floor_any (neg : Bool) (n d : Nat) (A1 A2 : Option Addr) (n1 n2 c1 c2 : Nat) (B : Nat) (w : World) (hx : RW .u64 w B (.slice A1 n1 c1) (words n)) (hy : RW .u64 w B (.slice A2 n2 c2) (words (dd d))) (hB : B ≤ w.heap.size)
    (hd0 : d ≠ 0) (l1 : (words n).length ≤ 65536) (hD : DivideAt n d) :
    Calls Try.prog 43 #[.agg #[.bool neg, .slice A1 n1 c1, .slice A2 n2 c2]] w (RetF w neg (flo neg n d) 1) := by
  obtain ⟨W0, hW0⟩ : ∃ W0, W0 = (w.alloc (.cells #[.bool neg, .slice A1 n1 c1, .slice A2 n2 c2] 55)).alloc (.cells #[.bool false, .slice none 0 0, .slice none 0 0] 55) := ⟨_, rfl⟩
  have HW0 := Lib.hid hW0
  clear hW0
  have hw0 : Below w.heap.size w W0 := by rw [HW0.out]; exact ((Below.refl _ _).alloc (Nat.le_refl _) _).alloc (by simp) _
  have hx0 : RW .u64 W0 B (.slice A1 n1 c1) (words n) := hx.belowM hw0 hB
  have hy0 : RW .u64 W0 B (.slice A2 n2 c2) (words (dd d)) := hy.belowM hw0 hB
  have hB0 : B ≤ W0.heap.size := Nat.le_trans hB hw0.size
  have g0 : W0.heap[w.heap.size]? = some (.cells #[.bool neg, .slice A1 n1 c1, .slice A2 n2 c2] 55 (0, 0)) := by rw [HW0.out]; exact heap_alloc2_old _ _ _
  have g1 : W0.heap[w.heap.size + 1]? = some (.cells #[.bool false, .slice none 0 0, .slice none 0 0] 55 (0, 0)) := by rw [HW0.out]; exact heap_alloc2_new _ _ _
  have G1 := Lib.hid g1
  have G0 := Lib.hid g0
  obtain ⟨k0, k1, k2, _⟩ := fr_cellsG g0 (Below.refl _ _)
  clear g0 g1
  go_enter Try.func43, Try.ntmps43
  go_wp2
  rw [← HW0.out]
  go_region_held3 (fun w' => w'.cell? ⟨w.heap.size, 0, none⟩ = some (.bool neg) ∧ w'.cell? ⟨w.heap.size, 1, none⟩ = some (.slice A1 n1 c1) ∧ w'.cell? ⟨w.heap.size, 2, none⟩ = some (.slice A2 n2 c2))
    (first | exact ⟨r0, r1, r2⟩ | exact ⟨q0, q1, q2⟩ | exact ⟨k0, k1, k2⟩ | go_keep)
    (first
      | (go_at_call 45
         refine (denominator_any neg d hd0 A1 A2 n1 n2 c1 c2 B _ (by exact hy0) (by exact hB0)).mono ?_
         rintro e w1 ⟨P1, p1, r1, rfl, h1, hb1'⟩
         have hb1 : Below W0.heap.size W0 w1 := by first | exact hb1' | exact below_un hb1' | exact below_unN hb1'
         obtain ⟨q0, q1, q2, _⟩ := fr_cellsG G0.out hb1
         have hx1 : RW .u64 w1 w1.heap.size (.slice A1 n1 c1) (words n) := (hx0.belowM hb1 hB0).more (Nat.le_trans hB0 hb1.size)
         clear hb1')
      | (go_at_call 50
         refine (hD _ w1.heap.size A1 P1 n1 p1 c1 r1 (by exact hx1) (by exact h1) (by exact Nat.le_refl _) (hx1.lenW l1)).mono ?_
         rintro e w2 ⟨Q1, p2, s1, Q2, p3, s2, rfl, h2, h3, hb2'⟩
         have hb2a : Below w1.heap.size w1 w2 := by first | exact hb2' | exact below_un hb2' | exact below_unN hb2'
         have hb2 : Below W0.heap.size W0 w2 := hb1.trans (hb2a.mono hb1.size)
         obtain ⟨r0, r1', r2, _⟩ := fr_cellsG G0.out hb2
         obtain ⟨m0, m1, m2, mf⟩ := fr_cellsG G1.out hb2
         clear hb2'))
  all_goals
    have h2' := (h2 : RW .u64 w2 w2.heap.size (.slice Q1 p2 s1) (words (n / d)))
    cases neg with
    | false =>
      have e1 : flo false n d = n / d := by unfold flo; simp
      have E1 := Lib.hid e1
      clear e1
      obtain ⟨f1, f2⟩ := fr_storeG G1.out hw0 (Nat.le_succ _) hb2 (.bool false) (.slice Q1 p2 s1) (.slice none 0 0)
      have F := Lib.hid (And.intro f1 f2)
      clear f1 f2
      go_wp2
      obtain ⟨f1, f2⟩ := F.out
      refine bodyPost_ret (v := .agg #[.bool false, .slice Q1 p2 s1, .slice none 0 0]) (by simp [results, Try.results43, go_sem, m0, m1, m2]) rfl ⟨.agg #[.bool false, .slice Q1 p2 s1, .slice none 0 0], rfl, ?_, f1⟩
      rw [E1.out]; exact FR.mk (f2 _ _ _ h2') rw_one
    | true =>
      have h0 := h3.len0
      have hm := h3.cap
      unfold maxLen at hm
      by_cases hp : p3 = 0
      · have e1 : flo true n d = n / d := by unfold flo; simp [h0.1 hp]
        have E1 := Lib.hid e1
        subst hp
        clear e1 h0
        obtain ⟨f1, f2⟩ := fr_storeG G1.out hw0 (Nat.le_succ _) hb2 (.bool true) (.slice Q1 p2 s1) (.slice none 0 0)
        have F := Lib.hid (And.intro f1 f2)
        clear f1 f2
        go_wp2
        obtain ⟨f1, f2⟩ := F.out
        refine bodyPost_ret (v := .agg #[.bool true, .slice Q1 p2 s1, .slice none 0 0]) (by simp [results, Try.results43, go_sem, m0, m1, m2]) rfl ⟨.agg #[.bool true, .slice Q1 p2 s1, .slice none 0 0], rfl, ?_, f1⟩
        rw [E1.out]; exact FR.mk (f2 _ _ _ h2') rw_one
      · have hnz : n % d ≠ 0 := fun h => hp (h0.2 h)
        have e1 : flo true n d = n / d + 1 := by unfold flo; simp [hnz]
        have hp0 : 0 < p3 := by omega
        have hq1 : p2 ≤ 65536 := by
          rw [h2.len]
          exact Nat.le_trans (words_len_mono (Nat.div_le_self n d)) l1
        have E1 := Lib.hid e1
        clear e1 h0 hp hnz
        go_wp2_with fail
        refine (single_any 1 (by unfold B64; omega) _).mono ?_
        rintro e w3 ⟨Q3, p4, s3, rfl, h4, hb3⟩
        have h25 := (h2'.below hb3).more hb3.size
        have h4l : p4 ≤ 65536 := by rw [h4.len, words_single (by omega) (by unfold B64; omega)]; simp
        go_wp2_with fail
        refine (plus_any (n / d) 1 Q1 Q3 p2 p4 s1 s3 w3.heap.size _ (by exact h25) (by exact h4) (by exact Nat.le_refl _) hq1 h4l).mono ?_
        rintro e w4 ⟨Q5, p5, s5, rfl, h5, hb4⟩
        have hb4' : Below W0.heap.size W0 w4 := (hb2.trans (hb3.mono hb2.size)).trans (hb4.mono (Nat.le_trans hb2.size hb3.size))
        clear m0 m1 m2 mf
        obtain ⟨m0, m1, m2, mf⟩ := fr_cellsG G1.out hb4'
        obtain ⟨t0, t1, t2, _⟩ := fr_cellsG G0.out hb4'
        obtain ⟨f1, f2⟩ := fr_storeG G1.out hw0 (Nat.le_succ _) hb4' (.bool true) (.slice Q5 p5 s5) (.slice none 0 0)
        have F := Lib.hid (And.intro f1 f2)
        clear f1 f2
        go_wp2
        obtain ⟨f1, f2⟩ := F.out
        refine bodyPost_ret (v := .agg #[.bool true, .slice Q5 p5 s5, .slice none 0 0]) (by simp [results, Try.results43, go_sem, m0, m1, m2]) rfl ⟨.agg #[.bool true, .slice Q5 p5 s5, .slice none 0 0], rfl, ?_, f1⟩
        rw [E1.out]; exact FR.mk (f2 _ _ _ h5) rw_one

set_option maxRecDepth 100000 in
set_option maxHeartbeats 1000000 in
theorem ceil_any (neg : Bool) (n d : Nat) (A1 A2 : Option Addr) (n1 n2 c1 c2 : Nat) (B : Nat) (w : World) (hx : RW .u64 w B (.slice A1 n1 c1) (words n)) (hy : RW .u64 w B (.slice A2 n2 c2) (words (dd d))) (hB : B ≤ w.heap.size)
    (hd0 : d ≠ 0) (l1 : (words n).length ≤ 65536) (hD : DivideAt n d) :
    Calls Try.prog 27 #[.agg #[.bool neg, .slice A1 n1 c1, .slice A2 n2 c2]] w (RetF w (!(!neg && decide (0 < n)) && decide (0 < flo (!neg && decide (0 < n)) n d)) (flo (!neg && decide (0 < n)) n d) 1) := by
  obtain ⟨W0, hW0⟩ : ∃ W0, W0 = (w.alloc (.cells #[.bool neg, .slice A1 n1 c1, .slice A2 n2 c2] 55)).alloc (.cells #[.bool false, .slice none 0 0, .slice none 0 0] 55) := ⟨_, rfl⟩
  have HW0 := Lib.hid hW0
  clear hW0
  have hw0 : Below w.heap.size w W0 := by rw [HW0.out]; exact ((Below.refl _ _).alloc (Nat.le_refl _) _).alloc (by simp) _
  have hx0 : RW .u64 W0 B (.slice A1 n1 c1) (words n) := hx.belowM hw0 hB
  have hy0 : RW .u64 W0 B (.slice A2 n2 c2) (words (dd d)) := hy.belowM hw0 hB
  have hB0 : B ≤ W0.heap.size := Nat.le_trans hB hw0.size
  have g1 : W0.heap[w.heap.size + 1]? = some (.cells #[.bool false, .slice none 0 0, .slice none 0 0] 55 (0, 0)) := by rw [HW0.out]; exact heap_alloc2_new _ _ _
  have G1 := Lib.hid g1
  clear g1
  obtain ⟨sg, hsg⟩ : ∃ sg, sg = (!neg && decide (0 < n)) := ⟨_, rfl⟩
  obtain ⟨q, hq⟩ : ∃ q, q = flo sg n d := ⟨_, rfl⟩
  obtain ⟨s2, hs2⟩ : ∃ s2, s2 = (!sg && decide (0 < q)) := ⟨_, rfl⟩
  rw [← hsg, ← hq, ← hs2]
  have HSG := Lib.hid hsg
  have HQ := Lib.hid hq
  have HS2 := Lib.hid hs2
  clear hsg hq hs2
  go_enter Try.func27, Try.ntmps27
  go_wp2_with fail
  rw [← HW0.out]
  refine (neg_any neg n d A1 A2 n1 n2 c1 c2 B _ (by exact hx0) (by exact hy0) (by exact hB0)).mono ?_
  rintro e w1 ⟨v, rfl, ⟨A3, n3, c3, A4, n4, c4, rfl, h3, h4⟩, hb1⟩
  rw [← HSG.out]
  go_wp2_with fail
  refine (floor_any sg n d A3 A4 n3 n4 c3 c4 w1.heap.size _ (by exact h3) (by exact h4) (by exact Nat.le_refl _) hd0 l1 hD).mono ?_
  rintro e w2 ⟨v, rfl, ⟨A5, n5, c5, A6, n6, c6, rfl, h5, h6⟩, hb2⟩
  rw [← HQ.out] at h5
  go_wp2_with fail
  refine (neg_any sg q 1 A5 A6 n5 n6 c5 c6 w2.heap.size _ (by exact h5) (by exact h6) (by exact Nat.le_refl _)).mono ?_
  rintro e w3 ⟨v, rfl, ⟨A7, n7, c7, A8, n8, c8, rfl, h7, h8⟩, hb3⟩
  rw [← HS2.out]
  have hbb : Below W0.heap.size W0 w3 := (hb1.trans (hb2.mono hb1.size)).trans (hb3.mono (Nat.le_trans hb1.size hb2.size))
  obtain ⟨m0, m1, m2, mf⟩ := fr_cellsG G1.out hbb
  obtain ⟨f1, f2⟩ := fr_storeG G1.out hw0 (Nat.le_succ _) hbb (.bool s2) (.slice A7 n7 c7) (.slice A8 n8 c8)
  have F := Lib.hid (And.intro f1 f2)
  clear f1 f2
  go_wp2
  obtain ⟨f1, f2⟩ := F.out
  refine bodyPost_ret (v := .agg #[.bool s2, .slice A7 n7 c7, .slice A8 n8 c8]) (by simp [results, Try.results27, go_sem, m0, m1, m2]) rfl ⟨.agg #[.bool s2, .slice A7 n7 c7, .slice A8 n8 c8], rfl, ?_, f1⟩
  exact FR.mk (f2 _ _ _ h7) (f2 _ _ _ h8)
end Go.Proofs.Ytogklhbodaghdaa
