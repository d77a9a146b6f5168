/-
  Time, where there is one.
-/
import Derived.Test.YtndgpgciccgapaaVIdx
import Derived.Test.YtndgpgciccgapaaVOver
import Derived.Test.YtndgpgciccgapaaVFind
namespace Go.Proofs.Ytndgpgciccgapaa
open Go.RowKit

set_option maxRecDepth 100000 in
set_option maxHeartbeats 1000000 in
theorem part_yes (fr to pk lv tp : Int) (A : Option Addr) (n c : Nat) (hn : (n : Int) ≤ 9223372036854775807) (h1 : 0 ≤ fr) (h2 : fr < to) (h3 : to ≤ n) (w : World) :
    Calls Try.prog 96 #[.slice A n c, .agg #[.int .i64 fr, .int .i64 to, .int .i64 pk, .int .i64 lv, .int .i64 tp]] w (RetB w true) := by
  go_enter Try.func96, Try.ntmps96
  go_wp2
  go_ret
  refine ⟨by simp [*], ?_⟩
  exact (Below.refl _ w).alloc (Nat.le_refl _) _

theorem iw_cut {w : World} {B n c b o fr to : Nat} {zs : List Int} (hx : IW w B (.slice (some ⟨b, o, none⟩) n c) zs) (h1 : fr < to) (h2 : to ≤ n) : IW w B (.slice (some ⟨b, o + fr, none⟩) (to - fr) (c - fr)) ((zs.drop fr).take (to - fr)) := by
  have hl := hx.len
  have hcap := hx.cap
  have hlen : ((zs.drop fr).take (to - fr)).length = to - fr := by rw [List.length_take, List.length_drop]; omega
  refine IW.mk hlen.symm (by omega) (by omega) (fun _ => ?_)
  obtain ⟨b', o', e, hb, hc⟩ := hx.at_ (by omega)
  injection e with e
  injection e with e1 e2
  subst e1 e2
  refine ⟨b, o + fr, rfl, hb, fun j hj => ?_⟩
  have := hc (fr + j) (by omega)
  rw [Nat.add_assoc, this]
  congr 2
  unfold ith
  rw [List.getD_eq_getElem?_getD, List.getD_eq_getElem?_getD, List.getElem?_take_of_lt hj, List.getElem?_drop]
theorem ith_cut {zs : List Int} {fr m j : Nat} (hj : j < m) : ith ((zs.drop fr).take m) j = ith zs (fr + j) := by
  unfold ith
  rw [List.getD_eq_getElem?_getD, List.getD_eq_getElem?_getD, List.getElem?_take_of_lt hj, List.getElem?_drop]

set_option maxRecDepth 100000 in
set_option maxHeartbeats 2000000 in
theorem time_raw (zs : List Int) (hok : okZ zs) (fr to i : Nat) (pk lv tp : Int) (A : Option Addr) (n c : Nat) (w : World) (hx : IW w w.heap.size (.slice A n c) zs) (h1 : fr < to) (h2 : to ≤ n) (hi1 : fr ≤ i) (hi2 : i < to) (hi0 : 0 < i)
    (hlow : ∀ j, fr ≤ j → j < i → ith zs j < lv) (hhi : lv ≤ ith zs i) (hpr : ith zs (i - 1) < lv) :
    Calls Try.prog 68 #[.slice A n c, .agg #[.int .i64 (fr : Int), .int .i64 (to : Int), .int .i64 pk, .int .i64 lv, .int .i64 tp]] w
      (RetSE w (256 * (((i - 1 : Nat) : Int) * (ith zs i - ith zs (i - 1)) + (lv - ith zs (i - 1)) - 1) / (ith zs i - ith zs (i - 1))) (-(-(256 * (((i - 1 : Nat) : Int) * (ith zs i - ith zs (i - 1)) + (lv - ith zs (i - 1)))) / (ith zs i - ith zs (i - 1)))) 0) := by
  have hl := hx.len
  have hn : n ≤ 256 := by have := hok.1; omega
  have b1 := hok.ith (j := i) (by omega)
  have b2 := hok.ith (j := i - 1) (by omega)
  obtain ⟨b, o, rfl, hb, hc⟩ := hx.at_ (by omega)
  have hcap := hx.cap
  unfold maxLen at hcap
  have ec : (i - 1 : Nat) < n := by omega
  obtain ⟨W0, hW0⟩ : ∃ W0, W0 = (w.alloc (.cells #[.int .i64 (fr : Int), .int .i64 (to : Int), .int .i64 pk, .int .i64 lv, .int .i64 tp] 123)).alloc (.cells #[.int .i64 0, .int .i64 0] 119) := ⟨_, rfl⟩
  have hb0 : Below w.heap.size w W0 := by rw [hW0]; exact ((Below.refl _ w).alloc (Nat.le_refl _) _).alloc (by simp) _
  have g0 : W0.heap[w.heap.size]? = some (.cells #[.int .i64 (fr : Int), .int .i64 (to : Int), .int .i64 pk, .int .i64 lv, .int .i64 tp] 123 (0, 0)) := by rw [hW0]; exact heap_alloc2_old _ _ _
  have g1 : W0.heap[w.heap.size + 1]? = some (.cells #[.int .i64 0, .int .i64 0] 119 (0, 0)) := by rw [hW0]; exact heap_alloc2_new _ _ _
  have hV := validSamples_any zs _ n c _ W0 (hx.below hb0)
  rw [decide_eq_true hok] at hV
  unfold RetSame at hV
  have hP := part_yes (fr : Int) (to : Int) pk lv tp (some ⟨b, o, none⟩) n c (by omega) (by omega) (by omega) (by omega) W0
  have p0 : W0.cell? ⟨w.heap.size, 0, none⟩ = some (.int .i64 (fr : Int)) := cell_of_row _ _ _ _ _ _ g0
  have p1 : W0.cell? ⟨w.heap.size, 1, none⟩ = some (.int .i64 (to : Int)) := cell_of_row _ _ _ _ _ _ g0
  have p2 : W0.cell? ⟨w.heap.size, 2, none⟩ = some (.int .i64 pk) := cell_of_row _ _ _ _ _ _ g0
  have p3 : W0.cell? ⟨w.heap.size, 3, none⟩ = some (.int .i64 lv) := cell_of_row _ _ _ _ _ _ g0
  have p4 : W0.cell? ⟨w.heap.size, 4, none⟩ = some (.int .i64 tp) := cell_of_row _ _ _ _ _ _ g0
  have HX := Lib.hid (And.intro hx (And.intro hok (And.intro hl (And.intro hb0 (And.intro g0 g1)))))
  have HW0 := Lib.hid hW0
  clear hx hok hl hb0 g0 g1 hW0
  rw [HW0.out] at p0 p1 p2 p3 p4 hV
  obtain ⟨J, rfl⟩ : ∃ J, i = J + 1 := ⟨i - 1, by omega⟩
  rw [Nat.add_sub_cancel] at *
  obtain ⟨p, hp⟩ : ∃ p, fr + p = J + 1 := ⟨J + 1 - fr, by omega⟩
  obtain ⟨I, hI⟩ : ∃ I, J + 1 = I := ⟨_, rfl⟩
  rw [hI] at hp hlow hhi b1 hi1 hi2 ⊢
  obtain ⟨s, hs⟩ : ∃ s, ith zs I = s := ⟨_, rfl⟩
  obtain ⟨q, hq⟩ : ∃ q, ith zs J = q := ⟨_, rfl⟩
  have cs := hc I (by omega)
  have cq := hc J (by omega)
  rw [hs] at b1 hhi cs ⊢
  rw [hq] at b2 hpr cq ⊢
  have HS := Lib.hid (And.intro hs (And.intro hq hlow))
  clear hs hq hlow hc
  go_enter Try.func68, Try.ntmps68
  go_wp2_with (first
    | (go_at_call 76; refine hV.mono ?_; rintro e w' ⟨rfl, rfl⟩)
    | (go_at_call 96; rw [← HW0.out]; refine hP.mono ?_; rintro e w1 ⟨rfl, hb1⟩; have g1 := (hb1.block _ (Array.getElem?_eq_some_iff.1 HX.out.2.2.2.2.1).1).trans HX.out.2.2.2.2.1; have g2 := (hb1.block _ (Array.getElem?_eq_some_iff.1 HX.out.2.2.2.2.2).1).trans HX.out.2.2.2.2.2; have k0 : w1.cell? ⟨w.heap.size, 0, none⟩ = some (.int .i64 (fr : Int)) := cell_of_row _ _ _ _ _ _ g1; have k1 : w1.cell? ⟨w.heap.size, 1, none⟩ = some (.int .i64 (to : Int)) := cell_of_row _ _ _ _ _ _ g1; have k3 : w1.cell? ⟨w.heap.size, 3, none⟩ = some (.int .i64 lv) := cell_of_row _ _ _ _ _ _ g1; have m0 : w1.cell? ⟨w.heap.size + 1, 0, none⟩ = some (.int .i64 0) := cell_of_row _ _ _ _ _ _ g2; have m1 : w1.cell? ⟨w.heap.size + 1, 1, none⟩ = some (.int .i64 0) := cell_of_row _ _ _ _ _ _ g2; have mf : ∀ j, w1.frozen? ⟨w.heap.size + 1, j, none⟩ = false := fun j => frozen_of_row _ _ _ _ _ g2; have hbw : Below w.heap.size w w1 := HX.out.2.2.2.1.trans (hb1.mono HX.out.2.2.2.1.size); have ds := (hbw.cell (p := ⟨b, o + I, none⟩) hb).trans cs; have dq := (hbw.cell (p := ⟨b, o + J, none⟩) hb).trans cq; have hIx := index_any ((zs.drop fr).take (to - fr)) lv (some ⟨b, o + fr, none⟩) (to - fr) (c - fr) _ w.heap.size w1 (iw_cut (HX.out.1.below hbw) h1 h2) k3 p (by omega) (fun j hj => by rw [ith_cut (by omega)]; exact HS.out.2.2 _ (by omega) (by omega)) (fun hp' => by rw [ith_cut hp', hp, HS.out.1]; exact hhi) (p : Int) (by rw [if_pos (by omega)]); have HW1 := Lib.hid (And.intro hbw (And.intro g1 g2)); clear hb1 g1 g2 hbw p0 p1 p2 p3 p4 cs cq)
    | (go_at_call 97; refine hIx.mono ?_; rintro e w' ⟨rfl, rfl⟩; clear hIx))
  have e2 : ((p : Int) + (fr : Int)) = (I : Int) := by omega
  have e3 : ((I : Int) - 1) = (J : Int) := by omega
  rw [e2, e3]
  have hIn : I < n := by omega
  have hJn : J < n := by omega
  have hI0 : ((I : Int) == 0) = false := by simp; omega
  have hge : ¬ lv ≤ q := by omega
  have hq1 : q < s := by omega
  have hM0 : 0 ≤ (J : Int) * (s - q) := Int.mul_nonneg (by omega) (by omega)
  have hM1 : (J : Int) * (s - q) ≤ 256 * 1023 := Int.mul_le_mul (by omega) (by omega) (by omega) (by omega)
  clear hI k0 k1 hi1 hi2 hi0 e2 e3 hV hP hp ec
  go_region
  go_wp2
  go_region
  go_wp2_with fail
  have hO := over_ok (256 * ((J : Int) * (s - q) + (lv - q) - 1)) (256 * ((J : Int) * (s - q) + (lv - q))) (s - q) ⟨by omega, by omega, by omega⟩ (by omega) (by omega) w'.drew.drew
  obtain ⟨lo, hlo⟩ : ∃ lo, 256 * ((J : Int) * (s - q) + (lv - q) - 1) / (s - q) = lo := ⟨_, rfl⟩
  obtain ⟨hi, hhi⟩ : ∃ hi, -(-(256 * ((J : Int) * (s - q) + (lv - q))) / (s - q)) = hi := ⟨_, rfl⟩
  rw [hlo, hhi] at hO
  refine hO.mono ?_
  rintro en w2 ⟨rfl, hb2⟩
  have hb2' : Below w'.heap.size w' w2 := ⟨hb2.os, hb2.tape, hb2.output, hb2.size, hb2.block⟩
  obtain ⟨n0, n1⟩ := xy_cells HW1.out.2.2 hb2'
  have nf := xy_frozen HW1.out.2.2 hb2'
  have HF := Lib.hid (And.intro hb2' (And.intro hlo hhi))
  clear hb2 hb2' hO hM0 hM1 m0 m1 mf k3 ds dq
  go_wp2
  have hB := Below.setCell (p := ⟨w.heap.size + 1, 1, none⟩) (Below.setCell (p := ⟨w.heap.size + 1, 0, none⟩) (HW1.out.1.trans (HF.out.1.mono HW1.out.1.size)) (by show w.heap.size ≤ w.heap.size + 1; omega) (.int .i64 lo)) (by show w.heap.size ≤ w.heap.size + 1; omega) (.int .i64 hi)
  refine bodyPost_ret (v := .tuple #[.agg #[.int .i64 lo, .int .i64 hi], .int .i64 0]) (by simp [results, Try.results68, go_sem, n0, n1]) rfl ⟨?_, hB⟩
  rw [HF.out.2.1, HF.out.2.2]
end Go.Proofs.Ytndgpgciccgapaa
