/-
  Times: the span of all products.
-/
import Derived.Test.YtogklhbodaghdaaProd
import Derived.Test.YtogklhbodaghdaaOver
namespace Go.Proofs.Ytogklhbodaghdaa
open Go.RowKit

theorem run_min4 (w : World) (ts : Array TypeId) (t : TypeId) (p q r s : Int) :
    (Builtin.min_ ts t #[.int .i64 p, .int .i64 q, .int .i64 r, .int .i64 s]).run Try.prog w = .ok (.int .i64 (min (min (min p q) r) s)) w := by
  have e : ∀ x y : Int, (if y < x then y else x) = min x y := by intro x y; rw [Int.min_def]; split <;> split <;> omega
  simp [Builtin.min_, Builtin.min2, e]
theorem run_max4 (w : World) (ts : Array TypeId) (t : TypeId) (p q r s : Int) :
    (Builtin.max_ ts t #[.int .i64 p, .int .i64 q, .int .i64 r, .int .i64 s]).run Try.prog w = .ok (.int .i64 (max (max (max p q) r) s)) w := by
  have e : ∀ x y : Int, (if x < y then y else x) = max x y := by intro x y; rw [Int.max_def]; split <;> split <;> omega
  simp [Builtin.max_, Builtin.max2, e]

set_option maxRecDepth 100000 in
set_option maxHeartbeats 300000 in
theorem times_walk (al ah bl bh lo hi c rl rh : Int) (ha : okS al ah) (hb : okS bl bh)
    (hR : ∀ w, Calls Try.prog 18 #[.int .i64 lo, .int .i64 hi] w (RetSE w rl rh c)) (hlo : min (min (min (clampP al bl) (clampP al bh)) (clampP ah bl)) (clampP ah bh) = lo) (hhi : max (max (max (clampP al bl) (clampP al bh)) (clampP ah bl)) (clampP ah bh) = hi) (w : World) :
    Calls Try.prog 11 #[.agg #[.int .i64 al, .int .i64 ah], .agg #[.int .i64 bl, .int .i64 bh]] w (RetSE w rl rh c) := by
  obtain ⟨W0, HW0, hw0, HG⟩ := S0ex w al ah bl bh
  have HO := Lib.hid (And.intro ha hb)
  have b1 := ha
  have b2 := hb
  unfold okS at b1 b2
  have P1 := product_any al bl (by omega) (by omega) (by omega) (by omega)
  have P2 := product_any al bh (by omega) (by omega) (by omega) (by omega)
  have P3 := product_any ah bl (by omega) (by omega) (by omega) (by omega)
  have P4 := product_any ah bh (by omega) (by omega) (by omega) (by omega)
  clear ha hb b1 b2
  generalize clampP al bl = p at *
  generalize clampP al bh = q at *
  generalize clampP ah bl = r at *
  generalize clampP ah bh = s at *
  have M1 := fun w ts t => (run_min4 w ts t p q r s)
  have M2 := fun w ts t => (run_max4 w ts t p q r s)
  simp only [hlo] at M1
  simp only [hhi] at M2
  have HMM := Lib.hid (And.intro M1 M2)
  clear M1 M2 hlo hhi
  have HF := Lib.hid (And.intro P1 (And.intro P2 (And.intro P3 (And.intro P4 hR))))
  clear P1 P2 P3 P4 hR
  go_enter Try.func11, Try.ntmps11
  go_wp2_with fail
  rw [← HW0.out]
  refine (bothValid_yes al ah bl bh HO.out.1 HO.out.2 _).mono ?_
  rintro e w1 ⟨rfl, hb1⟩
  obtain ⟨k0, k1⟩ := xy_cells HG.out.1 hb1
  obtain ⟨k2, k3⟩ := xy_cells HG.out.2.1 hb1
  have HB := Lib.hid (And.intro hb1 hw0)
  clear hb1 hw0
  go_wp2_with fail
  refine wp_region_still_lit (by kernel_rfl) (by kernel_rfl) ?_
  repeat still_step
  still_call (stillc HF.out.1)
  repeat still_step
  still_call (stillc HF.out.2.1)
  repeat still_step
  refine wpStill_nil ?_
  change Exit.then _ _ _ _ w1.drew
  clear k0 k1 k2 k3
  have hd1 : Below W0.heap.size W0 w1.drew := below_drewN HB.out.1 _
  have hw0 := HB.out.2
  clear HB
  generalize w1.drew = w2 at *
  obtain ⟨k0, k1⟩ := xy_cells HG.out.1 hd1
  obtain ⟨k2, k3⟩ := xy_cells HG.out.2.1 hd1
  have HB := Lib.hid (And.intro hd1 hw0)
  clear hd1 hw0
  go_wp2_with fail
  refine wp_region_still_lit (by kernel_rfl) (by kernel_rfl) ?_
  repeat still_step
  still_call (stillc HF.out.2.2.1)
  repeat still_step
  still_call (stillc HF.out.2.2.2.1)
  repeat still_step
  refine wpStill_nil ?_
  change Exit.then _ _ _ _ w2.drew
  clear k0 k1 k2 k3
  have hd2 : Below W0.heap.size W0 w2.drew := below_drewN HB.out.1 _
  have hw0 := HB.out.2
  clear HB
  generalize w2.drew = w3 at *
  have M1 := HMM.out.1 w3
  have M2 := HMM.out.2 w3
  have HB := Lib.hid (And.intro hd2 hw0)
  clear hd2 hw0
  go_wp2_with fail
  refine (HF.out.2.2.2.2 _).mono ?_
  rintro e w4 ⟨rfl, hb4⟩
  have hbb : Below W0.heap.size W0 w4 := HB.out.1.trans (hb4.mono HB.out.1.size)
  obtain ⟨m0, m1⟩ := xy_cells HG.out.2.2 hbb
  have mf := xy_frozen HG.out.2.2 hbb
  have hw0 := HB.out.2
  go_wp2
  refine bodyPost_ret (v := .tuple #[.agg #[.int .i64 rl, .int .i64 rh], .int .i64 c]) (by simp [results, Try.results11, go_sem, m0, m1]) rfl ⟨rfl, ?_⟩
  exact Below.setCell (p := ⟨w.heap.size + 1 + 1, 1, none⟩) (Below.setCell (p := ⟨w.heap.size + 1 + 1, 0, none⟩) (hw0.trans (hbb.mono hw0.size)) (by show w.heap.size ≤ w.heap.size + 1 + 1; omega) _) (by show w.heap.size ≤ w.heap.size + 1 + 1; omega) _

/-- The least and the greatest of the four products, each held at the bound. -/
def loP (al ah bl bh : Int) : Int := min (min (min (clampP al bl) (clampP al bh)) (clampP ah bl)) (clampP ah bh)
def hiP (al ah bl bh : Int) : Int := max (max (max (clampP al bl) (clampP al bh)) (clampP ah bl)) (clampP ah bh)
theorem loP_le (al ah bl bh : Int) : loP al ah bl bh ≤ hiP al ah bl bh := by
  unfold loP hiP; omega

theorem times_ok (al ah bl bh : Int) (ha : okS al ah) (hb : okS bl bh) (h : okS (loP al ah bl bh) (hiP al ah bl bh)) (w : World) :
    Calls Try.prog 11 #[.agg #[.int .i64 al, .int .i64 ah], .agg #[.int .i64 bl, .int .i64 bh]] w (RetSE w (loP al ah bl bh) (hiP al ah bl bh) 0) :=
  times_walk al ah bl bh (loP al ah bl bh) (hiP al ah bl bh) 0 _ _ ha hb (fun w => inRange_ok _ _ h.1 h.2.1 h.2.2 w) rfl rfl w

theorem times_bad (al ah bl bh : Int) (ha : okS al ah) (hb : okS bl bh) (h : ¬ okS (loP al ah bl bh) (hiP al ah bl bh)) (w : World) :
    Calls Try.prog 11 #[.agg #[.int .i64 al, .int .i64 ah], .agg #[.int .i64 bl, .int .i64 bh]] w (RetSE w 0 0 3) :=
  times_walk al ah bl bh (loP al ah bl bh) (hiP al ah bl bh) 3 _ _ ha hb (fun w => inRange_bad _ _ h (loP_le _ _ _ _) w) rfl rfl w

theorem clampP_out (x y : Int) (h : ¬ x.natAbs * y.natAbs ≤ 1152921504606846976) : clampP x y = 1152921504606846977 ∨ clampP x y = -1152921504606846977 := by
  unfold clampP
  rw [if_neg h]
  rcases sgnI_cases x with ⟨hx, e⟩ | ⟨hx, e⟩ | ⟨hx, e⟩ <;> rcases sgnI_cases y with ⟨hy, f⟩ | ⟨hy, f⟩ | ⟨hy, f⟩ <;> rw [e, f]
  · exact Or.inl (by decide)
  · subst hy; simp at h
  · exact Or.inr (by decide)
  · subst hx; simp at h
  · subst hx; simp at h
  · subst hx; simp at h
  · exact Or.inr (by decide)
  · subst hy; simp at h
  · exact Or.inl (by decide)

/-- Within the bound, the held product is the product. -/
theorem clampP_of_in (x y : Int) (h : -1152921504606846976 ≤ clampP x y ∧ clampP x y ≤ 1152921504606846976) : clampP x y = x * y := by
  by_cases hin : x.natAbs * y.natAbs ≤ 1152921504606846976
  · exact clampP_in x y hin
  · rcases clampP_out x y hin with e | e <;> rw [e] at h <;> omega
theorem clampP_in' (x y : Int) (h1 : -1152921504606846976 ≤ x * y) (h2 : x * y ≤ 1152921504606846976) : clampP x y = x * y := by
  refine clampP_in x y ?_
  rw [← Int.natAbs_mul]
  omega
end Go.Proofs.Ytogklhbodaghdaa
