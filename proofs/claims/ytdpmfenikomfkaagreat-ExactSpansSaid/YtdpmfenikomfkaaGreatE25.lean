/-
  Plus, Minus of spans.
  Times: the span of all products.
  Valid spans: the program's Valid and the document's.
-/
import Derived.Test.YtdpmfenikomfkaaGreatE24
import Derived.StillTailTactics
namespace Go.Proofs.YtdpmfenikomfkaaGreat
open Go.RowKit

set_option maxRecDepth 100000 in
set_option maxHeartbeats 2000000 in
theorem inRange_ok (l h : Int) (h1 : -1152921504606846976 ≤ l) (h2 : l ≤ h) (h3 : h ≤ 1152921504606846976) (w : World) :
    Calls Tryz.prog 18 #[.int .i64 l, .int .i64 h] w (RetSE w l h 0) := by
  go_enter Tryz.func18, Tryz.ntmps18
  go_wp2
  refine bodyPost_ret (v := .tuple #[.agg #[.int .i64 l, .int .i64 h], .int .i64 0]) (by simp [results, Tryz.results18, go_sem]) rfl ⟨rfl, ?_⟩
  repeat (refine Below.alloc ?_ (by simp <;> omega) _)
  exact Below.refl _ _

set_option maxRecDepth 100000 in
set_option maxHeartbeats 1000000 in
theorem inRange_bad (l h : Int) (hn : ¬ okS l h) (hl : l ≤ h) (w : World) :
    Calls Tryz.prog 18 #[.int .i64 l, .int .i64 h] w (RetSE w 0 0 3) := by
  unfold okS at hn
  by_cases h1 : -1152921504606846976 ≤ l
  · have h3 : ¬ h ≤ 1152921504606846976 := by omega
    have d3 : decide (h ≤ 1152921504606846976) = false := by simpa using h3
    clear hn
    go_enter Tryz.func18, Tryz.ntmps18
    go_wp2
    refine bodyPost_ret (v := .tuple #[.agg #[.int .i64 0, .int .i64 0], .int .i64 3]) (by simp [results, Tryz.results18, go_sem]) rfl ⟨rfl, ?_⟩
    repeat (refine Below.alloc ?_ (by simp <;> omega) _)
    exact Below.refl _ _
  · have d1 : decide (-1152921504606846976 ≤ l) = false := by simpa using h1
    clear hn
    go_enter Tryz.func18, Tryz.ntmps18
    go_wp2
    refine bodyPost_ret (v := .tuple #[.agg #[.int .i64 0, .int .i64 0], .int .i64 3]) (by simp [results, Tryz.results18, go_sem]) rfl ⟨rfl, ?_⟩
    repeat (refine Below.alloc ?_ (by simp <;> omega) _)
    exact Below.refl _ _

set_option maxRecDepth 100000 in
set_option maxHeartbeats 1000000 in
theorem bothValid_yes (al ah bl bh : Int) (ha : okS al ah) (hb : okS bl bh) (w : World) :
    Calls Tryz.prog 17 #[.agg #[.int .i64 al, .int .i64 ah], .agg #[.int .i64 bl, .int .i64 bh]] w (RetB w true) := by
  obtain ⟨a1, a2, a3⟩ := ha
  obtain ⟨b1, b2, b3⟩ := hb
  go_enter Tryz.func17, Tryz.ntmps17
  go_wp2
  go_ret
  refine ⟨by simp [*], ?_⟩
  repeat (refine Below.alloc ?_ (by simp <;> omega) _)
  exact Below.refl _ _

theorem S0ex (w : World) (al ah bl bh : Int) : ∃ W0, Hid (W0 = ((w.alloc (.cells #[.int .i64 al, .int .i64 ah] 23)).alloc (.cells #[.int .i64 bl, .int .i64 bh] 23)).alloc (.cells #[.int .i64 0, .int .i64 0] 23)) ∧ Below w.heap.size w W0 ∧
    Hid (W0.heap[w.heap.size]? = some (.cells #[.int .i64 al, .int .i64 ah] 23 (0, 0)) ∧ W0.heap[w.heap.size + 1]? = some (.cells #[.int .i64 bl, .int .i64 bh] 23 (0, 0)) ∧ W0.heap[w.heap.size + 1 + 1]? = some (.cells #[.int .i64 0, .int .i64 0] 23 (0, 0))) :=
  ⟨_, rfl, (((Below.refl _ _).alloc (Nat.le_refl _) _).alloc (by simp) _).alloc (by simp; omega) _, alloc3 w _ _ _⟩

theorem xy_frozen {W0 w1 : World} {g : Nat} {a b : Value} {T : TypeId} (hblk : W0.heap[g]? = some (.cells #[a, b] T (0, 0))) (h : Below W0.heap.size W0 w1) : ∀ i, w1.frozen? ⟨g, i, none⟩ = false := by
  have hlt : g < W0.heap.size := (Array.getElem?_eq_some_iff.1 hblk).1
  exact fun i => frozen_of_row _ _ _ _ _ ((h.block g hlt).trans hblk)

set_option maxRecDepth 100000 in
set_option maxHeartbeats 2000000 in
theorem plus_ok (al ah bl bh : Int) (ha : okS al ah) (hb : okS bl bh) (h : okS (al + bl) (ah + bh)) (w : World) :
    Calls Tryz.prog 4 #[.agg #[.int .i64 al, .int .i64 ah], .agg #[.int .i64 bl, .int .i64 bh]] w (RetSE w (al + bl) (ah + bh) 0) := by
  obtain ⟨W0, HW0, hw0, HG⟩ := S0ex w al ah bl bh
  have HO := Lib.hid (And.intro ha (And.intro hb h))
  obtain ⟨a1, a2, a3⟩ := ha
  obtain ⟨b1, b2, b3⟩ := hb
  clear h
  go_enter Tryz.func4, Tryz.ntmps4
  go_wp2_with fail
  rw [← HW0.out]
  refine (bothValid_yes al ah bl bh HO.out.1 HO.out.2.1 _).mono ?_
  rintro e w1 ⟨rfl, hb1⟩
  obtain ⟨k0, k1⟩ := xy_cells HG.out.1 hb1
  obtain ⟨k2, k3⟩ := xy_cells HG.out.2.1 hb1
  go_wp2_with fail
  refine (inRange_ok (al + bl) (ah + bh) HO.out.2.2.1 HO.out.2.2.2.1 HO.out.2.2.2.2 _).mono ?_
  rintro e w2 ⟨rfl, hb2⟩
  have hbb : Below W0.heap.size W0 w2 := hb1.trans (hb2.mono hb1.size)
  obtain ⟨m0, m1⟩ := xy_cells HG.out.2.2 hbb
  have mf := xy_frozen HG.out.2.2 hbb
  go_wp2
  refine bodyPost_ret (v := .tuple #[.agg #[.int .i64 (al + bl), .int .i64 (ah + bh)], .int .i64 0]) (by simp [results, Tryz.results4, go_sem, m0, m1]) rfl ⟨rfl, ?_⟩
  exact Below.setCell (p := ⟨w.heap.size + 1 + 1, 1, none⟩) (Below.setCell (p := ⟨w.heap.size + 1 + 1, 0, none⟩) (hw0.trans (hbb.mono hw0.size)) (by show w.heap.size ≤ w.heap.size + 1 + 1; omega) _) (by show w.heap.size ≤ w.heap.size + 1 + 1; omega) _

set_option maxRecDepth 100000 in
set_option maxHeartbeats 2000000 in
theorem plus_bad (al ah bl bh : Int) (ha : okS al ah) (hb : okS bl bh) (h : ¬ okS (al + bl) (ah + bh)) (w : World) :
    Calls Tryz.prog 4 #[.agg #[.int .i64 al, .int .i64 ah], .agg #[.int .i64 bl, .int .i64 bh]] w (RetSE w (0) (0) 3) := by
  obtain ⟨W0, HW0, hw0, HG⟩ := S0ex w al ah bl bh
  have HO := Lib.hid (And.intro ha (And.intro hb h))
  obtain ⟨a1, a2, a3⟩ := ha
  obtain ⟨b1, b2, b3⟩ := hb
  clear h
  go_enter Tryz.func4, Tryz.ntmps4
  go_wp2_with fail
  rw [← HW0.out]
  refine (bothValid_yes al ah bl bh HO.out.1 HO.out.2.1 _).mono ?_
  rintro e w1 ⟨rfl, hb1⟩
  obtain ⟨k0, k1⟩ := xy_cells HG.out.1 hb1
  obtain ⟨k2, k3⟩ := xy_cells HG.out.2.1 hb1
  go_wp2_with fail
  refine (inRange_bad (al + bl) (ah + bh) HO.out.2.2 (by omega) _).mono ?_
  rintro e w2 ⟨rfl, hb2⟩
  have hbb : Below W0.heap.size W0 w2 := hb1.trans (hb2.mono hb1.size)
  obtain ⟨m0, m1⟩ := xy_cells HG.out.2.2 hbb
  have mf := xy_frozen HG.out.2.2 hbb
  go_wp2
  refine bodyPost_ret (v := .tuple #[.agg #[.int .i64 (0), .int .i64 (0)], .int .i64 3]) (by simp [results, Tryz.results4, go_sem, m0, m1]) rfl ⟨rfl, ?_⟩
  exact Below.setCell (p := ⟨w.heap.size + 1 + 1, 1, none⟩) (Below.setCell (p := ⟨w.heap.size + 1 + 1, 0, none⟩) (hw0.trans (hbb.mono hw0.size)) (by show w.heap.size ≤ w.heap.size + 1 + 1; omega) _) (by show w.heap.size ≤ w.heap.size + 1 + 1; omega) _

set_option maxRecDepth 100000 in
set_option maxHeartbeats 2000000 in
theorem minus_ok (al ah bl bh : Int) (ha : okS al ah) (hb : okS bl bh) (h : okS (al - bh) (ah - bl)) (w : World) :
    Calls Tryz.prog 6 #[.agg #[.int .i64 al, .int .i64 ah], .agg #[.int .i64 bl, .int .i64 bh]] w (RetSE w (al - bh) (ah - bl) 0) := by
  obtain ⟨W0, HW0, hw0, HG⟩ := S0ex w al ah bl bh
  have HO := Lib.hid (And.intro ha (And.intro hb h))
  obtain ⟨a1, a2, a3⟩ := ha
  obtain ⟨b1, b2, b3⟩ := hb
  clear h
  go_enter Tryz.func6, Tryz.ntmps6
  go_wp2_with fail
  rw [← HW0.out]
  refine (bothValid_yes al ah bl bh HO.out.1 HO.out.2.1 _).mono ?_
  rintro e w1 ⟨rfl, hb1⟩
  obtain ⟨k0, k1⟩ := xy_cells HG.out.1 hb1
  obtain ⟨k2, k3⟩ := xy_cells HG.out.2.1 hb1
  go_wp2_with fail
  refine (inRange_ok (al - bh) (ah - bl) HO.out.2.2.1 HO.out.2.2.2.1 HO.out.2.2.2.2 _).mono ?_
  rintro e w2 ⟨rfl, hb2⟩
  have hbb : Below W0.heap.size W0 w2 := hb1.trans (hb2.mono hb1.size)
  obtain ⟨m0, m1⟩ := xy_cells HG.out.2.2 hbb
  have mf := xy_frozen HG.out.2.2 hbb
  go_wp2
  refine bodyPost_ret (v := .tuple #[.agg #[.int .i64 (al - bh), .int .i64 (ah - bl)], .int .i64 0]) (by simp [results, Tryz.results6, go_sem, m0, m1]) rfl ⟨rfl, ?_⟩
  exact Below.setCell (p := ⟨w.heap.size + 1 + 1, 1, none⟩) (Below.setCell (p := ⟨w.heap.size + 1 + 1, 0, none⟩) (hw0.trans (hbb.mono hw0.size)) (by show w.heap.size ≤ w.heap.size + 1 + 1; omega) _) (by show w.heap.size ≤ w.heap.size + 1 + 1; omega) _

set_option maxRecDepth 100000 in
set_option maxHeartbeats 2000000 in
theorem minus_bad (al ah bl bh : Int) (ha : okS al ah) (hb : okS bl bh) (h : ¬ okS (al - bh) (ah - bl)) (w : World) :
    Calls Tryz.prog 6 #[.agg #[.int .i64 al, .int .i64 ah], .agg #[.int .i64 bl, .int .i64 bh]] w (RetSE w (0) (0) 3) := by
  obtain ⟨W0, HW0, hw0, HG⟩ := S0ex w al ah bl bh
  have HO := Lib.hid (And.intro ha (And.intro hb h))
  obtain ⟨a1, a2, a3⟩ := ha
  obtain ⟨b1, b2, b3⟩ := hb
  clear h
  go_enter Tryz.func6, Tryz.ntmps6
  go_wp2_with fail
  rw [← HW0.out]
  refine (bothValid_yes al ah bl bh HO.out.1 HO.out.2.1 _).mono ?_
  rintro e w1 ⟨rfl, hb1⟩
  obtain ⟨k0, k1⟩ := xy_cells HG.out.1 hb1
  obtain ⟨k2, k3⟩ := xy_cells HG.out.2.1 hb1
  go_wp2_with fail
  refine (inRange_bad (al - bh) (ah - bl) HO.out.2.2 (by omega) _).mono ?_
  rintro e w2 ⟨rfl, hb2⟩
  have hbb : Below W0.heap.size W0 w2 := hb1.trans (hb2.mono hb1.size)
  obtain ⟨m0, m1⟩ := xy_cells HG.out.2.2 hbb
  have mf := xy_frozen HG.out.2.2 hbb
  go_wp2
  refine bodyPost_ret (v := .tuple #[.agg #[.int .i64 (0), .int .i64 (0)], .int .i64 3]) (by simp [results, Tryz.results6, go_sem, m0, m1]) rfl ⟨rfl, ?_⟩
  exact Below.setCell (p := ⟨w.heap.size + 1 + 1, 1, none⟩) (Below.setCell (p := ⟨w.heap.size + 1 + 1, 0, none⟩) (hw0.trans (hbb.mono hw0.size)) (by show w.heap.size ≤ w.heap.size + 1 + 1; omega) _) (by show w.heap.size ≤ w.heap.size + 1 + 1; omega) _

end Go.Proofs.YtdpmfenikomfkaaGreat

namespace Go.Proofs.YtdpmfenikomfkaaGreat
open Go.RowKit

theorem stillc {f : FuncId} {args : Array Value} {w : World} {v : Value} (h : ∀ w, Calls Tryz.prog f args w fun e w' => e = .returned v ∧ w = w') : Calls Tryz.prog f args w (fun e w'' => e = .returned v ∧ w'' = w) :=
  (h w).mono fun _ _ ⟨a, b⟩ => ⟨a, b.symm⟩

theorem run_min4 (w : World) (ts : Array TypeId) (t : TypeId) (p q r s : Int) :
    (Builtin.min_ ts t #[.int .i64 p, .int .i64 q, .int .i64 r, .int .i64 s]).run Tryz.prog w = .ok (.int .i64 (min (min (min p q) r) s)) w := by
  have e : ∀ x y : Int, (if y < x then y else x) = min x y := by intro x y; rw [Int.min_def]; split <;> split <;> omega
  simp [Builtin.min_, Builtin.min2, e]
theorem run_max4 (w : World) (ts : Array TypeId) (t : TypeId) (p q r s : Int) :
    (Builtin.max_ ts t #[.int .i64 p, .int .i64 q, .int .i64 r, .int .i64 s]).run Tryz.prog w = .ok (.int .i64 (max (max (max p q) r) s)) w := by
  have e : ∀ x y : Int, (if x < y then y else x) = max x y := by intro x y; rw [Int.max_def]; split <;> split <;> omega
  simp [Builtin.max_, Builtin.max2, e]

set_option maxRecDepth 100000 in
set_option maxHeartbeats 300000 in
theorem times_walk (al ah bl bh lo hi c rl rh : Int) (ha : okS al ah) (hb : okS bl bh)
    (hR : ∀ w, Calls Tryz.prog 18 #[.int .i64 lo, .int .i64 hi] w (RetSE w rl rh c)) (hlo : min (min (min (clampP al bl) (clampP al bh)) (clampP ah bl)) (clampP ah bh) = lo) (hhi : max (max (max (clampP al bl) (clampP al bh)) (clampP ah bl)) (clampP ah bh) = hi) (w : World) :
    Calls Tryz.prog 7 #[.agg #[.int .i64 al, .int .i64 ah], .agg #[.int .i64 bl, .int .i64 bh]] w (RetSE w rl rh c) := by
  obtain ⟨W0, HW0, hw0, HG⟩ := S0ex w al ah bl bh
  have HO := Lib.hid (And.intro ha hb)
  have b1 := ha
  have b2 := hb
  unfold okS at b1 b2
  have P1 := product_any al bl (by omega) (by omega) (by omega) (by omega)
  have P2 := product_any al bh (by omega) (by omega) (by omega) (by omega)
  have P3 := product_any ah bl (by omega) (by omega) (by omega) (by omega)
  have P4 := product_any ah bh (by omega) (by omega) (by omega) (by omega)
  clear ha hb b1 b2
  generalize clampP al bl = p at *
  generalize clampP al bh = q at *
  generalize clampP ah bl = r at *
  generalize clampP ah bh = s at *
  have M1 := fun w ts t => (run_min4 w ts t p q r s)
  have M2 := fun w ts t => (run_max4 w ts t p q r s)
  simp only [hlo] at M1
  simp only [hhi] at M2
  have HMM := Lib.hid (And.intro M1 M2)
  clear M1 M2 hlo hhi
  have HF := Lib.hid (And.intro P1 (And.intro P2 (And.intro P3 (And.intro P4 hR))))
  clear P1 P2 P3 P4 hR
  go_enter Tryz.func7, Tryz.ntmps7
  go_wp2_with fail
  rw [← HW0.out]
  refine (bothValid_yes al ah bl bh HO.out.1 HO.out.2 _).mono ?_
  rintro e w1 ⟨rfl, hb1⟩
  obtain ⟨k0, k1⟩ := xy_cells HG.out.1 hb1
  obtain ⟨k2, k3⟩ := xy_cells HG.out.2.1 hb1
  have HB := Lib.hid (And.intro hb1 hw0)
  clear hb1 hw0
  go_wp2_with fail
  refine wp_region_still_lit (by kernel_rfl) (by kernel_rfl) ?_
  repeat still_step
  still_call (stillc HF.out.1)
  repeat still_step
  still_call (stillc HF.out.2.1)
  repeat still_step
  refine wpStill_nil ?_
  change Exit.then _ _ _ _ w1.drew
  clear k0 k1 k2 k3
  have hd1 : Below W0.heap.size W0 w1.drew := below_drewN HB.out.1 _
  have hw0 := HB.out.2
  clear HB
  generalize w1.drew = w2 at *
  obtain ⟨k0, k1⟩ := xy_cells HG.out.1 hd1
  obtain ⟨k2, k3⟩ := xy_cells HG.out.2.1 hd1
  have HB := Lib.hid (And.intro hd1 hw0)
  clear hd1 hw0
  go_wp2_with fail
  refine wp_region_still_lit (by kernel_rfl) (by kernel_rfl) ?_
  repeat still_step
  still_call (stillc HF.out.2.2.1)
  repeat still_step
  still_call (stillc HF.out.2.2.2.1)
  repeat still_step
  refine wpStill_nil ?_
  change Exit.then _ _ _ _ w2.drew
  clear k0 k1 k2 k3
  have hd2 : Below W0.heap.size W0 w2.drew := below_drewN HB.out.1 _
  have hw0 := HB.out.2
  clear HB
  generalize w2.drew = w3 at *
  have M1 := HMM.out.1 w3
  have M2 := HMM.out.2 w3
  have HB := Lib.hid (And.intro hd2 hw0)
  clear hd2 hw0
  go_wp2_with fail
  refine (HF.out.2.2.2.2 _).mono ?_
  rintro e w4 ⟨rfl, hb4⟩
  have hbb : Below W0.heap.size W0 w4 := HB.out.1.trans (hb4.mono HB.out.1.size)
  obtain ⟨m0, m1⟩ := xy_cells HG.out.2.2 hbb
  have mf := xy_frozen HG.out.2.2 hbb
  have hw0 := HB.out.2
  go_wp2
  refine bodyPost_ret (v := .tuple #[.agg #[.int .i64 rl, .int .i64 rh], .int .i64 c]) (by simp [results, Tryz.results7, go_sem, m0, m1]) rfl ⟨rfl, ?_⟩
  exact Below.setCell (p := ⟨w.heap.size + 1 + 1, 1, none⟩) (Below.setCell (p := ⟨w.heap.size + 1 + 1, 0, none⟩) (hw0.trans (hbb.mono hw0.size)) (by show w.heap.size ≤ w.heap.size + 1 + 1; omega) _) (by show w.heap.size ≤ w.heap.size + 1 + 1; omega) _

/-- The least and the greatest of the four products, each held at the bound. -/
def loP (al ah bl bh : Int) : Int := min (min (min (clampP al bl) (clampP al bh)) (clampP ah bl)) (clampP ah bh)
def hiP (al ah bl bh : Int) : Int := max (max (max (clampP al bl) (clampP al bh)) (clampP ah bl)) (clampP ah bh)
theorem loP_le (al ah bl bh : Int) : loP al ah bl bh ≤ hiP al ah bl bh := by
  unfold loP hiP; omega

theorem times_ok (al ah bl bh : Int) (ha : okS al ah) (hb : okS bl bh) (h : okS (loP al ah bl bh) (hiP al ah bl bh)) (w : World) :
    Calls Tryz.prog 7 #[.agg #[.int .i64 al, .int .i64 ah], .agg #[.int .i64 bl, .int .i64 bh]] w (RetSE w (loP al ah bl bh) (hiP al ah bl bh) 0) :=
  times_walk al ah bl bh (loP al ah bl bh) (hiP al ah bl bh) 0 _ _ ha hb (fun w => inRange_ok _ _ h.1 h.2.1 h.2.2 w) rfl rfl w

theorem times_bad (al ah bl bh : Int) (ha : okS al ah) (hb : okS bl bh) (h : ¬ okS (loP al ah bl bh) (hiP al ah bl bh)) (w : World) :
    Calls Tryz.prog 7 #[.agg #[.int .i64 al, .int .i64 ah], .agg #[.int .i64 bl, .int .i64 bh]] w (RetSE w 0 0 3) :=
  times_walk al ah bl bh (loP al ah bl bh) (hiP al ah bl bh) 3 _ _ ha hb (fun w => inRange_bad _ _ h (loP_le _ _ _ _) w) rfl rfl w

theorem clampP_out (x y : Int) (h : ¬ x.natAbs * y.natAbs ≤ 1152921504606846976) : clampP x y = 1152921504606846977 ∨ clampP x y = -1152921504606846977 := by
  unfold clampP
  rw [if_neg h]
  rcases sgnI_cases x with ⟨hx, e⟩ | ⟨hx, e⟩ | ⟨hx, e⟩ <;> rcases sgnI_cases y with ⟨hy, f⟩ | ⟨hy, f⟩ | ⟨hy, f⟩ <;> rw [e, f]
  · exact Or.inl (by decide)
  · subst hy; simp at h
  · exact Or.inr (by decide)
  · subst hx; simp at h
  · subst hx; simp at h
  · subst hx; simp at h
  · exact Or.inr (by decide)
  · subst hy; simp at h
  · exact Or.inl (by decide)

/-- Within the bound, the held product is the product. -/
theorem clampP_of_in (x y : Int) (h : -1152921504606846976 ≤ clampP x y ∧ clampP x y ≤ 1152921504606846976) : clampP x y = x * y := by
  by_cases hin : x.natAbs * y.natAbs ≤ 1152921504606846976
  · exact clampP_in x y hin
  · rcases clampP_out x y hin with e | e <;> rw [e] at h <;> omega
theorem clampP_in' (x y : Int) (h1 : -1152921504606846976 ≤ x * y) (h2 : x * y ≤ 1152921504606846976) : clampP x y = x * y := by
  refine clampP_in x y ?_
  rw [← Int.natAbs_mul]
  omega
end Go.Proofs.YtdpmfenikomfkaaGreat

namespace Go.Proofs.YtdpmfenikomfkaaGreat
open Go.RowKit

instance (a b : Int) : Decidable (okS a b) := by unfold okS; infer_instance

set_option maxRecDepth 100000 in
set_option maxHeartbeats 1000000 in
theorem valid_any (lo hi : Int) (w : World) :
    Calls Tryz.prog 8 #[.agg #[.int .i64 lo, .int .i64 hi]] w (RetB w (decide (okS lo hi))) := by
  have hBl := Lib.hid ((Below.refl w.heap.size w).alloc (Nat.le_refl _) (.cells #[.int .i64 lo, .int .i64 hi] 23))
  by_cases h1 : -1152921504606846976 ≤ lo
  · by_cases h2 : lo ≤ hi
    · by_cases h3 : hi ≤ 1152921504606846976
      · go_enter Tryz.func8, Tryz.ntmps8
        go_wp2
        go_ret
        exact ⟨by first | (rw [decide_eq_true (show okS lo hi from ⟨h1, h2, h3⟩)]; simp [*]; done) | (rw [decide_eq_false (show ¬ okS lo hi by unfold okS; omega)]; simp [*]; done), hBl.out⟩
      · go_enter Tryz.func8, Tryz.ntmps8
        go_wp2
        go_ret
        exact ⟨by first | (rw [decide_eq_true (show okS lo hi from ⟨h1, h2, h3⟩)]; simp [*]; done) | (rw [decide_eq_false (show ¬ okS lo hi by unfold okS; omega)]; simp [*]; done), hBl.out⟩
    · go_enter Tryz.func8, Tryz.ntmps8
      go_wp2
      go_ret
      exact ⟨by first | (rw [decide_eq_true (show okS lo hi from ⟨h1, h2, h3⟩)]; simp [*]; done) | (rw [decide_eq_false (show ¬ okS lo hi by unfold okS; omega)]; simp [*]; done), hBl.out⟩
  · go_enter Tryz.func8, Tryz.ntmps8
    go_wp2
    go_ret
    exact ⟨by first | (rw [decide_eq_true (show okS lo hi from ⟨h1, h2, h3⟩)]; simp [*]; done) | (rw [decide_eq_false (show ¬ okS lo hi by unfold okS; omega)]; simp [*]; done), hBl.out⟩

set_option maxRecDepth 100000 in
set_option maxHeartbeats 1000000 in
theorem refValid_any (lo hi : Int) (w : World) :
    Calls Tryz.prog 9 #[.agg #[.int .i64 lo, .int .i64 hi]] w (RetB w (decide (okS lo hi))) := by
  have hBl := Lib.hid ((Below.refl w.heap.size w).alloc (Nat.le_refl _) (.cells #[.int .i64 lo, .int .i64 hi] 23))
  by_cases h1 : -1152921504606846976 ≤ lo
  · by_cases h2 : lo ≤ hi
    · by_cases h3 : hi ≤ 1152921504606846976
      · go_enter Tryz.func9, Tryz.ntmps9
        go_wp2
        go_ret
        exact ⟨by first | (rw [decide_eq_true (show okS lo hi from ⟨h1, h2, h3⟩)]; simp [*]; done) | (rw [decide_eq_false (show ¬ okS lo hi by unfold okS; omega)]; simp [*]; done), hBl.out⟩
      · go_enter Tryz.func9, Tryz.ntmps9
        go_wp2
        go_ret
        exact ⟨by first | (rw [decide_eq_true (show okS lo hi from ⟨h1, h2, h3⟩)]; simp [*]; done) | (rw [decide_eq_false (show ¬ okS lo hi by unfold okS; omega)]; simp [*]; done), hBl.out⟩
    · go_enter Tryz.func9, Tryz.ntmps9
      go_wp2
      go_ret
      exact ⟨by first | (rw [decide_eq_true (show okS lo hi from ⟨h1, h2, h3⟩)]; simp [*]; done) | (rw [decide_eq_false (show ¬ okS lo hi by unfold okS; omega)]; simp [*]; done), hBl.out⟩
  · go_enter Tryz.func9, Tryz.ntmps9
    go_wp2
    go_ret
    exact ⟨by first | (rw [decide_eq_true (show okS lo hi from ⟨h1, h2, h3⟩)]; simp [*]; done) | (rw [decide_eq_false (show ¬ okS lo hi by unfold okS; omega)]; simp [*]; done), hBl.out⟩

end Go.Proofs.YtdpmfenikomfkaaGreat
