/-
  For any samples and any echo the law WaveTimes returns true and leaves its arguments as they were: no condition.
-/
import Derived.Test.YtkcagifljelfoaaVFirst
import Derived.Test.YtkcagifljelfoaaVEne
namespace Go.Proofs.Ytkcagifljelfoaa.waveTimes
open Go.Proofs.Ytkcagifljelfoaa
open Go.ChangeShapes Go.WideShapes Go.ChangeAt Go.RowKit Go.Joins
set_option linter.unusedVariables false

theorem list5 {L : List Int} (h : L.length = 5) : ∃ a b c d e, L = [a, b, c, d, e] := by
  match L, h with | [a, b, c, d, e], _ => exact ⟨a, b, c, d, e, rfl⟩
theorem lo_eq {J r a : Int} (hr : 0 < r) : 256 * (J * r + a - 1) / r = 256 * J + 256 * (a - 1) / r := by
  have e : 256 * (J * r + a - 1) = 256 * (a - 1) + r * (256 * J) := by grind
  rw [e, Int.add_mul_ediv_left _ _ (by omega)]
  omega
theorem hi_eq {J r a : Int} (hr : 0 < r) : -(-(256 * (J * r + a)) / r) = 256 * J + (256 * a + r - 1) / r := by
  have e : -(256 * (J * r + a)) = -(256 * a) + r * (-(256 * J)) := by grind
  rw [e, Int.add_mul_ediv_left _ _ (by omega)]
  have h1 := Int.mul_ediv_add_emod (-(256 * a)) r
  have h2 := Int.emod_nonneg (-(256 * a)) (show r ≠ 0 by omega)
  have h3 := Int.emod_lt_of_pos (-(256 * a)) hr
  have h4 : (256 * a + r - 1) / r = -(-(256 * a) / r) := by
    have e2 : 256 * a + r - 1 = (r - 1 - (-(256 * a)) % r) + r * (-(-(256 * a) / r)) := by grind
    rw [e2, Int.add_mul_ediv_left _ _ (by omega), Int.ediv_eq_zero_of_lt (by omega) (by omega)]
    omega
  omega

/-- Both Times. -/
theorem times_both (zs : List Int) (fr to pk lv tp : Int) (n c : Nat) (hn : n ≤ 1000) (hl : n = zs.length) (A : Option Addr) :
    ∃ lo hi cc, (∀ w, IW w w.heap.size (.slice A n c) zs → Calls Try.prog 22 #[.slice A n c, .agg #[.int .i64 fr, .int .i64 to, .int .i64 pk, .int .i64 lv, .int .i64 tp]] w (RetSE w lo hi cc)) ∧
      (∀ w, IW w w.heap.size (.slice A n c) zs → Calls Try.prog 23 #[.slice A n c, .agg #[.int .i64 fr, .int .i64 to, .int .i64 pk, .int .i64 lv, .int .i64 tp]] w (RetSE w lo hi cc)) := by
  by_cases hg : okZ zs ∧ partZ fr to n
  · obtain ⟨hok, p1, p2, p3⟩ := hg
    obtain ⟨f, rfl⟩ := Int.eq_ofNat_of_zero_le p1
    obtain ⟨t, rfl⟩ := Int.eq_ofNat_of_zero_le (show 0 ≤ to by omega)
    have h1 : f < t := by omega
    have h2 : t ≤ n := by omega
    by_cases hx : ∃ d, f + d < t ∧ lv ≤ ith zs (f + d)
    · obtain ⟨d, hd1, hd2⟩ := hx
      obtain ⟨i, i1, i2, i3, i4⟩ := first_high d hd2
      have i5 : i < t := by omega
      rcases Nat.eq_zero_or_pos i with h0 | h0
      · exact ⟨0, 0, 32, fun w hx => time_cut0 zs hok f t i pk lv tp A n c w hx h1 h2 i1 i5 h0 i4 i3, fun w hx => refTime_at zs hok f t i pk lv tp A n c w hx h1 h2 i1 (by omega) i4 (fun _ => i3) 0 0 32 (.inr (.inl ⟨i5, .inl h0, rfl, rfl, rfl⟩))⟩
      · by_cases h3 : lv ≤ ith zs (i - 1)
        · exact ⟨0, 0, 32, fun w hx => time_cut1 zs hok f t i pk lv tp A n c w hx h1 h2 i1 i5 h0 i4 i3 h3, fun w hx => refTime_at zs hok f t i pk lv tp A n c w hx h1 h2 i1 (by omega) i4 (fun _ => i3) 0 0 32 (.inr (.inl ⟨i5, .inr h3, rfl, rfl, rfl⟩))⟩
        · refine ⟨_, _, 0, fun w hx => time_raw zs hok f t i pk lv tp A n c w hx h1 h2 i1 i5 h0 i4 i3 (by omega), fun w hx => refTime_at zs hok f t i pk lv tp A n c w hx h1 h2 i1 (by omega) i4 (fun _ => i3) _ _ 0 (.inr (.inr ⟨i5, h0, by omega, rfl, ?_, ?_⟩))⟩
          · rw [lo_eq (by omega), Int.tdiv_eq_ediv_of_nonneg (by omega)]
          · rw [hi_eq (by omega), Int.tdiv_eq_ediv_of_nonneg (by omega)]
    · have hlow : ∀ j, f ≤ j → j < t → ith zs j < lv := fun j h3 h4 => by
        by_cases h5 : ith zs j < lv
        · exact h5
        · exact absurd ⟨j - f, by omega, by rw [show f + (j - f) = j by omega]; omega⟩ hx
      exact ⟨0, 0, 2, fun w hx => time_none zs hok f t pk lv tp A n c w hx h1 h2 hlow, fun w hx => refTime_at zs hok f t t pk lv tp A n c w hx h1 h2 (by omega) (Nat.le_refl _) hlow (fun h => absurd h (Nat.lt_irrefl _)) 0 0 2 (.inl ⟨rfl, rfl, rfl, rfl⟩)⟩
  · exact ⟨0, 0, 2, fun w hx => time_bad zs fr to pk lv tp A n c (by omega) w hx hg, fun w hx => refTime_bad zs fr to pk lv tp A n c (by omega) w hx hg⟩
/-- Both Energies. -/
theorem energies_both (zs : List Int) (fr to pk lv tp : Int) (n c : Nat) (hn : n ≤ 1000) (hl : n = zs.length) (A : Option Addr) :
    ∃ v cc, (∀ w, IW w w.heap.size (.slice A n c) zs → Calls Try.prog 24 #[.slice A n c, .agg #[.int .i64 fr, .int .i64 to, .int .i64 pk, .int .i64 lv, .int .i64 tp]] w (RetEn w v cc)) ∧
      (∀ w, IW w w.heap.size (.slice A n c) zs → Calls Try.prog 25 #[.slice A n c, .agg #[.int .i64 fr, .int .i64 to, .int .i64 pk, .int .i64 lv, .int .i64 tp]] w (RetEn w v cc)) := by
  by_cases hok : okZ zs ∧ zs ≠ []
  · by_cases hg : partZ fr to n
    · obtain ⟨p1, p2, p3⟩ := hg
      obtain ⟨f, rfl⟩ := Int.eq_ofNat_of_zero_le p1
      obtain ⟨t, rfl⟩ := Int.eq_ofNat_of_zero_le (show 0 ≤ to by omega)
      exact ⟨_, 0, fun w hx => energy_ok zs hok.1 f t pk lv tp A n c w hx (by omega) (by omega), fun w hx => refEnergy_ok zs hok.1 f t pk lv tp A n c w hx (by omega) (by omega)⟩
    · exact ⟨0, 2, fun w hx => energy_nopart zs hok.1 hok.2 fr to pk lv tp A n c w hx hg, fun w hx => refEnergy_nopart zs hok.1 hok.2 fr to pk lv tp A n c w hx hg⟩
  · have hb : zs = [] ∨ ¬ okZ zs := by
      by_cases h : zs = []
      · exact .inl h
      · exact .inr fun h2 => hok ⟨h2, h⟩
    exact ⟨0, 2, fun w hx => energy_bad zs fr to pk lv tp A n c w hx hb, fun w hx => refEnergy_bad zs fr to pk lv tp A n c w hx hb⟩

set_option maxRecDepth 100000 in
set_option maxHeartbeats 4000000 in
theorem walk (A : Option Addr) (n c : Nat) (L : List Int) (fr to pk lv tp : Int) (w : World) (hx : IW w w.heap.size (.slice A n c) L) :
    Calls Try.prog 6 #[.slice A n c, .agg #[.int .i64 fr, .int .i64 to, .int .i64 pk, .int .i64 lv, .int .i64 tp]] w (RetB w true) := by
  obtain ⟨W0, HW0, HX⟩ := one_block w fr to pk lv tp
  have p0 : W0.cell? ⟨w.heap.size, 0, none⟩ = some (.int .i64 fr) := cell_of_row _ _ _ _ _ _ HX.out.2
  have p1 : W0.cell? ⟨w.heap.size, 1, none⟩ = some (.int .i64 to) := cell_of_row _ _ _ _ _ _ HX.out.2
  have p2 : W0.cell? ⟨w.heap.size, 2, none⟩ = some (.int .i64 pk) := cell_of_row _ _ _ _ _ _ HX.out.2
  have p3 : W0.cell? ⟨w.heap.size, 3, none⟩ = some (.int .i64 lv) := cell_of_row _ _ _ _ _ _ HX.out.2
  have p4 : W0.cell? ⟨w.heap.size, 4, none⟩ = some (.int .i64 tp) := cell_of_row _ _ _ _ _ _ HX.out.2
  by_cases h64 : 1000 < n
  · clear hx p0 p1 p2 p3 p4
    go_enter Try.func6, Try.ntmps6
    go_wp2_with fail
    rw [← HW0.out]
    refine (first_any _).mono ?_
    rintro e w1 ⟨rfl, hb1⟩
    go_wp2
    go_ret
    exact ⟨rfl, HX.out.1.trans (hb1.mono HX.out.1.size)⟩
  · obtain ⟨lo, hi, cc, hT1, hT2⟩ := times_both L fr to pk lv tp n c (by omega) hx.len A
    obtain ⟨en, ce, hE1, hE2⟩ := energies_both L fr to pk lv tp n c (by omega) hx.len A
    have HI := Lib.hid (fun (wx : World) (h : Below w.heap.size w wx) => (hx.below h).more h.size)
    have HC := Lib.hid (And.intro hT1 (And.intro hT2 (And.intro hE1 hE2)))
    have s1 : (lo == lo) = true := by simp
    have s2 : (hi == hi) = true := by simp
    have s3 : (cc == cc) = true := by simp
    have s4 : (en == en) = true := by simp
    have s5 : (ce == ce) = true := by simp
    have KG := Lib.hid (fun (wx : World) (h : Below W0.heap.size W0 wx) => (show wx.heap[w.heap.size]? = some (.cells #[.int .i64 fr, .int .i64 to, .int .i64 pk, .int .i64 lv, .int .i64 tp] 50 (0, 0)) from (h.block _ (Array.getElem?_eq_some_iff.1 HX.out.2).1).trans HX.out.2))
    rw [HW0.out] at p0 p1 p2 p3 p4
    clear hx hT1 hT2 hE1 hE2
    go_enter Try.func6, Try.ntmps6
    go_wp2_with fail
    rw [← HW0.out]
    refine (HC.out.1 _ (HI.out _ HX.out.1)).mono ?_
    rintro e w1 ⟨rfl, hb1⟩
    clear p0 p1 p2 p3 p4
    obtain ⟨W1, hW1⟩ : ∃ W1, W1 = w1.alloc (.cells #[.int .i64 lo, .int .i64 hi] 27) := ⟨_, rfl⟩
    have hB1 : Below W0.heap.size W0 W1 := by rw [hW1]; exact hb1.alloc hb1.size _
    have gs1 : W1.heap[w1.heap.size]? = some (.cells #[.int .i64 lo, .int .i64 hi] 27 (0, 0)) := by rw [hW1]; exact heap_alloc_new w1 _
    have k0 : (w1.alloc (.cells #[.int .i64 lo, .int .i64 hi] 27)).cell? ⟨w.heap.size, 0, none⟩ = some (.int .i64 fr) := by rw [← hW1]; exact cell_of_row _ _ _ _ _ _ (KG.out W1 hB1)
    have k1 : (w1.alloc (.cells #[.int .i64 lo, .int .i64 hi] 27)).cell? ⟨w.heap.size, 1, none⟩ = some (.int .i64 to) := by rw [← hW1]; exact cell_of_row _ _ _ _ _ _ (KG.out W1 hB1)
    have k2 : (w1.alloc (.cells #[.int .i64 lo, .int .i64 hi] 27)).cell? ⟨w.heap.size, 2, none⟩ = some (.int .i64 pk) := by rw [← hW1]; exact cell_of_row _ _ _ _ _ _ (KG.out W1 hB1)
    have k3 : (w1.alloc (.cells #[.int .i64 lo, .int .i64 hi] 27)).cell? ⟨w.heap.size, 3, none⟩ = some (.int .i64 lv) := by rw [← hW1]; exact cell_of_row _ _ _ _ _ _ (KG.out W1 hB1)
    have k4 : (w1.alloc (.cells #[.int .i64 lo, .int .i64 hi] 27)).cell? ⟨w.heap.size, 4, none⟩ = some (.int .i64 tp) := by rw [← hW1]; exact cell_of_row _ _ _ _ _ _ (KG.out W1 hB1)
    have HW1 := Lib.hid (And.intro hW1 (And.intro hB1 gs1))
    clear hW1 hB1 gs1 hb1
    go_wp2_with fail
    rw [← HW1.out.1]
    refine (HC.out.2.1 _ (HI.out _ (HX.out.1.trans (HW1.out.2.1.mono HX.out.1.size)))).mono ?_
    rintro e w2 ⟨rfl, hb2⟩
    clear k0 k1 k2 k3 k4
    obtain ⟨W2, hW2⟩ : ∃ W2, W2 = w2.alloc (.cells #[.int .i64 lo, .int .i64 hi] 27) := ⟨_, rfl⟩
    have hB2 : Below W1.heap.size W1 W2 := by rw [hW2]; exact hb2.alloc hb2.size _
    have gs2 : W2.heap[w2.heap.size]? = some (.cells #[.int .i64 lo, .int .i64 hi] 27 (0, 0)) := by rw [hW2]; exact heap_alloc_new w2 _
    have hB02 : Below W0.heap.size W0 W2 := HW1.out.2.1.trans (hB2.mono HW1.out.2.1.size)
    have k0 : (w2.alloc (.cells #[.int .i64 lo, .int .i64 hi] 27)).cell? ⟨w.heap.size, 0, none⟩ = some (.int .i64 fr) := by rw [← hW2]; exact cell_of_row _ _ _ _ _ _ (KG.out W2 hB02)
    have k1 : (w2.alloc (.cells #[.int .i64 lo, .int .i64 hi] 27)).cell? ⟨w.heap.size, 1, none⟩ = some (.int .i64 to) := by rw [← hW2]; exact cell_of_row _ _ _ _ _ _ (KG.out W2 hB02)
    have k2 : (w2.alloc (.cells #[.int .i64 lo, .int .i64 hi] 27)).cell? ⟨w.heap.size, 2, none⟩ = some (.int .i64 pk) := by rw [← hW2]; exact cell_of_row _ _ _ _ _ _ (KG.out W2 hB02)
    have k3 : (w2.alloc (.cells #[.int .i64 lo, .int .i64 hi] 27)).cell? ⟨w.heap.size, 3, none⟩ = some (.int .i64 lv) := by rw [← hW2]; exact cell_of_row _ _ _ _ _ _ (KG.out W2 hB02)
    have k4 : (w2.alloc (.cells #[.int .i64 lo, .int .i64 hi] 27)).cell? ⟨w.heap.size, 4, none⟩ = some (.int .i64 tp) := by rw [← hW2]; exact cell_of_row _ _ _ _ _ _ (KG.out W2 hB02)
    have HW2 := Lib.hid (And.intro hW2 (And.intro hB02 (And.intro gs2 ((hB2.block _ (Array.getElem?_eq_some_iff.1 HW1.out.2.2).1).trans HW1.out.2.2))))
    clear hW2 hB2 hB02 gs2 hb2
    go_wp2_with fail
    rw [← HW2.out.1]
    refine (HC.out.2.2.1 _ (HI.out _ (HX.out.1.trans (HW2.out.2.1.mono HX.out.1.size)))).mono ?_
    rintro e w3 ⟨rfl, hb3⟩
    clear k0 k1 k2 k3 k4
    have hB03 : Below W0.heap.size W0 w3 := HW2.out.2.1.trans (hb3.mono HW2.out.2.1.size)
    have k0 : (w3).cell? ⟨w.heap.size, 0, none⟩ = some (.int .i64 fr) := cell_of_row _ _ _ _ _ _ (KG.out w3 hB03)
    have k1 : (w3).cell? ⟨w.heap.size, 1, none⟩ = some (.int .i64 to) := cell_of_row _ _ _ _ _ _ (KG.out w3 hB03)
    have k2 : (w3).cell? ⟨w.heap.size, 2, none⟩ = some (.int .i64 pk) := cell_of_row _ _ _ _ _ _ (KG.out w3 hB03)
    have k3 : (w3).cell? ⟨w.heap.size, 3, none⟩ = some (.int .i64 lv) := cell_of_row _ _ _ _ _ _ (KG.out w3 hB03)
    have k4 : (w3).cell? ⟨w.heap.size, 4, none⟩ = some (.int .i64 tp) := cell_of_row _ _ _ _ _ _ (KG.out w3 hB03)
    have HW3 := Lib.hid (And.intro hB03 (And.intro ((hb3.block _ (Array.getElem?_eq_some_iff.1 HW2.out.2.2.1).1).trans HW2.out.2.2.1) ((hb3.block _ (Array.getElem?_eq_some_iff.1 HW2.out.2.2.2).1).trans HW2.out.2.2.2)))
    clear hB03 hb3
    go_wp2_with fail
    refine (HC.out.2.2.2 _ (HI.out _ (HX.out.1.trans (HW3.out.1.mono HX.out.1.size)))).mono ?_
    rintro e w4 ⟨rfl, hb4⟩
    clear k0 k1 k2 k3 k4
    have hB04 : Below W0.heap.size W0 w4 := HW3.out.1.trans (hb4.mono HW3.out.1.size)
    have ga := (hb4.block _ (Array.getElem?_eq_some_iff.1 HW3.out.2.1).1).trans HW3.out.2.1
    have gb := (hb4.block _ (Array.getElem?_eq_some_iff.1 HW3.out.2.2).1).trans HW3.out.2.2
    have a0 : w4.cell? ⟨w2.heap.size, 0, none⟩ = some (.int .i64 lo) := cell_of_row _ _ _ _ _ _ ga
    have a1 : w4.cell? ⟨w2.heap.size, 1, none⟩ = some (.int .i64 hi) := cell_of_row _ _ _ _ _ _ ga
    have b0 : w4.cell? ⟨w1.heap.size, 0, none⟩ = some (.int .i64 lo) := cell_of_row _ _ _ _ _ _ gb
    have b1 : w4.cell? ⟨w1.heap.size, 1, none⟩ = some (.int .i64 hi) := cell_of_row _ _ _ _ _ _ gb
    have HW4 := Lib.hid hB04
    clear hB04 hb4 ga gb
    go_wp2_with fail
    refine (first_any _).mono ?_
    rintro e w5 ⟨rfl, hb5⟩
    go_wp2
    go_ret
    exact ⟨rfl, HX.out.1.trans ((HW4.out.trans (hb5.mono HW4.out.size)).mono HX.out.1.size)⟩

set_option maxRecDepth 100000 in
theorem lifted (os : Os) (started : os.Started) (H : Type) (enc : TypeId × Value → H) :
    ReturnsInHanded {} Try.checked os 6 .any (Rows.waveTimesSpec.pre6 enc Try.prog Try.f6 Rows.waveTimesRow.domain false) (Rows.waveTimesSpec.post enc Try.prog Try.f6 false true false false) := by
  refine returnsInHanded_of_change (C := Try.checked) ownTry started (by kernel_rfl) Try.func6
    (ChangeSpec.witness6 (enc := enc) (C := Try.checked) false ⟨#[], #[.slice none 0 0, .agg #[.int .i64 0, .int .i64 0, .int .i64 0, .int .i64 0, .int .i64 0]], []⟩ 8 (by kernel_rfl) (by kernel_rfl) (by kernel_rfl) (by kernel_rfl)) ?_
  intro W base args ds gs before hval0 hW hcnd _
  have hval : ∀ (j : Nat) t v, Try.f6.params[j]? = some t → args[j]? = some v → Value.okWide Try.prog W .any base t v := hval0
  have hW' := hW
  obtain ⟨p, q, hA0, hV, rfl, hfz, hnd⟩ := hW
  have hA : DataW.TrodAll enc Try.prog W 0 (fun _ => true) true Try.f6.params.toList args.toList ds p := hA0
  rw [Try.params6] at hA hval
  obtain ⟨v0, v1, d0, d1, p0, p1, rfl, rfl, rfl, h0, h1⟩ := trodAll_two hA
  obtain ⟨rfl, rfl⟩ := trodVars_none hV
  obtain ⟨A0, n0, c0, L0, rfl, hB0, hx0⟩ := open_numbers (hval 0 _ v0 rfl rfl) h0
  obtain ⟨L1, _, hl1, rfl⟩ := open_flat (k := 5) (okWide_struct Try.underlying50 (hval 1 50 v1 rfl rfl)) (by kernel_rfl) (by kernel_rfl) h1
  obtain ⟨fr, to, pk, lv, tp, rfl⟩ := list5 hl1
  clear hA0 hval0
  refine (walk A0 n0 c0 L0 fr to pk lv tp W hx0).mono fun e W' ⟨he, hg⟩ => ?_
  subst he
  exact ⟨_, rfl, post_reads laidOut (by kernel_rfl) hW' rfl (fun _ _ _ => trodAll_mk1 (shut_bool Try.underlying4 _)) (fun _ => rfl) rfl hg (ok_one (by kernel_rfl) rfl (okWide_bool_mk Try.underlying4 _))⟩

theorem over : Rows.waveTimesRow.holds Try.pinned (OpenSpec.ofChange Rows.waveTimesSpec) :=
  OpenClaim.holds_of_wide 6 Try.f6 rfl rfl rfl rfl rfl rfl rfl ⟨rfl, rfl, rfl, rfl, rfl⟩ rfl rfl rfl rfl rfl (by kernel_rfl) Try.func6 (by kernel_rfl)
    (of_decide_eq_true (by kernel_rfl)) (by unfold Func.isWrapper; first | (rw [if_pos (by decide +kernel)]; kernel_rfl) | (rw [if_neg (by decide +kernel)]; exact ⟨rfl, rfl⟩))
    (fun os started H enc _ => lifted os started H enc)

theorem proved : Rows.WaveTimesSaid := over
end Go.Proofs.Ytkcagifljelfoaa.waveTimes

