/-
  For any three places the law ExactTurns returns true and leaves its arguments as they were: no condition.
-/
import Derived.Test.YtpjgoibchknbmaaPost
import Derived.Test.YtpjgoibchknbmaaFirst
import Derived.Test.YtpjgoibchknbmaaPlaceRef
namespace Go.Proofs.Ytpjgoibchknbmaa.exactTurns
open Go.Proofs.Ytpjgoibchknbmaa
open Go.ChangeShapes Go.WideShapes Go.ChangeAt Go.RowKit Go.Joins
set_option linter.unusedVariables false

theorem W0ex (w : World) (ax ay bx by_ cx cy : Int) : ∃ W0, Hid (W0 = ((w.alloc (.cells #[.int .i64 ax, .int .i64 ay] 64)).alloc (.cells #[.int .i64 bx, .int .i64 by_] 64)).alloc (.cells #[.int .i64 cx, .int .i64 cy] 64)) ∧ Below w.heap.size w W0 ∧
    Hid (W0.heap[w.heap.size]? = some (.cells #[.int .i64 ax, .int .i64 ay] 64 (0, 0)) ∧ W0.heap[w.heap.size + 1]? = some (.cells #[.int .i64 bx, .int .i64 by_] 64 (0, 0)) ∧ W0.heap[w.heap.size + 1 + 1]? = some (.cells #[.int .i64 cx, .int .i64 cy] 64 (0, 0))) :=
  ⟨_, rfl, (((Below.refl _ _).alloc (Nat.le_refl _) _).alloc (by simp) _).alloc (by simp; omega) _, alloc3 w _ _ _⟩

set_option maxRecDepth 100000 in
set_option maxHeartbeats 2000000 in
theorem walk_ok (ax ay bx by_ cx cy : Int) (ha : okP ax ay) (hb : okP bx by_) (hc : okP cx cy) (w : World) :
    Calls Try.prog 8 #[.agg #[.int .i64 ax, .int .i64 ay], .agg #[.int .i64 bx, .int .i64 by_], .agg #[.int .i64 cx, .int .i64 cy]] w (RetB w true) := by
  obtain ⟨W0, HW0, hw0, HG⟩ := W0ex w ax ay bx by_ cx cy
  have HO := Lib.hid (And.intro ha (And.intro hb hc))
  clear ha hb hc
  obtain ⟨s, hs⟩ : ∃ s, s = sgnI (crossP ax ay bx by_ cx cy) := ⟨_, rfl⟩
  have HS := Lib.hid hs
  clear hs
  go_enter Try.func8, Try.ntmps8
  go_wp2_with fail
  rw [← HW0.out]
  refine (turn_ok ax ay bx by_ cx cy HO.out.1 HO.out.2.1 HO.out.2.2 _).mono ?_
  rintro e w1 ⟨rfl, hb1⟩
  rw [← HS.out]
  obtain ⟨a0, a1⟩ := xy_cells HG.out.1 hb1
  obtain ⟨a2, a3⟩ := xy_cells HG.out.2.1 hb1
  obtain ⟨a4, a5⟩ := xy_cells HG.out.2.2 hb1
  go_wp2_with fail
  refine (place_yes ax ay HO.out.1 _).mono ?_
  rintro e w2 ⟨rfl, hb2⟩
  have hc2 : Below W0.heap.size W0 w2 := hb1.trans (hb2.mono hb1.size)
  obtain ⟨b0, b1⟩ := xy_cells HG.out.1 hc2
  obtain ⟨b2, b3⟩ := xy_cells HG.out.2.1 hc2
  obtain ⟨b4, b5⟩ := xy_cells HG.out.2.2 hc2
  go_wp2_with fail
  refine (place_yes bx by_ HO.out.2.1 _).mono ?_
  rintro e w3 ⟨rfl, hb3⟩
  have hc3 : Below W0.heap.size W0 w3 := hc2.trans (hb3.mono hc2.size)
  obtain ⟨c0, c1⟩ := xy_cells HG.out.1 hc3
  obtain ⟨c2, c3⟩ := xy_cells HG.out.2.1 hc3
  obtain ⟨c4, c5⟩ := xy_cells HG.out.2.2 hc3
  go_wp2_with fail
  refine (place_yes cx cy HO.out.2.2 _).mono ?_
  rintro e w4 ⟨rfl, hb4⟩
  have hc4 : Below W0.heap.size W0 w4 := hc3.trans (hb4.mono hc3.size)
  obtain ⟨d0, d1⟩ := xy_cells HG.out.1 hc4
  obtain ⟨d2, d3⟩ := xy_cells HG.out.2.1 hc4
  obtain ⟨d4, d5⟩ := xy_cells HG.out.2.2 hc4
  go_wp2_with fail
  refine (refTurn_any ax ay bx by_ cx cy HO.out.1 HO.out.2.1 HO.out.2.2 _).mono ?_
  rintro e w5 ⟨rfl, hb5⟩
  rw [← HS.out]
  have hc5 : Below W0.heap.size W0 w5 := hc4.trans (hb5.mono hc4.size)
  go_wp2_with fail
  refine (first_any _).mono ?_
  rintro e w6 ⟨rfl, hb6⟩
  have hc6 : Below W0.heap.size W0 w6 := hc5.trans (hb6.mono hc5.size)
  go_wp2
  go_ret
  exact ⟨rfl, hw0.trans (hc6.mono hw0.size)⟩

set_option maxRecDepth 100000 in
set_option maxHeartbeats 2000000 in
theorem walk_bad (ax ay bx by_ cx cy : Int) (h : ¬ (okP ax ay ∧ okP bx by_ ∧ okP cx cy)) (w : World) :
    Calls Try.prog 8 #[.agg #[.int .i64 ax, .int .i64 ay], .agg #[.int .i64 bx, .int .i64 by_], .agg #[.int .i64 cx, .int .i64 cy]] w (RetB w true) := by
  obtain ⟨W0, HW0, hw0, HG⟩ := W0ex w ax ay bx by_ cx cy
  have HN := Lib.hid h
  clear h
  go_enter Try.func8, Try.ntmps8
  go_wp2_with fail
  rw [← HW0.out]
  refine (turn_bad ax ay bx by_ cx cy HN.out _).mono ?_
  rintro e w1 ⟨rfl, hb1⟩
  obtain ⟨a0, a1⟩ := xy_cells HG.out.1 hb1
  obtain ⟨a2, a3⟩ := xy_cells HG.out.2.1 hb1
  obtain ⟨a4, a5⟩ := xy_cells HG.out.2.2 hb1
  by_cases h1 : okP ax ay
  · have H1 := Lib.hid h1
    clear h1
    go_wp2_with fail
    refine (place_yes ax ay H1.out _).mono ?_
    rintro e w2 ⟨rfl, hb2⟩
    have hc2 : Below W0.heap.size W0 w2 := hb1.trans (hb2.mono hb1.size)
    obtain ⟨b2, b3⟩ := xy_cells HG.out.2.1 hc2
    obtain ⟨b4, b5⟩ := xy_cells HG.out.2.2 hc2
    by_cases h2 : okP bx by_
    · have H2 := Lib.hid h2
      clear h2
      go_wp2_with fail
      refine (place_yes bx by_ H2.out _).mono ?_
      rintro e w3 ⟨rfl, hb3⟩
      have hc3 : Below W0.heap.size W0 w3 := hc2.trans (hb3.mono hc2.size)
      obtain ⟨c4, c5⟩ := xy_cells HG.out.2.2 hc3
      go_wp2_with fail
      refine (place_no cx cy (fun h3 => HN.out ⟨H1.out, H2.out, h3⟩) _).mono ?_
      rintro e w4 ⟨rfl, hb4⟩
      have hc4 : Below W0.heap.size W0 w4 := hc3.trans (hb4.mono hc3.size)
      go_wp2_with fail
      refine (first_any _).mono ?_
      rintro e w6 ⟨rfl, hb6⟩
      have hc6 : Below W0.heap.size W0 w6 := hc4.trans (hb6.mono hc4.size)
      go_wp2
      go_ret
      exact ⟨rfl, hw0.trans (hc6.mono hw0.size)⟩
    · have H2 := Lib.hid h2
      clear h2
      go_wp2_with fail
      refine (place_no bx by_ H2.out _).mono ?_
      rintro e w4 ⟨rfl, hb4⟩
      have hc4 : Below W0.heap.size W0 w4 := hc2.trans (hb4.mono hc2.size)
      go_wp2_with fail
      refine (first_any _).mono ?_
      rintro e w6 ⟨rfl, hb6⟩
      have hc6 : Below W0.heap.size W0 w6 := hc4.trans (hb6.mono hc4.size)
      go_wp2
      go_ret
      exact ⟨rfl, hw0.trans (hc6.mono hw0.size)⟩
  · have H1 := Lib.hid h1
    clear h1
    go_wp2_with fail
    refine (place_no ax ay H1.out _).mono ?_
    rintro e w4 ⟨rfl, hb4⟩
    have hc4 : Below W0.heap.size W0 w4 := hb1.trans (hb4.mono hb1.size)
    go_wp2_with fail
    refine (first_any _).mono ?_
    rintro e w6 ⟨rfl, hb6⟩
    have hc6 : Below W0.heap.size W0 w6 := hc4.trans (hb6.mono hc4.size)
    go_wp2
    go_ret
    exact ⟨rfl, hw0.trans (hc6.mono hw0.size)⟩

theorem walk (ax ay bx by_ cx cy : Int) (w : World) :
    Calls Try.prog 8 #[.agg #[.int .i64 ax, .int .i64 ay], .agg #[.int .i64 bx, .int .i64 by_], .agg #[.int .i64 cx, .int .i64 cy]] w (RetB w true) := by
  by_cases h : okP ax ay ∧ okP bx by_ ∧ okP cx cy
  · exact walk_ok ax ay bx by_ cx cy h.1 h.2.1 h.2.2 w
  · exact walk_bad ax ay bx by_ cx cy h w

set_option maxRecDepth 100000 in
theorem lifted (os : Os) (started : os.Started) (H : Type) (enc : TypeId × Value → H) :
    ReturnsInHanded {} Try.checked os 8 .any (Rows.exactTurnsSpec.pre6 enc Try.prog Try.f8 Rows.exactTurnsRow.domain false) (Rows.exactTurnsSpec.post enc Try.prog Try.f8 false true false false) := by
  refine returnsInHanded_of_change (C := Try.checked) ownTry started (by kernel_rfl) Try.func8
    (ChangeSpec.witness6 (enc := enc) (C := Try.checked) false ⟨#[], #[.agg #[.int .i64 0, .int .i64 0], .agg #[.int .i64 0, .int .i64 0], .agg #[.int .i64 0, .int .i64 0]], []⟩ 8 (by kernel_rfl) (by kernel_rfl) (by kernel_rfl) (by kernel_rfl)) ?_
  intro W base args ds gs before hval0 hW hcnd _
  have hval : ∀ (j : Nat) t v, Try.f8.params[j]? = some t → args[j]? = some v → Value.okWide Try.prog W .any base t v := hval0
  have hW' := hW
  obtain ⟨p, q, hA0, hV, rfl, hfz, hnd⟩ := hW
  have hA : DataW.TrodAll enc Try.prog W 0 (fun _ => true) true Try.f8.params.toList args.toList ds p := hA0
  rw [Try.params8] at hA hval
  obtain ⟨v0, v1, v2, d0, d1, d2, p0, p1, p2, rfl, rfl, rfl, h0, h1, h2⟩ := trodAll_three hA
  obtain ⟨rfl, rfl⟩ := trodVars_none hV
  obtain ⟨c0, c0', y0, y0', m0, rfl, rfl, rfl, hy0, hy0'⟩ := open_agg2 Try.underlying64 (by kernel_rfl) cellsXY (hval 0 64 v0 rfl rfl) h0
  obtain ⟨c1, c1', y1, y1', m1, rfl, rfl, rfl, hy1, hy1'⟩ := open_agg2 Try.underlying64 (by kernel_rfl) cellsXY (hval 1 64 v1 rfl rfl) h1
  obtain ⟨c2, c2', y2, y2', m2, rfl, rfl, rfl, hy2, hy2'⟩ := open_agg2 Try.underlying64 (by kernel_rfl) cellsXY (hval 2 64 v2 rfl rfl) h2
  obtain ⟨ax, e0, rfl, wax⟩ := DataW.trod_int Try.underlying3 hy0
  obtain ⟨ay, e0', rfl, way⟩ := DataW.trod_int Try.underlying3 hy0'
  obtain ⟨bx, e1, rfl, wbx⟩ := DataW.trod_int Try.underlying3 hy1
  obtain ⟨by_, e1', rfl, wby⟩ := DataW.trod_int Try.underlying3 hy1'
  obtain ⟨cx, e2, rfl, wcx⟩ := DataW.trod_int Try.underlying3 hy2
  obtain ⟨cy, e2', rfl, wcy⟩ := DataW.trod_int Try.underlying3 hy2'
  simp at e0 e0' e1 e1' e2 e2'
  subst e0 e0' e1 e1' e2 e2'
  clear hA0 hval0
  simp only [List.append_nil] at hW'
  have reads : ∀ (W' : World) (sp : Nat → Bool) (x y : Int) (wx : (Lit.int .i64 x).wf = true) (wy : (Lit.int .i64 y).wf = true), DataW.Trod enc Try.prog W' 0 sp true 64 (.agg #[.int .i64 x, .int .i64 y]) (.agg [.lit (.int .i64 x), .lit (.int .i64 y)]) [] := fun W' sp x y wx wy =>
    shut_agg2 (y0 := (.lit (.int .i64 x), [])) (y1 := (.lit (.int .i64 y), [])) Try.underlying64 (by kernel_rfl) cellsXY ⟨1, by simp [DataW.trod, Try.underlying3, wx]⟩ ⟨1, by simp [DataW.trod, Try.underlying3, wy]⟩
  refine (walk ax ay bx by_ cx cy W).mono fun e W' ⟨he, hg⟩ => ?_
  subst he
  exact ⟨_, rfl, post_below (pa := []) (pv := []) hW' (fun _ _ _ => trodAll_mk1 (shut_bool Try.underlying4 _)) (fun sp _ => trodAll_mk3 (reads _ sp ax ay wax way) (reads _ sp bx by_ wbx wby) (reads _ sp cx cy wcx wcy)) (fun _ _ => rfl) rfl
    hg (ok_one (by kernel_rfl) rfl (okWide_bool_mk Try.underlying4 _))⟩

theorem over : Rows.exactTurnsRow.holds Try.pinned (OpenSpec.ofChange Rows.exactTurnsSpec) :=
  OpenClaim.holds_of_wide 8 Try.f8 rfl rfl rfl rfl rfl rfl rfl ⟨rfl, rfl, rfl, rfl, rfl⟩ rfl rfl rfl rfl rfl (by kernel_rfl) Try.func8 (by kernel_rfl)
    (of_decide_eq_true (by kernel_rfl)) (by unfold Func.isWrapper; first | (rw [if_pos (by decide +kernel)]; kernel_rfl) | (rw [if_neg (by decide +kernel)]; exact ⟨rfl, rfl⟩))
    (fun os started H enc _ => lifted os started H enc)

theorem proved : Rows.ExactTurnsSaid := over
end Go.Proofs.Ytpjgoibchknbmaa.exactTurns
