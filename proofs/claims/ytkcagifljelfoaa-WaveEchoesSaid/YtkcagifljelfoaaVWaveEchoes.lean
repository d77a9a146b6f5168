/-
  For any samples and any detector the law WaveEchoes returns true and leaves its arguments as they were: no condition.
-/
import Derived.Test.YtkcagifljelfoaaVFirst
import Derived.Test.YtkcagifljelfoaaVRech
import Derived.Deep.RegionHeld3
namespace Go.Proofs.Ytkcagifljelfoaa.waveEchoes
open Go.Proofs.Ytkcagifljelfoaa
open Go.ChangeShapes Go.WideShapes Go.ChangeAt Go.RowKit Go.Joins
set_option linter.unusedVariables false

set_option maxRecDepth 100000 in
set_option maxHeartbeats 1000000 in
theorem sameEchoes_any (L : List Eo) (v1 v2 : Value) (w : World) (h1 : SR eoE 5 w v1 L) (h2 : SR eoE 5 w v2 L) :
    Calls Try.prog 21 #[v1, v2] w (RetB w true) := by
  obtain ⟨A1, c1, rfl, p1, p2, p3⟩ := h1
  obtain ⟨A2, c2, rfl, p4, p5, p6⟩ := h2
  obtain ⟨n, hn⟩ : ∃ n, L.length = n := ⟨_, rfl⟩
  have HN := Lib.hid hn
  have H := Lib.hid (And.intro p3 p6)
  rw [hn] at p1 p4 ⊢
  unfold maxLen at p2 p5
  clear p3 p6 hn
  go_enter Try.func21, Try.ntmps21
  go_wp2
  go_loopw [5] (fun iv wr => ∃ k : Nat, k ≤ n ∧ iv = .int .i64 (k : Int) ∧ Below w.heap.size w wr) (fun iv _ => n - (intOf iv).toNat)
  case atStart => exact ⟨0, Nat.zero_le _, rfl, Below.refl _ _⟩
  case round =>
    obtain ⟨k, hk, rfl, hb⟩ := hrel
    by_cases hlt : k < n
    · have hkL : k < L.length := by rw [HN.out]; exact hlt
      obtain ⟨g1, o1, rfl, hg1, hc1⟩ := H.out.1 (by omega)
      obtain ⟨g2, o2, rfl, hg2, hc2⟩ := H.out.2 (by omega)
      obtain ⟨⟨fr, to, pk, lv, tp⟩, hdc⟩ : ∃ p, L[k]'hkL = p := ⟨_, rfl⟩
      have a := fun j (hj : j < 5) => (hb.cell (p := ⟨g1, o1 + (k * 5 + j), none⟩) hg1).trans (hc1 k hkL j hj)
      have b := fun j (hj : j < 5) => (hb.cell (p := ⟨g2, o2 + (k * 5 + j), none⟩) hg2).trans (hc2 k hkL j hj)
      simp only [hdc] at a b
      have a0 : wr.cell? ⟨g1, o1 + k * 5, none⟩ = some (.int .i64 (fr : Int)) := by simpa [ints, eoE] using a 0 (by omega)
      have a1 : wr.cell? ⟨g1, o1 + k * 5 + 1, none⟩ = some (.int .i64 (to : Int)) := by simpa [ints, eoE, Nat.add_assoc] using a 1 (by omega)
      have a2 : wr.cell? ⟨g1, o1 + k * 5 + 2, none⟩ = some (.int .i64 (pk : Int)) := by simpa [ints, eoE, Nat.add_assoc] using a 2 (by omega)
      have a3 : wr.cell? ⟨g1, o1 + k * 5 + 3, none⟩ = some (.int .i64 lv) := by simpa [ints, eoE, Nat.add_assoc] using a 3 (by omega)
      have a4 : wr.cell? ⟨g1, o1 + k * 5 + 4, none⟩ = some (.int .i64 tp) := by simpa [ints, eoE, Nat.add_assoc] using a 4 (by omega)
      have b0 : wr.cell? ⟨g2, o2 + k * 5, none⟩ = some (.int .i64 (fr : Int)) := by simpa [ints, eoE] using b 0 (by omega)
      have b1 : wr.cell? ⟨g2, o2 + k * 5 + 1, none⟩ = some (.int .i64 (to : Int)) := by simpa [ints, eoE, Nat.add_assoc] using b 1 (by omega)
      have b2 : wr.cell? ⟨g2, o2 + k * 5 + 2, none⟩ = some (.int .i64 (pk : Int)) := by simpa [ints, eoE, Nat.add_assoc] using b 2 (by omega)
      have b3 : wr.cell? ⟨g2, o2 + k * 5 + 3, none⟩ = some (.int .i64 lv) := by simpa [ints, eoE, Nat.add_assoc] using b 3 (by omega)
      have b4 : wr.cell? ⟨g2, o2 + k * 5 + 4, none⟩ = some (.int .i64 tp) := by simpa [ints, eoE, Nat.add_assoc] using b 4 (by omega)
      have e0 : ((fr : Int) == (fr : Int)) = true := by simp
      have e1 : ((to : Int) == (to : Int)) = true := by simp
      have e2 : ((pk : Int) == (pk : Int)) = true := by simp
      have e3 : (lv == lv) = true := by simp
      have e4 : (tp == tp) = true := by simp
      have HB := Lib.hid hb
      clear a b hc1 hc2 hdc hb
      go_wp2
      go_region
      go_wp2
      go_roundw
      case rel => exact ⟨k + 1, by omega, by simp, HB.out.drew⟩
      case measure => simp [intOf]; omega
    · obtain rfl : k = n := by omega
      go_wp2
      go_ret
      exact ⟨rfl, hb⟩

set_option maxRecDepth 100000 in
set_option maxHeartbeats 4000000 in
theorem walk (A : Option Addr) (n c : Nat) (L : List Int) (lv dp st dl : Int) (w : World) (hx : IW w w.heap.size (.slice A n c) L) :
    Calls Try.prog 5 #[.slice A n c, .agg #[.int .i64 lv, .int .i64 dp, .int .i64 st, .int .i64 dl]] w (RetB w true) := by
  obtain ⟨W0, hW0⟩ : ∃ W0, W0 = w.alloc (.cells #[.int .i64 lv, .int .i64 dp, .int .i64 st, .int .i64 dl] 42) := ⟨_, rfl⟩
  have hb0 : Below w.heap.size w W0 := by rw [hW0]; exact (Below.refl _ w).alloc (Nat.le_refl _) _
  have g0 : W0.heap[w.heap.size]? = some (.cells #[.int .i64 lv, .int .i64 dp, .int .i64 st, .int .i64 dl] 42 (0, 0)) := by rw [hW0]; exact heap_alloc_new w _
  have m0 : ∀ j v, (#[Value.int .i64 lv, .int .i64 dp, .int .i64 st, .int .i64 dl] : Array Value)[j]? = some v → (w.alloc (.cells #[.int .i64 lv, .int .i64 dp, .int .i64 st, .int .i64 dl] 42)).cell? ⟨w.heap.size, j, none⟩ = some v := fun j v h => built_cells w _ _ j v h
  have p0 := m0 0 _ rfl
  have p1 := m0 1 _ rfl
  have p2 := m0 2 _ rfl
  have p3 := m0 3 _ rfl
  have HX := Lib.hid (And.intro hx (And.intro hb0 g0))
  have HW0 := Lib.hid hW0
  clear hb0 g0 hW0 m0
  by_cases h64 : 1000 < n
  · clear hx
    go_enter Try.func5, Try.ntmps5
    go_wp2_with fail
    rw [← HW0.out]
    refine (first_any _).mono ?_
    rintro e w1 ⟨rfl, hb1⟩
    go_wp2
    go_ret
    exact ⟨rfl, HX.out.2.1.trans (hb1.mono HX.out.2.1.size)⟩
  · have hE1 := echoes_all L lv dp st dl A n c W0 ((hx.below HX.out.2.1).more HX.out.2.1.size)
    have hE2 : ∀ wx, Below W0.heap.size W0 wx → Calls Try.prog 18 #[.slice A n c, .agg #[.int .i64 lv, .int .i64 dp, .int .i64 st, .int .i64 dl]] wx (RetEch wx (echA L ⟨lv, dp, st, dl⟩) (echE L ⟨lv, dp, st, dl⟩)) := fun wx hb => by
      have h1 := HX.out.2.1.trans (hb.mono HX.out.2.1.size)
      exact refEchoes_all L lv dp st dl A n c wx ((HX.out.1.below h1).more h1.size)
    obtain ⟨R, hR⟩ : ∃ R, echA L ⟨lv, dp, st, dl⟩ = R := ⟨_, rfl⟩
    obtain ⟨er, her⟩ : ∃ x, echE L ⟨lv, dp, st, dl⟩ = x := ⟨_, rfl⟩
    rw [hR, her] at hE1
    simp only [hR, her] at hE2
    have HE := Lib.hid hE2
    have ee : (er == er) = true := by simp
    obtain ⟨bd, hbd⟩ : ∃ b, decide (okD ⟨lv, dp, st, dl⟩) = b := ⟨_, rfl⟩
    have HD := Lib.hid hbd
    have eb : (bd == bd) = true := by simp
    clear hx hE2 hR her hbd
    go_enter Try.func5, Try.ntmps5
    go_wp2_with (go_at_call 17; rw [← HW0.out]; refine hE1.mono ?_; rintro en w1 ⟨v1, rfl, hS1, hb1⟩; have k1 := (hb1.block _ (Array.getElem?_eq_some_iff.1 HX.out.2.2).1).trans HX.out.2.2; have q0 : w1.cell? ⟨w.heap.size, 0, none⟩ = some (.int .i64 lv) := cell_of_row _ _ _ _ _ _ k1; have q1 : w1.cell? ⟨w.heap.size, 1, none⟩ = some (.int .i64 dp) := cell_of_row _ _ _ _ _ _ k1; have q2 : w1.cell? ⟨w.heap.size, 2, none⟩ = some (.int .i64 st) := cell_of_row _ _ _ _ _ _ k1; have q3 : w1.cell? ⟨w.heap.size, 3, none⟩ = some (.int .i64 dl) := cell_of_row _ _ _ _ _ _ k1; have HB1 := Lib.hid (And.intro hb1 (And.intro hS1 k1)); clear hb1 hS1 k1 p0 p1 p2 p3)
    clear hE1
    refine (HE.out _ HB1.out.1).mono ?_
    rintro en w2 ⟨v2, rfl, hS2, hb2⟩
    have k2 := (hb2.block _ (Array.getElem?_eq_some_iff.1 HB1.out.2.2).1).trans HB1.out.2.2
    have kl := (Array.getElem?_eq_some_iff.1 k2).1
    have KG := Lib.hid (fun (w' : World) (h : Below w2.heap.size w2 w') => (show w'.cell? ⟨w.heap.size, 0, none⟩ = some (.int .i64 lv) ∧ w'.cell? ⟨w.heap.size, 1, none⟩ = some (.int .i64 dp) ∧ w'.cell? ⟨w.heap.size, 2, none⟩ = some (.int .i64 st) ∧ w'.cell? ⟨w.heap.size, 3, none⟩ = some (.int .i64 dl) from
      ⟨(h.cell (p := ⟨w.heap.size, 0, none⟩) kl).trans (cell_of_row _ _ _ _ _ _ k2), (h.cell (p := ⟨w.heap.size, 1, none⟩) kl).trans (cell_of_row _ _ _ _ _ _ k2), (h.cell (p := ⟨w.heap.size, 2, none⟩) kl).trans (cell_of_row _ _ _ _ _ _ k2), (h.cell (p := ⟨w.heap.size, 3, none⟩) kl).trans (cell_of_row _ _ _ _ _ _ k2)⟩))
    have KD := Lib.hid (KG.out _ (Below.refl w2.heap.size w2).drew)
    have HB2 := Lib.hid (And.intro (HX.out.2.1.trans ((HB1.out.1.trans (hb2.mono HB1.out.1.size)).mono HX.out.2.1.size)) (And.intro (HB1.out.2.1.below hb2) hS2))
    clear q0 q1 q2 q3 k2 hS2 hb2
    go_wp2
    go_region_held3 (fun w' => w'.cell? ⟨w.heap.size, 0, none⟩ = some (.int .i64 lv) ∧ w'.cell? ⟨w.heap.size, 1, none⟩ = some (.int .i64 dp) ∧ w'.cell? ⟨w.heap.size, 2, none⟩ = some (.int .i64 st) ∧ w'.cell? ⟨w.heap.size, 3, none⟩ = some (.int .i64 dl))
      (first
        | (with_reducible exact KD.out)
        | (refine KG.out _ ?_
           with_reducible first | exact hb6 | exact hb5 | exact hb4 | exact hb3)
        | go_keep)
      (first
        | (go_at_call 19
           refine (validDet_any lv dp st dl _).mono ?_
           rintro e w3 ⟨rfl, hb3'⟩
           rw [HD.out]
           have hb3 : Below w2.heap.size w2 w3 := by with_reducible first | exact hb3' | exact below_un hb3'
           clear hb3')
        | (go_at_call 20
           refine (refDet_any lv dp st dl _).mono ?_
           rintro e w4 ⟨rfl, hb4'⟩
           rw [HD.out]
           have hb4 : Below w2.heap.size w2 w4 := by with_reducible first | exact bel_ hb3 hb4' | exact bel_ hb3 (below_un hb4')
           clear hb4')
        | (go_at_call 21
           refine (sameEchoes_any R v1 v2 _ (HB2.out.2.1.below hb4) (HB2.out.2.2.below hb4)).mono ?_
           rintro e w5 ⟨rfl, hb5'⟩
           have hb5 : Below w2.heap.size w2 w5 := by with_reducible first | exact bel_ hb4 hb5' | exact bel_ hb4 (below_un hb5')
           clear hb5')
        | (go_at_call 10
           refine (first_any _).mono ?_
           rintro e w6 ⟨rfl, hb6'⟩
           have hb6 : Below w2.heap.size w2 w6 := by with_reducible first | exact bel_ hb5 hb6' | exact bel_ hb5 (below_un hb6')
           clear hb6'))
    all_goals
      go_wp2
      go_ret
      exact ⟨rfl, HB2.out.1.trans (hb6.mono HB2.out.1.size)⟩

set_option maxRecDepth 100000 in
theorem lifted (os : Os) (started : os.Started) (H : Type) (enc : TypeId × Value → H) :
    ReturnsInHanded {} Try.checked os 5 .any (Rows.waveEchoesSpec.pre6 enc Try.prog Try.f5 Rows.waveEchoesRow.domain false) (Rows.waveEchoesSpec.post enc Try.prog Try.f5 false true false false) := by
  refine returnsInHanded_of_change (C := Try.checked) ownTry started (by kernel_rfl) Try.func5
    (ChangeSpec.witness6 (enc := enc) (C := Try.checked) false ⟨#[], #[.slice none 0 0, .agg #[.int .i64 0, .int .i64 0, .int .i64 0, .int .i64 0]], []⟩ 8 (by kernel_rfl) (by kernel_rfl) (by kernel_rfl) (by kernel_rfl)) ?_
  intro W base args ds gs before hval0 hW hcnd _
  have hval : ∀ (j : Nat) t v, Try.f5.params[j]? = some t → args[j]? = some v → Value.okWide Try.prog W .any base t v := hval0
  have hW' := hW
  obtain ⟨p, q, hA0, hV, rfl, hfz, hnd⟩ := hW
  have hA : DataW.TrodAll enc Try.prog W 0 (fun _ => true) true Try.f5.params.toList args.toList ds p := hA0
  rw [Try.params5] at hA hval
  obtain ⟨v0, v1, d0, d1, p0, p1, rfl, rfl, rfl, h0, h1⟩ := trodAll_two hA
  obtain ⟨rfl, rfl⟩ := trodVars_none hV
  obtain ⟨A0, n0, c0, L0, rfl, hB0, hx0⟩ := open_numbers (hval 0 _ v0 rfl rfl) h0
  obtain ⟨lv, dp, st, dl, rfl⟩ := open_detector (hval 1 42 v1 rfl rfl) h1
  clear hA0 hval0
  refine (walk A0 n0 c0 L0 lv dp st dl W hx0).mono fun e W' ⟨he, hg⟩ => ?_
  subst he
  exact ⟨_, rfl, post_reads laidOut (by kernel_rfl) hW' rfl (fun _ _ _ => trodAll_mk1 (shut_bool Try.underlying4 _)) (fun _ => rfl) rfl hg (ok_one (by kernel_rfl) rfl (okWide_bool_mk Try.underlying4 _))⟩

theorem over : Rows.waveEchoesRow.holds Try.pinned (OpenSpec.ofChange Rows.waveEchoesSpec) :=
  OpenClaim.holds_of_wide 5 Try.f5 rfl rfl rfl rfl rfl rfl rfl ⟨rfl, rfl, rfl, rfl, rfl⟩ rfl rfl rfl rfl rfl (by kernel_rfl) Try.func5 (by kernel_rfl)
    (of_decide_eq_true (by kernel_rfl)) (by unfold Func.isWrapper; first | (rw [if_pos (by decide +kernel)]; kernel_rfl) | (rw [if_neg (by decide +kernel)]; exact ⟨rfl, rfl⟩))
    (fun os started H enc _ => lifted os started H enc)

theorem proved : Rows.WaveEchoesSaid := over
end Go.Proofs.Ytkcagifljelfoaa.waveEchoes

