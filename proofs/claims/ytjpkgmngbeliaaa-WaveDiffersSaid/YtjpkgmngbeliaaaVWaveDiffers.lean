/-
  For any numbers the law WaveDiffers returns true and leaves its argument as it was: no condition.
-/
import Derived.Test.YtjpkgmngbeliaaaVFirst
import Derived.Test.YtjpkgmngbeliaaaVDifr
namespace Go.Proofs.Ytjpkgmngbeliaaa.waveDiffers
open Go.Proofs.Ytjpkgmngbeliaaa
open Go.ChangeShapes Go.WideShapes Go.ChangeAt Go.RowKit Go.Joins
set_option linter.unusedVariables false

theorem SL.sr {α : Type} {enc : α → List Int} {k : Nat} {e : TypeId} {w : World} {base : Nat} {v : Value} {R : List α} (hk : ∀ a, (enc a).length = k) (h : SL enc k e w base v R) : SR enc k w v R := by
  obtain ⟨A, c, rfl, hA, hc⟩ := h.slice
  rcases Nat.eq_zero_or_pos R.length with h0 | h0
  · exact ⟨A, c, rfl, hc.1, hc.2, fun h => absurd h (by omega)⟩
  · obtain ⟨g, rfl, h1, h2⟩ := hA h0
    have := SL.reads hk h (Nat.le_refl _) h2 hc
    rwa [List.take_length] at this

set_option maxRecDepth 100000 in
set_option maxHeartbeats 1000000 in
theorem walk (A : Option Addr) (n c : Nat) (L : List Int) (hI : AllI L) (w : World) (hx : IW w w.heap.size (.slice A n c) L) :
    Calls Try.prog 5 #[.slice A n c] w (RetB w true) := by
  by_cases h64 : 1000 < n
  · go_enter Try.func5, Try.ntmps5
    go_wp2_with fail
    refine (first_any _).mono ?_
    rintro e w1 ⟨rfl, hb1⟩
    go_wp2
    go_ret
    exact ⟨rfl, hb1⟩
  · have hl := Lib.hid hx.len
    have HX := Lib.hid (And.intro hx hI)
    clear hx hI
    go_enter Try.func5, Try.ntmps5
    go_wp2
    go_loopw [3] (fun iv wr => ∃ k : Nat, iv = .int .i64 (k : Int) ∧ k ≤ n ∧ Hid (∀ j, j < k → -1152921504606846976 ≤ ith L j ∧ ith L j ≤ 1152921504606846976) ∧ wr = w) (fun iv _ => n - (intOf iv).toNat)
    case atStart => exact ⟨0, rfl, Nat.zero_le _, Lib.hid (fun j hj => absurd hj (by omega)), rfl⟩
    case round =>
      obtain ⟨k, rfl, hk, hall, rfl⟩ := hrel
      by_cases hlt : k < n
      · obtain ⟨b, o, rfl, hb, hc⟩ := HX.out.1.at_ (by omega)
        have hck := hc k hlt
        have hxI := HX.out.2 _ (ith_mem (zs := L) (j := k) (by have := hl.out; omega))
        obtain ⟨x, hx⟩ : ∃ x, ith L k = x := ⟨_, rfl⟩
        rw [hx] at hck hxI
        have HK := Lib.hid hx
        clear hx hc
        by_cases h0 : x < -1152921504606846976
        · go_wp2_with fail
          refine (first_any _).mono ?_
          rintro e w1 ⟨rfl, hb1⟩
          go_wp2
          go_ret
          exact ⟨rfl, hb1⟩
        · by_cases h1 : 1152921504606846976 < x
          · go_wp2_with fail
            refine (first_any _).mono ?_
            rintro e w1 ⟨rfl, hb1⟩
            go_wp2
            go_ret
            exact ⟨rfl, hb1⟩
          · go_wp2
            go_roundw
            case rel =>
              refine ⟨k + 1, by simp, by omega, Lib.hid (fun j hj => ?_), by first | rfl | trivial⟩
              by_cases e : j = k
              · subst e; rw [HK.out]; omega
              · exact hall.out j (by omega)
            case measure => simp [intOf]; omega
      · obtain rfl : k = n := by omega
        have h60 : All60 L := fun x hx => by
          obtain ⟨j, hj, rfl⟩ := List.getElem_of_mem hx
          rw [← ith_lt hj]
          exact hall.out j (by have := hl.out; omega)
        have H1 := differences_any L h60 A k c wr.heap.size (by omega) wr HX.out.1 (Nat.le_refl _)
        obtain ⟨R, hR⟩ : ∃ R, difK L L.length = R := ⟨_, rfl⟩
        have H2 : ∀ wx, Below wr.heap.size wr wx → Calls Try.prog 22 #[.slice A k c] wx (RetSp wx wx.heap.size R) := fun wx hb => by
          rw [← hR]
          exact refDifferences_any L h60 A k c wr.heap.size (by omega) wx (HX.out.1.below hb) hb.size
        rw [hR] at H1
        have HH := Lib.hid (And.intro H1 H2)
        clear H1 H2 h60 hR hall
        go_wp2_with fail
        refine HH.out.1.mono ?_
        rintro e w1 ⟨v1, rfl, hv1, hb1⟩
        have HB1 := Lib.hid (And.intro (SL.sr stE_len hv1) hb1)
        clear hv1 hb1
        go_wp2_with fail
        refine (HH.out.2 _ HB1.out.2).mono ?_
        rintro e w2 ⟨v2, rfl, hv2, hb2⟩
        have HB2 := Lib.hid (And.intro (HB1.out.1.below hb2) (And.intro (SL.sr stE_len hv2) hb2))
        clear hv2 hb2
        go_wp2_with fail
        refine (sameSteps_any R v1 v2 w2 HB2.out.1 HB2.out.2.1).mono ?_
        rintro e w3 ⟨rfl, hb3⟩
        have HB3 := Lib.hid hb3
        clear hb3
        go_wp2_with fail
        refine (first_any _).mono ?_
        rintro e w4 ⟨rfl, hb4⟩
        go_wp2
        go_ret
        refine ⟨rfl, ?_⟩
        have h1 := HB1.out.2
        have h2 := h1.trans (HB2.out.2.2.mono h1.size)
        have h3 := h2.trans (HB3.out.mono h2.size)
        exact h3.trans (hb4.mono h3.size)

set_option maxRecDepth 100000 in
theorem lifted (os : Os) (started : os.Started) (H : Type) (enc : TypeId × Value → H) :
    ReturnsInHanded {} Try.checked os 5 .any (Rows.waveDiffersSpec.pre6 enc Try.prog Try.f5 Rows.waveDiffersRow.domain false) (Rows.waveDiffersSpec.post enc Try.prog Try.f5 false true false false) := by
  refine returnsInHanded_of_change (C := Try.checked) ownTry started (by kernel_rfl) Try.func5
    (ChangeSpec.witness6 (enc := enc) (C := Try.checked) false ⟨#[], #[.slice none 0 0], []⟩ 8 (by kernel_rfl) (by kernel_rfl) (by kernel_rfl) (by kernel_rfl)) ?_
  intro W base args ds gs before hval0 hW hcnd _
  have hval : ∀ (j : Nat) t v, Try.f5.params[j]? = some t → args[j]? = some v → Value.okWide Try.prog W .any base t v := hval0
  have hW' := hW
  obtain ⟨p, q, hA0, hV, rfl, hfz, hnd⟩ := hW
  have hA : DataW.TrodAll enc Try.prog W 0 (fun _ => true) true Try.f5.params.toList args.toList ds p := hA0
  rw [Try.params5] at hA hval
  obtain ⟨v0, d0, rfl, rfl, h0⟩ := trodAll_one hA
  obtain ⟨rfl, rfl⟩ := trodVars_none hV
  obtain ⟨A0, n0, c0, L0, rfl, hB0, hx0⟩ := open_numbers (hval 0 _ v0 rfl rfl) h0
  clear hA0 hval0
  refine (walk A0 n0 c0 L0 hB0 W hx0).mono fun e W' ⟨he, hg⟩ => ?_
  subst he
  exact ⟨_, rfl, post_reads laidOut (by kernel_rfl) hW' rfl (fun _ _ _ => trodAll_mk1 (shut_bool Try.underlying4 _)) (fun _ => rfl) rfl hg (ok_one (by kernel_rfl) rfl (okWide_bool_mk Try.underlying4 _))⟩

theorem over : Rows.waveDiffersRow.holds Try.pinned (OpenSpec.ofChange Rows.waveDiffersSpec) :=
  OpenClaim.holds_of_wide 5 Try.f5 rfl rfl rfl rfl rfl rfl rfl ⟨rfl, rfl, rfl, rfl, rfl⟩ rfl rfl rfl rfl rfl (by kernel_rfl) Try.func5 (by kernel_rfl)
    (of_decide_eq_true (by kernel_rfl)) (by unfold Func.isWrapper; first | (rw [if_pos (by decide +kernel)]; kernel_rfl) | (rw [if_neg (by decide +kernel)]; exact ⟨rfl, rfl⟩))
    (fun os started H enc _ => lifted os started H enc)

theorem proved : Rows.WaveDiffersSaid := over
end Go.Proofs.Ytjpkgmngbeliaaa.waveDiffers
