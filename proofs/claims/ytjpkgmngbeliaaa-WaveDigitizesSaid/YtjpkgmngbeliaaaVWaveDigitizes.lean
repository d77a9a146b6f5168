/-
  For any heights the law WaveDigitizes returns true and leaves its argument as it was: no condition.
-/
import Derived.Test.YtjpkgmngbeliaaaVFirst
import Derived.Test.YtjpkgmngbeliaaaVDig
import Derived.Test.YtjpkgmngbeliaaaVSame
namespace Go.Proofs.Ytjpkgmngbeliaaa.waveDigitizes
open Go.Proofs.Ytjpkgmngbeliaaa
open Go.ChangeShapes Go.WideShapes Go.ChangeAt Go.RowKit Go.Joins
set_option linter.unusedVariables false

set_option maxRecDepth 100000 in
set_option maxHeartbeats 400000 in
theorem walk (A : Option Addr) (n c : Nat) (L : List Int) (hI : AllI L) (w : World) (hx : IW w w.heap.size (.slice A n c) L) :
    Calls Try.prog 4 #[.slice A n c] w (RetB w true) := by
  by_cases h64 : 1000 < n
  · go_enter Try.func4, Try.ntmps4
    go_wp2_with fail
    refine (first_any _).mono ?_
    rintro e w1 ⟨rfl, hb1⟩
    go_wp2
    go_ret
    exact ⟨rfl, hb1⟩
  · have H1 := digitize_any L hI A n c (by omega) w hx
    obtain ⟨R, hR⟩ : ∃ R, digR L = R := ⟨_, rfl⟩
    obtain ⟨E, hE⟩ : ∃ E, digE L = E := ⟨_, rfl⟩
    have H2 : ∀ wx, Below w.heap.size w wx → Calls Try.prog 18 #[.slice A n c] wx (RetL wx R E) := fun wx hb => by
      rw [← hR, ← hE]
      exact refDigitize_any L hI A n c (by omega) w.heap.size wx (hx.below hb) hb.size
    rw [hR, hE] at H1
    have HH := Lib.hid (And.intro H1 H2)
    have eE : (E == E) = true := by simp
    clear H1 H2 hx hI hR hE
    go_enter Try.func4, Try.ntmps4
    go_wp2_with fail
    refine HH.out.1.mono ?_
    rintro e w1 ⟨v1, rfl, hv1, hb1⟩
    obtain ⟨A1, c1, rfl, _⟩ := id hv1
    have HB1 := Lib.hid (And.intro hv1 hb1)
    clear hv1 hb1
    go_wp2_with fail
    refine (HH.out.2 _ HB1.out.2).mono ?_
    rintro e w2 ⟨v2, rfl, hv2, hb2⟩
    obtain ⟨A2, c2, rfl, _⟩ := id hv2
    have HB2 := Lib.hid (And.intro (HB1.out.1.belowM hb2 (Nat.le_refl _)) (And.intro hv2 hb2))
    clear hv2 hb2
    go_wp2_with fail
    refine (sameInts_any R A1 A2 R.length c1 c2 w2.heap.size w2 (HB2.out.1.more HB2.out.2.2.size) HB2.out.2.1).mono ?_
    rintro e w3 ⟨rfl, hb3⟩
    have HB3 := Lib.hid hb3
    clear hb3
    go_wp2_with fail
    refine (first_any _).mono ?_
    rintro e w4 ⟨rfl, hb4⟩
    go_wp2
    go_ret
    refine ⟨rfl, ?_⟩
    have h1 := HB1.out.2
    have h2 := h1.trans (HB2.out.2.2.mono h1.size)
    have h3 := h2.trans (HB3.out.mono h2.size)
    exact h3.trans (hb4.mono h3.size)

set_option maxRecDepth 100000 in
theorem lifted (os : Os) (started : os.Started) (H : Type) (enc : TypeId × Value → H) :
    ReturnsInHanded {} Try.checked os 4 .any (Rows.waveDigitizesSpec.pre6 enc Try.prog Try.f4 Rows.waveDigitizesRow.domain false) (Rows.waveDigitizesSpec.post enc Try.prog Try.f4 false true false false) := by
  refine returnsInHanded_of_change (C := Try.checked) ownTry started (by kernel_rfl) Try.func4
    (ChangeSpec.witness6 (enc := enc) (C := Try.checked) false ⟨#[], #[.slice none 0 0], []⟩ 8 (by kernel_rfl) (by kernel_rfl) (by kernel_rfl) (by kernel_rfl)) ?_
  intro W base args ds gs before hval0 hW hcnd _
  have hval : ∀ (j : Nat) t v, Try.f4.params[j]? = some t → args[j]? = some v → Value.okWide Try.prog W .any base t v := hval0
  have hW' := hW
  obtain ⟨p, q, hA0, hV, rfl, hfz, hnd⟩ := hW
  have hA : DataW.TrodAll enc Try.prog W 0 (fun _ => true) true Try.f4.params.toList args.toList ds p := hA0
  rw [Try.params4] at hA hval
  obtain ⟨v0, d0, rfl, rfl, h0⟩ := trodAll_one hA
  obtain ⟨rfl, rfl⟩ := trodVars_none hV
  obtain ⟨A0, n0, c0, L0, rfl, hB0, hx0⟩ := open_numbers (hval 0 _ v0 rfl rfl) h0
  clear hA0 hval0
  refine (walk A0 n0 c0 L0 hB0 W hx0).mono fun e W' ⟨he, hg⟩ => ?_
  subst he
  exact ⟨_, rfl, post_reads laidOut (by kernel_rfl) hW' rfl (fun _ _ _ => trodAll_mk1 (shut_bool Try.underlying4 _)) (fun _ => rfl) rfl hg (ok_one (by kernel_rfl) rfl (okWide_bool_mk Try.underlying4 _))⟩

theorem over : Rows.waveDigitizesRow.holds Try.pinned (OpenSpec.ofChange Rows.waveDigitizesSpec) :=
  OpenClaim.holds_of_wide 4 Try.f4 rfl rfl rfl rfl rfl rfl rfl ⟨rfl, rfl, rfl, rfl, rfl⟩ rfl rfl rfl rfl rfl (by kernel_rfl) Try.func4 (by kernel_rfl)
    (of_decide_eq_true (by kernel_rfl)) (by unfold Func.isWrapper; first | (rw [if_pos (by decide +kernel)]; kernel_rfl) | (rw [if_neg (by decide +kernel)]; exact ⟨rfl, rfl⟩))
    (fun os started H enc _ => lifted os started H enc)

theorem proved : Rows.WaveDigitizesSaid := over
end Go.Proofs.Ytjpkgmngbeliaaa.waveDigitizes
