/-
  For any bytes the law LinkScans returns true and leaves its argument as it was: no condition.
-/
import Derived.Test.YtlokacgclihhlaaZScanr
import Derived.Test.YtlokacgclihhlaaZSameFs
namespace Go.Proofs.Ytlokacgclihhlaa.linkScans
open Go.Proofs.Ytlokacgclihhlaa
open Go.ChangeShapes Go.WideShapes Go.ChangeAt Go.RowKit Go.Joins
set_option linter.unusedVariables false

theorem belS {w W w1 : World} (h0 : Below w.heap.size w W) (h : Below W.heap.size W w1) : Below w.heap.size w w1 := h0.trans (h.mono h0.size)

theorem scan_len : ∀ (k : Nat) (L : List Nat), (scanF k L).1.length ≤ k
  | 0, _ => Nat.le_refl _
  | k + 1, L => by
    rw [scanF]
    split
    · simp
    · split
      · have := scan_len k (L.drop (upN L)); simp; omega
      · have := scan_len k (L.drop 1)
        show (scanF k (L.drop 1)).1.length ≤ k + 1
        omega

set_option maxRecDepth 100000 in
set_option maxHeartbeats 1000000 in
theorem walk (A : Option Addr) (n c : Nat) (L : List Nat) (hb : AllB L) (w : World) (hx : RB w w.heap.size (.slice A n c) L) :
    Calls Try.prog 9 #[.slice A n c] w (RetB w true) := by
  by_cases h64 : 2048 < n
  · go_enter Try.func9, Try.ntmps9
    go_wp2_with fail
    refine (awake_any _).mono ?_
    rintro e w1 ⟨rfl, hb1⟩
    go_wp2
    go_ret
    exact ⟨rfl, hb1⟩
  · have h20 : n ≤ 2048 := by omega
    have HH := Lib.hid (And.intro hb hx)
    have HL := Lib.hid (show (scanF (L.length + 1) L).1.length ≤ 1048576 by have := scan_len (L.length + 1) L; have := hx.1.len; omega)
    obtain ⟨Fs, hFs⟩ : ∃ x, x = (scanF (L.length + 1) L).1 := ⟨_, rfl⟩
    obtain ⟨sk, hsk⟩ : ∃ x, x = (scanF (L.length + 1) L).2.1 := ⟨_, rfl⟩
    obtain ⟨rs, hrs⟩ : ∃ x, x = (scanF (L.length + 1) L).2.2 := ⟨_, rfl⟩
    have HE := Lib.hid (And.intro hFs (And.intro hsk hrs))
    clear hb hx hFs hsk hrs
    have q1 : ((sk : Int) == (sk : Int)) = true := by simp
    have q2 : ((rs : Int) == (rs : Int)) = true := by simp
    go_enter Try.func9, Try.ntmps9
    go_wp2_with fail
    refine (scan_any L HH.out.1 A n c _ h20 w HH.out.2 (Nat.le_refl _)).mono ?_
    rintro e w1 ⟨v1, rfl, f1, b1⟩
    rw [← HE.out.1] at f1
    rw [← HE.out.2.1, ← HE.out.2.2]
    have R1 := Lib.hid (And.intro f1 b1)
    clear f1 b1
    go_wp2_with fail
    refine (refScan_any L HH.out.1 A n c _ h20 w1 (HH.out.2.below R1.out.2) R1.out.2.size).mono ?_
    rintro e w2 ⟨v2, rfl, f2, b2⟩
    rw [← HE.out.1] at f2
    rw [← HE.out.2.1, ← HE.out.2.2]
    have R2 := Lib.hid (And.intro f2 (And.intro b2 (frs_below R1.out.1 b2)))
    clear f2 b2
    go_wp2_with fail
    refine (sameFrames_yes Fs v1 v2 _ _ (by rw [HE.out.1]; exact HL.out) w2 R2.out.2.2 R2.out.1).mono ?_
    rintro e w3 ⟨rfl, b3⟩
    have B3 := Lib.hid b3
    clear b3
    go_wp2_with fail
    refine (awake_any _).mono ?_
    rintro e w4 ⟨rfl, b4⟩
    go_wp2
    go_ret
    exact ⟨rfl, belS (belS R1.out.2 R2.out.2.1) (belS B3.out b4)⟩

set_option maxRecDepth 100000 in
theorem lifted (os : Os) (started : os.Started) (H : Type) (enc : TypeId × Value → H) :
    ReturnsInHanded {} Try.checked os 9 .any (Rows.linkScansSpec.pre6 enc Try.prog Try.f9 Rows.linkScansRow.domain false) (Rows.linkScansSpec.post enc Try.prog Try.f9 false true false false) := by
  refine returnsInHanded_of_change (C := Try.checked) ownTry started (by kernel_rfl) Try.func9
    (ChangeSpec.witness6 (enc := enc) (C := Try.checked) false ⟨#[], #[.slice none 0 0], []⟩ 8 (by kernel_rfl) (by kernel_rfl) (by kernel_rfl) (by kernel_rfl)) ?_
  intro W base args ds gs before hval0 hW hcnd _
  have hval : ∀ (j : Nat) t v, Try.f9.params[j]? = some t → args[j]? = some v → Value.okWide Try.prog W .any base t v := hval0
  have hW' := hW
  obtain ⟨p, q, hA0, hV, rfl, hfz, hnd⟩ := hW
  have hA : DataW.TrodAll enc Try.prog W 0 (fun _ => true) true Try.f9.params.toList args.toList ds p := hA0
  rw [Try.params9] at hA hval
  obtain ⟨v0, d0, rfl, rfl, h0⟩ := trodAll_one hA
  obtain ⟨rfl, rfl⟩ := trodVars_none hV
  obtain ⟨A0, n0, c0, L0, rfl, hB0, hx0⟩ := open_bytesRB (hval 0 _ v0 rfl rfl) h0
  clear hA0 hval0
  refine (walk A0 n0 c0 L0 hB0 W hx0).mono fun e W' ⟨he, hg⟩ => ?_
  subst he
  exact ⟨_, rfl, post_reads laidOut (by kernel_rfl) hW' rfl (fun _ _ _ => trodAll_mk1 (shut_bool Try.underlying4 _)) (fun _ => rfl) rfl hg (ok_one (by kernel_rfl) rfl (okWide_bool_mk Try.underlying4 _))⟩

theorem over : Rows.linkScansRow.holds Try.pinned (OpenSpec.ofChange Rows.linkScansSpec) :=
  OpenClaim.holds_of_wide 9 Try.f9 rfl rfl rfl rfl rfl rfl rfl ⟨rfl, rfl, rfl, rfl, rfl⟩ rfl rfl rfl rfl rfl (by kernel_rfl) Try.func9 (by kernel_rfl)
    (of_decide_eq_true (by kernel_rfl)) (by unfold Func.isWrapper; first | (rw [if_pos (by decide +kernel)]; kernel_rfl) | (rw [if_neg (by decide +kernel)]; exact ⟨rfl, rfl⟩))
    (fun os started H enc _ => lifted os started H enc)

theorem proved : Rows.LinkScansSaid := over
end Go.Proofs.Ytlokacgclihhlaa.linkScans
