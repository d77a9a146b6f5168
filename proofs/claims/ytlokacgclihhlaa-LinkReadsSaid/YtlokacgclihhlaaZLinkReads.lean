/-
  For any bytes the law LinkReads returns true and leaves its argument as it was: no condition.
-/
import Derived.Test.YtlokacgclihhlaaZOpen
import Derived.Test.YtlokacgclihhlaaZReads
import Derived.Test.YtlokacgclihhlaaZNumber
namespace Go.Proofs.Ytlokacgclihhlaa.linkReads
open Go.Proofs.Ytlokacgclihhlaa
open Go.ChangeShapes Go.WideShapes Go.ChangeAt Go.RowKit Go.Joins
set_option linter.unusedVariables false

set_option maxRecDepth 100000 in
set_option maxHeartbeats 400000 in
theorem walk (A : Option Addr) (n c : Nat) (L : List Nat) (hb : AllB L) (w : World) (hx : RW .u8 w w.heap.size (.slice A n c) L) :
    Calls Try.prog 3 #[.slice A n c] w (RetB w true) := by
  obtain ⟨s, hs⟩ := lead_ex L
  by_cases h64 : 64 < n
  · go_enter Try.func3, Try.ntmps3
    go_wp2_with fail
    refine (awake_any _).mono ?_
    rintro e w1 ⟨rfl, hb1⟩
    go_wp2
    go_ret
    exact ⟨rfl, hb1⟩
  · have H1 := readNumber_any L s hs A n c _ w hx
    have H2 := refReadNumber_any L hb s hs A n c _ w hx
    have H3 := readSigned_any L s hs A n c _ w hx
    have H4 := refReadSigned_any L hb s hs A n c _ w hx
    unfold RetRd at H1 H2
    unfold RetR3 at H3 H4
    generalize rdN L s = x at *
    generalize rdS L s = y at *
    generalize rdE L s = z at *
    generalize half x = x2 at *
    have HH := Lib.hid (And.intro H1 (And.intro H2 (And.intro H3 H4)))
    clear H1 H2 H3 H4 hx hb hs
    have ex : ((x : Int) == (x : Int)) = true := by simp
    have ey : ((y : Int) == (y : Int)) = true := by simp
    have ez : ((z : Int) == (z : Int)) = true := by simp
    have ex2 : (x2 == x2) = true := by simp
    go_enter Try.func3, Try.ntmps3
    go_wp2_with fail
    refine HH.out.1.mono ?_
    rintro e w1 ⟨rfl, rfl⟩
    go_wp2_with fail
    refine HH.out.2.1.mono ?_
    rintro e w1 ⟨rfl, rfl⟩
    go_wp2_with fail
    refine HH.out.2.2.1.mono ?_
    rintro e w1 ⟨rfl, rfl⟩
    go_wp2_with fail
    refine HH.out.2.2.2.mono ?_
    rintro e w1 ⟨rfl, rfl⟩
    go_wp2_with fail
    refine (awake_any _).mono ?_
    rintro e w1 ⟨rfl, hb1⟩
    go_wp2
    go_ret
    exact ⟨rfl, hb1⟩

set_option maxRecDepth 100000 in
theorem lifted (os : Os) (started : os.Started) (H : Type) (enc : TypeId × Value → H) :
    ReturnsInHanded {} Try.checked os 3 .any (Rows.linkReadsSpec.pre6 enc Try.prog Try.f3 Rows.linkReadsRow.domain false) (Rows.linkReadsSpec.post enc Try.prog Try.f3 false true false false) := by
  refine returnsInHanded_of_change (C := Try.checked) ownTry started (by kernel_rfl) Try.func3
    (ChangeSpec.witness6 (enc := enc) (C := Try.checked) false ⟨#[], #[.slice none 0 0], []⟩ 8 (by kernel_rfl) (by kernel_rfl) (by kernel_rfl) (by kernel_rfl)) ?_
  intro W base args ds gs before hval0 hW hcnd _
  have hval : ∀ (j : Nat) t v, Try.f3.params[j]? = some t → args[j]? = some v → Value.okWide Try.prog W .any base t v := hval0
  have hW' := hW
  obtain ⟨p, q, hA0, hV, rfl, hfz, hnd⟩ := hW
  have hA : DataW.TrodAll enc Try.prog W 0 (fun _ => true) true Try.f3.params.toList args.toList ds p := hA0
  rw [Try.params3] at hA hval
  obtain ⟨v0, d0, rfl, rfl, h0⟩ := trodAll_one hA
  obtain ⟨rfl, rfl⟩ := trodVars_none hV
  obtain ⟨A0, n0, c0, L0, rfl, hB0, hx0⟩ := open_bytes (hval 0 _ v0 rfl rfl) h0
  clear hA0 hval0
  refine (walk A0 n0 c0 L0 hB0 W hx0).mono fun e W' ⟨he, hg⟩ => ?_
  subst he
  exact ⟨_, rfl, post_reads laidOut (by kernel_rfl) hW' rfl (fun _ _ _ => trodAll_mk1 (shut_bool Try.underlying4 _)) (fun _ => rfl) rfl hg (ok_one (by kernel_rfl) rfl (okWide_bool_mk Try.underlying4 _))⟩

theorem over : Rows.linkReadsRow.holds Try.pinned (OpenSpec.ofChange Rows.linkReadsSpec) :=
  OpenClaim.holds_of_wide 3 Try.f3 rfl rfl rfl rfl rfl rfl rfl ⟨rfl, rfl, rfl, rfl, rfl⟩ rfl rfl rfl rfl rfl (by kernel_rfl) Try.func3 (by kernel_rfl)
    (of_decide_eq_true (by kernel_rfl)) (by unfold Func.isWrapper; first | (rw [if_pos (by decide +kernel)]; kernel_rfl) | (rw [if_neg (by decide +kernel)]; exact ⟨rfl, rfl⟩))
    (fun os started H enc _ => lifted os started H enc)

theorem proved : Rows.LinkReadsSaid := over
end Go.Proofs.Ytlokacgclihhlaa.linkReads
