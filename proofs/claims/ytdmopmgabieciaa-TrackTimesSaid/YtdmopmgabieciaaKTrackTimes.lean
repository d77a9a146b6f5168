/-
  For any clocks and any time the law TrackTimes returns true and leaves its arguments as they were: no condition.
-/
import Derived.Test.YtdmopmgabieciaaKAwake
import Derived.Test.YtdmopmgabieciaaKNavr
import Derived.Test.YtdmopmgabieciaaKFlat
namespace Go.Proofs.Ytdmopmgabieciaa.trackTimes
open Go.Proofs.Ytdmopmgabieciaa
open Go.ChangeShapes Go.WideShapes Go.ChangeAt Go.RowKit Go.Joins
set_option linter.unusedVariables false

set_option maxRecDepth 100000 in
set_option maxHeartbeats 4000000 in
theorem walk (A : Option Addr) (n c : Nat) (L : List Int) (scan : Int) (w : World) (hx : IR w w.heap.size 3 (.slice A n c) n L) :
    Calls Try.prog 11 #[.slice A n c, .int .i64 scan] w (RetB w true) := by
  have hcap := hx.cap
  unfold maxLen at hcap
  obtain ⟨lo, hi, er, hr⟩ := NavR.ex L n scan
  have HX := Lib.hid hx
  have HR := Lib.hid hr
  clear hr hx
  have ee : (er == er) = true := by simp
  by_cases h40 : 40 < n
  · have h40' : (40 : Int) < (n : Int) := by omega
    go_enter Try.func11, Try.ntmps11
    go_wp2_with fail
    refine (awake_any _).mono ?_
    rintro e w1 ⟨rfl, hb1⟩
    go_wp2
    go_ret
    exact ⟨rfl, hb1⟩
  · have h40' : ¬ (40 : Int) < (n : Int) := by omega
    go_enter Try.func11, Try.ntmps11
    go_wp2_with fail
    refine (navTime_any L scan lo hi er A n c w.heap.size w HX.out (Nat.le_refl _) HR.out).mono ?_
    rintro e w1 ⟨rfl, hb1⟩
    have HB1 := Lib.hid hb1
    have HXA := Lib.hid ((HX.out.belowM hb1 (Nat.le_refl _)).alloc hb1.size (.cells #[.int .i64 lo, .int .i64 hi] 23))
    have hs1 := hb1.size
    clear hb1
    go_wp2_with fail
    refine (refNavTime_any L scan lo hi er A n c w.heap.size _ HXA.out (by simp; omega) HR.out).mono ?_
    rintro e w2 ⟨rfl, hb2⟩
    obtain ⟨u0, u1⟩ := xy_cells (heap_alloc_new w1 _) hb2
    have z1 : w1.heap.size < w2.heap.size := by have := hb2.size; simp at this; omega
    have HB2 := Lib.hid (bel_ HB1.out (below_al hb2))
    clear hb2
    go_wp2_with fail
    refine (awake_any _).mono ?_
    rintro en1 w5 ⟨rfl, hb5⟩
    go_wp2
    go_ret
    exact ⟨rfl, bel_ HB2.out (below_al hb5)⟩

set_option maxRecDepth 100000 in
theorem lifted (os : Os) (started : os.Started) (H : Type) (enc : TypeId × Value → H) :
    ReturnsInHanded {} Try.checked os 11 .any (Rows.trackTimesSpec.pre6 enc Try.prog Try.f11 Rows.trackTimesRow.domain false) (Rows.trackTimesSpec.post enc Try.prog Try.f11 false true false false) := by
  refine returnsInHanded_of_change (C := Try.checked) ownTry started (by kernel_rfl) Try.func11
    (ChangeSpec.witness6 (enc := enc) (C := Try.checked) false ⟨#[], #[.slice none 0 0, .int .i64 0], []⟩ 8 (by kernel_rfl) (by kernel_rfl) (by kernel_rfl) (by kernel_rfl)) ?_
  intro W base args ds gs before hval0 hW hcnd _
  have hval : ∀ (j : Nat) t v, Try.f11.params[j]? = some t → args[j]? = some v → Value.okWide Try.prog W .any base t v := hval0
  have hW' := hW
  obtain ⟨p, q, hA0, hV, rfl, hfz, hnd⟩ := hW
  have hA : DataW.TrodAll enc Try.prog W 0 (fun _ => true) true Try.f11.params.toList args.toList ds p := hA0
  rw [Try.params11] at hA hval
  obtain ⟨v0, v1, d0, d1, p0, p1, rfl, rfl, rfl, h0, h1⟩ := trodAll_two hA
  obtain ⟨rfl, rfl⟩ := trodVars_none hV
  obtain ⟨A0, n0, c0, L0, rfl, _, hx0⟩ := open_records (k := 3) Try.underlying78 (by omega) (by kernel_rfl) (by kernel_rfl) (hval 0 _ v0 rfl rfl) h0
  obtain ⟨sc, rfl⟩ := okWide_int Try.underlying3 (hval 1 _ v1 rfl rfl)
  clear hA0 hval0
  refine (walk A0 n0 c0 L0 sc W hx0).mono fun e W' ⟨he, hg⟩ => ?_
  subst he
  exact ⟨_, rfl, post_reads laidOut (by kernel_rfl) hW' rfl (fun _ _ _ => trodAll_mk1 (shut_bool Try.underlying4 _)) (fun _ => rfl) rfl hg (ok_one (by kernel_rfl) rfl (okWide_bool_mk Try.underlying4 _))⟩

theorem over : Rows.trackTimesRow.holds Try.pinned (OpenSpec.ofChange Rows.trackTimesSpec) :=
  OpenClaim.holds_of_wide 11 Try.f11 rfl rfl rfl rfl rfl rfl rfl ⟨rfl, rfl, rfl, rfl, rfl⟩ rfl rfl rfl rfl rfl (by kernel_rfl) Try.func11 (by kernel_rfl)
    (of_decide_eq_true (by kernel_rfl)) (by unfold Func.isWrapper; first | (rw [if_pos (by decide +kernel)]; kernel_rfl) | (rw [if_neg (by decide +kernel)]; exact ⟨rfl, rfl⟩))
    (fun os started H enc _ => lifted os started H enc)

theorem proved : Rows.TrackTimesSaid := over
end Go.Proofs.Ytdmopmgabieciaa.trackTimes
