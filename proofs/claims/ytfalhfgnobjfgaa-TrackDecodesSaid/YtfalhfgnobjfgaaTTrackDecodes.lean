/-
  For any bytes the law TrackDecodes returns true and leaves its argument as it was: no condition.
-/
import Derived.Test.YtfalhfgnobjfgaaTDx
import Derived.Test.YtfalhfgnobjfgaaTBack
import Derived.Test.YtfalhfgnobjfgaaKAwake
import Derived.Test.YtfalhfgnobjfgaaZPost
import Derived.Lib.SmallJoins
namespace Go.Proofs.Ytfalhfgnobjfgaa.trackDecodes
open Go.Proofs.Ytfalhfgnobjfgaa
open Go.ChangeShapes Go.WideShapes Go.ChangeAt Go.RowKit Go.Joins
set_option linter.unusedVariables false
attribute [local go_sem ↓] eqNav

theorem belS {w W w1 : World} (h0 : Below w.heap.size w W) (h : Below W.heap.size W w1) : Below w.heap.size w w1 := h0.trans (h.mono h0.size)

set_option maxRecDepth 100000 in
set_option maxHeartbeats 4000000 in
theorem walk (A : Option Addr) (n c : Nat) (X : List Nat) (hA : AllB X) (w : World) (hx : RB w w.heap.size (.slice A n c) X) : Calls Try.prog 4 #[.slice A n c] w (RetB w true) := by
  by_cases hn : n ≤ 256
  · have i1 : ¬ (256 : Int) < (n : Int) := by omega
    have HD := Lib.hid (dec_any X A n c w.heap.size w hx (Nat.le_refl _) (by omega))
    have HX := Lib.hid (And.intro hA hx)
    clear hA hx
    go_enter Try.func4, Try.ntmps4
    go_wp2_with fail
    refine HD.out.mono ?_
    rintro e1 w1 ⟨nav, ce, rfl, hd, b1⟩
    obtain ⟨s, t, x, y, z, e, a, b, c', d, tl, sc, nv, er, rfl⟩ := decR_form hd
    have HD1 := Lib.hid (And.intro hd b1)
    obtain ⟨W1, HW1, hw1, HG1, z1⟩ : ∃ W1, Hid (W1 = w1.alloc (.cells #[.bool s, .int .i64 t, .int .i64 x, .int .i64 y, .int .i64 z, .int .i64 e, .int .i64 a, .int .i64 b, .int .i64 c', .int .i64 d, .int .i64 tl, .int .i64 sc, .int .i64 nv, .int .i64 er] 29)) ∧ Below w1.heap.size w1 W1 ∧ Hid (W1.heap[w1.heap.size]? = some (.cells #[.bool s, .int .i64 t, .int .i64 x, .int .i64 y, .int .i64 z, .int .i64 e, .int .i64 a, .int .i64 b, .int .i64 c', .int .i64 d, .int .i64 tl, .int .i64 sc, .int .i64 nv, .int .i64 er] 29 (0, 0))) ∧ w1.heap.size < W1.heap.size :=
      ⟨_, rfl, (Below.refl _ _).alloc (Nat.le_refl _) _, heap_alloc_new w1 _, by simp⟩
    have hbw1 := belS b1 hw1
    have HB1 := Lib.hid hbw1
    clear hd b1 hw1 hbw1
    go_wp2_with fail
    rw [← HW1.out]
    refine (rdec_any X HX.out.1 A n c w.heap.size W1 (HX.out.2.belowM HB1.out (Nat.le_refl _)) HB1.out.size (by omega)).mono ?_
    rintro e2 w3 ⟨nav2, ce2, rfl, hd2, b3⟩
    obtain ⟨rfl, rfl⟩ := decR_one HD1.out.1 hd2
    have HG3 := Lib.hid ((b3.block w1.heap.size z1).trans HG1.out)
    have HB3 := Lib.hid (belS HB1.out b3)
    have hz3 : w1.heap.size < w3.heap.size := Nat.lt_of_lt_of_le z1 b3.size
    have ka0 := fun ob => (nv_blk HG3.out ((Below.refl w3.heap.size w3).alloc (Nat.le_refl _) ob)).1.1
    have ka1 := fun ob => (nv_blk HG3.out ((Below.refl w3.heap.size w3).alloc (Nat.le_refl _) ob)).1.2.1
    have ka2 := fun ob => (nv_blk HG3.out ((Below.refl w3.heap.size w3).alloc (Nat.le_refl _) ob)).1.2.2.1
    have ka3 := fun ob => (nv_blk HG3.out ((Below.refl w3.heap.size w3).alloc (Nat.le_refl _) ob)).1.2.2.2.1
    have ka4 := fun ob => (nv_blk HG3.out ((Below.refl w3.heap.size w3).alloc (Nat.le_refl _) ob)).1.2.2.2.2.1
    have ka5 := fun ob => (nv_blk HG3.out ((Below.refl w3.heap.size w3).alloc (Nat.le_refl _) ob)).1.2.2.2.2.2.1
    have ka6 := fun ob => (nv_blk HG3.out ((Below.refl w3.heap.size w3).alloc (Nat.le_refl _) ob)).1.2.2.2.2.2.2
    have ka7 := fun ob => (nv_blk HG3.out ((Below.refl w3.heap.size w3).alloc (Nat.le_refl _) ob)).2.1
    have ka8 := fun ob => (nv_blk HG3.out ((Below.refl w3.heap.size w3).alloc (Nat.le_refl _) ob)).2.2.1
    have ka9 := fun ob => (nv_blk HG3.out ((Below.refl w3.heap.size w3).alloc (Nat.le_refl _) ob)).2.2.2.1
    have ka10 := fun ob => (nv_blk HG3.out ((Below.refl w3.heap.size w3).alloc (Nat.le_refl _) ob)).2.2.2.2.1
    have ka11 := fun ob => (nv_blk HG3.out ((Below.refl w3.heap.size w3).alloc (Nat.le_refl _) ob)).2.2.2.2.2.1
    have ka12 := fun ob => (nv_blk HG3.out ((Below.refl w3.heap.size w3).alloc (Nat.le_refl _) ob)).2.2.2.2.2.2.1
    have ka13 := fun ob => (nv_blk HG3.out ((Below.refl w3.heap.size w3).alloc (Nat.le_refl _) ob)).2.2.2.2.2.2.2
    have en : (ce == ce) = true := by simp
    clear hd2 b3
    go_wp2_with fail
    refine (awake_any _).mono ?_
    rintro e7 w7 ⟨rfl, b7⟩
    go_wp2
    go_ret
    exact ⟨rfl, belS (HB3.out.alloc HB3.out.size _) b7⟩
  · have i1 : (256 : Int) < (n : Int) := by omega
    clear hx hA
    go_enter Try.func4, Try.ntmps4
    go_wp2_with fail
    refine (awake_any _).mono ?_
    rintro e7 w7 ⟨rfl, b7⟩
    go_wp2
    go_ret
    exact ⟨rfl, b7⟩

set_option maxRecDepth 100000 in
theorem lifted (os : Os) (started : os.Started) (H : Type) (enc : TypeId × Value → H) :
    ReturnsInHanded {} Try.checked os 4 .any (Rows.trackDecodesSpec.pre6 enc Try.prog Try.f4 Rows.trackDecodesRow.domain false) (Rows.trackDecodesSpec.post enc Try.prog Try.f4 false true false false) := by
  refine returnsInHanded_of_change (C := Try.checked) ownTry started (by kernel_rfl) Try.func4
    (ChangeSpec.witness6 (enc := enc) (C := Try.checked) false ⟨#[], #[.slice none 0 0], []⟩ 8 (by kernel_rfl) (by kernel_rfl) (by kernel_rfl) (by kernel_rfl)) ?_
  intro W base args ds gs before hval0 hW hcnd _
  have hval : ∀ (j : Nat) t v, Try.f4.params[j]? = some t → args[j]? = some v → Value.okWide Try.prog W .any base t v := hval0
  have hW' := hW
  obtain ⟨p, q, hA0, hV, rfl, hfz, hnd⟩ := hW
  have hA : DataW.TrodAll enc Try.prog W 0 (fun _ => true) true Try.f4.params.toList args.toList ds p := hA0
  rw [Try.params4] at hA hval
  obtain ⟨v0, d0, rfl, rfl, h0⟩ := trodAll_one hA
  obtain ⟨rfl, rfl⟩ := trodVars_none hV
  obtain ⟨A0, n0, c0, L0, rfl, hB0, hx0⟩ := open_bytesRB (hval 0 _ v0 rfl rfl) h0
  clear hA0 hval0
  refine (walk A0 n0 c0 L0 hB0 W hx0).mono fun e W' ⟨he, hg⟩ => ?_
  subst he
  exact ⟨_, rfl, post_reads laidOut (by kernel_rfl) hW' rfl (fun _ _ _ => trodAll_mk1 (shut_bool Try.underlying4 _)) (fun _ => rfl) rfl hg (ok_one (by kernel_rfl) rfl (okWide_bool_mk Try.underlying4 _))⟩

theorem over : Rows.trackDecodesRow.holds Try.pinned (OpenSpec.ofChange Rows.trackDecodesSpec) :=
  OpenClaim.holds_of_wide 4 Try.f4 rfl rfl rfl rfl rfl rfl rfl ⟨rfl, rfl, rfl, rfl, rfl⟩ rfl rfl rfl rfl rfl (by kernel_rfl) Try.func4 (by kernel_rfl)
    (of_decide_eq_true (by kernel_rfl)) (by unfold Func.isWrapper; first | (rw [if_pos (by decide +kernel)]; kernel_rfl) | (rw [if_neg (by decide +kernel)]; exact ⟨rfl, rfl⟩))
    (fun os started H enc _ => lifted os started H enc)

theorem proved : Rows.TrackDecodesSaid := over
end Go.Proofs.Ytfalhfgnobjfgaa.trackDecodes
