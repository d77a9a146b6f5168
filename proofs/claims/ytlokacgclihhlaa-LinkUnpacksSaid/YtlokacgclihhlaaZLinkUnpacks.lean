/-
  For any bytes the law LinkUnpacks returns true and leaves its argument as it was: no condition.
-/
import Derived.Test.YtlokacgclihhlaaZSame
import Derived.Test.YtlokacgclihhlaaZJoined
import Derived.Test.YtlokacgclihhlaaZUpr
namespace Go.Proofs.Ytlokacgclihhlaa.linkUnpacks
open Go.Proofs.Ytlokacgclihhlaa
open Go.ChangeShapes Go.WideShapes Go.ChangeAt Go.RowKit Go.Joins
set_option linter.unusedVariables false

theorem belS {w W w1 : World} (h0 : Below w.heap.size w W) (h : Below W.heap.size W w1) : Below w.heap.size w w1 := h0.trans (h.mono h0.size)

set_option maxRecDepth 100000 in
set_option maxHeartbeats 1000000 in
theorem walk (A : Option Addr) (n c : Nat) (L : List Nat) (hb : AllB L) (w : World) (hx : RB w w.heap.size (.slice A n c) L) :
    Calls Try.prog 6 #[.slice A n c] w (RetB w true) := by
  by_cases h64 : 4096 < n
  · go_enter Try.func6, Try.ntmps6
    go_wp2_with fail
    refine (awake_any _).mono ?_
    rintro e w1 ⟨rfl, hb1⟩
    go_wp2
    go_ret
    exact ⟨rfl, hb1⟩
  · have HH := Lib.hid (And.intro hb hx)
    clear hb hx
    obtain ⟨st, hst⟩ : ∃ x, x = upSt L := ⟨_, rfl⟩
    obtain ⟨sq, hsq⟩ : ∃ x, x = upSq L := ⟨_, rfl⟩
    obtain ⟨X, hX⟩ : ∃ x, x = upX L := ⟨_, rfl⟩
    obtain ⟨sz, hsz⟩ : ∃ x, x = upN L := ⟨_, rfl⟩
    obtain ⟨er, her⟩ : ∃ x, x = upE L := ⟨_, rfl⟩
    have HE := Lib.hid (show RetUpL w L = RetUp w st sq X sz er by unfold RetUpL; rw [hst, hsq, hX, hsz, her])
    have HE2 : Hid (∀ w, RetUpL w L = RetUp w st sq X sz er) := fun w => by unfold RetUpL; rw [hst, hsq, hX, hsz, her]
    clear hst hsq hX hsz her
    have q1 : ((er : Int) == (er : Int)) = true := by simp
    have q2 : ((sz : Int) == (sz : Int)) = true := by simp
    go_enter Try.func6, Try.ntmps6
    go_wp2_with fail
    have U1 := unpack_any L HH.out.1 A n c _ w HH.out.2 (Nat.le_refl _)
    rw [HE2.out] at U1
    refine U1.mono ?_
    clear U1
    rintro e w1 ⟨v1, rfl, r1, b1⟩
    obtain ⟨A1, c1, rfl⟩ := r1.form
    have R1 := Lib.hid (And.intro r1 b1)
    clear r1 b1
    have hA : Below w1.heap.size w1 (w1.alloc (.cells #[.int .i64 (st : Int), .int .i64 (sq : Int), .slice A1 X.length c1] 33)) := (Below.refl _ _).alloc (Nat.le_refl _) _
    have hG := heap_alloc_new w1 (.cells #[.int .i64 (st : Int), .int .i64 (sq : Int), .slice A1 X.length c1] 33)
    have hsz : w1.heap.size < (w1.alloc (.cells #[.int .i64 (st : Int), .int .i64 (sq : Int), .slice A1 X.length c1] 33)).heap.size := by simp
    obtain ⟨W1, hW1⟩ : ∃ W1, W1 = w1.alloc (.cells #[.int .i64 (st : Int), .int .i64 (sq : Int), .slice A1 X.length c1] 33) := ⟨_, rfl⟩
    rw [← hW1] at hA hG hsz
    have RA := Lib.hid (And.intro hA (And.intro hG hsz))
    have HW1 := Lib.hid hW1
    clear hA hG hsz hW1
    go_wp2_with fail
    rw [← HW1.out]
    have U2 := refUnpack_any L HH.out.1 A n c _ W1 (HH.out.2.below (belS R1.out.2 RA.out.1)) (belS R1.out.2 RA.out.1).size
    rw [HE2.out] at U2
    refine U2.mono ?_
    clear U2
    rintro e w2 ⟨v2, rfl, r2, b2⟩
    obtain ⟨A2, c2, rfl⟩ := r2.form
    obtain ⟨m0, m1, m2, mf⟩ := fr_blk RA.out.2.1 b2
    have z1 : w1.heap.size < w2.heap.size := Nat.lt_of_lt_of_le RA.out.2.2 b2.size
    have s1 : RB w2 w2.heap.size (.slice A1 X.length c1) X := ((R1.out.1.below RA.out.1).belowM b2 (Nat.le_of_lt RA.out.2.2)).more (Nat.le_of_lt z1)
    have R2 := Lib.hid (And.intro r2 (And.intro b2 s1))
    clear r2 b2 s1
    go_wp2_with fail
    refine (sameFrame_yes st sq A1 A2 X.length c1 X.length c2 w2.heap.size X _ (by exact R2.out.2.2.alloc (Nat.le_refl _) _) (by exact R2.out.1.alloc (Nat.le_refl _) _) (by simp)).mono ?_
    rintro e w3 ⟨rfl, b3⟩
    have B3 := Lib.hid b3
    clear b3
    go_wp2_with fail
    refine (awake_any _).mono ?_
    rintro e w4 ⟨rfl, b4⟩
    go_wp2
    go_ret
    refine ⟨rfl, ?_⟩
    exact belS (belS R1.out.2 (belS RA.out.1 R2.out.2.1)) (belS ((Below.refl _ _).alloc (Nat.le_refl _) _) (belS B3.out b4))

set_option maxRecDepth 100000 in
theorem lifted (os : Os) (started : os.Started) (H : Type) (enc : TypeId × Value → H) :
    ReturnsInHanded {} Try.checked os 6 .any (Rows.linkUnpacksSpec.pre6 enc Try.prog Try.f6 Rows.linkUnpacksRow.domain false) (Rows.linkUnpacksSpec.post enc Try.prog Try.f6 false true false false) := by
  refine returnsInHanded_of_change (C := Try.checked) ownTry started (by kernel_rfl) Try.func6
    (ChangeSpec.witness6 (enc := enc) (C := Try.checked) false ⟨#[], #[.slice none 0 0], []⟩ 8 (by kernel_rfl) (by kernel_rfl) (by kernel_rfl) (by kernel_rfl)) ?_
  intro W base args ds gs before hval0 hW hcnd _
  have hval : ∀ (j : Nat) t v, Try.f6.params[j]? = some t → args[j]? = some v → Value.okWide Try.prog W .any base t v := hval0
  have hW' := hW
  obtain ⟨p, q, hA0, hV, rfl, hfz, hnd⟩ := hW
  have hA : DataW.TrodAll enc Try.prog W 0 (fun _ => true) true Try.f6.params.toList args.toList ds p := hA0
  rw [Try.params6] at hA hval
  obtain ⟨v0, d0, rfl, rfl, h0⟩ := trodAll_one hA
  obtain ⟨rfl, rfl⟩ := trodVars_none hV
  obtain ⟨A0, n0, c0, L0, rfl, hB0, hx0⟩ := open_bytesRB (hval 0 _ v0 rfl rfl) h0
  clear hA0 hval0
  refine (walk A0 n0 c0 L0 hB0 W hx0).mono fun e W' ⟨he, hg⟩ => ?_
  subst he
  exact ⟨_, rfl, post_reads laidOut (by kernel_rfl) hW' rfl (fun _ _ _ => trodAll_mk1 (shut_bool Try.underlying4 _)) (fun _ => rfl) rfl hg (ok_one (by kernel_rfl) rfl (okWide_bool_mk Try.underlying4 _))⟩

theorem over : Rows.linkUnpacksRow.holds Try.pinned (OpenSpec.ofChange Rows.linkUnpacksSpec) :=
  OpenClaim.holds_of_wide 6 Try.f6 rfl rfl rfl rfl rfl rfl rfl ⟨rfl, rfl, rfl, rfl, rfl⟩ rfl rfl rfl rfl rfl (by kernel_rfl) Try.func6 (by kernel_rfl)
    (of_decide_eq_true (by kernel_rfl)) (by unfold Func.isWrapper; first | (rw [if_pos (by decide +kernel)]; kernel_rfl) | (rw [if_neg (by decide +kernel)]; exact ⟨rfl, rfl⟩))
    (fun os started H enc _ => lifted os started H enc)

theorem proved : Rows.LinkUnpacksSaid := over
end Go.Proofs.Ytlokacgclihhlaa.linkUnpacks
