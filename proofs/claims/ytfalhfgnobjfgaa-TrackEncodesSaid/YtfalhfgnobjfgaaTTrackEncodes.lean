/-
  For any record the law TrackEncodes returns true and leaves its argument as it was: no condition.
-/
import Derived.Test.YtfalhfgnobjfgaaTBack
import Derived.Test.YtfalhfgnobjfgaaTRen
import Derived.Test.YtfalhfgnobjfgaaKAwake
import Derived.Test.YtfalhfgnobjfgaaKNavo
import Derived.Test.YtfalhfgnobjfgaaZPost
import Derived.Lib.SmallJoins
namespace Go.Proofs.Ytfalhfgnobjfgaa.trackEncodes
open Go.Proofs.Ytfalhfgnobjfgaa
open Go.ChangeShapes Go.WideShapes Go.ChangeAt Go.RowKit Go.Joins
set_option linter.unusedVariables false
attribute [local go_sem ↓] eqNav

theorem belS {w W w1 : World} (h0 : Below w.heap.size w W) (h : Below W.heap.size W w1) : Below w.heap.size w w1 := h0.trans (h.mono h0.size)
set_option maxRecDepth 100000 in
theorem strEqT (S : ByteArray) : (S == S) = true := by
  show ByteArray.beq S S = true
  unfold ByteArray.beq
  simp

set_option maxRecDepth 100000 in
set_option maxHeartbeats 4000000 in
theorem walk_sync (t x y z e a b c d tl sc nv er : Int) (w : World) : Calls Try.prog 3 #[.agg #[.bool true, .int .i64 t, .int .i64 x, .int .i64 y, .int .i64 z, .int .i64 e, .int .i64 a, .int .i64 b, .int .i64 c, .int .i64 d, .int .i64 tl, .int .i64 sc, .int .i64 nv, .int .i64 er]] w (RetB w true) := by
  obtain ⟨W0, HW0, hw0, HG, z0⟩ := N0ex w true t x y z e a b c d tl sc nv er
  obtain ⟨⟨k0, k1, k2, k3, k4, k5, k6⟩, k7, k8, k9, k10, k11, k12, k13⟩ := nv_blk HG.out (Below.refl _ _)
  obtain ⟨ce, hce⟩ : ∃ ce, recE true t x y z e a b c d tl sc nv er = ce := ⟨_, rfl⟩
  by_cases h0 : ce = 0
  · subst h0
    have HCE := Lib.hid hce
    have HE := Lib.hid (enc_sync t x y z e a b c d tl sc nv er W0 hce)
    have HQ := Lib.hid (fun w' => renc_sync t x y z e a b c d tl sc nv er w' hce)
    obtain ⟨M, hM⟩ : ∃ M, M = encL true t x y z e a b c d tl sc nv er := ⟨_, rfl⟩
    have HM := Lib.hid hM
    have hM0 : ∃ X, M = 1 :: X := ⟨_, hM⟩
    obtain ⟨X, hX⟩ := hM0
    have HX := Lib.hid hX
    have hMl : M.length ≤ 1000 := by
      rw [hM]
      have hok : okSync sc nv er := by
        apply Classical.byContradiction
        intro hn
        have := HCE.out
        simp [recE, hn] at this
      obtain ⟨g1, g2, g3⟩ := sync_ok hok
      have h1 := encs_len (sg := false) (zs := syncN sc nv er) 3 (by intro j hj; match j, hj with | 0, _ => exact g1 | 1, _ => exact g2 | 2, _ => exact g3)
      show (1 :: encs false (syncN sc nv er) 3).length ≤ 1000
      simp only [List.length_cons]
      omega
    have hM1 : 0 < M.length := by rw [hX]; simp
    rw [← hM] at HE HQ
    clear hce hM hX
    go_enter Try.func3, Try.ntmps3
    go_wp2_with fail
    rw [← HW0.out]
    refine HE.out.mono ?_
    rintro e1 w1 ⟨v1, rfl, hB1, b1⟩
    obtain ⟨⟨k0', k1', k2', k3', k4', k5', k6'⟩, k7', k8', k9', k10', k11', k12', k13'⟩ := nv_blk HG.out b1
    obtain ⟨A1, c1, e1⟩ := (bd_rb hB1).form
    subst e1
    have HB1 := Lib.hid (And.intro hB1 b1)
    clear k0 k1 k2 k3 k4 k5 k6 k7 k8 k9 k10 k11 k12 k13 hB1 b1
    go_wp2_with fail
    refine (HQ.out w1).mono ?_
    rintro e2 w2 ⟨v2, rfl, hR2, b2⟩
    obtain ⟨A2, c2, e2⟩ := hR2.form
    subst e2
    have hR1 := bd_rb (HB1.out.1.below b2)
    have t1 := run_string_bytes hR1.1
    have t2 := run_string_bytes hR2.1
    obtain ⟨S, hS⟩ : ∃ S, S = strB M := ⟨_, rfl⟩
    rw [← hS] at t1 t2
    have s1 := strEqT S
    obtain ⟨bk, off, e3, _, _⟩ := hR1.1.at_ hM1
    subst e3
    have HD := Lib.hid (dec_sync X bk off M.length c1 w2.heap.size w2 (by rw [← HX.out]; exact hR1) (Nat.le_refl _) hMl)
    have HB2 := Lib.hid (And.intro (belS HB1.out.2 b2) (belS hw0 (belS HB1.out.2 b2)))
    clear k0' k1' k2' k3' k4' k5' k6' k7' k8' k9' k10' k11' k12' k13' hS hR1 hR2 b2
    go_wp2_with fail
    refine HD.out.mono ?_
    rintro e4 w3 ⟨nav, ce, rfl, hd, b3⟩
    rw [← HX.out, HM.out] at hd
    obtain ⟨rfl, rfl⟩ := back_sync t x y z e a b c d tl sc nv er HCE.out hd
    have HG3 := Lib.hid (((belS HB2.out.1 b3).block w.heap.size z0).trans HG.out)
    have HB3 := Lib.hid (belS HB2.out.2 b3)
    have hz3 : w.heap.size < w3.heap.size := Nat.lt_of_lt_of_le z0 (belS HB2.out.1 b3).size
    have ka0 := fun ob => (nv_blk HG3.out ((Below.refl w3.heap.size w3).alloc (Nat.le_refl _) ob)).1.1
    have ka1 := fun ob => (nv_blk HG3.out ((Below.refl w3.heap.size w3).alloc (Nat.le_refl _) ob)).1.2.1
    have ka2 := fun ob => (nv_blk HG3.out ((Below.refl w3.heap.size w3).alloc (Nat.le_refl _) ob)).1.2.2.1
    have ka3 := fun ob => (nv_blk HG3.out ((Below.refl w3.heap.size w3).alloc (Nat.le_refl _) ob)).1.2.2.2.1
    have ka4 := fun ob => (nv_blk HG3.out ((Below.refl w3.heap.size w3).alloc (Nat.le_refl _) ob)).1.2.2.2.2.1
    have ka5 := fun ob => (nv_blk HG3.out ((Below.refl w3.heap.size w3).alloc (Nat.le_refl _) ob)).1.2.2.2.2.2.1
    have ka6 := fun ob => (nv_blk HG3.out ((Below.refl w3.heap.size w3).alloc (Nat.le_refl _) ob)).1.2.2.2.2.2.2
    have ka7 := fun ob => (nv_blk HG3.out ((Below.refl w3.heap.size w3).alloc (Nat.le_refl _) ob)).2.1
    have ka8 := fun ob => (nv_blk HG3.out ((Below.refl w3.heap.size w3).alloc (Nat.le_refl _) ob)).2.2.1
    have ka9 := fun ob => (nv_blk HG3.out ((Below.refl w3.heap.size w3).alloc (Nat.le_refl _) ob)).2.2.2.1
    have ka10 := fun ob => (nv_blk HG3.out ((Below.refl w3.heap.size w3).alloc (Nat.le_refl _) ob)).2.2.2.2.1
    have ka11 := fun ob => (nv_blk HG3.out ((Below.refl w3.heap.size w3).alloc (Nat.le_refl _) ob)).2.2.2.2.2.1
    have ka12 := fun ob => (nv_blk HG3.out ((Below.refl w3.heap.size w3).alloc (Nat.le_refl _) ob)).2.2.2.2.2.2.1
    have ka13 := fun ob => (nv_blk HG3.out ((Below.refl w3.heap.size w3).alloc (Nat.le_refl _) ob)).2.2.2.2.2.2.2
    clear t1 t2 b3 hd
    go_wp2_with fail
    refine (awake_any _).mono ?_
    rintro e7 w7 ⟨rfl, b7⟩
    go_wp2
    go_ret
    exact ⟨rfl, belS (HB3.out.alloc HB3.out.size _) b7⟩
  · have HE := Lib.hid (encBad_sync t x y z e a b c d tl sc nv er W0 ce hce h0)
    have HQ := Lib.hid (fun w' => rencBad_sync t x y z e a b c d tl sc nv er w' ce hce h0)
    have hd1 : (ce != ce) = false := by simp
    have hd2 : (ce != 0) = true := by simpa using h0
    clear hce
    go_enter Try.func3, Try.ntmps3
    go_wp2_with fail
    rw [← HW0.out]
    refine HE.out.mono ?_
    rintro e1 w1 ⟨v1, rfl, hB1, b1⟩
    obtain ⟨⟨k0', k1', k2', k3', k4', k5', k6'⟩, k7', k8', k9', k10', k11', k12', k13'⟩ := nv_blk HG.out b1
    obtain ⟨A1, c1, e1⟩ := (bd_rb hB1).form
    subst e1
    have HB1 := Lib.hid (And.intro hB1 b1)
    clear k0 k1 k2 k3 k4 k5 k6 k7 k8 k9 k10 k11 k12 k13 hB1 b1
    go_wp2_with fail
    refine (HQ.out w1).mono ?_
    rintro e2 w2 ⟨v2, rfl, hR2, b2⟩
    obtain ⟨A2, c2, e2⟩ := hR2.form
    subst e2
    have hR1 := bd_rb (HB1.out.1.below b2)
    have t1 := run_string_bytes hR1.1
    have t2 := run_string_bytes hR2.1
    simp only [List.length_nil] at t1 t2
    obtain ⟨S, hS⟩ : ∃ S, S = strB [] := ⟨_, rfl⟩
    rw [← hS] at t1 t2
    have s1 := strEqT S
    have HB2 := Lib.hid (belS hw0 (belS HB1.out.2 b2))
    clear k0' k1' k2' k3' k4' k5' k6' k7' k8' k9' k10' k11' k12' k13' hS hR1 hR2 b2
    go_wp2_with fail
    refine (awake_any _).mono ?_
    rintro e7 w7 ⟨rfl, b7⟩
    go_wp2
    go_ret
    exact ⟨rfl, belS HB2.out b7⟩

set_option maxRecDepth 100000 in
set_option maxHeartbeats 4000000 in
theorem walk_fix (t x y z e a b c d tl sc nv er : Int) (w : World) : Calls Try.prog 3 #[.agg #[.bool false, .int .i64 t, .int .i64 x, .int .i64 y, .int .i64 z, .int .i64 e, .int .i64 a, .int .i64 b, .int .i64 c, .int .i64 d, .int .i64 tl, .int .i64 sc, .int .i64 nv, .int .i64 er]] w (RetB w true) := by
  obtain ⟨W0, HW0, hw0, HG, z0⟩ := N0ex w false t x y z e a b c d tl sc nv er
  obtain ⟨⟨k0, k1, k2, k3, k4, k5, k6⟩, k7, k8, k9, k10, k11, k12, k13⟩ := nv_blk HG.out (Below.refl _ _)
  obtain ⟨ce, hce⟩ : ∃ ce, recE false t x y z e a b c d tl sc nv er = ce := ⟨_, rfl⟩
  by_cases h0 : ce = 0
  · subst h0
    have HCE := Lib.hid hce
    have HE := Lib.hid (enc_fix t x y z e a b c d tl sc nv er W0 hce)
    have HQ := Lib.hid (fun w' => renc_fix t x y z e a b c d tl sc nv er w' hce)
    obtain ⟨M, hM⟩ : ∃ M, M = encL false t x y z e a b c d tl sc nv er := ⟨_, rfl⟩
    have HM := Lib.hid hM
    have hM0 : ∃ X, M = 0 :: X := ⟨_, hM⟩
    obtain ⟨X, hX⟩ := hM0
    have HX := Lib.hid hX
    have hMl : M.length ≤ 1000 := by
      rw [hM]
      have hok : okFix t x y z e a b c d tl := by
        apply Classical.byContradiction
        intro hn
        have := HCE.out
        simp [recE, hn] at this
      obtain ⟨g0, ⟨g1, g2, g3⟩, g4, ⟨g5, g6, g7, g8⟩, g9⟩ := fix_ok hok
      have h0 := nmE_len g0
      have h1 := nmE_len g1
      have h2 := nmE_len g2
      have h3 := nmE_len g3
      have h4 := nmE_len g4
      have h5 := nmE_len g5
      have h6 := nmE_len g6
      have h7 := nmE_len g7
      have h8 := nmE_len g8
      have h9 := nmE_len g9
      show (0 :: fixL t x y z e a b c d tl).length ≤ 1000
      rw [fixL_all]
      simp only [allE, List.length_cons, List.length_append, List.length_nil]
      omega
    have hM1 : 0 < M.length := by rw [hX]; simp
    rw [← hM] at HE HQ
    clear hce hM hX
    go_enter Try.func3, Try.ntmps3
    go_wp2_with fail
    rw [← HW0.out]
    refine HE.out.mono ?_
    rintro e1 w1 ⟨v1, rfl, hB1, b1⟩
    obtain ⟨⟨k0', k1', k2', k3', k4', k5', k6'⟩, k7', k8', k9', k10', k11', k12', k13'⟩ := nv_blk HG.out b1
    obtain ⟨A1, c1, e1⟩ := (bd_rb hB1).form
    subst e1
    have HB1 := Lib.hid (And.intro hB1 b1)
    clear k0 k1 k2 k3 k4 k5 k6 k7 k8 k9 k10 k11 k12 k13 hB1 b1
    go_wp2_with fail
    refine (HQ.out w1).mono ?_
    rintro e2 w2 ⟨v2, rfl, hR2, b2⟩
    obtain ⟨A2, c2, e2⟩ := hR2.form
    subst e2
    have hR1 := bd_rb (HB1.out.1.below b2)
    have t1 := run_string_bytes hR1.1
    have t2 := run_string_bytes hR2.1
    obtain ⟨S, hS⟩ : ∃ S, S = strB M := ⟨_, rfl⟩
    rw [← hS] at t1 t2
    have s1 := strEqT S
    obtain ⟨bk, off, e3, _, _⟩ := hR1.1.at_ hM1
    subst e3
    have HD := Lib.hid (dec_fix X bk off M.length c1 w2.heap.size w2 (by rw [← HX.out]; exact hR1) (Nat.le_refl _) hMl)
    have HB2 := Lib.hid (And.intro (belS HB1.out.2 b2) (belS hw0 (belS HB1.out.2 b2)))
    clear k0' k1' k2' k3' k4' k5' k6' k7' k8' k9' k10' k11' k12' k13' hS hR1 hR2 b2
    go_wp2_with fail
    refine HD.out.mono ?_
    rintro e4 w3 ⟨nav, ce, rfl, hd, b3⟩
    rw [← HX.out, HM.out] at hd
    obtain ⟨rfl, rfl⟩ := back_fix t x y z e a b c d tl sc nv er HCE.out hd
    have HG3 := Lib.hid (((belS HB2.out.1 b3).block w.heap.size z0).trans HG.out)
    have HB3 := Lib.hid (belS HB2.out.2 b3)
    have hz3 : w.heap.size < w3.heap.size := Nat.lt_of_lt_of_le z0 (belS HB2.out.1 b3).size
    have ka0 := fun ob => (nv_blk HG3.out ((Below.refl w3.heap.size w3).alloc (Nat.le_refl _) ob)).1.1
    have ka1 := fun ob => (nv_blk HG3.out ((Below.refl w3.heap.size w3).alloc (Nat.le_refl _) ob)).1.2.1
    have ka2 := fun ob => (nv_blk HG3.out ((Below.refl w3.heap.size w3).alloc (Nat.le_refl _) ob)).1.2.2.1
    have ka3 := fun ob => (nv_blk HG3.out ((Below.refl w3.heap.size w3).alloc (Nat.le_refl _) ob)).1.2.2.2.1
    have ka4 := fun ob => (nv_blk HG3.out ((Below.refl w3.heap.size w3).alloc (Nat.le_refl _) ob)).1.2.2.2.2.1
    have ka5 := fun ob => (nv_blk HG3.out ((Below.refl w3.heap.size w3).alloc (Nat.le_refl _) ob)).1.2.2.2.2.2.1
    have ka6 := fun ob => (nv_blk HG3.out ((Below.refl w3.heap.size w3).alloc (Nat.le_refl _) ob)).1.2.2.2.2.2.2
    have ka7 := fun ob => (nv_blk HG3.out ((Below.refl w3.heap.size w3).alloc (Nat.le_refl _) ob)).2.1
    have ka8 := fun ob => (nv_blk HG3.out ((Below.refl w3.heap.size w3).alloc (Nat.le_refl _) ob)).2.2.1
    have ka9 := fun ob => (nv_blk HG3.out ((Below.refl w3.heap.size w3).alloc (Nat.le_refl _) ob)).2.2.2.1
    have ka10 := fun ob => (nv_blk HG3.out ((Below.refl w3.heap.size w3).alloc (Nat.le_refl _) ob)).2.2.2.2.1
    have ka11 := fun ob => (nv_blk HG3.out ((Below.refl w3.heap.size w3).alloc (Nat.le_refl _) ob)).2.2.2.2.2.1
    have ka12 := fun ob => (nv_blk HG3.out ((Below.refl w3.heap.size w3).alloc (Nat.le_refl _) ob)).2.2.2.2.2.2.1
    have ka13 := fun ob => (nv_blk HG3.out ((Below.refl w3.heap.size w3).alloc (Nat.le_refl _) ob)).2.2.2.2.2.2.2
    clear t1 t2 b3 hd
    go_wp2_with fail
    refine (awake_any _).mono ?_
    rintro e7 w7 ⟨rfl, b7⟩
    go_wp2
    go_ret
    exact ⟨rfl, belS (HB3.out.alloc HB3.out.size _) b7⟩
  · have HE := Lib.hid (encBad_fix t x y z e a b c d tl sc nv er W0 ce hce h0)
    have HQ := Lib.hid (fun w' => rencBad_fix t x y z e a b c d tl sc nv er w' ce hce h0)
    have hd1 : (ce != ce) = false := by simp
    have hd2 : (ce != 0) = true := by simpa using h0
    clear hce
    go_enter Try.func3, Try.ntmps3
    go_wp2_with fail
    rw [← HW0.out]
    refine HE.out.mono ?_
    rintro e1 w1 ⟨v1, rfl, hB1, b1⟩
    obtain ⟨⟨k0', k1', k2', k3', k4', k5', k6'⟩, k7', k8', k9', k10', k11', k12', k13'⟩ := nv_blk HG.out b1
    obtain ⟨A1, c1, e1⟩ := (bd_rb hB1).form
    subst e1
    have HB1 := Lib.hid (And.intro hB1 b1)
    clear k0 k1 k2 k3 k4 k5 k6 k7 k8 k9 k10 k11 k12 k13 hB1 b1
    go_wp2_with fail
    refine (HQ.out w1).mono ?_
    rintro e2 w2 ⟨v2, rfl, hR2, b2⟩
    obtain ⟨A2, c2, e2⟩ := hR2.form
    subst e2
    have hR1 := bd_rb (HB1.out.1.below b2)
    have t1 := run_string_bytes hR1.1
    have t2 := run_string_bytes hR2.1
    simp only [List.length_nil] at t1 t2
    obtain ⟨S, hS⟩ : ∃ S, S = strB [] := ⟨_, rfl⟩
    rw [← hS] at t1 t2
    have s1 := strEqT S
    have HB2 := Lib.hid (belS hw0 (belS HB1.out.2 b2))
    clear k0' k1' k2' k3' k4' k5' k6' k7' k8' k9' k10' k11' k12' k13' hS hR1 hR2 b2
    go_wp2_with fail
    refine (awake_any _).mono ?_
    rintro e7 w7 ⟨rfl, b7⟩
    go_wp2
    go_ret
    exact ⟨rfl, belS HB2.out b7⟩

theorem walk (s : Bool) (t x y z e a b c d tl sc nv er : Int) (w : World) : Calls Try.prog 3 #[.agg #[.bool s, .int .i64 t, .int .i64 x, .int .i64 y, .int .i64 z, .int .i64 e, .int .i64 a, .int .i64 b, .int .i64 c, .int .i64 d, .int .i64 tl, .int .i64 sc, .int .i64 nv, .int .i64 er]] w (RetB w true) := by
  cases s
  · exact walk_fix t x y z e a b c d tl sc nv er w
  · exact walk_sync t x y z e a b c d tl sc nv er w

set_option maxRecDepth 100000 in
theorem lifted (os : Os) (started : os.Started) (H : Type) (enc : TypeId × Value → H) :
    ReturnsInHanded {} Try.checked os 3 .any (Rows.trackEncodesSpec.pre6 enc Try.prog Try.f3 Rows.trackEncodesRow.domain false) (Rows.trackEncodesSpec.post enc Try.prog Try.f3 false true false false) := by
  refine returnsInHanded_of_change (C := Try.checked) ownTry started (by kernel_rfl) Try.func3
    (ChangeSpec.witness6 (enc := enc) (C := Try.checked) false ⟨#[], #[.agg #[.bool false, .int .i64 0, .int .i64 0, .int .i64 0, .int .i64 0, .int .i64 0, .int .i64 0, .int .i64 0, .int .i64 0, .int .i64 0, .int .i64 0, .int .i64 0, .int .i64 0, .int .i64 0]], []⟩ 8 (by kernel_rfl) (by kernel_rfl) (by kernel_rfl) (by kernel_rfl)) ?_
  intro W base args ds gs before hval0 hW hcnd _
  have hval : ∀ (j : Nat) t v, Try.f3.params[j]? = some t → args[j]? = some v → Value.okWide Try.prog W .any base t v := hval0
  have hW' := hW
  obtain ⟨p, q, hA0, hV, rfl, hfz, hnd⟩ := hW
  have hA : DataW.TrodAll enc Try.prog W 0 (fun _ => true) true Try.f3.params.toList args.toList ds p := hA0
  rw [Try.params3] at hA hval
  obtain ⟨v0, d0, rfl, rfl, h0⟩ := trodAll_one hA
  obtain ⟨rfl, rfl⟩ := trodVars_none hV
  obtain ⟨s, t, x, y, z, e, a, b, c, d, tl, sc, nv, er, _, rfl⟩ := open_nav (hval 0 _ v0 rfl rfl) h0
  clear hA0 hval0
  refine (walk s t x y z e a b c d tl sc nv er W).mono fun en W' ⟨he, hg⟩ => ?_
  subst he
  exact ⟨_, rfl, post_reads laidOut (by kernel_rfl) hW' rfl (fun _ _ _ => trodAll_mk1 (shut_bool Try.underlying4 _)) (fun _ => rfl) rfl hg (ok_one (by kernel_rfl) rfl (okWide_bool_mk Try.underlying4 _))⟩

theorem over : Rows.trackEncodesRow.holds Try.pinned (OpenSpec.ofChange Rows.trackEncodesSpec) :=
  OpenClaim.holds_of_wide 3 Try.f3 rfl rfl rfl rfl rfl rfl rfl ⟨rfl, rfl, rfl, rfl, rfl⟩ rfl rfl rfl rfl rfl (by kernel_rfl) Try.func3 (by kernel_rfl)
    (of_decide_eq_true (by kernel_rfl)) (by unfold Func.isWrapper; first | (rw [if_pos (by decide +kernel)]; kernel_rfl) | (rw [if_neg (by decide +kernel)]; exact ⟨rfl, rfl⟩))
    (fun os started H enc _ => lifted os started H enc)

theorem proved : Rows.TrackEncodesSaid := over
end Go.Proofs.Ytfalhfgnobjfgaa.trackEncodes
