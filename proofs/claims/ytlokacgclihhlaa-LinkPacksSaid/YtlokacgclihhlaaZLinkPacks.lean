/-
  For any frame and bytes the law LinkPacks returns true and leaves its arguments as they were: no condition.
-/
import Derived.Test.YtlokacgclihhlaaZUpPack
import Derived.Test.YtlokacgclihhlaaZPackz
import Derived.Test.YtlokacgclihhlaaZOpenF
namespace Go.Proofs.Ytlokacgclihhlaa.linkPacks
open Go.Proofs.Ytlokacgclihhlaa
open Go.ChangeShapes Go.WideShapes Go.ChangeAt Go.RowKit Go.Joins
set_option linter.unusedVariables false

theorem belS {w W w1 : World} (h0 : Below w.heap.size w W) (h : Below W.heap.size W w1) : Below w.heap.size w w1 := h0.trans (h.mono h0.size)
theorem strNeP (S : ByteArray) : (S != S) = false := by unfold bne; rw [strEqZ]; rfl

set_option maxRecDepth 100000 in
set_option maxHeartbeats 2000000 in
theorem walk_yes (st sq : Nat) (A A2 : Option Addr) (n c n2 c2 : Nat) (X T : List Nat) (hXb : AllB X) (hTb : AllB T) (hok : okF st sq n) (ht : n2 ≤ 1024) (w : World) (hx : RB w w.heap.size (.slice A n c) X) (hx2 : RB w w.heap.size (.slice A2 n2 c2) T) :
    Calls Try.prog 7 #[.agg #[.int .i64 (st : Int), .int .i64 (sq : Int), .slice A n c], .slice A2 n2 c2] w (RetB w true) := by
  obtain ⟨W0, HW0, hw0, HG, z0⟩ := F0ex w st sq (.slice A n c)
  have HOK := Lib.hid hok
  have HX := Lib.hid (And.intro (hx.below hw0) (hx2.below hw0))
  have HXL := Lib.hid (And.intro hx.1.len hx2.1.len)
  have hst : st < 256 := by have := hok.2.1; omega
  have hn : n ≤ 1024 := hok.2.2.2.2
  have hni : (n : Int) ≤ 2048 := by omega
  have hn2i : (n2 : Int) ≤ 1024 := by omega
  have HXB := Lib.hid (And.intro hXb hTb)
  have Hw0 := Lib.hid hw0
  obtain ⟨P, hP⟩ : ∃ P, P = packL st sq X := ⟨_, rfl⟩
  obtain ⟨S, hS⟩ : ∃ S, S = strB P := ⟨_, rfl⟩
  obtain ⟨s, hs⟩ : ∃ s, s = crc T := ⟨_, rfl⟩
  have hPl : P.length = 12 + n := by rw [hP, packL_len, ← HXL.out.1]
  have hPB : AllB P := by rw [hP]; exact allB_pack hst HXB.out.1
  have HP := Lib.hid (And.intro hP (And.intro hS (And.intro hs (And.intro hPl hPB))))
  have U := Lib.hid (unpacked st sq X T (by have := hok.2.2.2.1; omega) (by rw [← HXL.out.1]; exact hn))
  have q3 := strNeP S
  have q4 : ((s : Int) != (s : Int)) = false := by simp
  have q5 : (((12 + n : Nat) : Int) == ((12 + n : Nat) : Int)) = true := by simp
  clear hx hx2 hok hXb hTb hw0 hP hS hs hPl hPB
  obtain ⟨k0, k1, k2, kf⟩ := fr_blk HG.out (Below.refl _ _)
  obtain ⟨m, hm⟩ : ∃ m, m = 12 + n := ⟨_, rfl⟩
  rw [← hm] at q5
  have HM := Lib.hid hm
  clear hm
  have hF0 := k0
  have hF1 := k1
  have hF2 := k2
  rw [HW0.out] at hF0 hF1 hF2
  go_enter Try.func7, Try.ntmps7
  go_wp2_with fail
  rw [← HW0.out]
  clear hF0 hF1 hF2
  refine (pack_ok st sq X HXB.out.1 A n c w.heap.size HOK.out W0 HX.out.1 (Nat.le_of_lt z0)).mono ?_
  rintro e w1 ⟨v1, rfl, o1, b1⟩
  obtain ⟨_, r1⟩ := rb_of_owns o1
  rw [← HP.out.1] at r1
  obtain ⟨A3, c3, rfl⟩ := r1.form
  rw [HP.out.2.2.2.1, ← HM.out] at r1
  rw [HP.out.2.2.2.1, ← HM.out]
  have R1 := Lib.hid (And.intro r1 b1)
  clear o1 r1 b1 k0 k1 k2 kf
  obtain ⟨k0, k1, k2, kf⟩ := fr_blk HG.out R1.out.2
  go_wp2_with fail
  refine (refPack_ok st sq X HXB.out.1 A n c w.heap.size HOK.out w1 (HX.out.1.belowM R1.out.2 (Nat.le_of_lt z0)) (Nat.le_trans (Nat.le_of_lt z0) R1.out.2.size)).mono ?_
  rintro e w2 ⟨v2, rfl, o2, b2⟩
  obtain ⟨_, r2⟩ := rb_of_owns o2
  rw [← HP.out.1] at r2
  obtain ⟨A4, c4, rfl⟩ := r2.form
  rw [HP.out.2.2.2.1, ← HM.out] at r2
  rw [HP.out.2.2.2.1, ← HM.out]
  have f2 := belS R1.out.2 b2
  have s1 := R1.out.1.below b2
  have T2 := HX.out.2.belowM f2 (Nat.le_of_lt z0)
  have t1 := run_string_bytes s1.1
  have t2 := run_string_bytes r2.1
  rw [← HP.out.2.1] at t1 t2
  have C1 : Hid (Calls Try.prog 36 #[.slice A2 n2 c2] w2 fun e w' => e = .returned (.int .u32 (s : Int)) ∧ w2 = w') := by rw [HP.out.2.2.1]; exact checksum_any T HXB.out.2 A2 n2 c2 _ w2 T2.1
  have C2 : Hid (Calls Try.prog 37 #[.slice A2 n2 c2] w2 fun e w' => e = .returned (.int .u32 (s : Int)) ∧ w2 = w') := by rw [HP.out.2.2.1]; exact refChecksum_any T HXB.out.2 A2 n2 c2 _ w2 T2.1
  have R2 := Lib.hid (And.intro s1 (And.intro f2 (And.intro T2 b2.size)))
  clear o2 b2 r2 f2 s1 T2 k0 k1 k2 kf
  go_wp2_with fail
  refine C1.out.mono ?_
  rintro e w3 ⟨rfl, rfl⟩
  go_wp2_with fail
  refine C2.out.mono ?_
  rintro e w3 ⟨rfl, rfl⟩
  go_wp2_with fail
  refine (own_any P _ w1.heap.size w2 R2.out.1 R2.out.2.2.2 (by rw [HP.out.2.2.2.1]; omega)).mono ?_
  rintro e w3 ⟨v3, rfl, o3, b3⟩
  have O3 := Lib.hid (And.intro o3 b3)
  have Z3 := b3.size
  have T3 := R2.out.2.2.1.belowM b3 (Nat.le_trans (Nat.le_of_lt z0) R2.out.2.1.size)
  clear o3 b3
  go_wp2_with (at_builtin
               refine wpList_append_bytes rfl (.tmp 54) (.tmp 55) rfl w2.heap.size w.heap.size _ _ P rfl O3.out.1 _ T rfl T3 (by rw [HP.out.2.2.2.1, ← HXL.out.2]; omega) Z3 ?_)
  intro v4 w4 o4 g4
  have b4 := grown_below' O3.out.2 g4 (ownBlock_ge O3.out.1)
  obtain ⟨_, r4⟩ := rb_of_owns o4
  obtain ⟨A5, c5, rfl⟩ := r4.form
  obtain ⟨m5, hm5⟩ : ∃ m, m = (P ++ T).length := ⟨_, rfl⟩
  rw [← hm5] at r4
  rw [← hm5]
  have R4 := Lib.hid (And.intro r4 (belS R2.out.2.1 b4))
  clear o4 g4 r4 b4 hm5 T3 Z3
  go_wp2_with fail
  have U1 := unpack_any (P ++ T) (HP.out.2.2.2.2.append HXB.out.2) A5 m5 c5 _ w4 R4.out.1 (Nat.le_refl _)
  unfold RetUpL at U1
  rw [HP.out.1, U.out.1, U.out.2.1, U.out.2.2.1, U.out.2.2.2.1, U.out.2.2.2.2, ← HXL.out.1, ← HM.out] at U1
  refine U1.mono ?_
  clear U1
  rintro e w5 ⟨v5, rfl, r5, b5⟩
  obtain ⟨A6, c6, rfl⟩ := r5.form
  have f5 := belS R4.out.2 b5
  obtain ⟨k0, k1, k2, kf⟩ := fr_blk HG.out f5
  have z5 : w.heap.size < w5.heap.size := Nat.lt_of_lt_of_le z0 f5.size
  have s5 : RB w5 w5.heap.size (.slice A n c) X := (HX.out.1.belowM f5 (Nat.le_of_lt z0)).more (Nat.le_of_lt z5)
  rw [← HXL.out.1] at r5
  rw [← HXL.out.1]
  have R5 := Lib.hid (And.intro r5 (And.intro f5 s5))
  clear r5 b5 f5 s5
  go_wp2_with fail
  refine (sameFrame_yes st sq A6 A n c6 n c w5.heap.size X _ (by exact R5.out.1.alloc (Nat.le_refl _) _) (by exact R5.out.2.2.alloc (Nat.le_refl _) _) (by simp)).mono ?_
  rintro e w6 ⟨rfl, b6⟩
  have B6 := Lib.hid b6
  clear b6
  go_wp2_with fail
  refine (awake_any _).mono ?_
  rintro e w7 ⟨rfl, b7⟩
  go_wp2
  go_ret
  refine ⟨rfl, ?_⟩
  exact belS (belS Hw0.out R5.out.2.1) (belS ((Below.refl _ _).alloc (Nat.le_refl _) _) (belS B6.out b7))

set_option maxRecDepth 100000 in
set_option maxHeartbeats 2000000 in
theorem walk_no (st sq : Int) (A A2 : Option Addr) (n c n2 c2 : Nat) (T : List Nat) (hTb : AllB T) (hok : ¬ okF st sq n) (hn : n ≤ 2048) (ht : n2 ≤ 1024) (w : World) (hx2 : RB w w.heap.size (.slice A2 n2 c2) T) :
    Calls Try.prog 7 #[.agg #[.int .i64 st, .int .i64 sq, .slice A n c], .slice A2 n2 c2] w (RetB w true) := by
  obtain ⟨W0, HW0, hw0, HG, z0⟩ := F0ex w st sq (.slice A n c)
  have HOK := Lib.hid hok
  have HX := Lib.hid (hx2.below hw0)
  have hni : (n : Int) ≤ 2048 := by omega
  have hn2i : (n2 : Int) ≤ 1024 := by omega
  have HTB := Lib.hid hTb
  have Hw0 := Lib.hid hw0
  obtain ⟨S, hS⟩ : ∃ S, S = strB [] := ⟨_, rfl⟩
  obtain ⟨s, hs⟩ : ∃ s, s = crc T := ⟨_, rfl⟩
  have HP := Lib.hid (And.intro hS hs)
  have q3 := strNeP S
  have q4 : ((s : Int) != (s : Int)) = false := by simp
  clear hx2 hok hTb hw0 hS hs
  obtain ⟨k0, k1, k2, kf⟩ := fr_blk HG.out (Below.refl _ _)
  have hF0 := k0
  have hF1 := k1
  have hF2 := k2
  rw [HW0.out] at hF0 hF1 hF2
  go_enter Try.func7, Try.ntmps7
  go_wp2_with fail
  rw [← HW0.out]
  clear hF0 hF1 hF2
  refine (pack_bad st sq A n c HOK.out W0).mono ?_
  rintro e w1 ⟨rfl, b1⟩
  have B1 := Lib.hid b1
  clear k0 k1 k2 kf b1
  obtain ⟨k0, k1, k2, kf⟩ := fr_blk HG.out B1.out
  go_wp2_with fail
  refine (refPack_bad st sq A n c HOK.out w1).mono ?_
  rintro e w2 ⟨rfl, b2⟩
  have f2 := belS B1.out b2
  have T2 := HX.out.belowM f2 (Nat.le_of_lt z0)
  have t1 := run_string_bytes (w := w2) (B := 0) (L := []) RW.nil_
  rw [← HP.out.1] at t1
  have C1 : Hid (Calls Try.prog 36 #[.slice A2 n2 c2] w2 fun e w' => e = .returned (.int .u32 (s : Int)) ∧ w2 = w') := by rw [HP.out.2]; exact checksum_any T HTB.out A2 n2 c2 _ w2 T2.1
  have C2 : Hid (Calls Try.prog 37 #[.slice A2 n2 c2] w2 fun e w' => e = .returned (.int .u32 (s : Int)) ∧ w2 = w') := by rw [HP.out.2]; exact refChecksum_any T HTB.out A2 n2 c2 _ w2 T2.1
  have F2 := Lib.hid f2
  clear b2 f2 T2 k0 k1 k2 kf
  go_wp2_with fail
  refine C1.out.mono ?_
  rintro e w3 ⟨rfl, rfl⟩
  go_wp2_with fail
  refine C2.out.mono ?_
  rintro e w3 ⟨rfl, rfl⟩
  go_wp2_with fail
  refine (awake_any _).mono ?_
  rintro e w7 ⟨rfl, b7⟩
  go_wp2
  go_ret
  exact ⟨rfl, belS (belS Hw0.out F2.out) b7⟩

set_option maxRecDepth 100000 in
theorem walk (st sq : Int) (A A2 : Option Addr) (n c n2 c2 : Nat) (X T : List Nat) (hXb : AllB X) (hTb : AllB T) (w : World) (hx : RB w w.heap.size (.slice A n c) X) (hx2 : RB w w.heap.size (.slice A2 n2 c2) T) :
    Calls Try.prog 7 #[.agg #[.int .i64 st, .int .i64 sq, .slice A n c], .slice A2 n2 c2] w (RetB w true) := by
  by_cases hn : n ≤ 2048
  · by_cases ht : n2 ≤ 1024
    · by_cases hok : okF st sq n
      · obtain ⟨s, rfl⟩ := Int.eq_ofNat_of_zero_le hok.1
        obtain ⟨q, rfl⟩ := Int.eq_ofNat_of_zero_le hok.2.2.1
        exact walk_yes s q A A2 n c n2 c2 X T hXb hTb hok ht w hx hx2
      · exact walk_no st sq A A2 n c n2 c2 T hTb hok hn ht w hx2
    · have h1 : (n : Int) ≤ 2048 := by omega
      have h2 : (1024 : Int) < (n2 : Int) := by omega
      go_enter Try.func7, Try.ntmps7
      go_wp2_with fail
      refine (awake_any _).mono ?_
      rintro e w7 ⟨rfl, b7⟩
      go_wp2
      go_ret
      exact ⟨rfl, belS ((Below.refl _ _).alloc (Nat.le_refl _) _) b7⟩
  · have h1 : (2048 : Int) < (n : Int) := by omega
    go_enter Try.func7, Try.ntmps7
    go_wp2_with fail
    refine (awake_any _).mono ?_
    rintro e w7 ⟨rfl, b7⟩
    go_wp2
    go_ret
    exact ⟨rfl, belS ((Below.refl _ _).alloc (Nat.le_refl _) _) b7⟩

set_option maxRecDepth 100000 in
theorem lifted (os : Os) (started : os.Started) (H : Type) (enc : TypeId × Value → H) :
    ReturnsInHanded {} Try.checked os 7 .any (Rows.linkPacksSpec.pre6 enc Try.prog Try.f7 Rows.linkPacksRow.domain false) (Rows.linkPacksSpec.post enc Try.prog Try.f7 false true false false) := by
  refine returnsInHanded_of_change (C := Try.checked) ownTry started (by kernel_rfl) Try.func7
    (ChangeSpec.witness6 (enc := enc) (C := Try.checked) false ⟨#[], #[.agg #[.int .i64 0, .int .i64 0, .slice none 0 0], .slice none 0 0], []⟩ 8 (by kernel_rfl) (by kernel_rfl) (by kernel_rfl) (by kernel_rfl)) ?_
  intro W base args ds gs before hval0 hW hcnd _
  have hval : ∀ (j : Nat) t v, Try.f7.params[j]? = some t → args[j]? = some v → Value.okWide Try.prog W .any base t v := hval0
  have hW' := hW
  obtain ⟨p, q, hA0, hV, rfl, hfz, hnd⟩ := hW
  have hA : DataW.TrodAll enc Try.prog W 0 (fun _ => true) true Try.f7.params.toList args.toList ds p := hA0
  rw [Try.params7] at hA hval
  obtain ⟨v0, v1, d0, d1, p0, p1, rfl, rfl, rfl, h0, h1⟩ := trodAll_two hA
  obtain ⟨rfl, rfl⟩ := trodVars_none hV
  obtain ⟨st, sq, A0, n0, c0, X0, rfl, hB0, hx0⟩ := open_frame (hval 0 33 v0 rfl rfl) h0
  obtain ⟨A1, n1, c1, T1, rfl, hB1, hx1⟩ := open_bytesRB (hval 1 _ v1 rfl rfl) h1
  clear hA0 hval0
  refine (walk st sq A0 A1 n0 c0 n1 c1 X0 T1 hB0 hB1 W hx0 hx1).mono fun e W' ⟨he, hg⟩ => ?_
  subst he
  exact ⟨_, rfl, post_reads laidOut (by kernel_rfl) hW' rfl (fun _ _ _ => trodAll_mk1 (shut_bool Try.underlying4 _)) (fun _ => rfl) rfl hg (ok_one (by kernel_rfl) rfl (okWide_bool_mk Try.underlying4 _))⟩

theorem over : Rows.linkPacksRow.holds Try.pinned (OpenSpec.ofChange Rows.linkPacksSpec) :=
  OpenClaim.holds_of_wide 7 Try.f7 rfl rfl rfl rfl rfl rfl rfl ⟨rfl, rfl, rfl, rfl, rfl⟩ rfl rfl rfl rfl rfl (by kernel_rfl) Try.func7 (by kernel_rfl)
    (of_decide_eq_true (by kernel_rfl)) (by unfold Func.isWrapper; first | (rw [if_pos (by decide +kernel)]; kernel_rfl) | (rw [if_neg (by decide +kernel)]; exact ⟨rfl, rfl⟩))
    (fun os started H enc _ => lifted os started H enc)

theorem proved : Rows.LinkPacksSaid := over
end Go.Proofs.Ytlokacgclihhlaa.linkPacks
