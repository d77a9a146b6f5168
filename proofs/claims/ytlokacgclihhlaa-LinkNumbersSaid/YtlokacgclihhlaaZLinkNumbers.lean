/-
  For any number and any bytes the law LinkNumbers returns true and leaves its arguments as they were: no condition.
-/
import Derived.Test.YtlokacgclihhlaaZEnc
namespace Go.Proofs.Ytlokacgclihhlaa.linkNumbers
open Go.Proofs.Ytlokacgclihhlaa
open Go.ChangeShapes Go.WideShapes Go.ChangeAt Go.RowKit Go.Joins
set_option linter.unusedVariables false

theorem strEq (S : ByteArray) : (S == S) = true := by
  show ByteArray.beq S S = true
  unfold ByteArray.beq
  simp
theorem strNe (S : ByteArray) : (S != S) = false := by unfold bne; rw [strEq]; rfl

theorem belS {w W w1 : World} (h0 : Below w.heap.size w W) (h : Below W.heap.size W w1) : Below w.heap.size w w1 := h0.trans (h.mono h0.size)

theorem rb_drop {w : World} {B b o n c m : Nat} {X Y : List Nat} (h : RB w B (.slice (some ⟨b, o, none⟩) n c) (X ++ Y)) (hX : X.length = m) : RB w B (.slice (some ⟨b, o + m, none⟩) (n - m) (c - m)) Y := by
  have hl := h.1.len
  have hc := h.1.cap
  rw [List.length_append] at hl
  refine ⟨RW.mk (by omega) (by omega) (by omega) (fun h0 => ?_), nz_some⟩
  obtain ⟨b', o', e, hb, hcell⟩ := h.1.at_ (by omega)
  injection e with e
  injection e with e1 e2
  subst e1 e2
  refine ⟨b, o + m, rfl, hb, fun j hj => ?_⟩
  have := hcell (m + j) (by omega)
  rw [← hX, nth_append_right, hX, ← Nat.add_assoc] at this
  exact this
theorem numC_zero {N : Int} {H : List Nat} (h : 0 = numC N) : ∃ x : Nat, N = (x : Int) ∧ x ≤ 4611686018427387903 ∧ numL H N = H ++ enc7 x := by
  unfold numC at h
  split at h
  · omega
  · rename_i hn
    refine ⟨N.toNat, by omega, by omega, ?_⟩
    unfold numL
    rw [if_neg hn]
theorem numC_two {N : Int} {c : Nat} (h : c = numC N) (h0 : c ≠ 0) : c = 2 := by
  unfold numC at h
  split at h <;> omega
theorem sigC_zero {N : Int} {H : List Nat} (h : 0 = sigC N) : zig N ≤ 4611686018427387903 ∧ sigL H N = H ++ enc7 (zig N) := by
  unfold sigC at h
  split at h
  · omega
  · rename_i hn
    refine ⟨zig_le (by omega) (by omega), ?_⟩
    unfold sigL
    rw [if_neg hn]
theorem sigC_two {N : Int} {c : Nat} (h : c = sigC N) (h0 : c ≠ 0) : c = 2 := by
  unfold sigC at h
  split at h <;> omega

set_option maxRecDepth 100000 in
set_option maxHeartbeats 1000000 in
theorem walk_in (N : Int) (A1 A2 : Option Addr) (n1 d1 n2 d2 : Nat) (H T : List Nat) (w : World) (h1 : RB w w.heap.size (.slice A1 n1 d1) H) (h2 : RB w w.heap.size (.slice A2 n2 d2) T) (hl1 : n1 ≤ 64) (hl2 : n2 ≤ 64) :
    Calls Try.prog 4 #[.int .i64 N, .slice A1 n1 d1, .slice A2 n2 d2] w (RetB w true) := by
  have HH := Lib.hid (And.intro h1 h2)
  clear h1 h2
  obtain ⟨c1, hc1⟩ : ∃ c1, c1 = numC N := ⟨_, rfl⟩
  obtain ⟨c2, hc2⟩ : ∃ c2, c2 = sigC N := ⟨_, rfl⟩
  have HC := Lib.hid (And.intro hc1 hc2)
  clear hc1 hc2
  obtain ⟨S1, hS1⟩ : ∃ S, S = strB (numL H N) := ⟨_, rfl⟩
  obtain ⟨S2, hS2⟩ : ∃ S, S = strB (sigL H N) := ⟨_, rfl⟩
  have HS := Lib.hid (And.intro hS1 hS2)
  clear hS1 hS2
  have q1 : ((c1 : Int) != (c1 : Int)) = false := by simp
  have q2 : ((c2 : Int) != (c2 : Int)) = false := by simp
  have q3 := strNe S1
  have q4 := strNe S2
  go_enter Try.func4, Try.ntmps4
  go_wp2_with fail
  refine (number_any H N A1 n1 d1 _ (by omega) w HH.out.1 (Nat.le_refl _)).mono ?_
  rintro e w1 ⟨v1, rfl, o1, b1⟩
  have f1 := b1
  have k1 := (HH.out.1.below f1)
  obtain ⟨l1, r1⟩ := rb_of_owns o1
  obtain ⟨B1, e1, rfl⟩ := r1.form
  rw [← HC.out.1]
  have R1 := Lib.hid (And.intro r1 (And.intro k1 f1))
  clear o1 b1 r1 k1 f1 l1
  go_wp2_with fail
  refine (refNumber_any H N A1 n1 d1 _ (by omega) w1 R1.out.2.1 R1.out.2.2.size).mono ?_
  rintro e w2 ⟨v2, rfl, o2, b2⟩
  have f2 := belS R1.out.2.2 b2
  have k1 := (HH.out.1.below f2)
  have s1 := R1.out.1.below b2
  obtain ⟨l2, r2⟩ := rb_of_owns o2
  obtain ⟨B2, e2, rfl⟩ := r2.form
  rw [← HC.out.1]
  have R2 := Lib.hid (And.intro r2 (And.intro k1 (And.intro f2 (And.intro s1 b2.size))))
  clear o2 b2 r2 k1 f2 l2 s1 R1
  go_wp2_with fail
  refine (signed_any H N A1 n1 d1 _ (by omega) w2 R2.out.2.1 R2.out.2.2.1.size).mono ?_
  rintro e w3 ⟨v3, rfl, o3, b3⟩
  have f3 := belS R2.out.2.2.1 b3
  have k1 := (HH.out.1.below f3)
  have s1 := R2.out.2.2.2.1.belowM b3 R2.out.2.2.2.2
  have s2 := R2.out.1.below b3
  obtain ⟨l3, r3⟩ := rb_of_owns o3
  obtain ⟨B3, e3, rfl⟩ := r3.form
  rw [← HC.out.2]
  have z1 := Nat.le_trans R2.out.2.2.2.2 b3.size
  have z2 := b3.size
  have R3 := Lib.hid (And.intro r3 (And.intro k1 (And.intro f3 (And.intro s1 (And.intro s2 (And.intro z1 z2))))))
  clear o3 b3 r3 k1 f3 l3 s1 s2 R2 z1 z2
  go_wp2_with fail
  refine (refSigned_any H N A1 n1 d1 _ (by omega) w3 R3.out.2.1 R3.out.2.2.1.size).mono ?_
  rintro e w4 ⟨v4, rfl, o4, b4⟩
  have f4 := belS R3.out.2.2.1 b4
  have k1 := (HH.out.1.below f4)
  have k2 := (HH.out.2.below f4)
  have s1 := R3.out.2.2.2.1.belowM b4 R3.out.2.2.2.2.2.1
  have s2 := R3.out.2.2.2.2.1.belowM b4 R3.out.2.2.2.2.2.2
  have s3 := R3.out.1.below b4
  obtain ⟨l4, s4⟩ := rb_of_owns o4
  obtain ⟨B4, e4, rfl⟩ := s4.form
  rw [← HC.out.2]
  have t1 := run_string_bytes s1.1
  have t2 := run_string_bytes s2.1
  have t3 := run_string_bytes s3.1
  have t4 := run_string_bytes s4.1
  rw [← HS.out.1] at t1 t2
  rw [← HS.out.2] at t3 t4
  have y1 := Nat.le_trans R3.out.2.2.2.2.2.1 b4.size
  have y3 := b4.size
  have R4 := Lib.hid (And.intro k1 (And.intro k2 (And.intro f4 (And.intro s1 (And.intro s3 (And.intro y1 y3))))))
  clear o4 b4 k1 k2 f4 l4 s1 s2 s3 s4 R3 y1 y3
  obtain ⟨m1, hm1⟩ : ∃ m, m = (numL H N).length := ⟨_, rfl⟩
  obtain ⟨m2, hm2⟩ : ∃ m, m = (sigL H N).length := ⟨_, rfl⟩
  rw [← hm1] at t1 t2
  rw [← hm2] at t3 t4
  rw [← hm1]
  rw [← hm2]
  have HM := Lib.hid (And.intro hm1 hm2)
  clear hm1 hm2
  have HC1 : c1 = 0 ∨ c1 = 2 := by
    by_cases h : c1 = 0
    · exact Or.inl h
    · exact Or.inr (numC_two HC.out.1 h)
  have HC2 : c2 = 0 ∨ c2 = 2 := by
    by_cases h : c2 = 0
    · exact Or.inl h
    · exact Or.inr (sigC_two HC.out.2 h)
  rcases HC1 with hc1 | hc1
  · subst hc1
    obtain ⟨x, hNx, hxle, hL1⟩ := numC_zero (H := H) HC.out.1
    have hk1 := enc7_pos x
    have hkl := enc7_len9 hxle
    obtain ⟨k, hkk⟩ : ∃ k, k = (enc7 x).length := ⟨_, rfl⟩
    have hlen : m1 = n1 + k := by rw [HM.out.1, hL1, List.length_append, hkk, ← HH.out.1.1.len]
    have hle : n1 + k ≤ e1 := by have := R4.out.2.2.2.1.1.cap.1; rw [← HM.out.1] at this; omega
    obtain ⟨s, hs, g1, g2, g3⟩ := rd_enc x hxle T
    rw [← hkk] at hk1 hkl g2
    have rS := R4.out.2.2.2.1
    rw [← HM.out.1, hL1] at rS
    obtain ⟨b, o, rfl, _, _⟩ := rS.1.at_ (by omega)
    have rD := rb_drop rS (HH.out.1.1.len.symm)
    rw [show m1 - n1 = k from by omega] at rD
    have G := Lib.hid (And.intro rD (And.intro hs (And.intro g1 (And.intro g2 (And.intro g3 hkk)))))
    clear rD hs g1 g2 g3 hkk rS hL1 hxle
    subst hlen
    subst hNx
    have qx : ((x : Int) != (x : Int)) = false := by simp
    have qk : ((k : Int) != (k : Int)) = false := by simp
    have qs : ((n1 + k : Nat) : Int) - (n1 : Int) = (k : Int) := by omega
    have qs' : (n1 : Int) + (k : Int) - (n1 : Int) = (k : Int) := by omega
    go_wp2_with fail
    refine (own_any (enc7 x) _ w1.heap.size w4 G.out.1 R4.out.2.2.2.2.2.1 (by rw [← G.out.2.2.2.2.2]; omega)).mono ?_
    rintro e w5 ⟨v5, rfl, o5, b5⟩
    have T5 := R4.out.2.1.belowM b5 R4.out.2.2.1.size
    have Z5 := b5.size
    have O5 := Lib.hid o5
    have B5 := Lib.hid b5
    clear o5 b5
    go_wp2_with (at_builtin
                 refine wpList_append_bytes rfl (.tmp 83) (.tmp 84) rfl w4.heap.size w.heap.size _ _ (enc7 x) rfl O5.out _ T rfl T5 (by rw [← HH.out.2.1.len, ← G.out.2.2.2.2.2]; omega) Z5 ?_)
    intro v6 w6 o6 g6
    have bW := grown_below' B5.out g6 (ownBlock_ge O5.out)
    obtain ⟨_, r6⟩ := rb_of_owns o6
    obtain ⟨B6, e6, rfl⟩ := r6.form
    obtain ⟨m6, hm6⟩ : ∃ m, m = (enc7 x ++ T).length := ⟨_, rfl⟩
    rw [← hm6] at r6
    rw [← hm6]
    clear hm6
    have R6 := Lib.hid (And.intro r6 bW)
    clear o6 g6 r6 bW T5 Z5
    go_wp2_with fail
    refine (readNumber_any (enc7 x ++ T) s G.out.2.1 _ _ _ _ w6 R6.out.1.1).mono ?_
    rintro e w7 ⟨rfl, rfl⟩
    rw [G.out.2.2.1, G.out.2.2.2.1, G.out.2.2.2.2.1]
    have bW := Lib.hid R6.out.2
    clear R6 O5 B5 G
    rcases HC2 with hc2 | hc2
    · subst hc2
      obtain ⟨hyle, hL2⟩ := sigC_zero (H := H) HC.out.2
      have hzh := half_zig (x : Int)
      obtain ⟨y, hNy⟩ : ∃ y, y = zig (x : Int) := ⟨_, rfl⟩
      rw [← hNy] at hyle hL2 hzh
      have hj1 := enc7_pos y
      have hjl := enc7_len9 hyle
      obtain ⟨j, hjj⟩ : ∃ j, j = (enc7 y).length := ⟨_, rfl⟩
      have hlen2 : m2 = n1 + j := by rw [HM.out.2, hL2, List.length_append, hjj, ← HH.out.1.1.len]
      have hle2 : n1 + j ≤ e3 := by have := R4.out.2.2.2.2.1.1.cap.1; rw [← HM.out.2] at this; omega
      obtain ⟨s2, hs, g1, g2, g3⟩ := rd_enc y hyle T
      rw [← hjj] at hj1 hjl g2
      have rS := R4.out.2.2.2.2.1.belowM bW.out R4.out.2.2.2.2.2.2
      rw [← HM.out.2, hL2] at rS
      obtain ⟨b2, o2, rfl, _, _⟩ := rS.1.at_ (by omega)
      have rD := rb_drop rS (HH.out.1.1.len.symm)
      rw [show m2 - n1 = j from by omega] at rD
      have K2 := R4.out.2.1.belowM bW.out R4.out.2.2.1.size
      have ZW : w3.heap.size ≤ w6.heap.size := Nat.le_trans R4.out.2.2.2.2.2.2 bW.out.size
      have ZV : w.heap.size ≤ w6.heap.size := Nat.le_trans R4.out.2.2.1.size bW.out.size
      have G := Lib.hid (And.intro rD (And.intro hs (And.intro g1 (And.intro g2 (And.intro g3 (And.intro hjj (And.intro K2 (And.intro ZW (And.intro ZV hzh)))))))))
      clear rD hs g1 g2 g3 hjj rS hL2 hyle K2 ZW ZV hzh hNy
      subst hlen2
      have ry : ((x : Int) != (x : Int)) = false := by simp
      have rj : ((j : Int) != (j : Int)) = false := by simp
      have rs : ((n1 + j : Nat) : Int) - (n1 : Int) = (j : Int) := by omega
      have rs' : (n1 : Int) + (j : Int) - (n1 : Int) = (j : Int) := by omega
      go_wp2_with fail
      refine (own_any (enc7 y) _ w3.heap.size w6 G.out.1 G.out.2.2.2.2.2.2.2.1 (by rw [← G.out.2.2.2.2.2.1]; omega)).mono ?_
      rintro e w8 ⟨v8, rfl, o8, b8⟩
      have T8 := G.out.2.2.2.2.2.2.1.belowM b8 G.out.2.2.2.2.2.2.2.2.1
      have Z8 := b8.size
      have O8 := Lib.hid o8
      have B8 := Lib.hid b8
      clear o8 b8
      go_wp2_with (at_builtin
                   refine wpList_append_bytes rfl (.tmp 113) (.tmp 114) rfl w6.heap.size w.heap.size _ _ (enc7 y) rfl O8.out _ T rfl T8 (by rw [← HH.out.2.1.len, ← G.out.2.2.2.2.2.1]; omega) Z8 ?_)
      intro v9 w9 o9 g9
      have bX := grown_below' B8.out g9 (ownBlock_ge O8.out)
      obtain ⟨_, r9⟩ := rb_of_owns o9
      obtain ⟨B9, e9, rfl⟩ := r9.form
      obtain ⟨m9, hm9⟩ : ∃ m, m = (enc7 y ++ T).length := ⟨_, rfl⟩
      rw [← hm9] at r9
      rw [← hm9]
      clear hm9
      have R9 := Lib.hid (And.intro r9 bX)
      clear o9 g9 r9 bX T8 Z8
      go_wp2_with fail
      refine (readSigned_any (enc7 y ++ T) s2 G.out.2.1 _ _ _ _ w9 R9.out.1.1).mono ?_
      rintro e w10 ⟨rfl, rfl⟩
      rw [G.out.2.2.1, G.out.2.2.2.1, G.out.2.2.2.2.1, G.out.2.2.2.2.2.2.2.2.2]
      go_wp2_with fail
      refine (awake_any _).mono ?_
      rintro e w11 ⟨rfl, bL⟩
      go_wp2
      go_ret
      exact ⟨rfl, belS R4.out.2.2.1 (belS bW.out (belS R9.out.2 bL))⟩
    · subst hc2
      go_wp2_with fail
      refine (awake_any _).mono ?_
      rintro e w11 ⟨rfl, bL⟩
      go_wp2
      go_ret
      exact ⟨rfl, belS R4.out.2.2.1 (belS bW.out bL)⟩
  · subst hc1
    have bW := Lib.hid (Below.refl w4.heap.size w4)
    rcases HC2 with hc2 | hc2
    · subst hc2
      obtain ⟨hyle, hL2⟩ := sigC_zero (H := H) HC.out.2
      have hzh := half_zig N
      obtain ⟨y, hNy⟩ : ∃ y, y = zig N := ⟨_, rfl⟩
      rw [← hNy] at hyle hL2 hzh
      have hj1 := enc7_pos y
      have hjl := enc7_len9 hyle
      obtain ⟨j, hjj⟩ : ∃ j, j = (enc7 y).length := ⟨_, rfl⟩
      have hlen2 : m2 = n1 + j := by rw [HM.out.2, hL2, List.length_append, hjj, ← HH.out.1.1.len]
      have hle2 : n1 + j ≤ e3 := by have := R4.out.2.2.2.2.1.1.cap.1; rw [← HM.out.2] at this; omega
      obtain ⟨s2, hs, g1, g2, g3⟩ := rd_enc y hyle T
      rw [← hjj] at hj1 hjl g2
      have rS := R4.out.2.2.2.2.1.belowM bW.out R4.out.2.2.2.2.2.2
      rw [← HM.out.2, hL2] at rS
      obtain ⟨b2, o2, rfl, _, _⟩ := rS.1.at_ (by omega)
      have rD := rb_drop rS (HH.out.1.1.len.symm)
      rw [show m2 - n1 = j from by omega] at rD
      have K2 := R4.out.2.1.belowM bW.out R4.out.2.2.1.size
      have ZW : w3.heap.size ≤ w4.heap.size := Nat.le_trans R4.out.2.2.2.2.2.2 bW.out.size
      have ZV : w.heap.size ≤ w4.heap.size := Nat.le_trans R4.out.2.2.1.size bW.out.size
      have G := Lib.hid (And.intro rD (And.intro hs (And.intro g1 (And.intro g2 (And.intro g3 (And.intro hjj (And.intro K2 (And.intro ZW (And.intro ZV hzh)))))))))
      clear rD hs g1 g2 g3 hjj rS hL2 hyle K2 ZW ZV hzh hNy
      subst hlen2
      have ry : (N != N) = false := by simp
      have rj : ((j : Int) != (j : Int)) = false := by simp
      have rs : ((n1 + j : Nat) : Int) - (n1 : Int) = (j : Int) := by omega
      have rs' : (n1 : Int) + (j : Int) - (n1 : Int) = (j : Int) := by omega
      go_wp2_with fail
      refine (own_any (enc7 y) _ w3.heap.size w4 G.out.1 G.out.2.2.2.2.2.2.2.1 (by rw [← G.out.2.2.2.2.2.1]; omega)).mono ?_
      rintro e w8 ⟨v8, rfl, o8, b8⟩
      have T8 := G.out.2.2.2.2.2.2.1.belowM b8 G.out.2.2.2.2.2.2.2.2.1
      have Z8 := b8.size
      have O8 := Lib.hid o8
      have B8 := Lib.hid b8
      clear o8 b8
      go_wp2_with (at_builtin
                   refine wpList_append_bytes rfl (.tmp 113) (.tmp 114) rfl w4.heap.size w.heap.size _ _ (enc7 y) rfl O8.out _ T rfl T8 (by rw [← HH.out.2.1.len, ← G.out.2.2.2.2.2.1]; omega) Z8 ?_)
      intro v9 w9 o9 g9
      have bX := grown_below' B8.out g9 (ownBlock_ge O8.out)
      obtain ⟨_, r9⟩ := rb_of_owns o9
      obtain ⟨B9, e9, rfl⟩ := r9.form
      obtain ⟨m9, hm9⟩ : ∃ m, m = (enc7 y ++ T).length := ⟨_, rfl⟩
      rw [← hm9] at r9
      rw [← hm9]
      clear hm9
      have R9 := Lib.hid (And.intro r9 bX)
      clear o9 g9 r9 bX T8 Z8
      go_wp2_with fail
      refine (readSigned_any (enc7 y ++ T) s2 G.out.2.1 _ _ _ _ w9 R9.out.1.1).mono ?_
      rintro e w10 ⟨rfl, rfl⟩
      rw [G.out.2.2.1, G.out.2.2.2.1, G.out.2.2.2.2.1, G.out.2.2.2.2.2.2.2.2.2]
      go_wp2_with fail
      refine (awake_any _).mono ?_
      rintro e w11 ⟨rfl, bL⟩
      go_wp2
      go_ret
      exact ⟨rfl, belS R4.out.2.2.1 (belS bW.out (belS R9.out.2 bL))⟩
    · subst hc2
      go_wp2_with fail
      refine (awake_any _).mono ?_
      rintro e w11 ⟨rfl, bL⟩
      go_wp2
      go_ret
      exact ⟨rfl, belS R4.out.2.2.1 (belS bW.out bL)⟩

set_option maxRecDepth 100000 in
theorem walk (N : Int) (A1 A2 : Option Addr) (n1 d1 n2 d2 : Nat) (H T : List Nat) (w : World) (h1 : RB w w.heap.size (.slice A1 n1 d1) H) (h2 : RB w w.heap.size (.slice A2 n2 d2) T) :
    Calls Try.prog 4 #[.int .i64 N, .slice A1 n1 d1, .slice A2 n2 d2] w (RetB w true) := by
  by_cases hl1 : n1 ≤ 64
  · by_cases hl2 : n2 ≤ 64
    · exact walk_in N A1 A2 n1 d1 n2 d2 H T w h1 h2 hl1 hl2
    · have hg2 : 64 < n2 := by omega
      go_enter Try.func4, Try.ntmps4
      go_wp2_with fail
      refine (awake_any _).mono ?_
      rintro e w1 ⟨rfl, hb1⟩
      go_wp2
      go_ret
      exact ⟨rfl, hb1⟩
  · have hg1 : 64 < n1 := by omega
    go_enter Try.func4, Try.ntmps4
    go_wp2_with fail
    refine (awake_any _).mono ?_
    rintro e w1 ⟨rfl, hb1⟩
    go_wp2
    go_ret
    exact ⟨rfl, hb1⟩

set_option maxRecDepth 100000 in
theorem lifted (os : Os) (started : os.Started) (H : Type) (enc : TypeId × Value → H) :
    ReturnsInHanded {} Try.checked os 4 .any (Rows.linkNumbersSpec.pre6 enc Try.prog Try.f4 Rows.linkNumbersRow.domain false) (Rows.linkNumbersSpec.post enc Try.prog Try.f4 false true false false) := by
  refine returnsInHanded_of_change (C := Try.checked) ownTry started (by kernel_rfl) Try.func4
    (ChangeSpec.witness6 (enc := enc) (C := Try.checked) false ⟨#[], #[.int .i64 0, .slice none 0 0, .slice none 0 0], []⟩ 8 (by kernel_rfl) (by kernel_rfl) (by kernel_rfl) (by kernel_rfl)) ?_
  intro W base args ds gs before hval0 hW hcnd _
  have hval : ∀ (j : Nat) t v, Try.f4.params[j]? = some t → args[j]? = some v → Value.okWide Try.prog W .any base t v := hval0
  have hW' := hW
  obtain ⟨p, q, hA0, hV, rfl, hfz, hnd⟩ := hW
  have hA : DataW.TrodAll enc Try.prog W 0 (fun _ => true) true Try.f4.params.toList args.toList ds p := hA0
  rw [Try.params4] at hA hval
  obtain ⟨v0, v1, v2, d0, d1, d2, p0, p1, p2, rfl, rfl, rfl, h0, h1, h2⟩ := trodAll_three hA
  obtain ⟨rfl, rfl⟩ := trodVars_none hV
  obtain ⟨x, rfl, rfl, rfl, wx⟩ := open_int Try.underlying3 (hval 0 _ v0 rfl rfl) h0
  obtain ⟨A1, n1, c1, L1, rfl, hB1, hx1⟩ := open_bytesRB (hval 1 _ v1 rfl rfl) h1
  obtain ⟨A2, n2, c2, L2, rfl, hB2, hx2⟩ := open_bytesRB (hval 2 _ v2 rfl rfl) h2
  clear hA0 hval0
  refine (walk x A1 A2 n1 c1 n2 c2 L1 L2 W hx1 hx2).mono fun e W' ⟨he, hg⟩ => ?_
  subst he
  exact ⟨_, rfl, post_reads laidOut (by kernel_rfl) hW' rfl (fun _ _ _ => trodAll_mk1 (shut_bool Try.underlying4 _)) (fun _ => rfl) rfl hg (ok_one (by kernel_rfl) rfl (okWide_bool_mk Try.underlying4 _))⟩

theorem over : Rows.linkNumbersRow.holds Try.pinned (OpenSpec.ofChange Rows.linkNumbersSpec) :=
  OpenClaim.holds_of_wide 4 Try.f4 rfl rfl rfl rfl rfl rfl rfl ⟨rfl, rfl, rfl, rfl, rfl⟩ rfl rfl rfl rfl rfl (by kernel_rfl) Try.func4 (by kernel_rfl)
    (of_decide_eq_true (by kernel_rfl)) (by unfold Func.isWrapper; first | (rw [if_pos (by decide +kernel)]; kernel_rfl) | (rw [if_neg (by decide +kernel)]; exact ⟨rfl, rfl⟩))
    (fun os started H enc _ => lifted os started H enc)

theorem proved : Rows.LinkNumbersSaid := over
end Go.Proofs.Ytlokacgclihhlaa.linkNumbers
