/-
  For any bodies and numbers the law LinkOrders returns true and leaves its arguments as they were: no condition.
-/
import Derived.Test.YtndgpgciccgapaaZOrd
import Derived.Test.YtndgpgciccgapaaVMem
namespace Go.Proofs.Ytndgpgciccgapaa.linkOrders
open Go.Proofs.Ytndgpgciccgapaa
open Go.ChangeShapes Go.WideShapes Go.ChangeAt Go.RowKit Go.Joins Go.Maps
set_option linter.unusedVariables false
attribute [local go_sem ↓] Go.wp_at_zero Go.wp_at_succ

theorem belS {w W w1 : World} (h0 : Below w.heap.size w W) (h : Below W.heap.size W w1) : Below w.heap.size w w1 := h0.trans (h.mono h0.size)

def OrdRel (w : World) (n nb g mb : Nat) (X : Nat → List Nat) (gv iv : Value) (wr : World) : Prop :=
  ∃ (k j N : Nat) (F : Hf), iv = .int .i64 (k : Int) ∧ k ≤ nb + n ∧ j ≤ n ∧ N ≤ k ∧ Hid (Rcv wr g mb N 7 64 (5 + (j : Int)) F) ∧ Hid (OrdF F X j n) ∧ Hid (DlS wr w.heap.size gv (dsOf (allF X) 5 j)) ∧
    Hid (∀ i : Nat, i + nb < k → i < j ∨ F (5 + (i : Int)) ≠ none) ∧ Below w.heap.size w wr

theorem idx_any (z : Int) (n : Nat) (h0 : 0 < n) (hn : n ≤ 64) : ∃ kk : Nat, kk < n ∧ wrap64 ((IntKind.u64.wrap z).tmod (n : Int)) = (kk : Int) := by
  have h1 : 0 ≤ IntKind.u64.wrap z := by rw [IntKind.wrap_u64]; omega
  rw [Int.tmod_eq_emod_of_nonneg h1]
  have h2 := Int.emod_nonneg (IntKind.u64.wrap z) (show (n : Int) ≠ 0 by omega)
  have h3 := Int.emod_lt_of_pos (IntKind.u64.wrap z) (show (0 : Int) < (n : Int) by omega)
  refine ⟨((IntKind.u64.wrap z) % (n : Int)).toNat, by omega, ?_⟩
  unfold wrap64
  omega

def WantRel (w0 : World) (n : Nat) (X : Nat → List Nat) (av iv : Value) (wr : World) : Prop :=
  ∃ i : Nat, iv = .int .i64 (i : Int) ∧ i ≤ n ∧ Hid (DlW wr w0.heap.size av (dsOf (allF X) 5 i)) ∧ Below w0.heap.size w0 wr

set_option maxRecDepth 100000 in
set_option maxHeartbeats 4000000 in
theorem walk_in (A B : Option Addr) (n c nb cb : Nat) (X : Nat → List Nat) (V : Nat → Value) (zs : List Int) (w : World) (hF : ByF w A n X V) (hI : IW w w.heap.size (.slice B nb cb) zs) (hn : n ≤ 64) (hX : ∀ i, i < n → (X i).length ≤ 64) (hnb : nb ≤ 80) :
    Calls Try.prog 4 #[.slice A n c, .slice B nb cb] w (RetB w true) := by
  have HF := Lib.hid hF
  have HI := Lib.hid hI
  have HX := Lib.hid hX
  have HL := Lib.hid (long_no A n c 64 64 X V w hF hn hX (by omega))
  have HN := Lib.hid (new_yes 7 64 5 w ⟨by omega, by omega, by omega, by omega⟩)
  have hni : (n : Int) ≤ 64 := by omega
  have hnbi : (nb : Int) ≤ 80 := by omega
  clear hF hI hX
  go_enter Try.func4, Try.ntmps4
  go_wp2_with fail
  refine HL.out.mono ?_
  rintro e w0 ⟨rfl, rfl⟩
  go_wp2_with fail
  refine HN.out.mono ?_
  rintro e w1 ⟨g, mb, rfl, hR1, hg, hm, b1⟩
  have h0 : OrdRel w n nb g mb X (.slice none 0 0) (.int .i64 0) w1 :=
    ⟨0, 0, 0, fun _ => none, rfl, by omega, by omega, by omega, hR1, fun q x h => (by cases h), dls_nil _ _, fun i hi => by omega, b1⟩
  have H0 := Lib.hid h0
  have hgm := (rcv_apart hR1).1
  clear h0 hR1 b1
  go_wp2
  go_loopw [7, 8] (fun gv iv wr => OrdRel w n nb g mb X gv iv wr) (fun _ iv _ => (nb + n) - (intOf1 iv).toNat)
  case atStart => exact H0.out
  case round =>
    obtain ⟨k, j, N, F, rfl, hk, hj, hN, HR, HO, HD, HT, hbw⟩ := hrel
    have HBW := Lib.hid hbw
    have hs0 := hbw.size
    by_cases hkn : k < nb + n
    · have i1 : (k : Int) < (nb : Int) + (n : Int) := by omega
      have hway : (k < nb ∧ n = 0) ∨ (∃ (kk bI oI : Nat) (z : Int), kk < n ∧ B = some ⟨bI, oI, none⟩ ∧ wr.cell? ⟨bI, oI + k, none⟩ = some (.int .i64 z) ∧ wrap64 ((IntKind.u64.wrap z).tmod (n : Int)) = (kk : Int) ∧ k < nb) ∨ (∃ kk : Nat, kk < n ∧ k = nb + kk) := by
        by_cases hkb : k < nb
        · by_cases hn0 : n = 0
          · exact .inl ⟨hkb, hn0⟩
          · obtain ⟨bI, oI, hB, hbI, hcI⟩ := HI.out.at_ (by omega)
            obtain ⟨kk, h1, h2⟩ := idx_any (ith zs k) n (by omega) hn
            exact .inr (.inl ⟨kk, bI, oI, ith zs k, h1, hB, (hbw.cell (p := ⟨bI, oI + k, none⟩) hbI).trans (hcI k hkb), h2, hkb⟩)
        · exact .inr (.inr ⟨k - nb, by omega, by omega⟩)
      clear hbw
      rcases hway with ⟨hkb, hn0⟩ | ⟨kk, bI, oI, z, hkk, hB, p0, e1, hkb⟩ | ⟨kk, hkk, hkb⟩
      · subst hn0
        have i2 : (k : Int) < (nb : Int) := by omega
        have i3 : (k : Int) - (nb : Int) < 0 := by omega
        go_wp2
        go_roundw
        case rel => exact ⟨k + 1, j, N, F, by go_num, by omega, hj, by omega, HR, HO, HD, Lib.hid (fun i hi => by omega), HBW.out⟩
        case measure => simp [intOf1]; omega
      · subst hB
        have i2 : (k : Int) < (nb : Int) := by omega
        have i3 : (k : Int) - (nb : Int) < 0 := by omega
        have i5 : ((n : Int) == 0) = false := by simp; omega
        have i8 : ((n : Int) != 0) = true := by simp; omega
        have i9 : (0 : Int) ≤ (k : Int) := by omega
        have HI2 : Hid (∀ i : Nat, i + nb < k + 1 → i + nb < k ∨ i = kk) := Lib.hid (fun i hi => by omega)
        obtain ⟨bV, oV, A', c', hA, hbV, hcV, hV, hXB, hRB⟩ := HF.out kk hkk
        subst hA
        have p1 := (HBW.out.cell (p := ⟨bV, oV + kk, none⟩) hbV).trans hcV
        have i6 : (0 : Int) ≤ (kk : Int) := by omega
        have i7 : (kk : Int) < (n : Int) := by omega
        have HKB := Lib.hid hkb
        clear hkb
        rw [hV] at p1 hRB
        obtain ⟨L, hL⟩ : ∃ L, L = (X kk).length := ⟨_, rfl⟩
        have hL64 : L ≤ 64 := by rw [hL]; exact HX.out kk hkk
        rw [← hL] at p1 hRB
        obtain ⟨ce, hce⟩ : ∃ ce, takeE 7 64 (5 + (j : Int)) F 7 (5 + (kk : Int)) L = ce := ⟨_, rfl⟩
        have HT1 := Lib.hid (take_any g mb N 7 64 (5 + (j : Int)) 7 (5 + (kk : Int)) F (X kk) A' L c' w.heap.size wr HR.out (ord_inW HO.out hn) (by omega) (by omega) (by omega) (hRB.belowM HBW.out (Nat.le_refl _)) hs0 ce hce)
        have HCE := Lib.hid hce
        clear hV hcV hRB hXB hL hce
        go_wp2_with fail
        refine HT1.out.mono ?_
        rintro e w3 (⟨hc0, rfl, b3⟩ | ⟨hc0, v5, m, N', rfl, q1, q2, q3, q4, q5, q6, q7⟩)
        · have HB := Lib.hid (ord_bad (n := n) HCE.out hc0 (by omega) hL64)
          have HR3 := Lib.hid (rcv_below HR.out b3)
          have HD3 := Lib.hid (dls_below HD.out b3)
          have HB3 := Lib.hid (belS HBW.out b3)
          have hs3 := HB3.out.size
          clear b3
          go_wp2_with (at_builtin
                       refine wpList_append_dls rfl (.tmp 72) (.tmp 73) rfl w.heap.size w.heap.size _ _ _ [] rfl HD3.out rfl (dls_nil _ _) (by rw [dsOf_len]; simp; omega) hs3 ?_)
          intro v6 w6 hD6 hO6
          have HD6 := Lib.hid hD6
          have HR6 := Lib.hid (app_rcv HD3.out hO6 HR3.out)
          have HB6 := Lib.hid (app_below HD3.out hO6 HB3.out hs3)
          clear hD6 hO6
          go_wp2
          go_roundw
          case rel => exact ⟨k + 1, j, N, F, by go_num, by omega, hj, by omega, HR6, HO, HD6, Lib.hid (fun i hi => (HI2.out i hi).elim (HT.out i) (fun e => by rw [e]; exact HB.out)), HB6.out⟩
          case measure => simp [intOf1]; omega
        · subst hc0
          obtain ⟨z1, z2, z3, z4, z5⟩ := takeE_zero HCE.out
          have hjk : j ≤ kk := by omega
          have HOK := Lib.hid (ord_ok HO.out hkk hjk q1 q2 hj)
          have HR3 := Lib.hid q5
          have HD3 := Lib.hid (dls_rcv HD.out q7 HR.out)
          have HE3 := Lib.hid q6
          have HB3 := Lib.hid (HBW.out.trans (q7.below hs0 (by omega)))
          have hs3 := HB3.out.size
          have hjm := HOK.out.2.1
          have HN3 := Lib.hid q4
          clear z1 z2 z3 z4 z5 q1 q2 q3 q4 q5 q6 q7
          go_wp2_with (at_builtin
                       refine wpList_append_dls rfl (.tmp 72) (.tmp 73) rfl w.heap.size wr.heap.size _ _ _ _ rfl HD3.out rfl HE3.out (by rw [dsOf_len, dsOf_len]; omega) hs3 ?_)
          intro v6 w6 hD6 hO6
          rw [← HOK.out.1] at hD6
          have HD6 := Lib.hid hD6
          have HR6 := Lib.hid (app_rcv HD3.out hO6 HR3.out)
          have HB6 := Lib.hid (app_below HD3.out hO6 HB3.out hs3)
          clear hD6 hO6
          go_wp2
          go_roundw
          case rel =>
            have e5 : (5 : Int) + ((j + m : Nat) : Int) = 5 + (j : Int) + (m : Int) := by push_cast; omega
            refine ⟨k + 1, j + m, N', _, by go_num, by omega, hjm, by have := HN3.out; omega, ?_, HOK.out.2.2.1, HD6, Lib.hid (fun i hi => HOK.out.2.2.2 i ((HI2.out i hi).elim (fun h => (HT.out i h).elim .inl (fun h => .inr (.inl h))) (fun h => .inr (.inr h)))), HB6.out⟩
            rw [e5]; exact HR6
          case measure => simp [intOf1]; omega
      · have i3 : ¬ (k : Int) - (nb : Int) < 0 := by omega
        have e1 : (k : Int) - (nb : Int) = (kk : Int) := by omega
        have HI2 : Hid (∀ i : Nat, i + nb < k + 1 → i + nb < k ∨ i = kk) := Lib.hid (fun i hi => by omega)
        obtain ⟨bV, oV, A', c', hA, hbV, hcV, hV, hXB, hRB⟩ := HF.out kk hkk
        subst hA
        have p1 := (HBW.out.cell (p := ⟨bV, oV + kk, none⟩) hbV).trans hcV
        have i6 : (0 : Int) ≤ (kk : Int) := by omega
        have i7 : (kk : Int) < (n : Int) := by omega
        have HKB := Lib.hid hkb
        clear hkb
        rw [hV] at p1 hRB
        obtain ⟨L, hL⟩ : ∃ L, L = (X kk).length := ⟨_, rfl⟩
        have hL64 : L ≤ 64 := by rw [hL]; exact HX.out kk hkk
        rw [← hL] at p1 hRB
        obtain ⟨ce, hce⟩ : ∃ ce, takeE 7 64 (5 + (j : Int)) F 7 (5 + (kk : Int)) L = ce := ⟨_, rfl⟩
        have HT1 := Lib.hid (take_any g mb N 7 64 (5 + (j : Int)) 7 (5 + (kk : Int)) F (X kk) A' L c' w.heap.size wr HR.out (ord_inW HO.out hn) (by omega) (by omega) (by omega) (hRB.belowM HBW.out (Nat.le_refl _)) hs0 ce hce)
        have HCE := Lib.hid hce
        clear hV hcV hRB hXB hL hce
        go_wp2_with fail
        refine HT1.out.mono ?_
        rintro e w3 (⟨hc0, rfl, b3⟩ | ⟨hc0, v5, m, N', rfl, q1, q2, q3, q4, q5, q6, q7⟩)
        · have HB := Lib.hid (ord_bad (n := n) HCE.out hc0 (by omega) hL64)
          have HR3 := Lib.hid (rcv_below HR.out b3)
          have HD3 := Lib.hid (dls_below HD.out b3)
          have HB3 := Lib.hid (belS HBW.out b3)
          have hs3 := HB3.out.size
          clear b3
          go_wp2_with (at_builtin
                       refine wpList_append_dls rfl (.tmp 72) (.tmp 73) rfl w.heap.size w.heap.size _ _ _ [] rfl HD3.out rfl (dls_nil _ _) (by rw [dsOf_len]; simp; omega) hs3 ?_)
          intro v6 w6 hD6 hO6
          have HD6 := Lib.hid hD6
          have HR6 := Lib.hid (app_rcv HD3.out hO6 HR3.out)
          have HB6 := Lib.hid (app_below HD3.out hO6 HB3.out hs3)
          clear hD6 hO6
          go_wp2
          go_roundw
          case rel => exact ⟨k + 1, j, N, F, by go_num, by omega, hj, by omega, HR6, HO, HD6, Lib.hid (fun i hi => (HI2.out i hi).elim (HT.out i) (fun e => by rw [e]; exact HB.out)), HB6.out⟩
          case measure => simp [intOf1]; omega
        · subst hc0
          obtain ⟨z1, z2, z3, z4, z5⟩ := takeE_zero HCE.out
          have hjk : j ≤ kk := by omega
          have HOK := Lib.hid (ord_ok HO.out hkk hjk q1 q2 hj)
          have HR3 := Lib.hid q5
          have HD3 := Lib.hid (dls_rcv HD.out q7 HR.out)
          have HE3 := Lib.hid q6
          have HB3 := Lib.hid (HBW.out.trans (q7.below hs0 (by omega)))
          have hs3 := HB3.out.size
          have hjm := HOK.out.2.1
          have HN3 := Lib.hid q4
          clear z1 z2 z3 z4 z5 q1 q2 q3 q4 q5 q6 q7
          go_wp2_with (at_builtin
                       refine wpList_append_dls rfl (.tmp 72) (.tmp 73) rfl w.heap.size wr.heap.size _ _ _ _ rfl HD3.out rfl HE3.out (by rw [dsOf_len, dsOf_len]; omega) hs3 ?_)
          intro v6 w6 hD6 hO6
          rw [← HOK.out.1] at hD6
          have HD6 := Lib.hid hD6
          have HR6 := Lib.hid (app_rcv HD3.out hO6 HR3.out)
          have HB6 := Lib.hid (app_below HD3.out hO6 HB3.out hs3)
          clear hD6 hO6
          go_wp2
          go_roundw
          case rel =>
            have e5 : (5 : Int) + ((j + m : Nat) : Int) = 5 + (j : Int) + (m : Int) := by push_cast; omega
            refine ⟨k + 1, j + m, N', _, by go_num, by omega, hjm, by have := HN3.out; omega, ?_, HOK.out.2.2.1, HD6, Lib.hid (fun i hi => HOK.out.2.2.2 i ((HI2.out i hi).elim (fun h => (HT.out i h).elim .inl (fun h => .inr (.inl h))) (fun h => .inr (.inr h)))), HB6.out⟩
            rw [e5]; exact HR6
          case measure => simp [intOf1]; omega
    · obtain rfl : k = nb + n := by omega
      obtain rfl : j = n := ord_end HO.out hj (fun i hi => HT.out i (by omega))
      have i1 : ¬ ((nb : Int) + (j : Int) < (nb : Int) + (j : Int)) := by omega
      obtain ⟨w0, hw0⟩ : ∃ x, x = wr := ⟨_, rfl⟩
      subst hw0
      have h1 : WantRel w0 j X (.slice none 0 0) (.int .i64 0) w0 := ⟨0, rfl, Nat.zero_le _, dlw_nil _ _, Below.refl _ _⟩
      have H1 := Lib.hid h1
      clear h1 hkn hbw
      go_wp2
      go_loopw [12, 77] (fun av iv wr => WantRel w0 j X av iv wr) (fun _ iv _ => j - (intOf1 iv).toNat)
      case atStart => exact H1.out
      case round =>
        obtain ⟨i, rfl, hi, HA, hb⟩ := hrel
        by_cases hij : i < j
        · obtain ⟨bV, oV, A', c', hA, hbV, hcV, hV, hXB, hRB⟩ := HF.out i hij
          subst hA
          have p1 := ((HBW.out.trans (hb.mono hs0)).cell (p := ⟨bV, oV + i, none⟩) hbV).trans hcV
          rw [hV] at p1 hRB
          obtain ⟨L, hL⟩ : ∃ L, L = (X i).length := ⟨_, rfl⟩
          rw [← hL] at p1 hRB
          have i6 : (0 : Int) ≤ (i : Int) := by omega
          have i7 : (i : Int) < (j : Int) := by omega
          have hRB0 : RB wr w0.heap.size (.slice A' L c') (X i) := (hRB.belowM (HBW.out.trans (hb.mono hs0)) (Nat.le_refl _)).more hs0
          have hs1 := hb.size
          obtain ⟨vs, v1, v2, v3⟩ := HA.out
          have hbA : Below wr.heap.size wr (wr.alloc (.cells #[.int .i64 (5 + (i : Int)), .slice A' L c', .bool false] 39)) := (Below.refl _ _).alloc (Nat.le_refl _) _
          have hOw := v2.alloc (.cells #[.int .i64 (5 + (i : Int)), .slice A' L c', .bool false] 39)
          rw [dsOf_len] at hOw
          have HTC := Lib.hid (cells3 (heap_alloc_new wr (.cells #[.int .i64 (5 + (i : Int)), .slice A' L c', .bool false] 39)))
          have HOw := Lib.hid hOw
          have HV := Lib.hid (And.intro v1 (And.intro v2 v3))
          have HB := Lib.hid (And.intro hb (And.intro hbA hRB0))
          clear hV hL hcV hRB hXB hb hbA hOw v1 v2 v3 hRB0
          obtain ⟨i0, hi0, hz0, hz1, hz2⟩ := info_parts infoD
          go_wp2_with (at_builtin
                       refine wpList_append_own_at _ rfl (.tmp 80) (.tmp 88) _ rfl w0.heap.size 39 i0 _ 3 40 Try.underlying34 hi0 hz0 hz1 hz2 rfl (by decide) _ i _ rfl HOw.out ⟨wr.heap.size, 0, none⟩ 1 1 [.int .i64 (5 + (i : Int)), .slice A' L c', .bool false] rfl rfl HTC.out (by intro u hu; simp at hu; rcases hu with rfl | rfl | rfl <;> rfl) (by unfold maxLen; omega) (by omega) (by simp; omega) ?_)
          intro v6 w6 ho hg2 _ hr
          have hA6 : DlW w6 w0.heap.size v6 (dsOf (allF X) 5 (i + 1)) := by
            have h := dlw_append (X := X i) (sq := 5 + (i : Int)) (l := false) HV.out.1 (fun k hk hk' => (HV.out.2.2 k hk hk').belowM HB.out.2.1 hs1) (by rw [dsOf_len] at *; exact ho) (by simp; omega) hg2 (fun k hk => (own_block HV.out.2.1 hk).1) (HB.out.2.2.belowM HB.out.2.1 hs1)
            have e : dsOf (allF X) 5 (i + 1) = dsOf (allF X) 5 i ++ [(5 + (i : Int), X i, false)] := by
              simp only [dsOf, allF, Option.getD_some]
              rw [show ((5 : Int) + (i : Int) - 5).toNat = i by omega]
            rw [e]
            exact h
          have hB6 : Below w0.heap.size w0 w6 := HB.out.1.trans ((HB.out.2.1.mono hs1).trans (Only.below (S := fun k => u12.ownBlock = some k) (only_grown hg2 (fun k e => e)) (by simp; omega) (fun k hk => (own_block HV.out.2.1 hk).1)))
          have HA6 := Lib.hid hA6
          have HB6 := Lib.hid hB6
          clear ho hg2 hr hA6 hB6 hi0 hz0 hz1 hz2
          go_wp2
          go_roundw
          case rel => exact ⟨i + 1, by go_num, by omega, HA6, HB6.out⟩
          case measure => simp [intOf1]; omega
        · obtain rfl : i = j := by omega
          have HS := Lib.hid (sameDl_yes (dsOf (allF X) 5 i) _ _ (by rw [dsOf_len]; omega) wr (dls_r (dls_below HD.out hb)) (dlw_r HA.out hb.size))
          have HNX := fun (wx : World) (h : Below wr.heap.size wr wx) => next_any g mb N 7 64 (5 + (i : Int)) F wx (rcv_below (rcv_below HR.out hb) h) (by omega)
          have HNX := Lib.hid HNX
          have HB := Lib.hid (HBW.out.trans (hb.mono hs0))
          have t1 : ((5 : Int) + (i : Int) == 5 + (i : Int)) = true := by simp
          clear hb
          go_wp2_with fail
          refine HS.out.mono ?_
          rintro e w5 ⟨rfl, b5⟩
          have HB5 := Lib.hid (HB.out.trans (b5.mono HB.out.size))
          have HN5 := Lib.hid (HNX.out w5 b5)
          clear b5
          go_wp2_with fail
          refine HN5.out.mono ?_
          rintro e w6 ⟨rfl, rfl⟩
          go_wp2_with fail
          refine (awake_any _).mono ?_
          rintro e w7 ⟨rfl, b7⟩
          go_wp2
          go_ret
          exact ⟨rfl, HB5.out.trans (b7.mono HB5.out.size)⟩

set_option maxRecDepth 100000 in
set_option maxHeartbeats 1000000 in
theorem walk (A B : Option Addr) (n c nb cb : Nat) (X : Nat → List Nat) (V : Nat → Value) (zs : List Int) (w : World) (hF : ByF w A n X V) (hI : IW w w.heap.size (.slice B nb cb) zs) (hn0 : n ≤ maxLen) :
    Calls Try.prog 4 #[.slice A n c, .slice B nb cb] w (RetB w true) := by
  unfold maxLen at hn0
  by_cases hg : n ≤ 64 ∧ ∀ i, i < n → (X i).length ≤ 64
  · by_cases hnb : nb ≤ 80
    · exact walk_in A B n c nb cb X V zs w hF hI hg.1 hg.2 hnb
    · have HL := Lib.hid (long_no A n c 64 64 X V w hF hg.1 hg.2 (by omega))
      have h1 : (80 : Int) < (nb : Int) := by omega
      clear hg hF hI
      go_enter Try.func4, Try.ntmps4
      go_wp2_with fail
      refine HL.out.mono ?_
      rintro e w0 ⟨rfl, rfl⟩
      go_wp2_with fail
      refine (awake_any _).mono ?_
      rintro e w7 ⟨rfl, b7⟩
      go_wp2
      go_ret
      exact ⟨rfl, b7⟩
  · have hq : 64 < n ∨ ∃ i, i < n ∧ 64 < (X i).length := by
      by_cases h1 : n ≤ 64
      · right
        by_cases h2 : ∃ i, i < n ∧ 64 < (X i).length
        · exact h2
        · exact absurd ⟨h1, fun i hi => Nat.le_of_not_lt fun h => h2 ⟨i, hi, h⟩⟩ hg
      · left; omega
    have HL := Lib.hid (long_yes A n c 64 64 X V w hF hq (by omega))
    clear hg hF hI hq
    go_enter Try.func4, Try.ntmps4
    go_wp2_with fail
    refine HL.out.mono ?_
    rintro e w0 ⟨rfl, rfl⟩
    go_wp2_with fail
    refine (awake_any _).mono ?_
    rintro e w7 ⟨rfl, b7⟩
    go_wp2
    go_ret
    exact ⟨rfl, b7⟩

set_option maxRecDepth 100000 in
theorem lifted (os : Os) (started : os.Started) (H : Type) (enc : TypeId × Value → H) :
    ReturnsInHanded {} Try.checked os 4 .any (Rows.linkOrdersSpec.pre6 enc Try.prog Try.f4 Rows.linkOrdersRow.domain false) (Rows.linkOrdersSpec.post enc Try.prog Try.f4 false true false false) := by
  refine returnsInHanded_of_change (C := Try.checked) ownTry started (by kernel_rfl) Try.func4
    (ChangeSpec.witness6 (enc := enc) (C := Try.checked) false ⟨#[], #[.slice none 0 0, .slice none 0 0], []⟩ 8 (by kernel_rfl) (by kernel_rfl) (by kernel_rfl) (by kernel_rfl)) ?_
  intro W base args ds gs before hval0 hW hcnd _
  have hval : ∀ (j : Nat) t v, Try.f4.params[j]? = some t → args[j]? = some v → Value.okWide Try.prog W .any base t v := hval0
  have hW' := hW
  obtain ⟨p, q, hA0, hV, rfl, hfz, hnd⟩ := hW
  have hA : DataW.TrodAll enc Try.prog W 0 (fun _ => true) true Try.f4.params.toList args.toList ds p := hA0
  rw [Try.params4] at hA hval
  obtain ⟨v0, v1, d0, d1, p0, p1, rfl, rfl, rfl, h0, h1⟩ := trodAll_two hA
  obtain ⟨rfl, rfl⟩ := trodVars_none hV
  obtain ⟨A0, n0, c0, rfl, hn0, hB⟩ := open_bodies (hval 0 _ v0 rfl rfl) h0
  obtain ⟨B1, n1, c1, zs, rfl, hz, hI⟩ := open_numbers (hval 1 _ v1 rfl rfl) h1
  obtain ⟨X, V, hF⟩ := byF_of hB
  clear hA0 hval0
  refine (walk A0 B1 n0 c0 n1 c1 X V zs W hF hI hn0).mono fun e W' ⟨he, hg⟩ => ?_
  subst he
  exact ⟨_, rfl, post_reads laidOut (by kernel_rfl) hW' rfl (fun _ _ _ => trodAll_mk1 (shut_bool Try.underlying4 _)) (fun _ => rfl) rfl hg (ok_one (by kernel_rfl) rfl (okWide_bool_mk Try.underlying4 _))⟩

theorem over : Rows.linkOrdersRow.holds Try.pinned (OpenSpec.ofChange Rows.linkOrdersSpec) :=
  OpenClaim.holds_of_wide 4 Try.f4 rfl rfl rfl rfl rfl rfl rfl ⟨rfl, rfl, rfl, rfl, rfl⟩ rfl rfl rfl rfl rfl (by kernel_rfl) Try.func4 (by kernel_rfl)
    (of_decide_eq_true (by kernel_rfl)) (by unfold Func.isWrapper; first | (rw [if_pos (by decide +kernel)]; kernel_rfl) | (rw [if_neg (by decide +kernel)]; exact ⟨rfl, rfl⟩))
    (fun os started H enc _ => lifted os started H enc)

theorem proved : Rows.LinkOrdersSaid := over
end Go.Proofs.Ytndgpgciccgapaa.linkOrders
