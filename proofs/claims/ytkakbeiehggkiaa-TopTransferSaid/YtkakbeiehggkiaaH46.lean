/-
  For any bodies, window and rounds of faults the law TopTransfer returns true and leaves its arguments as they were: no condition.
-/
import Derived.Test.YtkakbeiehggkiaaH42
import Derived.Test.YtkakbeiehggkiaaH44
import Derived.Test.YtkakbeiehggkiaaH45
namespace Go.Proofs.Ytkakbeiehggkiaa.topTransfer
open Go.Proofs.Ytkakbeiehggkiaa Go.Proofs.Ytkakbeiehggkiaa.linkTransfers
open Go.ChangeShapes Go.WideShapes Go.ChangeAt Go.RowKit Go.Joins Go.Maps
set_option linter.unusedVariables false
attribute [local go_sem ↓] Go.wp_at_zero Go.wp_at_succ

theorem quietN_le (RR : List (List Ft)) : ∀ j, quietN RR j ≤ j
  | 0 => Nat.le_refl _
  | j + 1 => by
    have h := quietN_le RR j
    by_cases e : Quiet RR j
    · rw [quietN_yes e]; omega
    · rw [quietN_no e]; omega
theorem quiet_past {RR : List (List Ft)} {j : Nat} (h : RR.length ≤ j) : Quiet RR j := .inl (List.getElem?_eq_none h)
theorem quiet_zero {RR : List (List Ft)} {j : Nat} (h : j < RR.length) (h0 : (RR[j]'h).length = 0) : Quiet RR j :=
  .inr (by rw [List.getElem?_eq_getElem h, List.eq_nil_of_length_eq_zero h0])
theorem quiet_not {RR : List (List Ft)} {j : Nat} (h : j < RR.length) (h0 : (RR[j]'h).length ≠ 0) : ¬ Quiet RR j := by
  rintro (e | e)
  · rw [List.getElem?_eq_getElem h] at e
    cases e
  · rw [List.getElem?_eq_getElem h] at e
    injection e with e
    rw [e] at h0
    exact h0 rfl

/-- Transfer of valid arguments, whatever the capacity of no bodies is. -/
theorem transfer_any2 (T n c m c2 : Nat) (A A2 : Option Addr) (X : Nat → List Nat) (V : Nat → Value) (RR : List (List Ft)) (w : World) (hF : ByF w A n X V) (hX : ∀ i, i < n → (X i).length ≤ 1024) (hn : n ≤ 24) (hnc : n ≤ c ∨ n = 0) (hT : 1 ≤ T ∧ T ≤ 64)
    (hR : RdL w A2 m RR) (hm : m ≤ 70) (hR8 : ∀ i (h : i < RR.length), i < 64 → (RR[i]'h).length ≤ 8) :
    Calls Try.prog 47 #[.slice A n c, .int .i64 (T : Int), .slice A2 m c2] w (RetTr w T ((List.range n).map X) RR) :=
  transfer_ok T n c m c2 A A2 X V RR w hF hX hn (by omega) hT hR hm hR8

def TlR (w w3 : World) (d : Nat) (iv : Value) (wr : World) : Prop := ∃ k : Nat, k ≤ d ∧ iv = .int .i64 (k : Int) ∧ Below w3.heap.size w3 wr

set_option maxRecDepth 100000 in
set_option maxHeartbeats 2000000 in
theorem walk {w : World} {A A2 : Option Addr} {n c m c2 : Nat} {win : Int} {RR : List (List Ft)} (h : ∀ i, i < n → ByIn w A i) (hnc : n ≤ c ∨ n = 0) (hnm : n ≤ maxLen) (hR : RdL w A2 m RR) :
    Calls Try.prog 9 #[.slice A n c, .int .i64 win, .slice A2 m c2] w (RetB w true) := by
  obtain ⟨X, V, hF⟩ := byF_of h
  have HL0 := Lib.hid (links_any w)
  by_cases hbad : 20 < n ∨ win < 1 ∨ 64 < win ∨ 70 < m
  · have hd : (20 : Int) < (n : Int) ∨ win < 1 ∨ (64 : Int) < win ∨ (70 : Int) < (m : Int) := by omega
    clear hbad hR hF h
    by_cases h1 : (20 : Int) < (n : Int)
    · go_enter Try.func9, Try.ntmps9
      go_wp2_with fail
      refine HL0.out.mono ?_
      rintro e w1 ⟨rfl, b1⟩
      go_wp2
      go_ret
      exact ⟨rfl, b1⟩
    · by_cases h2 : win < 1
      · go_enter Try.func9, Try.ntmps9
        go_wp2_with fail
        refine HL0.out.mono ?_
        rintro e w1 ⟨rfl, b1⟩
        go_wp2
        go_ret
        exact ⟨rfl, b1⟩
      · by_cases h3 : (64 : Int) < win
        · go_enter Try.func9, Try.ntmps9
          go_wp2_with fail
          refine HL0.out.mono ?_
          rintro e w1 ⟨rfl, b1⟩
          go_wp2
          go_ret
          exact ⟨rfl, b1⟩
        · have h4 : (70 : Int) < (m : Int) := by omega
          go_enter Try.func9, Try.ntmps9
          go_wp2_with fail
          refine HL0.out.mono ?_
          rintro e w1 ⟨rfl, b1⟩
          go_wp2
          go_ret
          exact ⟨rfl, b1⟩
  · have hn : n ≤ 20 := by omega
    have hm : m ≤ 70 := by omega
    obtain ⟨T, rfl⟩ : ∃ T : Nat, win = (T : Int) := ⟨win.toNat, by omega⟩
    have hT : 1 ≤ T ∧ T ≤ 64 := by omega
    have i0 : ¬ (20 : Int) < (n : Int) := by omega
    have i1 : ¬ (T : Int) < 1 := by omega
    have i2 : ¬ (64 : Int) < (T : Int) := by omega
    have i3 : ¬ (70 : Int) < (m : Int) := by omega
    have HA := Lib.hid (And.intro hF hR)
    clear hbad hR hF h hnm
    go_enter Try.func9, Try.ntmps9
    go_wp2
    go_loop [35] (fun iv => ∃ k : Nat, k ≤ n ∧ iv = .int .i64 (k : Int) ∧ ∀ i, i < k → (X i).length ≤ 200) (fun iv => n - (intOf1 iv).toNat)
    case atStart => exact ⟨0, Nat.zero_le _, rfl, fun i hi => absurd hi (by omega)⟩
    case round =>
      obtain ⟨k, hk, rfl, hX⟩ := hrel
      have HXk := Lib.hid hX
      clear hX
      by_cases hkn : k < n
      · obtain ⟨b, o, A', c', rfl, hb, hcell, hv, _, _⟩ := HA.out.1 k hkn
        obtain ⟨L, hL⟩ : ∃ L, L = (X k).length := ⟨_, rfl⟩
        rw [hv, ← hL] at hcell
        have i4 : (k : Int) < (n : Int) := by omega
        have HLk := Lib.hid hL
        clear hv hL
        by_cases h2 : 200 < L
        · have i5 : (200 : Int) < (L : Int) := by omega
          go_wp2_with fail
          refine HL0.out.mono ?_
          rintro e w1 ⟨rfl, b1⟩
          go_wp2
          go_ret
          exact ⟨rfl, b1⟩
        · have i5 : ¬ (200 : Int) < (L : Int) := by omega
          go_wp2
          go_round
          case rel =>
            refine ⟨k + 1, by omega, by go_num, fun i hi => ?_⟩
            by_cases e : i = k
            · rw [e, ← HLk.out]; omega
            · exact HXk.out i (by omega)
          case measure => simp [intOf1]; omega
      · obtain rfl : n = k := by omega
        clear hkn
        have i4 : ¬ (n : Int) < (n : Int) := by omega
        go_wp2
        go_loop [9, 10] (fun qv iv => ∃ i : Nat, i ≤ 64 ∧ iv = .int .i64 (i : Int) ∧ qv = .int .i64 ((quietN RR i : Nat) : Int) ∧ ∀ k (h : k < RR.length), k < i → (RR[k]'h).length ≤ 8) (fun _ iv => 64 - (intOf1 iv).toNat)
        case atStart => exact ⟨0, Nat.zero_le _, rfl, rfl, fun k h hi => absurd hi (by omega)⟩
        case round =>
          obtain ⟨i, hi, rfl, rfl, h8⟩ := hrel
          have H8 := Lib.hid h8
          have hql := quietN_le RR i
          obtain ⟨q, hq⟩ : ∃ q, q = quietN RR i := ⟨_, rfl⟩
          rw [← hq] at hql
          rw [← hq]
          have HQ := Lib.hid hq
          clear h8 hq
          by_cases hi64 : i < 64
          · have i5 : (i : Int) < 64 := by omega
            by_cases him : m ≤ i
            · have i6 : ¬ (i : Int) < (m : Int) := by omega
              have i6' : (m : Int) ≤ (i : Int) := by omega
              go_wp2
              go_round
              case rel =>
                refine ⟨i + 1, by omega, by go_num, ?_, fun k h hk => ?_⟩
                · rw [quietN_yes (quiet_past (by rw [HA.out.2.1]; exact him)), ← HQ.out]; go_num
                · exact H8.out k h (by have := HA.out.2.1; omega)
              case measure => simp [intOf1]; omega
            · have hiR : i < RR.length := by rw [HA.out.2.1]; omega
              obtain ⟨b2, o2, A9, c9, hA2, hb2, hc2, hft⟩ := HA.out.2.2 i hiR
              subst hA2
              obtain ⟨L, hL⟩ : ∃ L, L = (RR[i]'hiR).length := ⟨_, rfl⟩
              rw [← hL] at hc2
              have HLk := Lib.hid hL
              have i6 : (i : Int) < (m : Int) := by omega
              have i6' : ¬ (m : Int) ≤ (i : Int) := by omega
              clear hft hL
              by_cases hL0 : L = 0
              · subst hL0
                go_wp2
                go_round
                case rel =>
                  refine ⟨i + 1, by omega, by go_num, ?_, fun k h hk => ?_⟩
                  · rw [quietN_yes (quiet_zero hiR HLk.out.symm), ← HQ.out]; go_num
                  · by_cases e : k = i
                    · subst e; rw [← HLk.out]; omega
                    · exact H8.out k h (by omega)
                case measure => simp [intOf1]; omega
              · have q0 : ((L : Int) == 0) = false := by simp; omega
                by_cases hL8 : 8 < L
                · have i7 : (8 : Int) < (L : Int) := by omega
                  go_wp2_with fail
                  refine HL0.out.mono ?_
                  rintro e w1 ⟨rfl, b1⟩
                  go_wp2
                  go_ret
                  exact ⟨rfl, b1⟩
                · have i7 : ¬ (8 : Int) < (L : Int) := by omega
                  go_wp2
                  go_round
                  case rel =>
                    refine ⟨i + 1, by omega, by go_num, ?_, fun k h hk => ?_⟩
                    · rw [quietN_no (quiet_not hiR (by rw [← HLk.out]; exact hL0)), ← HQ.out]
                    · by_cases e : k = i
                      · subst e; rw [← HLk.out]; omega
                      · exact H8.out k h (by omega)
                  case measure => simp [intOf1]; omega
          · obtain rfl : i = 64 := by omega
            have hX2 : ∀ i, i < n → (X i).length ≤ 1024 := fun i hi => Nat.le_trans (HXk.out i hi) (by decide)
            have HFo := Lib.hid (foreign_ok T n c m c2 A A2 X V RR w HA.out.1 hX2 (by omega) hT HA.out.2 hm (fun k h hk => H8.out k h hk))
            have HX2 := Lib.hid hX2
            clear hi64 hX2
            go_wp2_with fail
            refine HFo.out.mono ?_
            rintro e w1 ⟨b, r, rfl, b1, hb⟩
            cases b with
            | true =>
              go_wp2_with fail
              refine (links_any w1).mono ?_
              rintro e w2 ⟨rfl, b2⟩
              go_wp2
              go_ret
              exact ⟨rfl, belS b1 b2⟩
            | false =>
              obtain ⟨hN, hH⟩ := hb rfl
              have HB1 := Lib.hid b1
              have HN := Lib.hid (And.intro hN hH)
              clear hb hN hH b1
              go_wp2_with fail
              refine (transfer_any2 T n c m c2 A A2 X V RR w1 (HA.out.1.below HB1.out) HX2.out (by omega) hnc hT (rdL_below HA.out.2 HB1.out) hm (fun k h hk => H8.out k h hk)).mono ?_
              rintro e w3 ⟨dv, r2, rfl, hN2, hD, hb3, hlen⟩
              obtain rfl := isN_one HN.out.1 hN2
              have hBX : ∀ Y ∈ (List.range n).map X, Y.length ≤ 1024 ∧ AllB Y := by
                intro Y hY
                obtain ⟨i, hi, rfl⟩ := List.mem_map.1 hY
                have hi' : i < n := by simpa using hi
                obtain ⟨_, _, _, _, _, _, _, _, hB, _⟩ := HA.out.1 i hi'
                exact ⟨HX2.out i hi', hB⟩
              obtain ⟨d1, d2, d3⟩ := transfer_what hT hBX (by simp; omega) HN.out.1 HN.out.2
              obtain ⟨D, hDe⟩ : ∃ D, D = (trN T ((List.range n).map X) RR r).2.2.2 := ⟨_, rfl⟩
              rw [← hDe] at hD d1 d2 d3
              have hBl : ((List.range n).map X).length = n := by simp
              rw [hBl] at d1 d3
              rw [← HQ.out] at d3
              have hr64 : r ≤ 64 := HN.out.1.1
              have HB3 := Lib.hid (And.intro hb3 (belS HB1.out hb3))
              obtain ⟨Ad, cd, hdv, hcd, hel⟩ := dls_cells hD
              subst hdv
              have hget : ∀ i (h : i < D.length), D[i]'h = ((i : Int), X i, false) := by
                intro i h
                rw [d2 i h]
                have : i < n := by omega
                simp [List.getD, this]
              have HE := Lib.hid (And.intro hel hget)
              obtain ⟨d, hd⟩ : ∃ d, d = D.length := ⟨_, rfl⟩
              rw [← hd] at d1 d3 hcd
              rw [← hd]
              have HD := Lib.hid hd
              obtain ⟨P, hP⟩ : ∃ P, P = q * T := ⟨_, rfl⟩
              have hPl : P ≤ 64 * 64 := by rw [hP]; exact Nat.mul_le_mul hql hT.2
              rw [← hP] at d3
              have hPi : (q : Int) * (T : Int) = (P : Int) := by rw [hP]; push_cast; rfl
              have HD3 := Lib.hid (And.intro d3 (And.intro hPi hPl))
              have j0 : ¬ (n : Int) < (d : Int) := by omega
              have j1 : ¬ (r : Int) < 0 := by omega
              have j2 : ¬ (64 : Int) < (r : Int) := by omega
              clear hN2 hD hb3 hlen hBX hDe hBl hel hget hd hP d2 d3 hPi hPl
              go_wp2
              go_loopw [101] (fun iv wr => TlR w w3 d iv wr) (fun iv _ => d - (intOf1 iv).toNat)
              case atStart => exact ⟨0, Nat.zero_le _, rfl, Below.refl _ _⟩
              case round =>
                obtain ⟨k, hk, rfl, hbw⟩ := hrel
                by_cases hkd : k < d
                · obtain ⟨g, A', n', c', hAd, hg, p0, p1, p2, hr⟩ := HE.out.1 k (by rw [← HD.out]; exact hkd)
                  subst hAd
                  rw [HE.out.2] at p0 p2 hr
                  simp only at p0 p2 hr
                  obtain ⟨b, o, A9, c9, rfl, hb, hcell, hv, hXB, hr2⟩ := HA.out.1 k (by omega)
                  have hball := belS HB3.out.2 hbw
                  have hcell' := (hball.cell (p := ⟨b, o + k, none⟩) hb).trans hcell
                  rw [hv] at hcell' hr2
                  have k0 := (hbw.cell (p := ⟨g, k * 3, none⟩) hg).trans p0
                  have k1 := (hbw.cell (p := ⟨g, k * 3 + 1, none⟩) hg).trans p1
                  have k2 := (hbw.cell (p := ⟨g, k * 3 + 2, none⟩) hg).trans p2
                  obtain ⟨W5, HW5, hw5, HG5, z5⟩ := D0ex wr (k : Int) (.slice A' n' c') false
                  obtain ⟨g0, g1, g2, gf'⟩ := fr_blk HG5.out (Below.refl _ _)
                  have hd5 : Below wr.heap.size wr W5.drew := hw5.drew
                  have T1 := run_string_bytes ((hr.belowM hbw (Nat.le_refl _)).belowM hd5 hbw.size).1
                  have T2 := run_string_bytes ((hr2.belowM hball (Nat.le_refl _)).belowM hd5 hball.size).1
                  have hcell5 := (hw5.cell (p := ⟨b, o + k, none⟩) (Nat.lt_of_lt_of_le hb hball.size)).trans hcell'
                  obtain ⟨L, hL⟩ : ∃ L, L = (X k).length := ⟨_, rfl⟩
                  obtain ⟨S, hS⟩ : ∃ S, S = strB (X k) := ⟨_, rfl⟩
                  rw [← hS] at T1 T2
                  rw [← hL] at T2 hcell5
                  have t1 : (S != S) = false := by
                    have := strEqZ S
                    simp [bne, this]
                  have t2 : ((k : Int) != (k : Int)) = false := by simp
                  have x0 : (0 : Int) ≤ (k : Int) := by omega
                  have x1 : (k : Int) < (d : Int) := by omega
                  have x2 : (k : Int) < (n : Int) := by omega
                  have HBW := Lib.hid (hbw.trans (hd5.mono hbw.size))
                  clear p0 p1 p2 hr hr2 hcell hcell' hv hXB hS hL hbw hball hd5 hw5
                  go_wp2_with fail
                  rw [← HW5.out]
                  go_region
                  go_wp2
                  go_roundw
                  case rel => exact ⟨k + 1, by omega, by go_num, HBW.out⟩
                  case measure => simp [intOf1]; omega
                · obtain rfl : k = d := by omega
                  have HBW := Lib.hid (belS HB3.out.2 hbw)
                  have hPw : wrap64 ((q : Int) * (T : Int)) = (P : Int) := by
                    rw [HD3.out.2.1]
                    have := HD3.out.2.2
                    unfold wrap64
                    omega
                  clear hbw
                  by_cases hPn : P < n
                  · have j3 : (P : Int) < (n : Int) := by omega
                    go_wp2_with fail
                    refine (links_any wr).mono ?_
                    rintro e w5 ⟨rfl, b5⟩
                    go_wp2
                    go_ret
                    exact ⟨rfl, belS HBW.out b5⟩
                  · have j3 : ¬ (P : Int) < (n : Int) := by omega
                    obtain rfl : k = n := HD3.out.1.resolve_left hPn
                    go_wp2_with fail
                    refine (links_any wr).mono ?_
                    rintro e w5 ⟨rfl, b5⟩
                    go_wp2
                    go_ret
                    exact ⟨rfl, belS HBW.out b5⟩

set_option maxRecDepth 100000 in
theorem lifted (os : Os) (started : os.Started) (H : Type) (enc : TypeId × Value → H) :
    ReturnsInHanded {} Try.checked os 9 .any (Rows.topTransferSpec.pre6 enc Try.prog Try.f9 Rows.topTransferRow.domain false) (Rows.topTransferSpec.post enc Try.prog Try.f9 false true false false) := by
  refine returnsInHanded_of_change (C := Try.checked) ownTry started (by kernel_rfl) Try.func9
    (ChangeSpec.witness6 (enc := enc) (C := Try.checked) false ⟨#[], #[.slice none 0 0, .int .i64 0, .slice none 0 0], []⟩ 8 (by kernel_rfl) (by kernel_rfl) (by kernel_rfl) (by kernel_rfl)) ?_
  intro W base args ds gs before hval0 hW hcnd _
  have hval : ∀ (j : Nat) t v, Try.f9.params[j]? = some t → args[j]? = some v → Value.okWide Try.prog W .any base t v := hval0
  have hW' := hW
  obtain ⟨p, q, hA0, hV, rfl, hfz, hnd⟩ := hW
  have hA : DataW.TrodAll enc Try.prog W 0 (fun _ => true) true Try.f9.params.toList args.toList ds p := hA0
  rw [Try.params9] at hA hval
  obtain ⟨v0, v1, v2, d0, d1, d2, p0, p1, p2, rfl, rfl, rfl, h0, h1, h2⟩ := trodAll_three hA
  obtain ⟨rfl, rfl⟩ := trodVars_none hV
  obtain ⟨A0, n0, c0, rfl, hnc, hnm, hB⟩ := open_bodies_c (hval 0 _ v0 rfl rfl) h0
  obtain ⟨win, rfl⟩ := okWide_int Try.underlying3 (hval 1 _ v1 rfl rfl)
  obtain ⟨A1, n1, c1, RR, rfl, hR⟩ := open_rounds (hval 2 _ v2 rfl rfl) h2
  clear hA0 hval0
  refine (walk hB hnc hnm hR).mono fun e W' ⟨he, hg⟩ => ?_
  subst he
  exact ⟨_, rfl, post_reads laidOut (by kernel_rfl) hW' rfl (fun _ _ _ => trodAll_mk1 (shut_bool Try.underlying4 _)) (fun _ => rfl) rfl hg (ok_one (by kernel_rfl) rfl (okWide_bool_mk Try.underlying4 _))⟩

theorem over : Rows.topTransferRow.holds Try.pinned (OpenSpec.ofChange Rows.topTransferSpec) :=
  OpenClaim.holds_of_wide 9 Try.f9 rfl rfl rfl rfl rfl rfl rfl ⟨rfl, rfl, rfl, rfl, rfl⟩ rfl rfl rfl rfl rfl (by kernel_rfl) Try.func9 (by kernel_rfl)
    (of_decide_eq_true (by kernel_rfl)) (by unfold Func.isWrapper; first | (rw [if_pos (by decide +kernel)]; kernel_rfl) | (rw [if_neg (by decide +kernel)]; exact ⟨rfl, rfl⟩))
    (fun os started H enc _ => lifted os started H enc)

theorem proved : Rows.TopTransferSaid := over
end Go.Proofs.Ytkakbeiehggkiaa.topTransfer
