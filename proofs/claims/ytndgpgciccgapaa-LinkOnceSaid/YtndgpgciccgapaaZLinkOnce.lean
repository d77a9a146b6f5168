/-
  For any start and frames the law LinkOnce returns true and leaves its arguments as they were: no condition.
-/
import Derived.Test.YtndgpgciccgapaaZOnce
namespace Go.Proofs.Ytndgpgciccgapaa.linkOnce
open Go.Proofs.Ytndgpgciccgapaa
open Go.ChangeShapes Go.WideShapes Go.ChangeAt Go.RowKit Go.Joins Go.Maps
set_option linter.unusedVariables false
attribute [local go_sem ↓] Go.wp_at_zero Go.wp_at_succ

theorem belS {w W w1 : World} (h0 : Below w.heap.size w W) (h : Below W.heap.size W w1) : Below w.heap.size w w1 := h0.trans (h.mono h0.size)

def InnerRel (w : World) (g mb bb N' N2' m : Nat) (st win nx0 nx nx' : Int) (F' : Hf) (f' : Int → Option Value) (v5 : Value) (Ds : List Dl) (nv jv : Value) (wv : World) : Prop :=
  ∃ j : Nat, jv = .int .i64 (j : Int) ∧ j ≤ m ∧ nv = .int .i64 (nx + (j : Int)) ∧ Hid (Rcv wv g mb N' st win nx' F') ∧ Hid (MapF Try.prog 3 wv bb N2' f') ∧ Hid (DlS wv w.heap.size v5 Ds) ∧
    Hid (wv.heap[w.heap.size]? = some (.cells #[.int .i64 st, .int .i64 win, .int .i64 nx0] 23 (0, 0))) ∧ Below w.heap.size w wv
def OnceRel (w : World) (n g mb bb : Nat) (st win nx0 : Int) (nv iv : Value) (wr : World) : Prop :=
  ∃ (k N N2 : Nat) (nx : Int) (F : Hf) (f : Int → Option Value), iv = .int .i64 (k : Int) ∧ k ≤ n ∧ nv = .int .i64 nx ∧ nx0 ≤ nx ∧ nx ≤ 4294967296 ∧ N ≤ k ∧ N2 ≤ k ∧ Hid (Rcv wr g mb N st win nx F) ∧ Hid (MapF Try.prog 3 wr bb N2 f) ∧
    Hid (OnceF F f nx win) ∧ Hid (wr.heap[w.heap.size]? = some (.cells #[.int .i64 st, .int .i64 win, .int .i64 nx0] 23 (0, 0))) ∧ Below w.heap.size w wr

set_option maxRecDepth 100000 in
set_option maxHeartbeats 4000000 in
theorem walk_in (st win nx0 : Int) (A : Option Addr) (n c : Nat) (w : World) (hn : n ≤ 80) (hF : ∀ i, i < n → FrIW w A i) (hok : okR st win nx0) :
    Calls Try.prog 3 #[.agg #[.int .i64 st, .int .i64 win, .int .i64 nx0], .slice A n c] w (RetB w true) := by
  obtain ⟨W0, HW0, hw0, HG, z0⟩ : ∃ W0, Hid (W0 = w.alloc (.cells #[.int .i64 st, .int .i64 win, .int .i64 nx0] 23)) ∧ Below w.heap.size w W0 ∧
    Hid (W0.heap[w.heap.size]? = some (.cells #[.int .i64 st, .int .i64 win, .int .i64 nx0] 23 (0, 0))) ∧ w.heap.size < W0.heap.size :=
    ⟨_, rfl, (Below.refl _ _).alloc (Nat.le_refl _) _, heap_alloc_new w _, by simp⟩
  obtain ⟨k0, k1, k2, kf⟩ := fr_blk HG.out (Below.refl _ _)
  have hni : (n : Int) ≤ 80 := by omega
  have HF := Lib.hid hF
  have hmm := @run_makeMap Try.prog
  have HN := Lib.hid (new_yes st win nx0 W0 hok)
  have hok1 := hok.2.1
  have hok2 := hok.2.2
  clear hF hok kf
  go_enter Try.func3, Try.ntmps3
  go_wp2_with fail
  rw [← HW0.out]
  refine HN.out.mono ?_
  rintro e w1 ⟨g, mb, rfl, hR1, hg, hm, b1⟩
  obtain ⟨k0', k1', k2', kf'⟩ := fr_blk HG.out b1
  have HG1 := Lib.hid ((b1.block _ z0).trans HG.out)
  have hb1 := belS hw0 b1
  have hz1 : w.heap.size < w1.heap.size := Nat.lt_of_lt_of_le z0 b1.size
  have hap := rcv_apart hR1
  have hgm := hap.1
  have hg1 := hap.2.1
  have hm1 := hap.2.2
  have hg0 : w.heap.size < g := by omega
  have hm0 : w.heap.size < mb := by omega
  obtain ⟨bb, hbb⟩ : ∃ bb, bb = w1.heap.size := ⟨_, rfl⟩
  have h0 : OnceRel w n g mb bb st win nx0 (.int .i64 nx0) (.int .i64 0) (w1.alloc (.map #[] 0)) := by
    refine ⟨0, 0, 0, nx0, fun _ => none, fun _ => none, rfl, Nat.zero_le _, rfl, by omega, by omega, Nat.le_refl _, Nat.le_refl _, ?_, ?_, ⟨fun k x h => (by cases h), fun k hk => rfl⟩, Lib.hid ((Below.heap_alloc _ _ _ hz1).trans HG1.out), hb1.alloc (Nat.le_of_lt hz1) _⟩
    · exact rcv_below hR1 ((Below.refl _ _).alloc (Nat.le_refl _) _)
    · rw [hbb]; exact mapF_made _ _ _
  have H0 := Lib.hid h0
  have HBB := Lib.hid hbb
  have hgb : g < bb := by omega
  have hmbb : mb < bb := by omega
  clear h0 hap hR1 b1 hb1 hbb kf' k0 k1 k2 hg hm hg1 hm1
  go_wp2
  rw [← HBB.out]
  go_loopw [7, 77] (fun nv iv wr => OnceRel w n g mb bb st win nx0 nv iv wr) (fun _ iv _ => n - (intOf1 iv).toNat)
  case atStart => exact H0.out
  case round =>
    obtain ⟨k, N, N2, nx, F, f, rfl, hk, rfl, hnx0, hnx, hN, hN2, HR, HM, HO, HS, hbw⟩ := hrel
    by_cases hkn : k < n
    · obtain ⟨b, o, fst, sq, A', n', c', X, rfl, hb, p0, p1, p2, wst, wsq, hXB, hX⟩ := HF.out k hkn
      have i1 : (0 : Int) ≤ (k : Int) := by omega
      have i2 : (k : Int) < (n : Int) := by omega
      have q0 := (hbw.cell (p := ⟨b, o + k * 3, none⟩) hb).trans p0
      have q1 := (hbw.cell (p := ⟨b, o + k * 3 + 1, none⟩) hb).trans p1
      have q2 := (hbw.cell (p := ⟨b, o + k * 3 + 2, none⟩) hb).trans p2
      have HX0 := Lib.hid hX
      have HWQ := Lib.hid wsq
      have hs0 := hbw.size
      obtain ⟨W2, HW2, hw2, HG2, z2⟩ := F0ex wr fst sq (.slice A' n' c')
      have hbW2 := belS hbw hw2
      have HBW2 := Lib.hid hbW2
      have HR2 := Lib.hid (rcv_below HR.out hw2)
      have HM2 := Lib.hid (HM.out.only (S := fun _ => False) (only_below hw2) (fun h => h))
      obtain ⟨ce, hce⟩ : ∃ ce, takeE st win nx F fst sq n' = ce := ⟨_, rfl⟩
      have HT := Lib.hid (take_any g mb N st win nx fst sq F X A' n' c' w.heap.size W2 HR2.out HO.out.inW (by omega) ⟨by omega, hnx⟩ hok1 (hX.belowM hbW2 (Nat.le_refl _)) (Nat.le_trans hs0 hw2.size) ce hce)
      have HCE := Lib.hid hce
      have hswr : w.heap.size < wr.heap.size := (Array.getElem?_eq_some_iff.1 HS.out).1
      clear p0 p1 p2 wst wsq hXB hX hbw hbW2 hce
      go_wp2_with fail
      rw [← HW2.out]
      refine HT.out.mono ?_
      rintro e w3 hT
      have hgwr : g < wr.heap.size ∧ mb < wr.heap.size := ⟨(rcv_apart HR.out).2.1, (rcv_apart HR.out).2.2⟩
      have hbwr : bb < wr.heap.size := HM.out.lt
      clear q0 q1 q2
      rcases hT with ⟨hc0, rfl, b3⟩ | ⟨hc0, v5, m, N', rfl, q1, q2', q3, q4, q5, q6, q7⟩
      · have HR3 := Lib.hid (rcv_below HR2.out b3)
        have HM3 := Lib.hid (HM2.out.only (S := fun _ => False) (only_below b3) (fun h => h))
        obtain ⟨r0, r1, r2, rf⟩ := fr_blk HG2.out b3
        have HB3 := Lib.hid (belS HBW2.out b3)
        have HS3 := Lib.hid ((b3.block _ (Nat.lt_of_lt_of_le hswr hw2.size)).trans ((hw2.block w.heap.size hswr).trans HS.out))
        obtain ⟨vv, hvv⟩ : ∃ v, (f sq).getD (.string ⟨#[]⟩) = v := ⟨_, rfl⟩
        obtain ⟨cc, hcc⟩ : ∃ c, (f sq).isSome = c := ⟨_, rfl⟩
        have HV := Lib.hid (And.intro hvv hcc)
        have d0 : (ce == 0) = false := by simpa using hc0
        clear hvv hcc b3 rf
        go_wp2_with (at_lookup
                     refine wpList_look_raw rfl (.tmp 88) (.tmp 90) rfl uI uMS (zeroS _) rfl HM3.out sq rfl HWQ.out vv cc HV.out.1 HV.out.2 ?_)
        go_wp2
        go_loopw [7, 131] (fun nv jv wv => nv = .int .i64 nx ∧ jv = .int .i64 0 ∧ wv = w3) (fun _ _ _ => 0)
        case atStart => exact ⟨rfl, rfl, rfl⟩
        case round =>
          obtain ⟨rfl, rfl, rfl⟩ := hrel
          go_wp2
          go_roundw
          case rel => exact ⟨k + 1, N, N2, nx, F, f, by go_num, by omega, rfl, hnx0, hnx, by omega, by omega, HR3, HM3, HO, HS3, HB3.out⟩
          case measure => simp [intOf1]; omega
      · subst hc0
        obtain ⟨e1, e2, e3, e4, e5⟩ := takeE_zero HCE.out
        subst e2
        have e6 : f sq = none := by rw [HO.out.2 sq e3, e4]; rfl
        have hap3 := rcv_apart q5
        have HR3 := Lib.hid q5
        have HM3 := Lib.hid (HM2.out.only q7 (by omega))
        have hG3 := (q7.block wr.heap.size z2 (by omega)).trans HG2.out
        obtain ⟨r0, r1, r2, rf⟩ := fr_blk hG3 (Below.refl _ _)
        have hb3 : Below w.heap.size w w3 := HBW2.out.trans (q7.below (Nat.le_trans hs0 hw2.size) (by omega))
        have hS3 := (hb3.trans (Below.refl _ _)).size
        have hGs : w3.heap[w.heap.size]? = some (.cells #[.int .i64 fst, .int .i64 win, .int .i64 nx0] 23 (0, 0)) := by
          exact (q7.block w.heap.size (Nat.lt_of_lt_of_le hswr hw2.size) (by omega)).trans ((hw2.block w.heap.size hswr).trans HS.out)
        obtain ⟨s0, s1, s2, sf⟩ := fr_blk hGs (Below.refl _ _)
        have TS := run_string_bytes (HX0.out.belowM hb3 (Nat.le_refl _)).1
        have HGs := Lib.hid hGs
        have HD := Lib.hid (And.intro q6 (And.intro q1 (And.intro q2' (And.intro q3 q4))))
        have HB3 := Lib.hid hb3
        have HE6 := Lib.hid e6
        have HE1 := Lib.hid (And.intro e1 e4)
        have d1 : (fst != fst) = false := by simp
        have g1 : ¬ sq < nx := by omega
        have g2 : ¬ win ≤ sq - nx := by omega
        have w1' : IntKind.i64.wrap (sq - nx) = sq - nx := by
          have := e1.2.2.2.1
          rw [IntKind.wrap_i64]
          omega
        clear rf sf hG3 hGs e1 e4 e6 q1 q2' q3 q4 q5 q6 q7 hb3
        go_wp2_with (first
          | (at_lookup
             refine wpList_look_raw rfl (.tmp 88) (.tmp 90) rfl uI uMS (zeroS _) rfl HM3.out sq rfl HWQ.out (.string ⟨#[]⟩) false (by rw [HE6.out]; rfl) (by rw [HE6.out]; rfl) ?_)
          | (at_mapUpdate
             refine wpList_put_raw rfl (.tmp 123) (.tmp 125) (.tmp 128) rfl uI uMS rfl HM3.out (by unfold maxLen; omega) sq rfl HWQ.out HE6.out (.string (strB X)) rfl ?_))
        intro w5 hM5 ht
        obtain ⟨wo, hwo⟩ : ∃ x, x = wr := ⟨_, rfl⟩
        subst hwo
        obtain ⟨A5, c5, hv5, hc5, _⟩ := dls_cells HD.out.1
        rw [dsOf_len] at hv5 hc5
        subst hv5
        obtain ⟨F1, hF1⟩ : ∃ F1, F1 = putH F sq X false := ⟨_, rfl⟩
        have hone := once_ok (X := X) HO.out e3 e5 HE1.out.1.2.2.2.1 hnx HD.out.2.1 HD.out.2.2.1
        have hgb1 : g ≠ bb := by omega
        have hmb1 : mb ≠ bb := by omega
        have hS5 := (mapTurned_other ht (show w.heap.size ≠ bb by omega)).trans HGs.out
        have hb5 : Below w.heap.size w w5 := HB3.out.trans ((only_turned (S := fun k => k = bb) ht rfl).below HB3.out.size (by omega))
        have hD5 : DlS w5 w.heap.size (.slice A5 m c5) (dsOf F1 nx m) := by
          rw [hF1]
          exact dls_base (dls_turned HD.out.1 ht) (Nat.le_trans hs0 hw2.size)
        have hR5 := rcv_turned HR3.out ht hgb1 hmb1
        rw [← hF1] at hone hR5
        obtain ⟨f', hf'⟩ : ∃ f', f' = (fun z => if z = sq then some (Value.string (strB X)) else f z) := ⟨_, rfl⟩
        rw [← hf'] at hone hM5
        have hone1 : ∀ i : Nat, i < m → ∃ Y, F1 (nx + i) = some (Y, false) ∧ f' (nx + i) = some (.string (strB Y)) := by
          rw [hf']; exact hone.1
        obtain ⟨nx', hnx'⟩ : ∃ nx', nx' = nx + (m : Int) := ⟨_, rfl⟩
        rw [← hnx'] at hR5 hone
        have hm64 : (m : Int) ≤ 64 := by have := HD.out.2.2.2.1; omega
        have HN5 := Lib.hid (And.intro HD.out.2.2.2.2 (And.intro hnx' (And.intro hone.2.1 hone.2.2)))
        have H1 := Lib.hid hone1
        have HI0 : InnerRel w g mb bb N' (N2 + 1) m fst win nx0 nx nx' (cutF F1 nx') f' (.slice A5 m c5) (dsOf F1 nx m) (.int .i64 nx) (.int .i64 0) w5 :=
          ⟨0, rfl, Nat.zero_le _, by simp, hR5, hM5, hD5, hS5, hb5⟩
        have HI := Lib.hid HI0
        clear hF1 hone hf' hone1 hnx' HI0 hR5 hM5 hD5 hS5 hb5 ht hgb1 hmb1
        go_wp2
        go_loopw [7, 131] (fun nv jv wv => InnerRel w g mb bb N' (N2 + 1) m fst win nx0 nx nx' (cutF F1 nx') f' (.slice A5 m c5) (dsOf F1 nx m) nv jv wv) (fun _ jv _ => m - (intOf1 jv).toNat)
        case atStart => exact HI.out
        case round =>
          obtain ⟨j, rfl, hj, rfl, HR6, HM6, HD6, HS6, hb6⟩ := hrel
          by_cases hjm : j < m
          · obtain ⟨Y, hY1, hY2⟩ := H1.out j hjm
            obtain ⟨A6, c6, hv6, hc6, hcell6⟩ := dls_cells HD6.out
            rw [dsOf_len] at hv6 hc6
            injection hv6 with hA6 _ hc6'
            subst hA6
            obtain ⟨g5, A7, n7, c7, hA5, hg5, p0, p1, p2, hRB⟩ := hcell6 j (by rw [dsOf_len]; exact hjm)
            rw [dsOf_get, hY1] at p0 p2 hRB
            simp only [Option.getD_some] at p0 p2 hRB
            subst hA5
            have x0 : (0 : Int) ≤ (j : Int) := by omega
            have x1 : (j : Int) < (m : Int) := by omega
            obtain ⟨W7, HW7, hw7, HG7, z7⟩ := D0ex wr (nx + j) (.slice A7 n7 c7) false
            obtain ⟨r0', r1', r2', rf'⟩ := fr_blk HG7.out (Below.refl _ _)
            have HR7 := Lib.hid (rcv_below HR6.out hw7)
            have HM7 := Lib.hid (HM6.out.only (S := fun _ => False) (only_below hw7) (fun h => h))
            have HD7 := Lib.hid (dls_below HD6.out hw7)
            have HS7 := Lib.hid ((hw7.block _ (Array.getElem?_eq_some_iff.1 HS6.out).1).trans HS6.out)
            have HB7 := Lib.hid (belS hb6 hw7)
            have TS7 := run_string_bytes (hRB.belowM hw7 (Nat.le_refl _)).1
            have HFY := Lib.hid hY2
            obtain ⟨S, hS⟩ : ∃ S, S = strB Y := ⟨_, rfl⟩
            rw [← hS] at TS7 HFY
            have t1 : (S != S) = false := by
              have := strEqZ S
              simp [bne, this]
            have t2 : (nx + (j : Int) != nx + (j : Int)) = false := by simp
            have HWJ := Lib.hid (wfI (k := nx + (j : Int)) (by omega) (by omega))
            have RL := HM7.out.look uI uMS (zeroS _) HWJ.out
            rw [HFY.out] at RL
            simp only [Option.getD_some, Option.isSome_some] at RL
            rw [HW7.out] at RL TS7
            clear hS hY1 hY2 hRB rf' hw7 hb6 hcell6
            go_wp2
            go_roundw
            case rel =>
              rw [← HW7.out]
              exact ⟨j + 1, by go_num, by omega, by rw [show nx + (j : Int) + 1 = nx + ((j + 1 : Nat) : Int) by push_cast; omega], HR7, HM7, HD7, HS7, HB7.out⟩
            case measure => simp [intOf1]; omega
          · obtain rfl : j = m := by omega
            go_wp2
            go_roundw
            case rel => exact ⟨k + 1, N', N2 + 1, nx', cutF F1 nx', f', by go_num, by omega, by rw [HN5.out.2.1], by have := HN5.out.2.1; omega, HN5.out.2.2.2, by have := HN5.out.1; omega, by omega, HR6, HM6, HN5.out.2.2.1, HS6, hb6⟩
            case measure => simp [intOf1]; omega
    · obtain rfl : k = n := by omega
      clear hkn
      have e1 := once_none HO.out
      have HE1 := Lib.hid e1
      have HWN := Lib.hid (wfI (k := nx) (by omega) (by omega))
      have HNX := Lib.hid (next_any g mb N st win nx F wr HR.out (by omega))
      have HBW := Lib.hid hbw
      have t2 : (nx == nx) = true := by simp
      clear e1 hbw
      go_wp2_with (at_lookup
                   refine wpList_look_raw rfl (.tmp 166) (.tmp 167) rfl uI uMS (zeroS _) rfl HM.out nx rfl HWN.out (.string ⟨#[]⟩) false (by rw [HE1.out]; rfl) (by rw [HE1.out]; rfl) ?_)
      go_wp2_with fail
      refine HNX.out.mono ?_
      rintro e w3 ⟨rfl, rfl⟩
      go_wp2_with fail
      refine (awake_any _).mono ?_
      rintro e w4 ⟨rfl, b4⟩
      go_wp2
      go_ret
      exact ⟨rfl, belS HBW.out b4⟩

set_option maxRecDepth 100000 in
set_option maxHeartbeats 1000000 in
theorem walk_bad (st win nx0 : Int) (A : Option Addr) (n c : Nat) (w : World) (hn : n ≤ 80) (h : ¬ okR st win nx0) :
    Calls Try.prog 3 #[.agg #[.int .i64 st, .int .i64 win, .int .i64 nx0], .slice A n c] w (RetB w true) := by
  obtain ⟨W0, HW0, hw0, HG, z0⟩ : ∃ W0, Hid (W0 = w.alloc (.cells #[.int .i64 st, .int .i64 win, .int .i64 nx0] 23)) ∧ Below w.heap.size w W0 ∧
    Hid (W0.heap[w.heap.size]? = some (.cells #[.int .i64 st, .int .i64 win, .int .i64 nx0] 23 (0, 0))) ∧ w.heap.size < W0.heap.size :=
    ⟨_, rfl, (Below.refl _ _).alloc (Nat.le_refl _) _, heap_alloc_new w _, by simp⟩
  obtain ⟨k0, k1, k2, kf⟩ := fr_blk HG.out (Below.refl _ _)
  have hni : (n : Int) ≤ 80 := by omega
  have HN := Lib.hid (new_no st win nx0 W0 h)
  have hq : st < 0 ∨ (0 ≤ st ∧ 255 < st) ∨ (0 ≤ st ∧ st ≤ 255 ∧ win < 1) ∨ (0 ≤ st ∧ st ≤ 255 ∧ 1 ≤ win ∧ 64 < win) ∨ (0 ≤ st ∧ st ≤ 255 ∧ 1 ≤ win ∧ win ≤ 64 ∧ nx0 < 0) ∨ (0 ≤ st ∧ st ≤ 255 ∧ 1 ≤ win ∧ win ≤ 64 ∧ 0 ≤ nx0 ∧ 4294967295 < nx0) := by
    unfold okR at h
    omega
  clear h kf
  rcases hq with h1 | ⟨h1, h2⟩ | ⟨h1, h2, h3⟩ | ⟨h1, h2, h3, h4⟩ | ⟨h1, h2, h3, h4, h5⟩ | ⟨h1, h2, h3, h4, h5, h6⟩
  all_goals
    go_enter Try.func3, Try.ntmps3
    go_wp2_with fail
    rw [← HW0.out]
    refine HN.out.mono ?_
    rintro e w1 ⟨rfl, rfl⟩
    go_wp2_with fail
    refine (awake_any _).mono ?_
    rintro e w4 ⟨rfl, b4⟩
    go_wp2
    go_ret
    exact ⟨by simp [*], belS hw0 b4⟩

set_option maxRecDepth 100000 in
theorem walk (st win nx0 : Int) (A : Option Addr) (n c : Nat) (w : World) (hF : ∀ i, i < n → FrIW w A i) :
    Calls Try.prog 3 #[.agg #[.int .i64 st, .int .i64 win, .int .i64 nx0], .slice A n c] w (RetB w true) := by
  by_cases hn : n ≤ 80
  · by_cases hok : okR st win nx0
    · exact walk_in st win nx0 A n c w hn hF hok
    · exact walk_bad st win nx0 A n c w hn hok
  · have h1 : (80 : Int) < (n : Int) := by omega
    go_enter Try.func3, Try.ntmps3
    go_wp2_with fail
    refine (awake_any _).mono ?_
    rintro e w7 ⟨rfl, b7⟩
    go_wp2
    go_ret
    exact ⟨rfl, belS ((Below.refl _ _).alloc (Nat.le_refl _) _) b7⟩

theorem cellsSt : Try.prog.cellsOf 23 = 3 := by kernel_rfl
set_option maxRecDepth 100000 in
theorem open_start {H : Type} {enc : TypeId × Value → H} {W : World} {b : Nat} {v : Value} {d : DataW H} {ps : List MemPlace}
    (hok : Value.okWide Try.prog W .any b 23 v) (h : DataW.Trod enc Try.prog W 0 (fun _ => true) true 23 v d ps) :
    ∃ st win nx, v = .agg #[.int .i64 st, .int .i64 win, .int .i64 nx] := by
  obtain ⟨c0, c1, c2, y0, y1, y3, m, rfl, rfl, rfl, hy0, hy1, hy3⟩ := open_agg3 Try.underlying23 (by kernel_rfl) cellsSt hok h
  obtain ⟨st, e0, rfl, wst⟩ := DataW.trod_int Try.underlying3 hy0
  obtain ⟨sq, e1, rfl, wsq⟩ := DataW.trod_int Try.underlying3 hy1
  obtain ⟨nx, e2, rfl, wnx⟩ := DataW.trod_int Try.underlying3 hy3
  simp at e0 e1 e2
  subst e0 e1 e2
  exact ⟨st, sq, nx, rfl⟩

set_option maxRecDepth 100000 in
theorem lifted (os : Os) (started : os.Started) (H : Type) (enc : TypeId × Value → H) :
    ReturnsInHanded {} Try.checked os 3 .any (Rows.linkOnceSpec.pre6 enc Try.prog Try.f3 Rows.linkOnceRow.domain false) (Rows.linkOnceSpec.post enc Try.prog Try.f3 false true false false) := by
  refine returnsInHanded_of_change (C := Try.checked) ownTry started (by kernel_rfl) Try.func3
    (ChangeSpec.witness6 (enc := enc) (C := Try.checked) false ⟨#[], #[.agg #[.int .i64 0, .int .i64 0, .int .i64 0], .slice none 0 0], []⟩ 8 (by kernel_rfl) (by kernel_rfl) (by kernel_rfl) (by kernel_rfl)) ?_
  intro W base args ds gs before hval0 hW hcnd _
  have hval : ∀ (j : Nat) t v, Try.f3.params[j]? = some t → args[j]? = some v → Value.okWide Try.prog W .any base t v := hval0
  have hW' := hW
  obtain ⟨p, q, hA0, hV, rfl, hfz, hnd⟩ := hW
  have hA : DataW.TrodAll enc Try.prog W 0 (fun _ => true) true Try.f3.params.toList args.toList ds p := hA0
  rw [Try.params3] at hA hval
  obtain ⟨v0, v1, d0, d1, p0, p1, rfl, rfl, rfl, h0, h1⟩ := trodAll_two hA
  obtain ⟨rfl, rfl⟩ := trodVars_none hV
  obtain ⟨st, win, nx, rfl⟩ := open_start (hval 0 _ v0 rfl rfl) h0
  obtain ⟨A1, n1, c1, rfl, hF⟩ := open_framesW (hval 1 _ v1 rfl rfl) h1
  clear hA0 hval0
  refine (walk st win nx A1 n1 c1 W hF).mono fun e W' ⟨he, hg⟩ => ?_
  subst he
  exact ⟨_, rfl, post_reads laidOut (by kernel_rfl) hW' rfl (fun _ _ _ => trodAll_mk1 (shut_bool Try.underlying4 _)) (fun _ => rfl) rfl hg (ok_one (by kernel_rfl) rfl (okWide_bool_mk Try.underlying4 _))⟩

theorem over : Rows.linkOnceRow.holds Try.pinned (OpenSpec.ofChange Rows.linkOnceSpec) :=
  OpenClaim.holds_of_wide 3 Try.f3 rfl rfl rfl rfl rfl rfl rfl ⟨rfl, rfl, rfl, rfl, rfl⟩ rfl rfl rfl rfl rfl (by kernel_rfl) Try.func3 (by kernel_rfl)
    (of_decide_eq_true (by kernel_rfl)) (by unfold Func.isWrapper; first | (rw [if_pos (by decide +kernel)]; kernel_rfl) | (rw [if_neg (by decide +kernel)]; exact ⟨rfl, rfl⟩))
    (fun os started H enc _ => lifted os started H enc)

theorem proved : Rows.LinkOnceSaid := over
end Go.Proofs.Ytndgpgciccgapaa.linkOnce
