/-
  For any samples and any detector the law WaveChains returns true and leaves its arguments as they were: no condition.
-/
import Derived.Test.YtkcagifljelfoaaVAny
import Derived.Test.YtkcagifljelfoaaVChn
import Derived.Deep.CutRange
import Derived.BigQuiet
namespace Go.Proofs.Ytkcagifljelfoaa.waveChains
open Go.Proofs.Ytkcagifljelfoaa
open Go.ChangeShapes Go.WideShapes Go.ChangeAt Go.RowKit Go.Joins
set_option linter.unusedVariables false

theorem bdn {B : Nat} {a w : World} (h : Below B a w) (n : Nat) : Below B a (w.drewN n) := h.trans ⟨rfl, rfl, rfl, Nat.le_refl _, fun _ _ => rfl⟩
set_option maxRecDepth 100000 in
set_option maxHeartbeats 1000000 in
theorem valid_any (zs : List Int) (A : Option Addr) (n c B : Nat) (w : World) (hx : IW w B (.slice A n c) zs) :
    Calls Try.prog 26 #[.slice A n c] w (RetSame w (decide (okZ zs))) := by
  have hl := Lib.hid hx.len
  have hcap := hx.cap
  unfold maxLen at hcap
  have HX := Lib.hid hx
  clear hx
  by_cases h256 : 256 < n
  · go_enter Try.func26, Try.ntmps26
    go_wp2
    go_ret
    have := hl.out
    have h2 : ¬ okZ zs := fun h => by have := h.1; omega
    exact ⟨by rw [decide_eq_false h2]; rfl, rfl⟩
  · go_enter Try.func26, Try.ntmps26
    go_wp2
    go_loopw [3] (fun iv wr => ∃ k : Nat, k ≤ n ∧ iv = .int .i64 (k : Int) ∧ Hid (∀ j, j < k → 0 ≤ ith zs j ∧ ith zs j ≤ 1023) ∧ wr = w) (fun iv _ => n - (intOf iv).toNat)
    case atStart => exact ⟨0, Nat.zero_le _, rfl, Lib.hid (fun j hj => absurd hj (by omega)), rfl⟩
    case round =>
      obtain ⟨k, hk, rfl, hall, rfl⟩ := hrel
      by_cases hlt : k < n
      · obtain ⟨b, o, rfl, hb, hc⟩ := HX.out.at_ (by omega)
        have hck := hc k hlt
        obtain ⟨x, hx⟩ : ∃ x, ith zs k = x := ⟨_, rfl⟩
        rw [hx] at hck
        have HK := Lib.hid hx
        clear hx hc
        by_cases h0 : x < 0
        · go_wp2
          go_ret
          refine ⟨?_, rfl⟩
          have : ¬ okZ zs := fun h => by have := h.ith (j := k) (by have := hl.out; omega); rw [HK.out] at this; omega
          rw [decide_eq_false this]; rfl
        · by_cases h1 : 1023 < x
          · go_wp2
            go_ret
            refine ⟨?_, rfl⟩
            have : ¬ okZ zs := fun h => by have := h.ith (j := k) (by have := hl.out; omega); rw [HK.out] at this; omega
            rw [decide_eq_false this]; rfl
          · go_wp2
            go_roundw
            case rel =>
              refine ⟨k + 1, by omega, by simp, Lib.hid (fun j hj => ?_), by first | rfl | trivial⟩
              by_cases e : j = k
              · subst e; rw [HK.out]; omega
              · exact hall.out j (by omega)
            case measure => simp [intOf]; omega
      · obtain rfl : k = n := by omega
        go_wp2
        go_ret
        refine ⟨?_, rfl⟩
        have : okZ zs := by
          refine ⟨by have := hl.out; omega, fun x hx => ?_⟩
          obtain ⟨j, hj, rfl⟩ := List.getElem_of_mem hx
          rw [← ith_lt hj]
          exact hall.out j (by have := hl.out; omega)
        rw [decide_eq_true this]; rfl


set_option maxRecDepth 100000 in
set_option maxHeartbeats 8000000 in
theorem walk (A : Option Addr) (n c : Nat) (L : List Int) (lv dp st dl : Int) (w : World) (hx : IW w w.heap.size (.slice A n c) L) :
    Calls Try.prog 7 #[.slice A n c, .agg #[.int .i64 lv, .int .i64 dp, .int .i64 st, .int .i64 dl]] w (RetB w true) := by
  obtain ⟨W0, hW0⟩ : ∃ W0, W0 = w.alloc (.cells #[.int .i64 lv, .int .i64 dp, .int .i64 st, .int .i64 dl] 42) := ⟨_, rfl⟩
  have hb0 : Below w.heap.size w W0 := by rw [hW0]; exact (Below.refl _ w).alloc (Nat.le_refl _) _
  have g0 : W0.heap[w.heap.size]? = some (.cells #[.int .i64 lv, .int .i64 dp, .int .i64 st, .int .i64 dl] 42 (0, 0)) := by rw [hW0]; exact heap_alloc_new w _
  have m0 : ∀ j v, (#[Value.int .i64 lv, .int .i64 dp, .int .i64 st, .int .i64 dl] : Array Value)[j]? = some v → (w.alloc (.cells #[.int .i64 lv, .int .i64 dp, .int .i64 st, .int .i64 dl] 42)).cell? ⟨w.heap.size, j, none⟩ = some v := fun j v h => built_cells w _ _ j v h
  have p0 := m0 0 _ rfl
  have p1 := m0 1 _ rfl
  have p2 := m0 2 _ rfl
  have p3 := m0 3 _ rfl
  have hl := Lib.hid hx.len
  have hV := valid_any L A n c _ W0 (hx.below hb0)
  have HX := Lib.hid (And.intro hx (And.intro hb0 g0))
  have HW0 := Lib.hid hW0
  rw [HW0.out] at hV
  clear hx hb0 g0 hW0 m0
  unfold RetSame at hV
  by_cases hok : okZ L
  · rw [decide_eq_true hok] at hV
    by_cases hd : okD ⟨lv, dp, st, dl⟩
    · have hF := fine_yes lv dp st dl hd W0
      have HD := Lib.hid hd
      have hdp := hd.2.2.1
      have hlv1 := hd.1
      have hlv2 := hd.2.1
      simp only at hdp hlv1 hlv2
      clear hd
      have HO := Lib.hid hok
      have h256 : n ≤ 256 := by have := hok.1; have := hl.out; omega
      clear hok
      rcases Nat.eq_zero_or_pos n with hn | hn
      · subst hn
        go_enter Try.func7, Try.ntmps7
        go_wp2_with (first
          | (go_at_call 26; refine hV.mono ?_; rintro en w' ⟨rfl, rfl⟩)
          | (go_at_call 27; rw [← HW0.out]; refine hF.mono ?_; rintro en w1 ⟨rfl, hb1⟩; have HB1 := Lib.hid (HX.out.2.1.trans (hb1.mono HX.out.2.1.size)); clear hb1 p0 p1 p2 p3))
        refine (first_any _).mono ?_
        rintro e w2 ⟨rfl, hb2⟩
        go_wp2
        go_ret
        exact ⟨rfl, HB1.out.trans (hb2.mono HB1.out.size)⟩
      · have hne : L ≠ [] := fun h => by have := hl.out; rw [h] at this; simp at this; omega
        have HNE := Lib.hid hne
        have hmr := HO.out.2 _ (med_mem hne)
        clear hne
        go_enter Try.func7, Try.ntmps7
        go_wp2_with (first
          | (go_at_call 26; refine hV.mono ?_; rintro en w' ⟨rfl, rfl⟩)
          | (go_at_call 27; rw [← HW0.out]; refine hF.mono ?_; rintro en w1 ⟨rfl, hb1⟩; have k1 := (hb1.block _ (Array.getElem?_eq_some_iff.1 HX.out.2.2).1).trans HX.out.2.2; have q0 : w1.cell? ⟨w.heap.size, 0, none⟩ = some (.int .i64 lv) := cell_of_row _ _ _ _ _ _ k1; have q1 : w1.cell? ⟨w.heap.size, 1, none⟩ = some (.int .i64 dp) := cell_of_row _ _ _ _ _ _ k1; have q2 : w1.cell? ⟨w.heap.size, 2, none⟩ = some (.int .i64 st) := cell_of_row _ _ _ _ _ _ k1; have q3 : w1.cell? ⟨w.heap.size, 3, none⟩ = some (.int .i64 dl) := cell_of_row _ _ _ _ _ _ k1; have HB1 := Lib.hid (And.intro (HX.out.2.1.trans (hb1.mono HX.out.2.1.size)) k1); clear hb1 p0 p1 p2 p3 k1))
        have hx1 := (HX.out.1.below HB1.out.1).more HB1.out.1.size
        have hE := echoes_ok L HO.out HNE.out lv dp st dl HD.out A n c w1 hx1
        obtain ⟨R, hR, hR15, hRc⟩ : ∃ R, echF L ⟨lv, dp, st, dl⟩ = R ∧ R.length ≤ 15 ∧ ∀ i (h : i < R.length), chE L (med L + lv) L.length (R[i]'h) ∧ (begZ L (med L + lv) (R[i]'h).fr ∨ ∃ h0 : 0 < i, (R[i - 1]'(by omega)).to = (R[i]'h).fr) ∧
            (endZ L (med L + lv) L.length (R[i]'h).to ∨ (i + 1 = R.length ∧ R.length = 15) ∨ ∃ h1 : i + 1 < R.length, (R[i + 1]'h1).fr = (R[i]'h).to) := ⟨_, rfl, echF_ch hdp⟩
        rw [hR] at hE
        have HK := Lib.hid hRc
        clear hRc hR hx1
        refine hE.mono ?_
        rintro en w2 ⟨v2, rfl, ⟨A2, c2, rfl, r1, r2, r3⟩, hb2⟩
        have HB2 := Lib.hid (And.intro (HB1.out.1.trans (hb2.mono HB1.out.1.size)) (And.intro r3 ((hb2.block _ (Array.getElem?_eq_some_iff.1 HB1.out.2).1).trans HB1.out.2)))
        obtain ⟨NE, hNE⟩ : ∃ N, R.length = N := ⟨_, rfl⟩
        have HN := Lib.hid hNE
        rw [hNE] at r1 hR15 ⊢
        unfold maxLen at r2
        clear hNE hE r3 hb2 q0 q1 q2 q3
        have hB := base_ok L A n c w2 ((HX.out.1.below HB2.out.1).more HB2.out.1.size) HNE.out HO.out
        obtain ⟨m, hm⟩ : ∃ m, med L = m := ⟨_, rfl⟩
        rw [hm] at hB hmr
        have HM := Lib.hid hm
        clear hm
        go_wp2_with (go_at_call 28; refine hB.mono ?_; rintro en w3 ⟨rfl, hb3⟩; have HB3 := Lib.hid (And.intro (HB2.out.1.trans (hb3.mono HB2.out.1.size)) hb3); clear hb3)
        clear hB hV hF
        have hT : ∀ k (h : k < NE), ∃ fr te pk lv' tp, R[k]'(by rw [HN.out]; exact h) = ⟨fr, te, pk, lv', tp⟩ := fun k h => ⟨_, _, _, _, _, rfl⟩
        go_loopw [9] (fun iv wr => ∃ k : Nat, k ≤ NE ∧ iv = .int .i64 (k : Int) ∧ Below w3.heap.size w3 wr) (fun iv _ => NE - (intOf iv).toNat)
        case atStart => exact ⟨0, Nat.zero_le _, rfl, Below.refl _ _⟩
        case round => as_aux_lemma =>
          obtain ⟨k, hk, rfl, hbw⟩ := hrel
          by_cases hlt : k < NE
          · have hkL : k < R.length := by rw [HN.out]; exact hlt
            obtain ⟨g, o, rfl, hg, hc⟩ := HB2.out.2.1 (by rw [HN.out]; omega)
            obtain ⟨⟨fr, te, pk, el, tp⟩, hed⟩ : ∃ e, R[k]'hkL = e := ⟨_, rfl⟩
            obtain ⟨hce, hbe, hen⟩ := HK.out k hkL
            rw [hed] at hce hbe hen
            obtain ⟨e1, e2, e3, e4, e5, e6, e7, e8⟩ := hce
            simp only at e1 e2 e3 e4 e5 e6 e8 hbe hen
            rw [HM.out] at e6
            subst e4
            have hg3 : g < w3.heap.size := Nat.lt_of_lt_of_le hg HB3.out.2.size
            -- cells of the list, in any later world
            have cl : ∀ wx, Below w3.heap.size w3 wx → ∀ i (hi : i < R.length) j, j < 5 → wx.cell? ⟨g, o + (i * 5 + j), none⟩ = (ints (eoE (R[i]'hi)))[j]? := fun wx hb i hi j hj =>
              (hb.cell (p := ⟨g, o + (i * 5 + j), none⟩) hg3).trans ((HB3.out.2.cell (p := ⟨g, o + (i * 5 + j), none⟩) hg).trans (hc i hi j hj))
            have f := cl wr hbw k hkL
            simp only [hed] at f
            have d0 : wr.cell? ⟨g, o + k * 5, none⟩ = some (.int .i64 (fr : Int)) := by simpa [ints, eoE] using f 0 (by omega)
            have d1 : wr.cell? ⟨g, o + k * 5 + 1, none⟩ = some (.int .i64 (te : Int)) := by simpa [ints, eoE, Nat.add_assoc] using f 1 (by omega)
            have d2 : wr.cell? ⟨g, o + k * 5 + 2, none⟩ = some (.int .i64 (pk : Int)) := by simpa [ints, eoE, Nat.add_assoc] using f 2 (by omega)
            have d3 : wr.cell? ⟨g, o + k * 5 + 3, none⟩ = some (.int .i64 el) := by simpa [ints, eoE, Nat.add_assoc] using f 3 (by omega)
            have d4 : wr.cell? ⟨g, o + k * 5 + 4, none⟩ = some (.int .i64 (ith L pk)) := by simpa [ints, eoE, Nat.add_assoc] using f 4 (by omega)
            have hlen : L.length = n := hl.out.symm
            rw [hlen] at e3 hen
            obtain ⟨b, ob, rfl, hbk, hcz⟩ := HX.out.1.at_ (by omega)
            have zc : ∀ wx, Below w3.heap.size w3 wx → ∀ j, j < n → wx.cell? ⟨b, ob + j, none⟩ = some (.int .i64 (ith L j)) := fun wx hb j hj =>
              ((HB3.out.1.trans (hb.mono HB3.out.1.size)).cell (p := ⟨b, ob + j, none⟩) hbk).trans (hcz j hj)
            have zpk := zc wr hbw pk (by omega)
            obtain ⟨P, hP⟩ : ∃ P, ith L pk = P := ⟨_, rfl⟩
            have hPr := HO.out.ith (j := pk) (by rw [hlen]; omega)
            rw [hP] at d4 zpk hPr e5
            simp only [hP] at e8
            have hgd : ∀ wx, Below w3.heap.size w3 wx → wx.cell? ⟨w.heap.size, 0, none⟩ = some (.int .i64 lv) := fun wx hb => by
              have h2 : w.heap.size < w2.heap.size := (Array.getElem?_eq_some_iff.1 HB2.out.2.2).1
              have h3 := (HB3.out.2.block _ h2).trans HB2.out.2.2
              exact cell_of_row _ _ _ _ _ _ ((hb.block _ (Array.getElem?_eq_some_iff.1 h3).1).trans h3)
            have q0 := hgd wr hbw
            obtain ⟨W5, hW5⟩ : ∃ W5, W5 = wr.alloc (.cells #[.int .i64 (fr : Int), .int .i64 (te : Int), .int .i64 (pk : Int), .int .i64 el, .int .i64 P] 50) := ⟨_, rfl⟩
            have hb5 : Below w3.heap.size w3 W5 := by rw [hW5]; exact hbw.alloc hbw.size _
            have g5 : W5.heap[wr.heap.size]? = some (.cells #[.int .i64 (fr : Int), .int .i64 (te : Int), .int .i64 (pk : Int), .int .i64 el, .int .i64 P] 50 (0, 0)) := by rw [hW5]; exact heap_alloc_new wr _
            have zpk5 := zc W5 hb5 pk (by omega)
            have q05 := hgd W5 hb5
            rw [hP] at zpk5
            have HC := Lib.hid (And.intro cl (And.intro zc hgd))
            have HE := Lib.hid (And.intro hbe (And.intro hen (And.intro e8 (And.intro hb5 (And.intro g5 hW5)))))
            have e9 : ¬ (P : Int) < el := by omega
            clear f hc hcz cl zc hgd hbe hen e7 e8 hed hb5 g5 hW5 hT
            go_wp2
            rw [← HE.out.2.2.2.2.2]
            have x0 : W5.cell? ⟨wr.heap.size, 0, none⟩ = some (.int .i64 (fr : Int)) := cell_of_row _ _ _ _ _ _ HE.out.2.2.2.2.1
            have x1 : W5.cell? ⟨wr.heap.size, 1, none⟩ = some (.int .i64 (te : Int)) := cell_of_row _ _ _ _ _ _ HE.out.2.2.2.2.1
            have x2 : W5.cell? ⟨wr.heap.size, 2, none⟩ = some (.int .i64 (pk : Int)) := cell_of_row _ _ _ _ _ _ HE.out.2.2.2.2.1
            have x3 : W5.cell? ⟨wr.heap.size, 3, none⟩ = some (.int .i64 el) := cell_of_row _ _ _ _ _ _ HE.out.2.2.2.2.1
            have x4 : W5.cell? ⟨wr.heap.size, 4, none⟩ = some (.int .i64 P) := cell_of_row _ _ _ _ _ _ HE.out.2.2.2.2.1
            obtain ⟨g5, hg5⟩ : ∃ g5, wr.heap.size = g5 := ⟨_, rfl⟩
            have HG5 := Lib.hid hg5
            rw [hg5] at x0 x1 x2 x3 x4 ⊢
            clear hg5 d0 d1 d2 d3 d4 zpk q0
            have bP : (P == P) = true := by simp
            have t1 : ¬ (fr : Int) < 0 := by omega
            have t2 : ¬ (n : Int) < (te : Int) := by omega
            have t3 : ¬ (te : Int) ≤ (fr : Int) := by omega
            have t4 : ¬ (pk : Int) < (fr : Int) := by omega
            have t5 : ¬ (te : Int) ≤ (pk : Int) := by omega
            have t7 : ¬ P < el := by omega
            have t8 : ¬ el < m + lv := by omega
            have t9 : pk < n := by omega
            have t10 : IntKind.i64.wrap (m + lv) = m + lv := by rw [IntKind.wrap_i64]; omega
            go_region
            clear t1 t2 t3 t4 t5 t7 t8 t9 t10 bP
            have HX5 := Lib.hid (show W5.heap[g5]? = some (.cells #[.int .i64 (fr : Int), .int .i64 (te : Int), .int .i64 (pk : Int), .int .i64 el, .int .i64 P] 50 (0, 0)) by rw [← HG5.out]; exact HE.out.2.2.2.2.1)
            have HH := Lib.hid (And.intro HE.out.1 (And.intro HE.out.2.1 (And.intro HE.out.2.2.1 HE.out.2.2.2.1)))
            go_wp2
            clear x0 x1 x2 x3 x4 zpk5 q05 HE HG5
            go_loopw [11] (fun iv wr2 => ∃ j : Nat, iv = .int .i64 (j : Int) ∧ fr ≤ j ∧ j ≤ te ∧ Below W5.heap.size W5 wr2) (fun iv _ => te - (intOf iv).toNat)
            case atStart => exact ⟨fr, rfl, Nat.le_refl _, by omega, (Below.refl _ _).drew⟩
            case round => as_aux_lemma =>
              obtain ⟨j, rfl, hj1, hj2, hb6⟩ := hrel
              have hb36 := HH.out.2.2.2.trans (hb6.mono HH.out.2.2.2.size)
              have g6 := (hb6.block _ (Array.getElem?_eq_some_iff.1 HX5.out).1).trans HX5.out
              have x0 : wr.cell? ⟨g5, 0, none⟩ = some (.int .i64 (fr : Int)) := cell_of_row _ _ _ _ _ _ g6
              have x1 : wr.cell? ⟨g5, 1, none⟩ = some (.int .i64 (te : Int)) := cell_of_row _ _ _ _ _ _ g6
              have x2 : wr.cell? ⟨g5, 2, none⟩ = some (.int .i64 (pk : Int)) := cell_of_row _ _ _ _ _ _ g6
              have x4 : wr.cell? ⟨g5, 4, none⟩ = some (.int .i64 P) := cell_of_row _ _ _ _ _ _ g6
              have q0 := HC.out.2.2 wr hb36
              have t10 : IntKind.i64.wrap (m + lv) = m + lv := by rw [IntKind.wrap_i64]; omega
              have HB6 := Lib.hid (And.intro hb6 hb36)
              by_cases hjt : j < te
              · have zj := HC.out.2.1 wr hb36 j (by omega)
                obtain ⟨y1, y2, y3⟩ := HH.out.2.2.1 j hj1 hjt
                rw [HM.out] at y3
                obtain ⟨zv, hzv⟩ : ∃ z, ith L j = z := ⟨_, rfl⟩
                rw [hzv] at zj y1 y2 y3
                have t4 : j < n := by omega
                clear hb6 hb36 g6 hzv
                by_cases c1 : zv = P
                · as_aux_lemma =>
                  have t2m : pk ≤ j := by have := y2 c1; omega
                  subst c1
                  clear y1 y2
                  go_wp2
                  have t1 : ¬ zv < zv := by omega
                  have t2 : ¬ (j : Int) < (pk : Int) := by omega
                  have t2n : ¬ j < pk := by omega
                  have t3 : ¬ zv < m + lv := by omega
                  have t5 : (zv == zv) = true := by simp
                  go_quiet (fail)
                  go_wp2
                  go_roundw
                  case rel => exact ⟨j + 1, by simp, by omega, by omega, bdn HB6.out.1 _⟩
                  case measure => simp [intOf]; omega
                · as_aux_lemma =>
                  clear y2
                  go_wp2
                  have t1 : ¬ P < zv := by omega
                  have t3 : ¬ zv < m + lv := by omega
                  have t5 : (zv == P) = false := by simpa using c1
                  go_quiet (fail)
                  go_wp2
                  go_roundw
                  case rel => exact ⟨j + 1, by simp, by omega, by omega, bdn HB6.out.1 _⟩
                  case measure => simp [intOf]; omega
              · obtain rfl : te = j := by omega
                obtain ⟨hbe, hen, _, _⟩ := HH.out
                rw [HM.out] at hbe hen
                have HBE := Lib.hid hbe
                have HEN := Lib.hid hen
                have HB6' := Lib.hid hb6
                clear hb6 g6 hjt hbe hen hb36 HB6 x0 x1 x2 x4 q0 t10
                have t11 : ¬ (te : Int) < (te : Int) := by omega
                have x1 : wr.cell? ⟨g5, 1, none⟩ = some (.int .i64 (te : Int)) := cell_of_row _ _ _ _ _ _ ((HB6'.out.block _ (Array.getElem?_eq_some_iff.1 HX5.out).1).trans HX5.out)
                go_upto_region 18 with fail
                go_cut [12] from 52 to 247 (fun s wx => Below W5.heap.size W5 wx ∧ ∃ B : Bool, s = .bool B ∧ (begZ L (m + lv) fr → B = true))
                case first => as_aux_lemma =>
                  clear x1 t11
                  have g6 := (HB6'.out.block _ (Array.getElem?_eq_some_iff.1 HX5.out).1).trans HX5.out
                  have x0 : wr.cell? ⟨g5, 0, none⟩ = some (.int .i64 (fr : Int)) := cell_of_row _ _ _ _ _ _ g6
                  have hb36 := HH.out.2.2.2.trans (HB6'.out.mono HH.out.2.2.2.size)
                  have q0 := HC.out.2.2 wr hb36
                  have t10 : IntKind.i64.wrap (m + lv) = m + lv := by rw [IntKind.wrap_i64]; omega
                  clear g6
                  by_cases f0 : fr = 0
                  · clear hb36
                    go_wp2
                    have f00 : ((fr : Int) == 0) = true := by simp; omega
                    go_quiet (fail)
                    go_wp2
                    go_meet
                    case rel => exact ⟨bdn HB6'.out _, true, rfl, fun _ => rfl⟩
                  · obtain ⟨J, hJ⟩ : ∃ J, fr = J + 1 := ⟨fr - 1, by omega⟩
                    have fJ : ((fr : Int) - 1) = (J : Int) := by omega
                    have hJn : J < n := by omega
                    have zJ := HC.out.2.1 wr hb36 J hJn
                    have e10 : fr - 1 = J := by omega
                    obtain ⟨q, hq⟩ : ∃ z, ith L J = z := ⟨_, rfl⟩
                    have HQ := Lib.hid (show ¬ q < m + lv → ¬ begZ L (m + lv) fr from fun h1 h2 => by rcases h2 with h2 | h2; exact f0 h2; rw [e10, hq] at h2; exact h1 h2)
                    rw [hq] at zJ
                    have x0' : wr.cell? ⟨g5, 0, none⟩ = some (.int .i64 ((J : Int) + 1)) := by rw [x0]; congr 2; omega
                    have f00 : (((J : Int) + 1) == 0) = false := by simp; omega
                    have F00 := Lib.hid f00
                    clear hq hb36 e10 x0 fJ f00
                    by_cases cq : q < m + lv
                    · go_wp2
                      have f00 := F00.out
                      have cq1 : q < m + lv := by omega
                      go_quiet (fail)
                      go_wp2
                      go_meet
                      case rel => exact ⟨bdn HB6'.out _, _, rfl, fun _ => by first | rfl | simpa using cq | (simp; omega)⟩
                    · have HQ2 := Lib.hid (HQ.out cq)
                      go_wp2
                      have f00 := F00.out
                      have cq1 : ¬ q < m + lv := by omega
                      go_quiet (fail)
                      go_wp2
                      go_meet
                      case rel => exact ⟨bdn HB6'.out _, _, rfl, fun h => absurd h HQ2.out⟩
                case rest =>
                  obtain ⟨hbc, B, rfl, hB⟩ := hcut
                  have HQB := Lib.hid hB
                  have HBC := Lib.hid hbc
                  clear hB hbc x1 t11
                  go_upto_region 19 with fail
                  go_cut [13] from 52 to 247 (fun s wx => Below W5.heap.size W5 wx ∧ ∃ J : Bool, s = .bool J ∧ (∀ h0 : 0 < k, (R[k - 1]'(by have := HN.out; omega)).to = fr → J = true))
                  case first => as_aux_lemma =>
                    have g6 := (HBC.out.block _ (Array.getElem?_eq_some_iff.1 HX5.out).1).trans HX5.out
                    have x0 : wc.cell? ⟨g5, 0, none⟩ = some (.int .i64 (fr : Int)) := cell_of_row _ _ _ _ _ _ g6
                    have hb36 := HH.out.2.2.2.trans (HBC.out.mono HH.out.2.2.2.size)
                    clear g6
                    by_cases k0 : k = 0
                    · subst k0
                      clear hb36
                      go_wp2
                      go_quiet (fail)
                      go_wp2
                      go_meet
                      case rel => exact ⟨bdn HBC.out _, _, rfl, fun h0 => absurd h0 (by omega)⟩
                    · obtain ⟨K, rfl⟩ : ∃ K, k = K + 1 := ⟨k - 1, by omega⟩
                      have hKn : K < NE := by omega
                      have cK := HC.out.1 wc hb36 K (by rw [HN.out]; exact hKn) 1 (by omega)
                      obtain ⟨pt, hpt⟩ : ∃ pt, (R[K]'(by rw [HN.out]; exact hKn)).to = pt := ⟨_, rfl⟩
                      have cK' : wc.cell? ⟨g, o + K * 5 + 1, none⟩ = some (.int .i64 (pt : Int)) := by simpa [ints, eoE, hpt, Nat.add_assoc] using cK
                      have e11 : K + 1 - 1 = K := by omega
                      have HPT := Lib.hid (show ∀ h0 : 0 < K + 1, (R[K + 1 - 1]'(by have := HN.out; omega)).to = fr → pt = fr from fun h0 h1 => by simp only [e11, hpt] at h1; exact h1)
                      clear cK hb36
                      go_wp2
                      have kp2 : (0 : Int) < (K : Int) + 1 := by omega
                      have kpn : 0 < K + 1 := by omega
                      go_quiet (fail)
                      go_wp2
                      go_meet
                      case rel => exact ⟨bdn HBC.out _, _, rfl, fun h0 h1 => by have := HPT.out h0 h1; simp; omega⟩
                  case rest =>
                    obtain ⟨hbd, J, rfl, hJ⟩ := hcut
                    have HQJ := Lib.hid hJ
                    have HBD := Lib.hid hbd
                    clear hJ hbd
                    go_upto_region 20 with fail
                    go_cut [14] from 52 to 247 (fun s wx => Below W5.heap.size W5 wx ∧ ∃ E : Bool, s = .bool E ∧ (endZ L (m + lv) n te → E = true))
                    case first => as_aux_lemma =>
                      have g6 := (HBD.out.block _ (Array.getElem?_eq_some_iff.1 HX5.out).1).trans HX5.out
                      have x1 : wc.cell? ⟨g5, 1, none⟩ = some (.int .i64 (te : Int)) := cell_of_row _ _ _ _ _ _ g6
                      have hb36 := HH.out.2.2.2.trans (HBD.out.mono HH.out.2.2.2.size)
                      have q0 := HC.out.2.2 wc hb36
                      have t10 : IntKind.i64.wrap (m + lv) = m + lv := by rw [IntKind.wrap_i64]; omega
                      clear g6
                      by_cases en : te = n
                      · clear hb36
                        go_wp2
                        have x1t : ((te : Int) == (n : Int)) = true := by simp; omega
                        go_quiet (fail)
                        go_wp2
                        go_meet
                        case rel => exact ⟨bdn HBD.out _, true, rfl, fun _ => rfl⟩
                      · have t13 : te < n := by omega
                        have zT := HC.out.2.1 wc hb36 te t13
                        obtain ⟨r, hr⟩ : ∃ z, ith L te = z := ⟨_, rfl⟩
                        have HR2 := Lib.hid (show ¬ r < m + lv → ¬ endZ L (m + lv) n te from fun h1 h2 => by rcases h2 with h2 | h2; exact en h2; rw [hr] at h2; exact h1 h2)
                        rw [hr] at zT
                        clear hr hb36
                        by_cases cT : r < m + lv
                        · go_wp2
                          have x1t : ((te : Int) == (n : Int)) = false := by simp; omega
                          have cT1 : r < m + lv := by omega
                          go_quiet (fail)
                          go_wp2
                          go_meet
                          case rel => exact ⟨bdn HBD.out _, _, rfl, fun _ => by first | rfl | simpa using cT | (simp; omega)⟩
                        · have HR3 := Lib.hid (HR2.out cT)
                          go_wp2
                          have x1t : ((te : Int) == (n : Int)) = false := by simp; omega
                          have cT1 : ¬ r < m + lv := by omega
                          go_quiet (fail)
                          go_wp2
                          go_meet
                          case rel => exact ⟨bdn HBD.out _, _, rfl, fun h => absurd h HR3.out⟩
                    case rest =>
                      obtain ⟨hbe, E, rfl, hE⟩ := hcut
                      have HBE2 := Lib.hid hbe
                      have hBJ : B = true ∨ J = true := by
                        rcases HBE.out with h | ⟨h0, h1⟩
                        · exact .inl (HQB.out h)
                        · exact .inr (HQJ.out h0 h1)
                      have hEL : E = true ∨ (E = false ∧ k + 1 = NE ∧ NE = 15) ∨ (E = false ∧ ∃ h1 : k + 1 < R.length, (R[k + 1]'h1).fr = te) := by
                        cases hEe : E with
                        | true => exact .inl rfl
                        | false =>
                          rcases HEN.out with h | ⟨h1, h2⟩ | h
                          · rw [hE h] at hEe; cases hEe
                          · exact .inr (.inl ⟨rfl, by have := HN.out; omega, by have := HN.out; omega⟩)
                          · exact .inr (.inr ⟨rfl, h⟩)
                      clear hE hbe
                      have x1 : wc.cell? ⟨g5, 1, none⟩ = some (.int .i64 (te : Int)) := cell_of_row _ _ _ _ _ _ ((HBE2.out.block _ (Array.getElem?_eq_some_iff.1 HX5.out).1).trans HX5.out)
                      have HB36 := Lib.hid (HH.out.2.2.2.trans (HBE2.out.mono HH.out.2.2.2.size))
                      go_upto_region 22 with fail
                      cases B with
                      | true =>
                        rcases hEL with rfl | ⟨rfl, h1, h2⟩ | ⟨rfl, h1, hfr⟩
                        · as_aux_lemma =>
                          go_wp2
                          go_quiet (fail)
                          go_wp2
                          go_roundw
                          case rel => exact ⟨k + 1, by omega, by first | (rw [← hN2]; rfl) | (simp; done) | (simp; omega), bdn HB36.out _⟩
                          case measure => simp [intOf]; omega
                        · as_aux_lemma =>
                          have H12 := Lib.hid (And.intro h1 h2)
                          clear h1 h2
                          go_wp2
                          have hbl2 : ((k : Int) + 1 == (NE : Int)) = true := by have := H12.out; simp; omega
                          have t15 : ¬ (NE : Int) < 15 := by have := H12.out; omega
                          have t16 : ¬ NE < 15 := by have := H12.out; omega
                          go_quiet (fail)
                          go_wp2
                          go_roundw
                          case rel => exact ⟨k + 1, by omega, by first | (rw [← hN2]; rfl) | (simp; done) | (simp; omega), bdn HB36.out _⟩
                          case measure => simp [intOf]; omega
                        · as_aux_lemma =>
                          have hN3 : k + 1 < NE := by have := HN.out; omega
                          have cN := HC.out.1 wc HB36.out (k + 1) h1 0 (by omega)
                          have cN' : wc.cell? ⟨g, o + (k + 1) * 5, none⟩ = some (.int .i64 (te : Int)) := by simpa [ints, eoE, hfr] using cN
                          clear cN
                          go_wp2
                          have hbl : (((k : Int) + 1) == (NE : Int)) = false := by simp; omega
                          have bT : ((te : Int) == (te : Int)) = true := by simp
                          go_quiet (fail)
                          go_wp2
                          go_roundw
                          case rel => exact ⟨k + 1, by omega, by first | (rw [← hN2]; rfl) | (simp; done) | (simp; omega), bdn HB36.out _⟩
                          case measure => simp [intOf]; omega
                      | false =>
                        obtain rfl : J = true := by rcases hBJ with h | h; cases h; exact h
                        rcases hEL with rfl | ⟨rfl, h1, h2⟩ | ⟨rfl, h1, hfr⟩
                        · as_aux_lemma =>
                          go_wp2
                          go_quiet (fail)
                          go_wp2
                          go_roundw
                          case rel => exact ⟨k + 1, by omega, by first | (rw [← hN2]; rfl) | (simp; done) | (simp; omega), bdn HB36.out _⟩
                          case measure => simp [intOf]; omega
                        · as_aux_lemma =>
                          have H12 := Lib.hid (And.intro h1 h2)
                          clear h1 h2
                          go_wp2
                          have hbl2 : ((k : Int) + 1 == (NE : Int)) = true := by have := H12.out; simp; omega
                          have t15 : ¬ (NE : Int) < 15 := by have := H12.out; omega
                          have t16 : ¬ NE < 15 := by have := H12.out; omega
                          go_quiet (fail)
                          go_wp2
                          go_roundw
                          case rel => exact ⟨k + 1, by omega, by first | (rw [← hN2]; rfl) | (simp; done) | (simp; omega), bdn HB36.out _⟩
                          case measure => simp [intOf]; omega
                        · as_aux_lemma =>
                          have hN3 : k + 1 < NE := by have := HN.out; omega
                          have cN := HC.out.1 wc HB36.out (k + 1) h1 0 (by omega)
                          have cN' : wc.cell? ⟨g, o + (k + 1) * 5, none⟩ = some (.int .i64 (te : Int)) := by simpa [ints, eoE, hfr] using cN
                          clear cN
                          go_wp2
                          have hbl : (((k : Int) + 1) == (NE : Int)) = false := by simp; omega
                          have bT : ((te : Int) == (te : Int)) = true := by simp
                          go_quiet (fail)
                          go_wp2
                          go_roundw
                          case rel => exact ⟨k + 1, by omega, by first | (rw [← hN2]; rfl) | (simp; done) | (simp; omega), bdn HB36.out _⟩
                          case measure => simp [intOf]; omega
          · obtain rfl : k = NE := by omega
            have HBf := Lib.hid (HB3.out.1.trans (hbw.mono HB3.out.1.size))
            clear hbw
            go_wp2_with fail
            refine (first_any _).mono ?_
            rintro e w6 ⟨rfl, hb6⟩
            go_wp2
            go_ret
            exact ⟨rfl, HBf.out.trans (hb6.mono HBf.out.size)⟩
    · have hF := fine_no lv dp st dl hd W0
      clear hd hok
      go_enter Try.func7, Try.ntmps7
      go_wp2_with (first
        | (go_at_call 26; refine hV.mono ?_; rintro en w' ⟨rfl, rfl⟩)
        | (go_at_call 27; rw [← HW0.out]; refine hF.mono ?_; rintro en w1 ⟨rfl, hb1⟩; have HB1 := Lib.hid (HX.out.2.1.trans (hb1.mono HX.out.2.1.size)); clear hb1 p0 p1 p2 p3))
      refine (first_any _).mono ?_
      rintro e w2 ⟨rfl, hb2⟩
      go_wp2
      go_ret
      exact ⟨rfl, HB1.out.trans (hb2.mono HB1.out.size)⟩
  · rw [decide_eq_false hok] at hV
    clear hok
    go_enter Try.func7, Try.ntmps7
    go_wp2_with (go_at_call 26; refine hV.mono ?_; rintro en w' ⟨rfl, rfl⟩)
    rw [← HW0.out]
    refine (first_any _).mono ?_
    rintro e w2 ⟨rfl, hb2⟩
    go_wp2
    go_ret
    exact ⟨rfl, HX.out.2.1.trans (hb2.mono HX.out.2.1.size)⟩
set_option maxRecDepth 100000 in
theorem lifted (os : Os) (started : os.Started) (H : Type) (enc : TypeId × Value → H) :
    ReturnsInHanded {} Try.checked os 7 .any (Rows.waveChainsSpec.pre6 enc Try.prog Try.f7 Rows.waveChainsRow.domain false) (Rows.waveChainsSpec.post enc Try.prog Try.f7 false true false false) := by
  refine returnsInHanded_of_change (C := Try.checked) ownTry started (by kernel_rfl) Try.func7
    (ChangeSpec.witness6 (enc := enc) (C := Try.checked) false ⟨#[], #[.slice none 0 0, .agg #[.int .i64 0, .int .i64 0, .int .i64 0, .int .i64 0]], []⟩ 8 (by kernel_rfl) (by kernel_rfl) (by kernel_rfl) (by kernel_rfl)) ?_
  intro W base args ds gs before hval0 hW hcnd _
  have hval : ∀ (j : Nat) t v, Try.f7.params[j]? = some t → args[j]? = some v → Value.okWide Try.prog W .any base t v := hval0
  have hW' := hW
  obtain ⟨p, q, hA0, hV, rfl, hfz, hnd⟩ := hW
  have hA : DataW.TrodAll enc Try.prog W 0 (fun _ => true) true Try.f7.params.toList args.toList ds p := hA0
  rw [Try.params7] at hA hval
  obtain ⟨v0, v1, d0, d1, p0, p1, rfl, rfl, rfl, h0, h1⟩ := trodAll_two hA
  obtain ⟨rfl, rfl⟩ := trodVars_none hV
  obtain ⟨A0, n0, c0, L0, rfl, hB0, hx0⟩ := open_numbers (hval 0 _ v0 rfl rfl) h0
  obtain ⟨lv, dp, st, dl, rfl⟩ := open_detector (hval 1 42 v1 rfl rfl) h1
  clear hA0 hval0
  refine (walk A0 n0 c0 L0 lv dp st dl W hx0).mono fun e W' ⟨he, hg⟩ => ?_
  subst he
  exact ⟨_, rfl, post_reads laidOut (by kernel_rfl) hW' rfl (fun _ _ _ => trodAll_mk1 (shut_bool Try.underlying4 _)) (fun _ => rfl) rfl hg (ok_one (by kernel_rfl) rfl (okWide_bool_mk Try.underlying4 _))⟩

theorem over : Rows.waveChainsRow.holds Try.pinned (OpenSpec.ofChange Rows.waveChainsSpec) :=
  OpenClaim.holds_of_wide 7 Try.f7 rfl rfl rfl rfl rfl rfl rfl ⟨rfl, rfl, rfl, rfl, rfl⟩ rfl rfl rfl rfl rfl (by kernel_rfl) Try.func7 (by kernel_rfl)
    (of_decide_eq_true (by kernel_rfl)) (by unfold Func.isWrapper; first | (rw [if_pos (by decide +kernel)]; kernel_rfl) | (rw [if_neg (by decide +kernel)]; exact ⟨rfl, rfl⟩))
    (fun os started H enc _ => lifted os started H enc)

theorem proved : Rows.WaveChainsSaid := over
end Go.Proofs.Ytkcagifljelfoaa.waveChains
