/-
  For any heights and any detector the law WaveBounds returns true and leaves its arguments as they were: no condition.
-/
import Derived.Test.YtjpkgmngbeliaaaVFirst
import Derived.Test.YtjpkgmngbeliaaaVBnd
import Derived.Test.YtjpkgmngbeliaaaVDet
namespace Go.Proofs.Ytjpkgmngbeliaaa.waveBounds
open Go.Proofs.Ytjpkgmngbeliaaa
open Go.ChangeShapes Go.WideShapes Go.ChangeAt Go.RowKit Go.Joins
set_option linter.unusedVariables false

set_option maxRecDepth 100000 in
set_option maxHeartbeats 1000000 in
theorem echoes_none (lv dp st dl : Int) (hd : okD ⟨lv, dp, st, dl⟩) (A : Option Addr) (c : Nat) (w : World) :
    Calls Try.prog 33 #[.slice A 0 c, .agg #[.int .i64 lv, .int .i64 dp, .int .i64 st, .int .i64 dl]] w (RetEch w [] 0) := by
  obtain ⟨W0, hW0⟩ : ∃ W0, W0 = w.alloc (.cells #[.int .i64 lv, .int .i64 dp, .int .i64 st, .int .i64 dl] 57) := ⟨_, rfl⟩
  have hb0 : Below w.heap.size w W0 := by rw [hW0]; exact (Below.refl _ w).alloc (Nat.le_refl _) _
  have hVD := validDet_yes lv dp st dl hd W0
  have HW := Lib.hid (And.intro hW0 hb0)
  clear hW0 hb0 hd
  go_enter Try.func33, Try.ntmps33
  go_wp2_with (go_at_call 35; rw [← HW.out.1]; refine hVD.mono ?_; rintro en w1 ⟨rfl, hb1⟩; have HB := Lib.hid hb1; clear hb1)
  go_ret2
  exact ⟨_, rfl, ⟨none, 0, rfl, Nat.le_refl _, by simp [maxLen], fun h => absurd h (by simp)⟩, HW.out.2.trans (HB.out.mono HW.out.2.size)⟩
def echG (zs : List Int) (d : De) : List Eo := if zs = [] then [] else echF zs d
theorem echoes_any (zs : List Int) (hok : okZ zs) (lv dp st dl : Int) (hd : okD ⟨lv, dp, st, dl⟩) (A : Option Addr) (n c : Nat) (w : World) (hx : IW w w.heap.size (.slice A n c) zs) :
    Calls Try.prog 33 #[.slice A n c, .agg #[.int .i64 lv, .int .i64 dp, .int .i64 st, .int .i64 dl]] w (RetEch w (echG zs ⟨lv, dp, st, dl⟩) 0) := by
  unfold echG
  by_cases h : zs = []
  · rw [if_pos h]
    have hl := hx.len
    rw [h] at hl
    simp at hl
    subst hl
    exact echoes_none lv dp st dl hd A c w
  · rw [if_neg h]
    exact echoes_ok zs hok h lv dp st dl hd A n c w hx
theorem echG_good {zs : List Int} {d : De} (hd : 1 ≤ d.dp) : ∀ e ∈ echG zs d, goodE zs zs.length e := by
  intro e he
  unfold echG at he
  split at he
  · simp at he
  · exact echF_good hd e he
theorem digL_ok {L : List Int} (h : okH L) : okZ (digL L) := by
  refine ⟨by simpa [digL] using h.1, fun x hx => ?_⟩
  obtain ⟨y, hy, rfl⟩ := List.mem_map.1 hx
  have := h.2 y hy
  omega
theorem digL_len (L : List Int) : (digL L).length = L.length := by simp [digL]

/-- What Time says of a good echo. -/
def TimeOut (zs : List Int) (fr to i : Nat) (lv : Int) (lo hi cc : Int) : Prop :=
  fr ≤ i ∧ i < to ∧ lv ≤ ith zs i ∧ (∀ j, fr ≤ j → j < i → ith zs j < lv) ∧
  ((cc = 32) ∨ (cc = 0 ∧ 0 < i ∧ ith zs (i - 1) < lv ∧ lo = 256 * (((i - 1 : Nat) : Int) * (ith zs i - ith zs (i - 1)) + (lv - ith zs (i - 1)) - 1) / (ith zs i - ith zs (i - 1)) ∧ hi = -(-(256 * (((i - 1 : Nat) : Int) * (ith zs i - ith zs (i - 1)) + (lv - ith zs (i - 1)))) / (ith zs i - ith zs (i - 1)))))
theorem time_good (zs : List Int) (hok : okZ zs) (fr to pk : Nat) (lv tp : Int) (n : Nat) (hg : goodE zs n ⟨fr, to, pk, lv, tp⟩) (A : Option Addr) (c : Nat) (w : World) (hx : IW w w.heap.size (.slice A n c) zs) :
    ∃ i lo hi cc, TimeOut zs fr to i lv lo hi cc ∧ Calls Try.prog 29 #[.slice A n c, .agg #[.int .i64 (fr : Int), .int .i64 (to : Int), .int .i64 (pk : Int), .int .i64 lv, .int .i64 tp]] w (RetSE w lo hi cc) := by
  obtain ⟨g1, g2, g3, g4, g5⟩ := hg
  simp only at g1 g2 g3 g4
  have e : fr + (pk - fr) = pk := by omega
  obtain ⟨i, i1, i2, i3, i4⟩ := first_high (zs := zs) (lv := lv) (fr := fr) (pk - fr) (by rw [e]; exact g4)
  have i5 : i < to := by omega
  rcases Nat.eq_zero_or_pos i with h0 | h0
  · exact ⟨i, 0, 0, 32, ⟨i1, i5, i3, i4, .inl rfl⟩, time_cut0 zs hok fr to i (pk : Int) lv tp A n c w hx (by omega) g3 i1 i5 h0 i4 i3⟩
  · by_cases h1 : lv ≤ ith zs (i - 1)
    · exact ⟨i, 0, 0, 32, ⟨i1, i5, i3, i4, .inl rfl⟩, time_cut1 zs hok fr to i (pk : Int) lv tp A n c w hx (by omega) g3 i1 i5 h0 i4 i3 h1⟩
    · exact ⟨i, _, _, 0, ⟨i1, i5, i3, i4, .inr ⟨rfl, h0, by omega, rfl, rfl⟩⟩, time_raw zs hok fr to i (pk : Int) lv tp A n c w hx (by omega) g3 i1 i5 h0 i4 i3 (by omega)⟩

/-- The law's test. -/
theorem bnd_all {L : List Int} (h : okH L) {fr to i : Nat} {lv lo hi : Int} (hi1 : i < L.length) (hT : TimeOut (digL L) fr to i lv lo hi 0) :
    0 < i ∧ 1 ≤ ith L i - ith L (i - 1) ∧ ith L i - ith L (i - 1) ≤ 16383 ∧ 0 ≤ lo - 256 * ((i - 1 : Nat) : Int) ∧ (lo - 256 * ((i - 1 : Nat) : Int)) * (ith L i - ith L (i - 1)) ≤ 256 * (16 * lv - ith L (i - 1)) ∧ 0 ≤ (lo - 256 * ((i - 1 : Nat) : Int)) * (ith L i - ith L (i - 1)) ∧
    hi - 256 * ((i - 1 : Nat) : Int) ≤ 256 ∧ 256 * (16 * lv - ith L (i - 1)) ≤ (hi - 256 * ((i - 1 : Nat) : Int)) * (ith L i - ith L (i - 1)) ∧ (hi - 256 * ((i - 1 : Nat) : Int)) * (ith L i - ith L (i - 1)) ≤ 256 * 16383 ∧ 0 ≤ lv ∧ lv ≤ 1023 ∧ 0 ≤ ith L (i - 1) ∧ ith L (i - 1) ≤ 16383 ∧ 0 ≤ ith L i ∧ ith L i ≤ 16383 ∧ 0 ≤ lo ∧ lo ≤ 256 * 300 ∧ 0 ≤ hi ∧ hi ≤ 256 * 300 := by
  obtain ⟨t1, t2, t3, t4, t5⟩ := hT
  obtain ⟨_, t6, t7, t8, t9⟩ := t5.resolve_left (by omega)
  have hl : L.length ≤ 256 := h.1
  have d1 := ith_dig (hs := L) hi1
  have d2 := ith_dig (hs := L) (j := i - 1) (by omega)
  have y1 := h.2 _ (ith_mem hi1)
  have y2 := h.2 _ (ith_mem (zs := L) (j := i - 1) (by omega))
  rw [d1] at t3 t8 t9
  rw [d2] at t7 t8 t9
  obtain ⟨J, hJ⟩ : ∃ J, i - 1 = J := ⟨_, rfl⟩
  rw [hJ] at t7 t8 t9 y2 ⊢
  have hJ2 : J ≤ 255 := by omega
  generalize ith L i = s at *
  generalize ith L J = q at *
  obtain ⟨r, hr⟩ : ∃ r, s / 16 - q / 16 = r := ⟨_, rfl⟩
  obtain ⟨a, ha⟩ : ∃ a, lv - q / 16 = a := ⟨_, rfl⟩
  rw [hr, ha] at t8 t9
  have q1 : 0 < r := by omega
  have B1 := bnd_lo (J := (J : Int)) (r := r) (a := a) (r1 := q % 16) (r2 := s % 16) q1 (by omega) (by omega) (by omega) (by omega) (by omega) (by omega)
  have B2 := bnd_hi (J := (J : Int)) (r := r) (a := a) (r1 := q % 16) (r2 := s % 16) q1 (by omega) (by omega) (by omega) (by omega) (by omega) (by omega)
  rw [← t8] at B1
  rw [← t9] at B2
  have e1 : 16 * r + s % 16 - q % 16 = s - q := by omega
  have e2 : 16 * a - q % 16 = 16 * lv - q := by omega
  rw [e1, e2] at B1 B2
  have sq : 1 ≤ s - q := by omega
  have P1 : 0 ≤ (lo - 256 * (J : Int)) * (s - q) := Int.mul_nonneg B1.1 (by omega)
  have P2 : (hi - 256 * (J : Int)) * (s - q) ≤ 256 * (s - q) := Int.mul_le_mul_of_nonneg_right B2.1 (by omega)
  have P3 : lo - 256 * (J : Int) ≤ 256 := by
    refine le_of_mul (r := s - q) (by omega) ?_
    have : 16 * lv - q ≤ s - q := by omega
    have := B1.2
    omega
  have P4 : 0 ≤ hi - 256 * (J : Int) := by
    refine le_of_mul (r := s - q) (by omega) ?_
    have := B2.2
    omega
  refine ⟨t6, sq, by omega, B1.1, B1.2, P1, B2.1, B2.2, by omega, by omega, by omega, by omega, by omega, by omega, by omega, by omega, by omega, by omega, by omega⟩

set_option maxRecDepth 100000 in
set_option maxHeartbeats 4000000 in
theorem walk (A : Option Addr) (n c : Nat) (L : List Int) (hI : AllI L) (lv dp st dl : Int) (w : World) (hx : IW w w.heap.size (.slice A n c) L) :
    Calls Try.prog 11 #[.slice A n c, .agg #[.int .i64 lv, .int .i64 dp, .int .i64 st, .int .i64 dl]] w (RetB w true) := by
  obtain ⟨W0, hW0⟩ : ∃ W0, W0 = w.alloc (.cells #[.int .i64 lv, .int .i64 dp, .int .i64 st, .int .i64 dl] 57) := ⟨_, rfl⟩
  have hb0 : Below w.heap.size w W0 := by rw [hW0]; exact (Below.refl _ w).alloc (Nat.le_refl _) _
  have g0 : W0.heap[w.heap.size]? = some (.cells #[.int .i64 lv, .int .i64 dp, .int .i64 st, .int .i64 dl] 57 (0, 0)) := by rw [hW0]; exact heap_alloc_new w _
  have m0 : ∀ j v, (#[Value.int .i64 lv, .int .i64 dp, .int .i64 st, .int .i64 dl] : Array Value)[j]? = some v → (w.alloc (.cells #[.int .i64 lv, .int .i64 dp, .int .i64 st, .int .i64 dl] 57)).cell? ⟨w.heap.size, j, none⟩ = some v := fun j v h => built_cells w _ _ j v h
  have p0 := m0 0 _ rfl
  have p1 := m0 1 _ rfl
  have p2 := m0 2 _ rfl
  have p3 := m0 3 _ rfl
  have hl := Lib.hid hx.len
  have HX := Lib.hid (And.intro hx (And.intro hI (And.intro hb0 g0)))
  have HW0 := Lib.hid hW0
  clear hx hI hb0 g0 hW0 m0
  by_cases h256 : 256 < n
  · go_enter Try.func11, Try.ntmps11
    go_wp2_with fail
    rw [← HW0.out]
    refine (first_any _).mono ?_
    rintro e w1 ⟨rfl, hb1⟩
    go_wp2
    go_ret
    exact ⟨rfl, HX.out.2.2.1.trans (hb1.mono HX.out.2.2.1.size)⟩
  · by_cases hd : okD ⟨lv, dp, st, dl⟩
    · have hF := fine_yes lv dp st dl hd W0
      have HD := Lib.hid hd
      have hdp := hd.2.2.1
      simp only at hdp
      clear hd
      go_enter Try.func11, Try.ntmps11
      go_wp2_with (go_at_call 39; rw [← HW0.out]; refine hF.mono ?_; rintro en w1 ⟨rfl, hb1⟩; have HB1 := Lib.hid (And.intro (HX.out.2.2.1.trans (hb1.mono HX.out.2.2.1.size)) hb1); clear hb1 p0 p1 p2 p3)
      have hx1 := (HX.out.1.below HB1.out.1).more HB1.out.1.size
      refine (digitize_any L HX.out.2.1 A n c (by omega) w1 hx1).mono ?_
      rintro en w2 ⟨v1, rfl, hv1, hb2⟩
      have k2 : w2.heap[w.heap.size]? = some (.cells #[.int .i64 lv, .int .i64 dp, .int .i64 st, .int .i64 dl] 57 (0, 0)) := by
        have h1 := (HB1.out.2.block _ (Array.getElem?_eq_some_iff.1 HX.out.2.2.2).1).trans HX.out.2.2.2
        exact (hb2.block _ (Array.getElem?_eq_some_iff.1 h1).1).trans h1
      have p0 : w2.cell? ⟨w.heap.size, 0, none⟩ = some (.int .i64 lv) := cell_of_row _ _ _ _ _ _ k2
      have p1 : w2.cell? ⟨w.heap.size, 1, none⟩ = some (.int .i64 dp) := cell_of_row _ _ _ _ _ _ k2
      have p2 : w2.cell? ⟨w.heap.size, 2, none⟩ = some (.int .i64 st) := cell_of_row _ _ _ _ _ _ k2
      have p3 : w2.cell? ⟨w.heap.size, 3, none⟩ = some (.int .i64 dl) := cell_of_row _ _ _ _ _ _ k2
      have HB2 := Lib.hid (And.intro (HB1.out.1.trans (hb2.mono HB1.out.1.size)) hv1)
      clear hb2 hv1 k2 hx1
      by_cases hok : okH L
      · have hdE : digE L = 0 := by unfold digE; rw [if_pos hok]
        have hdR : digR L = digL L := by unfold digR; rw [if_pos hok]
        have hv1 := HB2.out.2
        rw [hdR] at hv1
        obtain ⟨A1, c1, rfl, q1, q2, q3⟩ := id hv1
        have hll : (digL L).length = n := by rw [digL_len, hl.out]
        rw [hll] at q1 hv1 ⊢
        rw [hdE]
        have hE := echoes_any (digL L) (digL_ok hok) lv dp st dl HD.out A1 n c1 w2 hv1
        obtain ⟨R, hR⟩ : ∃ R, echG (digL L) ⟨lv, dp, st, dl⟩ = R := ⟨_, rfl⟩
        rw [hR] at hE
        have hgood : ∀ e ∈ R, goodE (digL L) n e := fun e he => by
          have := echG_good (zs := digL L) (d := ⟨lv, dp, st, dl⟩) hdp e (by rw [hR]; exact he)
          rw [hll] at this
          exact this
        have HK := Lib.hid (And.intro hok (And.intro hv1 hgood))
        clear hok hdE hdR hv1 q1 q2 q3 hll hR hgood
        go_wp2_with (go_at_call 33; refine hE.mono ?_; rintro en w3 ⟨v2, rfl, ⟨A2, c2, rfl, r1, r2, r3⟩, hb3⟩; have HB3 := Lib.hid (And.intro (HB2.out.1.trans (hb3.mono HB2.out.1.size)) (And.intro ((HK.out.2.1.below hb3).more hb3.size) r3)); clear hb3 r3 p0 p1 p2 p3)
        obtain ⟨NE, hNE⟩ : ∃ N, R.length = N := ⟨_, rfl⟩
        have HN := Lib.hid hNE
        rw [hNE] at r1 ⊢
        unfold maxLen at r2
        clear hNE hE
        go_loopw [8] (fun iv wr => ∃ k : Nat, k ≤ NE ∧ iv = .int .i64 (k : Int) ∧ Below w3.heap.size w3 wr) (fun iv _ => NE - (intOf iv).toNat)
        case atStart => exact ⟨0, Nat.zero_le _, rfl, Below.refl _ _⟩
        case round =>
          obtain ⟨k, hk, rfl, hbw⟩ := hrel
          by_cases hlt : k < NE
          · have hkL : k < R.length := by rw [HN.out]; exact hlt
            obtain ⟨g, o, rfl, hg, hc⟩ := HB3.out.2.2 (by omega)
            obtain ⟨⟨fr, to, pk, el, tp⟩, hed⟩ : ∃ e, R[k]'hkL = e := ⟨_, rfl⟩
            have hgd := HK.out.2.2 _ (List.getElem_mem hkL)
            rw [hed] at hgd
            have cells : ∀ wx, Below w3.heap.size w3 wx → wx.cell? ⟨g, o + k * 5, none⟩ = some (.int .i64 (fr : Int)) ∧ wx.cell? ⟨g, o + k * 5 + 1, none⟩ = some (.int .i64 (to : Int)) ∧ wx.cell? ⟨g, o + k * 5 + 2, none⟩ = some (.int .i64 (pk : Int)) ∧ wx.cell? ⟨g, o + k * 5 + 3, none⟩ = some (.int .i64 el) ∧ wx.cell? ⟨g, o + k * 5 + 4, none⟩ = some (.int .i64 tp) := fun wx hb => by
              have f := fun j (hj : j < 5) => (hb.cell (p := ⟨g, o + (k * 5 + j), none⟩) hg).trans (hc k hkL j hj)
              simp only [hed] at f
              refine ⟨?_, ?_, ?_, ?_, ?_⟩
              · simpa [ints, eoE] using f 0 (by omega)
              · simpa [ints, eoE, Nat.add_assoc] using f 1 (by omega)
              · simpa [ints, eoE, Nat.add_assoc] using f 2 (by omega)
              · simpa [ints, eoE, Nat.add_assoc] using f 3 (by omega)
              · simpa [ints, eoE, Nat.add_assoc] using f 4 (by omega)
            obtain ⟨d0, d1, d2, d3, d4⟩ := cells wr hbw
            have HCe := Lib.hid cells
            have hz3 : IW w3 w3.heap.size (.slice A1 n c1) (digL L) := HB3.out.2.1
            have hT := time_good (digL L) (digL_ok HK.out.1) fr to pk el tp n hgd A1 c1 wr ((hz3.below hbw).more hbw.size)
            obtain ⟨i, lo, hi, cc, hTO, hTC⟩ := hT
            have HT := Lib.hid (And.intro hTO hbw)
            have hfi := hTO.1
            have hin : i < n := by have := hTO.2.1; have := hgd.2.2.1; simp only at this; omega
            have HZ := Lib.hid hz3
            clear hc cells hed hgd hz3
            have hcc := hTO.2.2.2.2
            clear hTO
            rcases hcc with h32 | h0
            · subst h32
              go_wp2_with (go_at_call 29; refine hTC.mono ?_; rintro en w4 ⟨rfl, hb4⟩; have HB4 := Lib.hid (hbw.trans (hb4.mono hbw.size)); clear hb4)
              go_roundw
              case rel => exact ⟨k + 1, by omega, by simp, HB4.out.alloc HB4.out.size _⟩
              case measure => simp [intOf]; omega
            · obtain ⟨rfl, -⟩ := h0
              go_wp2_with (go_at_call 29; refine hTC.mono ?_; rintro en w4 ⟨rfl, hb4⟩; have HB4 := Lib.hid (hbw.trans (hb4.mono hbw.size)); have d0' := (HCe.out (w4.alloc (.cells #[.int .i64 lo, .int .i64 hi] 27)) (HB4.out.alloc HB4.out.size _)).1; clear hb4)
              obtain ⟨W5, hW5⟩ : ∃ W5, W5 = w4.alloc (.cells #[.int .i64 lo, .int .i64 hi] 27) := ⟨_, rfl⟩
              have hb5 : Below w3.heap.size w3 W5 := by rw [hW5]; exact HB4.out.alloc HB4.out.size _
              have gs : W5.heap[w4.heap.size]? = some (.cells #[.int .i64 lo, .int .i64 hi] 27 (0, 0)) := by rw [hW5]; exact heap_alloc_new w4 _
              rw [← hW5]
              have HB5 := Lib.hid (And.intro hb5 gs)
              clear d0 d1 d2 d3 d4 d0' hTC hW5 hb5 gs hbw
              go_loopw [11] (fun iv wr2 => ∃ m : Nat, iv = .int .i64 (m : Int) ∧ fr ≤ m ∧ m ≤ i ∧ Below W5.heap.size W5 wr2) (fun iv _ => n - (intOf iv).toNat)
              case atStart => exact ⟨fr, rfl, Nat.le_refl _, hfi, Below.refl _ _⟩
              case round =>
                obtain ⟨m, rfl, hm1, hm2, hb6⟩ := hrel
                obtain ⟨b1, o1, rfl, hB1, hC1⟩ := HZ.out.at_ (by omega)
                have hb36 := HB5.out.1.trans (hb6.mono HB5.out.1.size)
                have dm := (hb36.cell (p := ⟨b1, o1 + m, none⟩) hB1).trans (hC1 m (by omega))
                obtain ⟨-, -, -, d3, -⟩ := HCe.out wr hb36
                by_cases hmi : m < i
                · have hlow := HT.out.1.2.2.2.1 m hm1 hmi
                  have hmn : m < n := by omega
                  have HB6 := Lib.hid hb6
                  clear hb6 hb36 hC1
                  go_wp2
                  go_region
                  go_wp2
                  go_roundw
                  case rel => exact ⟨m + 1, by simp, by omega, by omega, HB6.out.drew⟩
                  case measure => simp [intOf]; omega
                · obtain rfl : m = i := by omega
                  have hhi := HT.out.1.2.2.1
                  have hnl : ¬ ith (digL L) m < el := by omega
                  have HB6 := Lib.hid (And.intro hb6 hb36)
                  obtain ⟨t1, t2, t3, t4, t5, t6, t7, t8, t9, t10, t11, t12, t13, t14, t15, t16, t17, t18, t19⟩ := bnd_all HK.out.1 (by rw [← hl.out]; exact hin) HT.out.1
                  obtain ⟨J, hJ⟩ : ∃ J, m - 1 = J := ⟨_, rfl⟩
                  rw [hJ] at t2 t3 t4 t5 t6 t7 t8 t9 t12 t13
                  obtain ⟨b2, o2, rfl, hB2, hC2⟩ := HX.out.1.at_ (by omega)
                  have hbwr : Below w.heap.size w wr := HB3.out.1.trans (hb36.mono HB3.out.1.size)
                  have e1 := (hbwr.cell (p := ⟨b2, o2 + m, none⟩) hB2).trans (hC2 m hin)
                  have e2 := (hbwr.cell (p := ⟨b2, o2 + J, none⟩) hB2).trans (hC2 J (by omega))
                  have gs2 := (hb6.block _ (Array.getElem?_eq_some_iff.1 HB5.out.2).1).trans HB5.out.2
                  have s0 : wr.cell? ⟨w4.heap.size, 0, none⟩ = some (.int .i64 lo) := cell_of_row _ _ _ _ _ _ gs2
                  have s1 : wr.cell? ⟨w4.heap.size, 1, none⟩ = some (.int .i64 hi) := cell_of_row _ _ _ _ _ _ gs2
                  obtain ⟨hm', hhm⟩ : ∃ x, ith L m = x := ⟨_, rfl⟩
                  obtain ⟨hj', hhj⟩ : ∃ x, ith L J = x := ⟨_, rfl⟩
                  rw [hhm] at e1 t2 t3 t5 t6 t8 t9 t14 t15
                  rw [hhj] at e2 t2 t3 t5 t6 t8 t9 t12 t13
                  obtain ⟨zm, hzm⟩ : ∃ x, ith (digL L) m = x := ⟨_, rfl⟩
                  rw [hzm] at dm hhi hnl
                  have hm0 : ((m : Int) == 0) = false := by simp; omega
                  have hJm : ((m : Int) - 1) = (J : Int) := by omega
                  have hJn : J < n := by omega
                  clear hb6 hb36 hC1 hC2 hbwr gs2 hhm hhj hzm
                  go_wp2
                  go_region
                  go_wp2
                  clear hJm
                  go_region
                  have hJe : (J : Int) = (m : Int) - 1 := by omega
                  rw [hJe] at t4 t5 t6 t7 t8 t9
                  clear hJe
                  have u1 : ¬ hm' - hj' ≤ 0 := by omega
                  have u2 : ¬ 256 * (16 * el - hj') < (lo - 256 * ((m : Int) - 1)) * (hm' - hj') := by omega
                  have u3 : ¬ (hi - 256 * ((m : Int) - 1)) * (hm' - hj') < 256 * (16 * el - hj') := by omega
                  have u4' : 0 ≤ (hi - 256 * ((m : Int) - 1)) * (hm' - hj') := by omega
                  go_wp2
                  go_roundw
                  case rel => exact ⟨k + 1, by omega, by simp, HB6.out.2.drew.drew⟩
                  case measure => simp [intOf]; omega
          · obtain rfl : k = NE := by omega
            have HBf := Lib.hid (HB3.out.1.trans (hbw.mono HB3.out.1.size))
            clear hbw
            go_wp2_with fail
            refine (first_any _).mono ?_
            rintro e w6 ⟨rfl, hb6⟩
            go_wp2
            go_ret
            exact ⟨rfl, HBf.out.trans (hb6.mono HBf.out.size)⟩
      · have hdE : digE L = 2 := by unfold digE; rw [if_neg hok]
        rw [hdE]
        clear hok hdE
        go_wp2_with fail
        refine (first_any _).mono ?_
        rintro e w3 ⟨rfl, hb3⟩
        go_wp2
        go_ret
        exact ⟨rfl, HB2.out.1.trans (hb3.mono HB2.out.1.size)⟩
    · have hF := fine_no lv dp st dl hd W0
      clear hd
      go_enter Try.func11, Try.ntmps11
      go_wp2_with (go_at_call 39; rw [← HW0.out]; refine hF.mono ?_; rintro en w1 ⟨rfl, hb1⟩; have HB1 := Lib.hid (HX.out.2.2.1.trans (hb1.mono HX.out.2.2.1.size)); clear hb1 p0 p1 p2 p3)
      refine (first_any _).mono ?_
      rintro e w2 ⟨rfl, hb2⟩
      go_wp2
      go_ret
      exact ⟨rfl, HB1.out.trans (hb2.mono HB1.out.size)⟩
end Go.Proofs.Ytjpkgmngbeliaaa.waveBounds
