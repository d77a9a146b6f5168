/-
  For any start and script the law LinkReceives returns true and leaves its arguments as they were: no condition.
-/
import Derived.Test.YtifmhecjllpjpaaZBoth
import Derived.Test.YtifmhecjllpjpaaZAlike
import Derived.Test.YtifmhecjllpjpaaZLong
import Derived.Test.YtifmhecjllpjpaaZNumber
import Derived.Test.YtifmhecjllpjpaaZPost
import Derived.Test.YtifmhecjllpjpaaZValid
import Derived.Test.YtifmhecjllpjpaaZOpenW
import Derived.Lib.SmallJoins
namespace Go.Proofs.Ytifmhecjllpjpaa.linkReceives
open Go.Proofs.Ytifmhecjllpjpaa
open Go.ChangeShapes Go.WideShapes Go.ChangeAt Go.RowKit Go.Joins Go.Maps
set_option linter.unusedVariables false
attribute [local go_sem ↓] Go.wp_at_zero Go.wp_at_succ

theorem belS {w W w1 : World} (h0 : Below w.heap.size w W) (h : Below W.heap.size W w1) : Below w.heap.size w w1 := h0.trans (h.mono h0.size)

theorem cellsCl : Try.prog.cellsOf 42 = 4 := by kernel_rfl
/-- Call i of a script at A. -/
def ClIn (w : World) (A : Option Addr) (i : Nat) : Prop :=
  ∃ b o k st sq A' n' c' X, A = some ⟨b, o, none⟩ ∧ b < w.heap.size ∧ w.cell? ⟨b, o + i * 4, none⟩ = some (.int .i64 k) ∧ w.cell? ⟨b, o + i * 4 + 1, none⟩ = some (.int .i64 st) ∧ w.cell? ⟨b, o + i * 4 + 2, none⟩ = some (.int .i64 sq) ∧ w.cell? ⟨b, o + i * 4 + 3, none⟩ = some (.slice A' n' c') ∧
    RB w w.heap.size (.slice A' n' c') X

set_option maxRecDepth 100000 in
theorem open_calls {H : Type} {enc : TypeId × Value → H} {W : World} {b : Nat} {v : Value} {d : DataW H} {ps : List MemPlace}
    (hok : Value.okWide Try.prog W .any b 31 v) (h : DataW.Trod enc Try.prog W 0 (fun _ => true) true 31 v d ps) :
    ∃ A n c, v = .slice A n c ∧ ∀ i, i < n → ClIn W A i := by
  obtain ⟨a0, n, c, rfl⟩ := WideShapes.okWide_slice Try.underlying31 hok
  obtain ⟨fuel, hf0⟩ := h
  have hf : DataW.trod enc Try.prog W 0 (fun _ => true) true fuel 31 [.slice a0 n c] = some (d, ps) := by simpa [Value.cells] using hf0
  refine ⟨a0, n, c, rfl, ?_⟩
  rcases Go.Deep.open_slice Try.underlying31 hf with ⟨hcs, _⟩ | ⟨a, len, cap, m, k, D, Pl, hcs, hb, hl, hm, hmm, hx, hel⟩
  · simp only [List.cons.injEq, and_true] at hcs
    injection hcs with e1 e2 e3
    subst e2
    exact fun i hi => absurd hi (by omega)
  · simp only [List.cons.injEq, and_true] at hcs
    injection hcs with e1 e2 e3
    subst e1 e2 e3
    intro i hi
    have hsp : a.spot = none := by
      obtain ⟨cs0, h1, _⟩ := hel 0 (by rw [hmm]; split <;> omega)
      rw [cellsCl] at h1
      obtain ⟨_, hlen, hcell⟩ := World.cells?_some h1
      have h0 := hcell 0 (by omega)
      rw [List.getElem?_eq_getElem (by omega)] at h0
      simpa [Addr.add] using World.cell?_spot h0
    obtain ⟨cs', h1, h2⟩ := hel i (by rw [hmm]; split <;> omega)
    rw [cellsCl] at h1
    obtain ⟨_, hlen, hcell⟩ := World.cells?_some h1
    have ci : Try.prog.cellsOf 3 = 1 := by kernel_rfl
    have cB : Try.prog.cellsOf 27 = 1 := by kernel_rfl
    have cF : Try.prog.cellsOf 40 = 3 := by kernel_rfl
    obtain ⟨y0, y1, k', hx', _, g0, g1⟩ := trod_struct2 Try.underlying42 h2
    match cs', hlen with
    | [u0, u1, u2, u3], _ =>
      simp only [ci, cF, List.drop_zero, List.drop_succ_cons, List.take_succ_cons, List.take_zero] at g0 g1
      obtain ⟨z0, z1, z2, k'', hx'', _, f0, f1, f2⟩ := Go.Deep.trod_struct3 Try.underlying40 g1
      simp only [ci, cB, List.drop_zero, List.drop_succ_cons, List.take_succ_cons, List.take_zero] at f0 f1 f2
      obtain ⟨kd, e0, _, _⟩ := DataW.trod_int Try.underlying3 g0
      obtain ⟨st, e1, _, _⟩ := DataW.trod_int Try.underlying3 f0
      obtain ⟨sq, e2, _, _⟩ := DataW.trod_int Try.underlying3 f1
      simp at e0 e1 e2
      subst e0 e1 e2
      obtain ⟨A', n', c', X, rfl, hXB, hX⟩ := open_bytesRB_cell f2
      have p0 := hcell 0 (by omega)
      have p1 := hcell 1 (by omega)
      have p2 := hcell 2 (by omega)
      have p3 := hcell 3 (by omega)
      rw [Go.Deep.add_add] at p0 p1 p2 p3
      simp only [List.getElem?_cons_zero, List.getElem?_cons_succ, Nat.add_zero] at p0 p1 p2 p3
      obtain ⟨bb, off, spot⟩ := a
      simp only at hsp
      subst hsp
      rw [Go.WideShapes.add_plain] at p0 p1 p2 p3
      exact ⟨bb, off, kd, st, sq, A', n', c', X, rfl, World.block_lt_of_cell? _ _ p0, p0, by rw [Nat.add_assoc]; exact p1, by rw [Nat.add_assoc]; exact p2, by rw [Nat.add_assoc]; exact p3, hX⟩

theorem C0ex (w : World) (x y z : Int) (v : Value) : ∃ W0, Hid (W0 = w.alloc (.cells #[.int .i64 x, .int .i64 y, .int .i64 z, v] 42)) ∧ Below w.heap.size w W0 ∧
    Hid (W0.heap[w.heap.size]? = some (.cells #[.int .i64 x, .int .i64 y, .int .i64 z, v] 42 (0, 0))) ∧ w.heap.size < W0.heap.size :=
  ⟨_, rfl, (Below.refl _ _).alloc (Nat.le_refl _) _, heap_alloc_new w _, by simp⟩
theorem cl_blk {w w' : World} {g : Nat} {a b c d : Value} {T : TypeId} (h : w.heap[g]? = some (.cells #[a, b, c, d] T (0, 0))) (hb : Below w.heap.size w w') : w'.cell? ⟨g, 0, none⟩ = some a ∧ w'.cell? ⟨g, 1, none⟩ = some b ∧ w'.cell? ⟨g, 2, none⟩ = some c ∧ w'.cell? ⟨g, 3, none⟩ = some d := by
  have h1 := (hb.block g (Array.getElem?_eq_some_iff.1 h).1).trans h
  exact ⟨cell_of_row _ _ _ _ _ _ h1, cell_of_row _ _ _ _ _ _ h1, cell_of_row _ _ _ _ _ _ h1, cell_of_row _ _ _ _ _ _ h1⟩

/-- The receiver that was left behind stays what it was. -/
def LeftR (w : World) (base g mb : Nat) (lv nv hv : Value) : Prop :=
  (lv = .pointer none ∧ (∃ x, nv = .int .i64 x) ∧ ∃ y, hv = .int .i64 y) ∨ ∃ (gl ml N : Nat) (st win nx : Int) (F : Hf), lv = .pointer (some ⟨gl, 0, none⟩) ∧ nv = .int .i64 nx ∧ hv = .int .i64 (N : Int) ∧ N ≤ 1024 ∧ 1 ≤ win ∧ Rcv w gl ml N st win nx F ∧ base ≤ gl ∧ base ≤ ml ∧ gl ≠ g ∧ ml ≠ mb
theorem left_below {w w' : World} {base g mb : Nat} {lv nv hv : Value} (h : LeftR w base g mb lv nv hv) (hb : Below w.heap.size w w') : LeftR w' base g mb lv nv hv := by
  rcases h with h | ⟨gl, ml, N, st, win, nx, F, h1, h2, h3, h4, h5, h6, h7⟩
  · exact .inl h
  · exact .inr ⟨gl, ml, N, st, win, nx, F, h1, h2, h3, h4, h5, rcv_below h6 hb, h7⟩
theorem left_step {w w' : World} {base g mb g2 N : Nat} {st win nx : Int} {F : Hf} {Ds : List Dl} {lv nv hv : Value} (h : LeftR w base g mb lv nv hv) (hB : Both w base g mb g2 N st win nx F Ds) (hO : Only (BothS w base g mb g2) w w') : LeftR w' base g mb lv nv hv := by
  rcases h with h | ⟨gl, ml, N', st', win', nx', F', h1, h2, h3, h4, h5, h6, h7, h8, h9, h10⟩
  · exact .inl h
  · refine .inr ⟨gl, ml, N', st', win', nx', F', h1, h2, h3, h4, h5, rcv_only h6 hO (nob_both hB) ?_ ?_, h7, h8, h9, h10⟩
    · obtain ⟨es, c, em⟩ := rcv_m hB.1
      obtain ⟨cs2, e2⟩ := rrc_g hB.2.1
      have e1 := h6.1
      rintro (e | e | e | ⟨_, cs, e⟩)
      · exact h9 e
      · subst e
        rw [em] at e1
        cases e1
      · subst e
        rw [e2] at e1
        injection e1 with e1
        injection e1 with _ e1
        exact absurd e1 (by decide)
      · rw [e] at e1
        injection e1 with e1
        injection e1 with _ e1
        exact absurd e1 (by decide)
    · obtain ⟨es, c, em⟩ := rcv_m h6
      have e1 := hB.1.1
      obtain ⟨cs2, e2⟩ := rrc_g hB.2.1
      rintro (e | e | e | ⟨_, cs, e⟩)
      · subst e
        rw [em] at e1
        cases e1
      · exact h10 e
      · subst e
        rw [em] at e2
        cases e2
      · rw [em] at e
        cases e

def RvRel (w : World) (g2 n : Nat) (st win : Int) (av ev fv lv nv hv iv : Value) (wr : World) : Prop :=
  ∃ (k g mb N : Nat) (nx ce : Int) (F : Hf) (Ds : List Dl), iv = .int .i64 (k : Int) ∧ k ≤ n ∧ av = .pointer (some ⟨g, 0, none⟩) ∧ ev = .int .i64 ce ∧ fv = .int .i64 ce ∧ N ≤ k ∧ Hid (Both wr w.heap.size g mb g2 N st win nx F Ds) ∧ Hid (LeftR wr w.heap.size g mb lv nv hv) ∧ Below w.heap.size w wr

theorem give_hold {win nx : Int} {F : Hf} {sq : Int} (h : giveE win nx F sq = 0) : nx ≤ sq ∧ F sq = none ∧ sq < nx + win ∧ sq ≤ 4294967295 := by
  unfold giveE at h
  by_cases h1 : 0 ≤ sq ∧ sq ≤ 4294967295
  · rw [if_pos h1] at h
    unfold holdE at h
    by_cases h3 : sq < nx
    · rw [if_pos h3] at h; omega
    · rw [if_neg h3] at h
      by_cases h4 : F sq ≠ none
      · rw [if_pos h4] at h; omega
      · rw [if_neg h4] at h
        by_cases h5 : nx + win ≤ sq
        · rw [if_pos h5] at h; omega
        · exact ⟨by omega, by simpa using h4, by omega, h1.2⟩
  · rw [if_neg h1] at h; omega

set_option maxRecDepth 100000 in
set_option maxHeartbeats 4000000 in
theorem walk_in (st win nx0 : Int) (A : Option Addr) (n c : Nat) (w : World) (hn : n ≤ 80) (hF : ∀ i, i < n → ClIn w A i) (hok : okR st win nx0) :
    Calls Try.prog 4 #[.agg #[.int .i64 st, .int .i64 win, .int .i64 nx0], .slice A n c] w (RetB w true) := by
  obtain ⟨W0, HW0, hw0, HG, z0⟩ : ∃ W0, Hid (W0 = w.alloc (.cells #[.int .i64 st, .int .i64 win, .int .i64 nx0] 30)) ∧ Below w.heap.size w W0 ∧
    Hid (W0.heap[w.heap.size]? = some (.cells #[.int .i64 st, .int .i64 win, .int .i64 nx0] 30 (0, 0))) ∧ w.heap.size < W0.heap.size :=
    ⟨_, rfl, (Below.refl _ _).alloc (Nat.le_refl _) _, heap_alloc_new w _, by simp⟩
  obtain ⟨k0, k1, k2, kf⟩ := fr_blk HG.out (Below.refl _ _)
  have hni : (n : Int) ≤ 80 := by omega
  have HF := Lib.hid hF
  have HN := Lib.hid (new_yes st win nx0 W0 hok)
  have hok1 := hok.2.1
  have hok2 := hok.2.2
  have HOK := Lib.hid hok
  clear hF hok kf
  go_enter Try.func4, Try.ntmps4
  go_wp2_with fail
  rw [← HW0.out]
  go_wp2_with fail
  refine HN.out.mono ?_
  rintro e w1 ⟨g, mb, rfl, hR1, hg, hm, b1⟩
  obtain ⟨k0', k1', k2', kf'⟩ := fr_blk HG.out b1
  have hap := rcv_apart hR1
  have HR1 := Lib.hid hR1
  have HB1 := Lib.hid (belS hw0 b1)
  clear k0 k1 k2 kf' hR1 b1
  go_wp2_with fail
  refine (rnew_yes st win nx0 w1 HOK.out).mono ?_
  rintro e w2 ⟨g2, rfl, hR2, hg2, hl2, b2⟩
  have h0 : RvRel w g2 n st win (.pointer (some ⟨g, 0, none⟩)) (.int .i64 0) (.int .i64 0) (.pointer none) (.int .i64 0) (.int .i64 0) (.int .i64 0) w2 :=
    ⟨0, g, mb, 0, nx0, 0, fun _ => none, [], rfl, Nat.zero_le _, rfl, rfl, rfl, Nat.le_refl _, Lib.hid ⟨rcv_below HR1.out b2, hR2 _, ⟨(fun d hd => by simp at hd), (fun k x h => by cases h), (by simp)⟩, (fun k x h => by cases h), hok2.1, by omega, by have := hw0.size; omega, by have := hw0.size; omega, Nat.le_trans HB1.out.size hg2⟩,
      Lib.hid (.inl ⟨rfl, ⟨_, rfl⟩, ⟨_, rfl⟩⟩), belS HB1.out b2⟩
  have H0 := Lib.hid h0
  clear h0 hR2 hap b2 k0' k1' k2'
  go_wp2_with fail
  go_loopw [5, 6, 8, 9, 10, 11, 55] (fun av ev fv lv nv hv iv wr => RvRel w g2 n st win av ev fv lv nv hv iv wr) (fun _ _ _ _ _ _ iv _ => n - (intOf1 iv).toNat)
  case atStart => exact H0.out
  case round =>
    obtain ⟨k, g, mb, N, nx, ce0, F, Ds, rfl, hk, rfl, rfl, rfl, hN, HB, HL, hbw⟩ := hrel
    by_cases hkn : k < n
    · obtain ⟨b, o, kd, fst, fsq, A', n', c', X, rfl, hb, p0, p1, p2, p3, hX⟩ := HF.out k hkn
      have i1 : (0 : Int) ≤ (k : Int) := by omega
      have i2 : (k : Int) < (n : Int) := by omega
      have q0 := (hbw.cell (p := ⟨b, o + k * 4, none⟩) hb).trans p0
      have q1 := (hbw.cell (p := ⟨b, o + k * 4 + 1, none⟩) hb).trans p1
      have q2 := (hbw.cell (p := ⟨b, o + k * 4 + 2, none⟩) hb).trans p2
      have q3 := (hbw.cell (p := ⟨b, o + k * 4 + 3, none⟩) hb).trans p3
      obtain ⟨W2, HW2, hw2, HG2, z2⟩ := C0ex wr kd fst fsq (.slice A' n' c')
      have HB2 := Lib.hid (belS hbw hw2)
      have HT2 := Lib.hid (both_below HB.out hw2)
      have HL2 := Lib.hid (left_below HL.out hw2)
      have HX := Lib.hid hX
      have HXl := Lib.hid hX.1.len
      have hlN := rcv_len HB.out.1 HB.out.2.2.1
      have hnx := And.intro HB.out.2.2.2.2.1 HB.out.2.2.2.2.2.1
      have hbs := hbw.size
      have hgl := rcv_apart HB.out.1
      obtain ⟨r0, r1, r2, r3⟩ := cl_blk HG2.out (Below.refl _ _)
      clear p0 p1 p2 p3 hX hbw
      by_cases hbg : 2048 < n'
      · have j1 : (2048 : Int) < (n' : Int) := by omega
        go_wp2_with fail
        rw [← HW2.out]
        go_wp2_with fail
        refine (awake_any _).mono ?_
        rintro e w3 ⟨rfl, b3⟩
        go_wp2
        go_ret
        exact ⟨rfl, belS HB2.out b3⟩
      have j1 : ¬ (2048 : Int) < (n' : Int) := by omega
      by_cases h0 : (IntKind.u64.wrap kd).tmod 3 = 0
      · have d0 : ((IntKind.u64.wrap kd).tmod 3 == 0) = true := by simp [h0]
        clear h0
        obtain ⟨ce, hce⟩ : ∃ ce, ce = takeE st win nx F fst fsq n' := ⟨_, rfl⟩
        have HC := Lib.hid hce
        clear hce
        go_wp2_with fail
        rw [← HW2.out]
        go_wp2_with fail
        refine (take_any g mb N st win nx fst fsq F X A' n' c' w.heap.size W2 HT2.out.1 HT2.out.2.2.2.1.inW (by omega) hnx hok1 (HX.out.belowM HB2.out (Nat.le_refl _)) HB2.out.size ce HC.out.symm).mono ?_
        rintro e w3 hq0
        obtain ⟨v3, rfl, hq3⟩ := holdC_of hq0
        clear hq0
        obtain ⟨A3, n3, c3, rfl⟩ := HoldC.form hq3
        have hO3 := HoldC.only hq3
        have hG3 := (hO3.block wr.heap.size z2 (by omega)).trans HG2.out
        obtain ⟨s0, s1, s2, s3⟩ := cl_blk hG3 (Below.refl _ _)
        have HB3 := Lib.hid (HB2.out.trans (hO3.below HB2.out.size (by have := HT2.out.2.2.2.2.2.2; rintro k (rfl | rfl) <;> omega)))
        have HA3 := Lib.hid (And.intro (both_a HT2.out hO3) hq3)
        clear hO3 hG3 hq3 r0 r1 r2 r3 q0 q1 q2 q3
        go_wp2_with fail
        refine (rtake_any g2 w.heap.size st win nx fst fsq F Ds X A' n' c' w.heap.size w3 HA3.out.1 HT2.out.2.2.1 HT2.out.2.2.2.1.inW (by omega) hnx hok1 (HX.out.belowM HB3.out (Nat.le_refl _)) HB3.out.size HB3.out.size ce HC.out.symm).mono ?_
        rintro e w4 ⟨v4, rfl, hq4⟩
        obtain ⟨A4, n4, c4, rfl⟩ := kpC_form hq4
        obtain ⟨N', nx', F', Ds', Es, hB5, hN5, hE5, hD3, hD4, hO5⟩ := both_step (sq := fsq) (X := X) (l := false) HT2.out HB2.out.size HA3.out.2 (Below.refl _ _) hq4 (fun hz => by
          have := takeE_zero (HC.out.symm.trans hz)
          exact ⟨this.2.2.1, this.2.2.2.2, this.1.2.2.2.1, by have := HXl.out; omega⟩) hok1.2
        have HL5 := Lib.hid (left_step HL2.out HT2.out hO5)
        have HB5 := Lib.hid (And.intro hB5 (HB2.out.trans (hO5.below HB2.out.size (by
          have := HT2.out.2.2.2.2.2.2
          rintro k (rfl | rfl | rfl | ⟨h, _⟩)
          · exact this.1
          · exact this.2.1
          · exact this.2.2
          · exact h))))
        have HD5 := Lib.hid (And.intro hD3 hD4)
        have en : (ce != ce) = false := by simp
        have hnx5 := And.intro hB5.2.2.2.2.1 hB5.2.2.2.2.2.1
        have hlN5 := rcv_len hB5.1 hB5.2.2.1
        clear hB5 hD3 hD4 hO5 hq4 s0 s1 s2 s3
        go_wp2_with fail
        refine (sameDl_yes Es _ _ (by omega) w4 HD5.out.1 HD5.out.2).mono ?_
        rintro e w5 ⟨rfl, b5⟩
        have HL6 := Lib.hid (left_below HL5.out b5)
        have HB6 := Lib.hid (And.intro (both_below HB5.out.1 b5) (belS HB5.out.2 b5))
        clear b5
        subst hlN5
        go_wp2_with fail
        refine (alike_yes g mb g2 w.heap.size st win nx' F' Ds' w5 HB6.out.1.1 HB6.out.1.2.1 HB6.out.1.2.2.1 HB6.out.1.2.2.2.1.inW hnx5 hok1 (by omega)).mono ?_
        rintro e w6 ⟨rfl, b6⟩
        have HL7 := Lib.hid (left_below HL6.out b6)
        have HB7 := Lib.hid (And.intro (both_below HB6.out.1 b6) (belS HB6.out.2 b6))
        clear b6
        go_wp2
        go_roundw
        case rel => exact ⟨k + 1, g, mb, Ds'.length, nx', ce, F', Ds', by go_num, by omega, rfl, rfl, rfl, by omega, Lib.hid HB7.out.1, HL7, HB7.out.2⟩
        case measure => simp [intOf1]; omega
      have d0 : ((IntKind.u64.wrap kd).tmod 3 == 0) = false := by simp [h0]
      by_cases h1 : (IntKind.u64.wrap kd).tmod 3 = 1
      · have d1 : ((IntKind.u64.wrap kd).tmod 3 == 1) = true := by simp [h1]
        clear h0 h1
        obtain ⟨ce, hce⟩ : ∃ ce, ce = giveE win nx F fsq := ⟨_, rfl⟩
        have HC := Lib.hid hce
        clear hce
        go_wp2_with fail
        rw [← HW2.out]
        go_wp2_with fail
        refine (giveUp_any g mb N st win nx fsq F W2 HT2.out.1 HT2.out.2.2.2.1.inW (by omega) hnx hok1 ce HC.out.symm).mono ?_
        rintro e w3 hq0
        obtain ⟨v3, rfl, hq3⟩ := holdC_of hq0
        clear hq0
        obtain ⟨A3, n3, c3, rfl⟩ := HoldC.form hq3
        have hO3 := HoldC.only hq3
        have hG3 := (hO3.block wr.heap.size z2 (by omega)).trans HG2.out
        obtain ⟨s0, s1, s2, s3⟩ := cl_blk hG3 (Below.refl _ _)
        have HB3 := Lib.hid (HB2.out.trans (hO3.below HB2.out.size (by have := HT2.out.2.2.2.2.2.2; rintro k (rfl | rfl) <;> omega)))
        have HA3 := Lib.hid (And.intro (both_a HT2.out hO3) hq3)
        clear hO3 hG3 hq3 r0 r1 r2 r3 q0 q1 q2 q3
        go_wp2_with fail
        refine (rgive_any g2 w.heap.size st win nx fsq F Ds w3 HA3.out.1 HT2.out.2.2.1 HT2.out.2.2.2.1.inW (by omega) hnx hok1 HB3.out.size ce HC.out.symm).mono ?_
        rintro e w4 ⟨v4, rfl, hq4⟩
        obtain ⟨A4, n4, c4, rfl⟩ := kpC_form hq4
        obtain ⟨N', nx', F', Ds', Es, hB5, hN5, hE5, hD3, hD4, hO5⟩ := both_step (sq := fsq) (X := []) (l := true) HT2.out HB2.out.size HA3.out.2 (Below.refl _ _) hq4 (fun hz => by
          have := give_hold (HC.out.symm.trans hz)
          exact ⟨this.1, this.2.2.1, this.2.2.2, by simp⟩) hok1.2
        have HL5 := Lib.hid (left_step HL2.out HT2.out hO5)
        have HB5 := Lib.hid (And.intro hB5 (HB2.out.trans (hO5.below HB2.out.size (by
          have := HT2.out.2.2.2.2.2.2
          rintro k (rfl | rfl | rfl | ⟨h, _⟩)
          · exact this.1
          · exact this.2.1
          · exact this.2.2
          · exact h))))
        have HD5 := Lib.hid (And.intro hD3 hD4)
        have en : (ce != ce) = false := by simp
        have hnx5 := And.intro hB5.2.2.2.2.1 hB5.2.2.2.2.2.1
        have hlN5 := rcv_len hB5.1 hB5.2.2.1
        clear hB5 hD3 hD4 hO5 hq4 s0 s1 s2 s3
        go_wp2_with fail
        refine (sameDl_yes Es _ _ (by omega) w4 HD5.out.1 HD5.out.2).mono ?_
        rintro e w5 ⟨rfl, b5⟩
        have HL6 := Lib.hid (left_below HL5.out b5)
        have HB6 := Lib.hid (And.intro (both_below HB5.out.1 b5) (belS HB5.out.2 b5))
        clear b5
        subst hlN5
        go_wp2_with fail
        refine (alike_yes g mb g2 w.heap.size st win nx' F' Ds' w5 HB6.out.1.1 HB6.out.1.2.1 HB6.out.1.2.2.1 HB6.out.1.2.2.2.1.inW hnx5 hok1 (by omega)).mono ?_
        rintro e w6 ⟨rfl, b6⟩
        have HL7 := Lib.hid (left_below HL6.out b6)
        have HB7 := Lib.hid (And.intro (both_below HB6.out.1 b6) (belS HB6.out.2 b6))
        clear b6
        go_wp2
        go_roundw
        case rel => exact ⟨k + 1, g, mb, Ds'.length, nx', ce, F', Ds', by go_num, by omega, rfl, rfl, rfl, by omega, Lib.hid HB7.out.1, HL7, HB7.out.2⟩
        case measure => simp [intOf1]; omega
      have d1 : ((IntKind.u64.wrap kd).tmod 3 == 1) = false := by simp [h1]
      have h2 : (IntKind.u64.wrap kd).tmod 3 = 2 := by
        have h3 : 0 ≤ IntKind.u64.wrap kd := by rw [IntKind.wrap_u64]; omega
        have h4 := Int.tmod_nonneg 3 h3
        have h5 := Int.tmod_lt_of_pos (IntKind.u64.wrap kd) (show (0 : Int) < 3 by omega)
        omega
      have d2 : ((IntKind.u64.wrap kd).tmod 3 == 2) = true := by simp [h2]
      clear h0 h1 h2
      go_wp2_with fail
      rw [← HW2.out]
      go_wp2_with fail
      refine (next_any g mb N st win nx F W2 HT2.out.1 hok1.1).mono ?_
      rintro e w3 ⟨rfl, rfl⟩
      go_wp2_with fail
      refine (held_any g mb N st win nx F W2 HT2.out.1 hok1.1 (by omega)).mono ?_
      rintro e w3 ⟨rfl, rfl⟩
      go_wp2_with fail
      refine (copy_any g mb N st win nx F W2 HT2.out.1 (by omega) hok1.1 (fun k y hy => by have := HT2.out.2.2.2.1 k y hy; omega)).mono ?_
      rintro e w4 ⟨g', cb, rfl, hR4, hg4, hc4, b4⟩
      have hT4 := both_below HT2.out b4
      have hB5 : Both w4 w.heap.size g' cb g2 N st win nx F Ds := ⟨hR4, hT4.2.1, hT4.2.2.1, hT4.2.2.2.1, hT4.2.2.2.2.1, hT4.2.2.2.2.2.1, by have := HB2.out.size; omega, by have := HB2.out.size; omega, hT4.2.2.2.2.2.2.2.2⟩
      have hg2' := rcv_apart HT2.out.1
      have HL5 := Lib.hid (show LeftR w4 w.heap.size g' cb (.pointer (some ⟨g, 0, none⟩)) (.int .i64 nx) (.int .i64 (N : Int)) from .inr ⟨g, mb, N, st, win, nx, F, rfl, rfl, rfl, by omega, hok1.1, hT4.1, hT4.2.2.2.2.2.2.1, hT4.2.2.2.2.2.2.2.1, by omega, by omega⟩)
      have HB5 := Lib.hid (And.intro hB5 (belS HB2.out b4))
      have HD5 := Lib.hid (And.intro (dlr_nil w4) (dlr_nil w4))
      have en : (ce0 != ce0) = false := by simp
      clear hT4 hB5 hR4 b4 r0 r1 r2 r3 q0 q1 q2 q3
      go_wp2_with fail
      refine (sameDl_yes [] (.slice none 0 0) (.slice none 0 0) (by simp) w4 HD5.out.1 HD5.out.2).mono ?_
      rintro e w5 ⟨rfl, b5⟩
      have HL6 := Lib.hid (left_below HL5.out b5)
      have HB6 := Lib.hid (And.intro (both_below HB5.out.1 b5) (belS HB5.out.2 b5))
      clear b5
      subst hlN
      go_wp2_with fail
      refine (alike_yes g' cb g2 w.heap.size st win nx F Ds w5 HB6.out.1.1 HB6.out.1.2.1 HB6.out.1.2.2.1 HB6.out.1.2.2.2.1.inW hnx hok1 (by omega)).mono ?_
      rintro e w6 ⟨rfl, b6⟩
      have HL7 := Lib.hid (left_below HL6.out b6)
      have HB7 := Lib.hid (And.intro (both_below HB6.out.1 b6) (belS HB6.out.2 b6))
      clear b6
      go_wp2
      go_roundw
      case rel => exact ⟨k + 1, g', cb, Ds.length, nx, ce0, F, Ds, by go_num, by omega, rfl, rfl, rfl, by omega, Lib.hid HB7.out.1, HL7, HB7.out.2⟩
      case measure => simp [intOf1]; omega
    · obtain rfl : k = n := by omega
      have HBw := Lib.hid hbw
      clear hbw
      rcases HL.out with ⟨rfl, ⟨x, rfl⟩, y, rfl⟩ | ⟨gl, ml, Nl, st', win', nx', F', rfl, rfl, rfl, hNl, hwl, hRl, _⟩
      · go_wp2_with fail
        refine (awake_any _).mono ?_
        rintro e w7 ⟨rfl, b7⟩
        go_wp2
        go_ret
        exact ⟨rfl, belS HBw.out b7⟩
      · have HRl := Lib.hid hRl
        have en : (nx' == nx') = true := by simp
        have en2 : ((Nl : Int) == (Nl : Int)) = true := by simp
        clear hRl
        go_wp2_with fail
        refine (next_any gl ml Nl st' win' nx' F' wr HRl.out hwl).mono ?_
        rintro e w3 ⟨rfl, rfl⟩
        go_wp2_with fail
        refine (held_any gl ml Nl st' win' nx' F' wr HRl.out hwl (by omega)).mono ?_
        rintro e w3 ⟨rfl, rfl⟩
        go_wp2_with fail
        refine (awake_any _).mono ?_
        rintro e w7 ⟨rfl, b7⟩
        go_wp2
        go_ret
        exact ⟨rfl, belS HBw.out b7⟩

set_option maxRecDepth 100000 in
set_option maxHeartbeats 2000000 in
theorem walk_bad (st win nx0 : Int) (A : Option Addr) (n c : Nat) (w : World) (hn : n ≤ 80) (h : ¬ okR st win nx0) :
    Calls Try.prog 4 #[.agg #[.int .i64 st, .int .i64 win, .int .i64 nx0], .slice A n c] w (RetB w true) := by
  obtain ⟨W0, HW0, hw0, HG, z0⟩ : ∃ W0, Hid (W0 = w.alloc (.cells #[.int .i64 st, .int .i64 win, .int .i64 nx0] 30)) ∧ Below w.heap.size w W0 ∧
    Hid (W0.heap[w.heap.size]? = some (.cells #[.int .i64 st, .int .i64 win, .int .i64 nx0] 30 (0, 0))) ∧ w.heap.size < W0.heap.size :=
    ⟨_, rfl, (Below.refl _ _).alloc (Nat.le_refl _) _, heap_alloc_new w _, by simp⟩
  obtain ⟨k0, k1, k2, kf⟩ := fr_blk HG.out (Below.refl _ _)
  have hni : (n : Int) ≤ 80 := by omega
  have HN := Lib.hid (new_no st win nx0 W0 h)
  have HR := Lib.hid (rnew_no st win nx0 W0 h)
  clear h kf
  go_enter Try.func4, Try.ntmps4
  go_wp2_with fail
  rw [← HW0.out]
  go_wp2_with fail
  refine HN.out.mono ?_
  rintro e w1 ⟨rfl, rfl⟩
  go_wp2_with fail
  refine HR.out.mono ?_
  rintro e w2 ⟨rfl, rfl⟩
  go_wp2_with fail
  refine (awake_any _).mono ?_
  rintro e w4 ⟨rfl, b4⟩
  go_wp2
  go_ret
  exact ⟨rfl, belS hw0 b4⟩

set_option maxRecDepth 100000 in
theorem walk (st win nx0 : Int) (A : Option Addr) (n c : Nat) (w : World) (hF : ∀ i, i < n → ClIn w A i) :
    Calls Try.prog 4 #[.agg #[.int .i64 st, .int .i64 win, .int .i64 nx0], .slice A n c] w (RetB w true) := by
  by_cases hn : n ≤ 80
  · by_cases hok : okR st win nx0
    · exact walk_in st win nx0 A n c w hn hF hok
    · exact walk_bad st win nx0 A n c w hn hok
  · have h1 : (80 : Int) < (n : Int) := by omega
    obtain ⟨W0, HW0, hw0, HG, z0⟩ : ∃ W0, Hid (W0 = w.alloc (.cells #[.int .i64 st, .int .i64 win, .int .i64 nx0] 30)) ∧ Below w.heap.size w W0 ∧
      Hid (W0.heap[w.heap.size]? = some (.cells #[.int .i64 st, .int .i64 win, .int .i64 nx0] 30 (0, 0))) ∧ w.heap.size < W0.heap.size :=
      ⟨_, rfl, (Below.refl _ _).alloc (Nat.le_refl _) _, heap_alloc_new w _, by simp⟩
    go_enter Try.func4, Try.ntmps4
    go_wp2_with fail
    rw [← HW0.out]
    go_wp2_with fail
    refine (awake_any _).mono ?_
    rintro e w7 ⟨rfl, b7⟩
    go_wp2
    go_ret
    exact ⟨rfl, belS hw0 b7⟩

theorem cellsSt : Try.prog.cellsOf 30 = 3 := by kernel_rfl
set_option maxRecDepth 100000 in
theorem open_start {H : Type} {enc : TypeId × Value → H} {W : World} {b : Nat} {v : Value} {d : DataW H} {ps : List MemPlace}
    (hok : Value.okWide Try.prog W .any b 30 v) (h : DataW.Trod enc Try.prog W 0 (fun _ => true) true 30 v d ps) :
    ∃ st win nx, v = .agg #[.int .i64 st, .int .i64 win, .int .i64 nx] := by
  obtain ⟨c0, c1, c2, y0, y1, y3, m, rfl, rfl, rfl, hy0, hy1, hy3⟩ := open_agg3 Try.underlying30 (by kernel_rfl) cellsSt hok h
  obtain ⟨st, e0, rfl, wst⟩ := DataW.trod_int Try.underlying3 hy0
  obtain ⟨sq, e1, rfl, wsq⟩ := DataW.trod_int Try.underlying3 hy1
  obtain ⟨nx, e2, rfl, wnx⟩ := DataW.trod_int Try.underlying3 hy3
  simp at e0 e1 e2
  subst e0 e1 e2
  exact ⟨st, sq, nx, rfl⟩

set_option maxRecDepth 100000 in
theorem lifted (os : Os) (started : os.Started) (H : Type) (enc : TypeId × Value → H) :
    ReturnsInHanded {} Try.checked os 4 .any (Rows.linkReceivesSpec.pre6 enc Try.prog Try.f4 Rows.linkReceivesRow.domain false) (Rows.linkReceivesSpec.post enc Try.prog Try.f4 false true false false) := by
  refine returnsInHanded_of_change (C := Try.checked) ownTry started (by kernel_rfl) Try.func4
    (ChangeSpec.witness6 (enc := enc) (C := Try.checked) false ⟨#[], #[.agg #[.int .i64 0, .int .i64 0, .int .i64 0], .slice none 0 0], []⟩ 8 (by kernel_rfl) (by kernel_rfl) (by kernel_rfl) (by kernel_rfl)) ?_
  intro W base args ds gs before hval0 hW hcnd _
  have hval : ∀ (j : Nat) t v, Try.f4.params[j]? = some t → args[j]? = some v → Value.okWide Try.prog W .any base t v := hval0
  have hW' := hW
  obtain ⟨p, q, hA0, hV, rfl, hfz, hnd⟩ := hW
  have hA : DataW.TrodAll enc Try.prog W 0 (fun _ => true) true Try.f4.params.toList args.toList ds p := hA0
  rw [Try.params4] at hA hval
  obtain ⟨v0, v1, d0, d1, p0, p1, rfl, rfl, rfl, h0, h1⟩ := trodAll_two hA
  obtain ⟨rfl, rfl⟩ := trodVars_none hV
  obtain ⟨st, win, nx, rfl⟩ := open_start (hval 0 _ v0 rfl rfl) h0
  obtain ⟨A1, n1, c1, rfl, hF⟩ := open_calls (hval 1 _ v1 rfl rfl) h1
  clear hA0 hval0
  refine (walk st win nx A1 n1 c1 W hF).mono fun e W' ⟨he, hg⟩ => ?_
  subst he
  exact ⟨_, rfl, post_reads laidOut (by kernel_rfl) hW' rfl (fun _ _ _ => trodAll_mk1 (shut_bool Try.underlying4 _)) (fun _ => rfl) rfl hg (ok_one (by kernel_rfl) rfl (okWide_bool_mk Try.underlying4 _))⟩

theorem over : Rows.linkReceivesRow.holds Try.pinned (OpenSpec.ofChange Rows.linkReceivesSpec) :=
  OpenClaim.holds_of_wide 4 Try.f4 rfl rfl rfl rfl rfl rfl rfl ⟨rfl, rfl, rfl, rfl, rfl⟩ rfl rfl rfl rfl rfl (by kernel_rfl) Try.func4 (by kernel_rfl)
    (of_decide_eq_true (by kernel_rfl)) (by unfold Func.isWrapper; first | (rw [if_pos (by decide +kernel)]; kernel_rfl) | (rw [if_neg (by decide +kernel)]; exact ⟨rfl, rfl⟩))
    (fun os started H enc _ => lifted os started H enc)

theorem proved : Rows.LinkReceivesSaid := over
end Go.Proofs.Ytifmhecjllpjpaa.linkReceives
