/-
  Encode of a pulse: refused; the document's.
-/
import Derived.Test.YtndgpgciccgapaaYEnc
import Derived.Test.YtndgpgciccgapaaVDifr
namespace Go.Proofs.Ytndgpgciccgapaa
open Go.RowKit

def RetBad (w : World) (e : Ending) (w' : World) : Prop := e = .returned (.tuple #[.slice none 0 0, .int .i64 30]) ∧ Below w.heap.size w w'
set_option maxRecDepth 100000 in
set_option maxHeartbeats 1000000 in
theorem encode_no (t a b c d : Int) (zs : List Int) (A : Option Addr) (n cp B : Nat) (w : World) (hx : IW w B (.slice A n cp) zs) (hB : B ≤ w.heap.size) (hok : ¬ okP t a b c d zs) :
    Calls Try.prog 39 #[.agg #[.int .i64 t, .int .i64 a, .int .i64 b, .int .i64 c, .int .i64 d, .slice A n cp]] w (RetBad w) := by
  obtain ⟨W0, hW0, hb0, hG, z0⟩ := P0ex w t a b c d (.slice A n cp)
  obtain ⟨k0, k1, k2, k3, k4, k5⟩ := blk6 hG.out (Below.refl _ _)
  have HV := Lib.hid (valid_any t a b c d zs A n cp B W0 (hx.belowM hb0 hB) (Nat.le_trans hB hb0.size))
  rw [decide_eq_false hok] at HV
  clear hx hok
  go_enter Try.func39, Try.ntmps39
  go_wp2_with fail
  rw [← hW0.out]
  refine HV.out.mono ?_
  rintro e w1 ⟨rfl, b1⟩
  have hb1 := hb0.trans (b1.mono hb0.size)
  clear b1
  go_wp2
  go_ret2
  exact ⟨rfl, hb1⟩
set_option maxRecDepth 100000 in
set_option maxHeartbeats 1000000 in
theorem refEncode_no (t a b c d : Int) (zs : List Int) (A : Option Addr) (n cp B : Nat) (w : World) (hx : IW w B (.slice A n cp) zs) (hB : B ≤ w.heap.size) (hok : ¬ okP t a b c d zs) :
    Calls Try.prog 40 #[.agg #[.int .i64 t, .int .i64 a, .int .i64 b, .int .i64 c, .int .i64 d, .slice A n cp]] w (RetBad w) := by
  obtain ⟨W0, hW0, hb0, hG, z0⟩ := P0ex w t a b c d (.slice A n cp)
  obtain ⟨k0, k1, k2, k3, k4, k5⟩ := blk6 hG.out (Below.refl _ _)
  have HV := Lib.hid (refValid_any t a b c d zs A n cp B W0 (hx.belowM hb0 hB) (Nat.le_trans hB hb0.size))
  rw [decide_eq_false hok] at HV
  clear hx hok
  go_enter Try.func40, Try.ntmps40
  go_wp2_with fail
  rw [← hW0.out]
  refine HV.out.mono ?_
  rintro e w1 ⟨rfl, b1⟩
  have hb1 := hb0.trans (b1.mono hb0.size)
  clear b1
  go_wp2
  go_ret2
  exact ⟨rfl, hb1⟩

theorem ref_sig (L : List Nat) (v : Value) (base : Nat) (n : Int) (w : World) (hn : -2305843009213693952 ≤ n) (hn' : n ≤ 2305843009213693951) (hv : OB w base v L) (h1 : L.length ≤ 1048576) :
    Calls Try.prog 73 #[v, .int .i64 n] w (RetNum w (L ++ enc7 (zig n))) := by
  have hr := (rb_of_owns hv).2
  obtain ⟨A, c, e⟩ := hr.form
  subst e
  have h := refSigned_any L n A L.length c w.heap.size h1 w hr (Nat.le_refl _)
  unfold sigC sigL at h
  rw [if_neg (by omega), if_neg (by omega)] at h
  exact h
theorem ref_num (L : List Nat) (v : Value) (base n : Nat) (w : World) (hn : n ≤ 4611686018427387903) (hv : OB w base v L) (h1 : L.length ≤ 1048576) :
    Calls Try.prog 72 #[v, .int .i64 (n : Int)] w (RetNum w (L ++ enc7 n)) :=
  refNumber_ok L n hn v w.heap.size h1 w (rb_of_owns hv).2 (Nat.le_refl _)
def ScRr (W0 : World) (t a b c d : Int) (bv iv : Value) (wr : World) : Prop :=
  Below W0.heap.size W0 wr ∧ ((iv = .int .i64 0 ∧ OB wr W0.heap.size bv (enc7 t.toNat)) ∨ (iv = .int .i64 1 ∧ OB wr W0.heap.size bv (L1 t a)) ∨ (iv = .int .i64 2 ∧ OB wr W0.heap.size bv (L2 t a b)) ∨
    (iv = .int .i64 3 ∧ OB wr W0.heap.size bv (L3 t a b c)) ∨ (iv = .int .i64 4 ∧ OB wr W0.heap.size bv (L4 t a b c d)))
theorem ob_base {w : World} {b1 b2 : Nat} {v : Value} {L : List Nat} (h : OB w b1 v L) (hb : b2 ≤ b1) : OB w b2 v L := owns_base h hb

set_option maxRecDepth 100000 in
set_option maxHeartbeats 4000000 in
theorem refEncode_yes (t a b c d : Int) (zs : List Int) (A : Option Addr) (n cp B : Nat) (w : World) (hx : IW w B (.slice A n cp) zs) (hB : B ≤ w.heap.size) (hok : okP t a b c d zs) :
    Calls Try.prog 40 #[.agg #[.int .i64 t, .int .i64 a, .int .i64 b, .int .i64 c, .int .i64 d, .slice A n cp]] w (RetNum w (L5 t a b c d (difK zs zs.length).length ++ encK (difK zs zs.length) (difK zs zs.length).length)) := by
  obtain ⟨W0, hW0, hb0, hG, z0⟩ := P0ex w t a b c d (.slice A n cp)
  obtain ⟨k0, k1, k2, k3, k4, k5⟩ := blk6 hG.out (Below.refl _ _)
  have HX := Lib.hid (And.intro (hx.belowM hb0 hB) (Nat.le_trans hB hb0.size))
  have HV := Lib.hid (refValid_any t a b c d zs A n cp B W0 HX.out.1 HX.out.2)
  rw [decide_eq_true hok] at HV
  have hn := hx.len
  have hz6 := hok.2.2.1
  have hn1000 : n ≤ 1000 := by omega
  have HQ := Lib.hid hok
  obtain ⟨R, hR⟩ : ∃ R, R = difK zs zs.length := ⟨_, rfl⟩
  have HOR := Lib.hid (show okR2 R by rw [hR]; exact okR2_of hok.2.2)
  rw [← hR]
  have HRR := Lib.hid hR
  have LL := L_len (m := R.length) hok.1 hok.2.1.1.1 hok.2.1.1.2.1 hok.2.1.1.2.2.1 hok.2.1.1.2.2.2 HOR.out.1
  obtain ⟨T, hT⟩ : ∃ T : Nat, t = (T : Int) := ⟨t.toNat, by have := hok.1.1; omega⟩
  subst hT
  have hT4 : T ≤ 4611686018427387903 := by have := hok.1.2; omega
  clear hx hR hn hz6 hok
  go_enter Try.func40, Try.ntmps40
  go_wp2_with fail
  rw [← hW0.out]
  refine HV.out.mono ?_
  rintro e w1 ⟨rfl, b1⟩
  obtain ⟨k0', k1', k2', k3', k4', k5'⟩ := blk6 hG.out b1
  have HW := Lib.hid (ref_num [] (.slice none 0 0) 0 T w1 hT4 (World.ownsRow_nil _ _ _ _) (by simp))
  have HB1 := Lib.hid b1
  clear k0 k1 k2 k3 k4 k5 b1
  go_wp2_with fail
  refine HW.out.mono ?_
  rintro e w3 ⟨v3, rfl, o3, b3⟩
  have hb3 := HB1.out.trans (b3.mono HB1.out.size)
  have H0 := Lib.hid (show ScRr W0 (T : Int) a b c d v3 (.int .i64 0) w3 from ⟨hb3, Or.inl ⟨rfl, by simpa using ob_base o3 HB1.out.size⟩⟩)
  clear o3 b3 hb3 k0' k1' k2' k3' k4' k5'
  go_wp2
  go_loopw [4, 6] (fun bv iv wr => ScRr W0 (T : Int) a b c d bv iv wr) (fun _ iv _ => 4 - (intOf1 iv).toNat)
  case atStart => exact H0.out
  case round =>
    obtain ⟨hb, hrel⟩ := hrel
    obtain ⟨k0, k1, k2, k3, k4, k5⟩ := blk6 hG.out hb
    have hs0 := hb.size
    rcases hrel with ⟨rfl, ho⟩ | ⟨rfl, ho⟩ | ⟨rfl, ho⟩ | ⟨rfl, ho⟩ | ⟨rfl, ho⟩
    · have HW4 := Lib.hid (ref_sig (enc7 (T : Int).toNat) _ W0.heap.size a wr (by have := HQ.out.2.1.1.1.1; omega) (by have := HQ.out.2.1.1.1.2; omega) ho (by have := LL; omega))
      have HB := Lib.hid hb
      clear hb ho
      go_wp2_with fail
      refine HW4.out.mono ?_
      rintro e w4 ⟨v4, rfl, o4, b4⟩
      have HO4 := Lib.hid (ob_base (show OB w4 wr.heap.size v4 (L1 (T : Int) a) from o4) hs0)
      have HB4 := Lib.hid (HB.out.trans (b4.mono hs0))
      clear o4 b4 k0 k1 k2 k3 k4 k5
      go_wp2
      go_roundw
      case rel => exact ⟨HB4.out, Or.inr (Or.inl ⟨rfl, HO4.out⟩)⟩
      case measure => simp [intOf1]
    · have HW4 := Lib.hid (ref_sig (L1 (T : Int) a) _ W0.heap.size b wr (by have := HQ.out.2.1.1.2.1.1; omega) (by have := HQ.out.2.1.1.2.1.2; omega) ho (by have := LL; omega))
      have HB := Lib.hid hb
      clear hb ho
      go_wp2_with fail
      refine HW4.out.mono ?_
      rintro e w4 ⟨v4, rfl, o4, b4⟩
      have HO4 := Lib.hid (ob_base (show OB w4 wr.heap.size v4 (L2 (T : Int) a b) from o4) hs0)
      have HB4 := Lib.hid (HB.out.trans (b4.mono hs0))
      clear o4 b4 k0 k1 k2 k3 k4 k5
      go_wp2
      go_roundw
      case rel => exact ⟨HB4.out, Or.inr (Or.inr (Or.inl ⟨rfl, HO4.out⟩))⟩
      case measure => simp [intOf1]
    · have HW4 := Lib.hid (ref_sig (L2 (T : Int) a b) _ W0.heap.size c wr (by have := HQ.out.2.1.1.2.2.1.1; omega) (by have := HQ.out.2.1.1.2.2.1.2; omega) ho (by have := LL; omega))
      have HB := Lib.hid hb
      clear hb ho
      go_wp2_with fail
      refine HW4.out.mono ?_
      rintro e w4 ⟨v4, rfl, o4, b4⟩
      have HO4 := Lib.hid (ob_base (show OB w4 wr.heap.size v4 (L3 (T : Int) a b c) from o4) hs0)
      have HB4 := Lib.hid (HB.out.trans (b4.mono hs0))
      clear o4 b4 k0 k1 k2 k3 k4 k5
      go_wp2
      go_roundw
      case rel => exact ⟨HB4.out, Or.inr (Or.inr (Or.inr (Or.inl ⟨rfl, HO4.out⟩)))⟩
      case measure => simp [intOf1]
    · have HW4 := Lib.hid (ref_sig (L3 (T : Int) a b c) _ W0.heap.size d wr (by have := HQ.out.2.1.1.2.2.2.1; omega) (by have := HQ.out.2.1.1.2.2.2.2; omega) ho (by have := LL; omega))
      have HB := Lib.hid hb
      clear hb ho
      go_wp2_with fail
      refine HW4.out.mono ?_
      rintro e w4 ⟨v4, rfl, o4, b4⟩
      have HO4 := Lib.hid (ob_base (show OB w4 wr.heap.size v4 (L4 (T : Int) a b c d) from o4) hs0)
      have HB4 := Lib.hid (HB.out.trans (b4.mono hs0))
      clear o4 b4 k0 k1 k2 k3 k4 k5
      go_wp2
      go_roundw
      case rel => exact ⟨HB4.out, Or.inr (Or.inr (Or.inr (Or.inr ⟨rfl, HO4.out⟩)))⟩
      case measure => simp [intOf1]
    · have HD := Lib.hid (refDifferences_any zs (all60_of HQ.out.2.2) A n cp B hn1000 wr (HX.out.1.belowM hb HX.out.2) (Nat.le_trans HX.out.2 hs0))
      rw [← HRR.out] at HD
      have HB := Lib.hid hb
      have HO := Lib.hid ho
      clear hb ho
      obtain ⟨wo, hwo⟩ : ∃ x, x = wr := ⟨_, rfl⟩
      subst hwo
      go_wp2_with fail
      refine HD.out.mono ?_
      rintro e w2 ⟨v2, rfl, hS2, b2⟩
      have hb2 := HB.out.trans (b2.mono hs0)
      rcases (SL.slice hS2) with ⟨A3, c3, hv2, hA3, hc3⟩
      subst hv2
      have HW5 := Lib.hid (ref_num (L4 (T : Int) a b c d) _ W0.heap.size R.length w2 (by have := HOR.out.1; omega) (HO.out.below b2) (by have := LL; omega))
      have HS2 := Lib.hid (And.intro hS2 hb2)
      have HA3 := Lib.hid (And.intro hA3 hc3)
      clear hS2 b2 hb2 hA3 hc3 k0 k1 k2 k3 k4 k5
      go_wp2_with fail
      refine HW5.out.mono ?_
      rintro e w5 ⟨v5, rfl, o5, b5⟩
      have H5 := Lib.hid (show StR w2 (L5 (T : Int) a b c d R.length) R v5 (.int .i64 0) w5 from ⟨0, rfl, Nat.zero_le _, Lib.hid (by simpa [encK, L5] using (show OB w5 w2.heap.size v5 _ from o5)), b5⟩)
      clear o5 b5
      go_wp2
      go_loopw [4, 8] (fun bv iv wr => StR w2 (L5 (T : Int) a b c d R.length) R bv iv wr) (fun _ iv _ => R.length - (intOf1 iv).toNat)
      case atStart => exact H5.out
      case round =>
        obtain ⟨k, rfl, hk, HO5, hb⟩ := hrel
        have hs2 := hb.size
        by_cases hkR : k < R.length
        · obtain ⟨g, hg⟩ := HA3.out.1 (by omega)
          obtain ⟨rfl, hg1, hg2⟩ := hg
          have hlt : g < w2.heap.size := hg2
          obtain ⟨δ, cnt, hp⟩ : ∃ δ cnt, R[k] = (δ, cnt) := ⟨_, _, rfl⟩
          have hpr := HOR.out.2 R[k] (List.getElem_mem hkR)
          rw [hp] at hpr
          simp only at hpr
          have p0' : w2.cell? ⟨g, k * 2, none⟩ = some (.int .i64 δ) := by
            have := SL.cell stE_len HS2.out.1 (i := k) (j := 0) hkR (by omega)
            rw [hp] at this
            simpa [ints, stE] using this
          have p1' : w2.cell? ⟨g, k * 2 + 1, none⟩ = some (.int .i64 (cnt : Int)) := by
            have := SL.cell stE_len HS2.out.1 (i := k) (j := 1) hkR (by omega)
            rw [hp] at this
            simpa [ints, stE] using this
          have p0 := (hb.cell (p := ⟨g, k * 2, none⟩) hlt).trans p0'
          have p1 := (hb.cell (p := ⟨g, k * 2 + 1, none⟩) hlt).trans p1'
          have hes : encK R (k + 1) = encK R k ++ enc7 (zig δ) ++ enc7 (cnt - 1) := by rw [encK_succ hkR, hp]; simp [stL]
          have hel := encK_len HOR.out k (by omega)
          have hrl := HOR.out.1
          have HL := Lib.hid hes
          have HWa := Lib.hid (ref_sig (L5 (T : Int) a b c d R.length ++ encK R k) _ w2.heap.size δ wr (by omega) (by omega) HO5.out (by rw [List.length_append]; omega))
          have i6 : (0 : Int) ≤ (k : Int) := by omega
          have i7 : (k : Int) < (R.length : Int) := by omega
          have c1' : (1 : Int) ≤ (cnt : Int) := by omega
          have c2' : (cnt : Int) ≤ 256 := by omega
          have ec : (cnt : Int) - 1 = ((cnt - 1 : Nat) : Int) := by omega
          have EC := Lib.hid ec
          have hzl := enc7_len9 (zig_le (n := δ) (by omega) (by omega))
          have HB5 := Lib.hid (And.intro hb p1')
          clear hes hb hp ec p0' p1'
          go_wp2_with fail
          refine HWa.out.mono ?_
          rintro e w8 ⟨v8, rfl, o8, b8⟩
          have hb8 := HB5.out.1.trans (b8.mono hs2)
          have p2 := (hb8.cell (p := ⟨g, k * 2 + 1, none⟩) hlt).trans HB5.out.2
          have HWb := Lib.hid (ref_num (L5 (T : Int) a b c d R.length ++ encK R k ++ enc7 (zig δ)) _ wr.heap.size (cnt - 1) w8 (by omega) o8 (by rw [List.length_append, List.length_append]; omega))
          rw [← EC.out] at HWb
          have HB8 := Lib.hid hb8
          clear o8 b8 hb8 p0 p1
          go_wp2_with fail
          refine HWb.out.mono ?_
          rintro e w9 ⟨v9, rfl, o9, b9⟩
          have HO9 := Lib.hid (show OB w9 w2.heap.size v9 (L5 (T : Int) a b c d R.length ++ encK R (k + 1)) from by rw [HL.out, ← List.append_assoc, ← List.append_assoc]; exact ob_base o9 HB8.out.size)
          have HB9 := Lib.hid (HB8.out.trans (b9.mono HB8.out.size))
          clear o9 b9
          go_wp2
          go_roundw
          case rel => exact ⟨k + 1, by go_num, by omega, HO9, HB9.out⟩
          case measure => simp [intOf1]; omega
        · obtain rfl : k = R.length := by omega
          have hw2 := hb0.trans (HS2.out.2.mono hb0.size)
          have HO' := Lib.hid (ob_base HO5.out hw2.size)
          have HBw := Lib.hid (hw2.trans (hb.mono hw2.size))
          clear hb hw2
          go_wp2
          go_ret2
          exact ⟨_, rfl, HO'.out, HBw.out⟩

set_option maxRecDepth 100000 in
set_option maxHeartbeats 1000000 in
theorem sameBytes_yes (L : List Nat) (v1 v2 : Value) (b1 b2 : Nat) (w : World) (h1 : OB w b1 v1 L) (h2 : OB w b2 v2 L) (hl : L.length ≤ 1048576) :
    Calls Try.prog 43 #[v1, v2] w (RetB w true) := by
  have r1 := (rb_of_owns h1).2
  have r2 := (rb_of_owns h2).2
  obtain ⟨A1, c1, e⟩ := r1.form
  subst e
  obtain ⟨A2, c2, e⟩ := r2.form
  subst e
  obtain ⟨n, hn⟩ : ∃ n, n = L.length := ⟨_, rfl⟩
  rw [← hn] at r1 r2 hl ⊢
  have HR := Lib.hid (And.intro r1 r2)
  have qn : ((n : Int) != (n : Int)) = false := by simp
  clear h1 h2 r1 r2 hn
  go_enter Try.func43, Try.ntmps43
  go_wp2
  go_loopw [5] (fun iv wr => ∃ k : Nat, k ≤ n ∧ iv = .int .i64 (k : Int) ∧ Below w.heap.size w wr) (fun iv _ => n - (intOf1 iv).toNat)
  case atStart => exact ⟨0, Nat.zero_le _, rfl, Below.refl _ _⟩
  case round =>
    obtain ⟨k, hk, rfl, hb⟩ := hrel
    by_cases hkn : k < n
    · obtain ⟨g1, o1, rfl, hg1, hc1⟩ := HR.out.1.1.at_ (by omega)
      obtain ⟨g2, o2, rfl, hg2, hc2⟩ := HR.out.2.1.at_ (by omega)
      have d1 := (hb.cell (p := ⟨g1, o1 + k, none⟩) hg1).trans (hc1 k hkn)
      have d2 := (hb.cell (p := ⟨g2, o2 + k, none⟩) hg2).trans (hc2 k hkn)
      obtain ⟨x, hx⟩ : ∃ x, x = nth L k := ⟨_, rfl⟩
      rw [← hx] at d1 d2
      have ex : ((x : Int) != (x : Int)) = false := by simp
      have i1 : (0 : Int) ≤ (k : Int) := by omega
      have i2 : (k : Int) < (n : Int) := by omega
      have HB := Lib.hid hb
      clear hc1 hc2 hx hb
      go_wp2
      go_region
      go_wp2
      go_roundw
      case rel => exact ⟨k + 1, by omega, by go_num, HB.out.drew⟩
      case measure => simp [intOf1]; omega
    · obtain rfl : k = n := by omega
      go_wp2
      go_ret
      exact ⟨rfl, hb⟩
end Go.Proofs.Ytndgpgciccgapaa
