/-
  Encode of a pulse, the program's.
-/
import Derived.Test.YtndgpgciccgapaaYVal2
import Derived.Test.YtndgpgciccgapaaYWr
import Derived.Test.YtndgpgciccgapaaVDif
namespace Go.Proofs.Ytndgpgciccgapaa
open Go.RowKit

theorem difK_mem (ls : List Int) : ∀ k, ∀ p ∈ difK ls k, 1 ≤ p.2 ∧ ∃ j, j < k ∧ p.1 = dif ls j
  | 0 => by simp [difK]
  | k + 1 => by
    have ih := difK_mem ls k
    rw [difK]
    rcases list_end (difK ls k) with h | ⟨R0, ⟨d, c⟩, h⟩
    · rw [h, extP_nil]
      intro p hp
      simp at hp
      subst hp
      exact ⟨Nat.le_refl _, k, by omega, rfl⟩
    · rw [h] at ih ⊢
      by_cases e : d = dif ls k
      · rw [← e, extP_same]
        intro p hp
        rcases List.mem_append.1 hp with h3 | h3
        · obtain ⟨h4, j, h5, h6⟩ := ih p (by simp [h3])
          exact ⟨h4, j, by omega, h6⟩
        · simp at h3
          subst h3
          exact ⟨by simp, k, by omega, e⟩
      · rw [extP_other _ _ e]
        intro p hp
        rcases List.mem_append.1 hp with h3 | h3
        · obtain ⟨h4, j, h5, h6⟩ := ih p h3
          exact ⟨h4, j, by omega, h6⟩
        · simp at h3
          subst h3
          exact ⟨Nat.le_refl _, k, by omega, rfl⟩
def okR2 (R : List Sp) : Prop := R.length ≤ 256 ∧ ∀ p ∈ R, -1023 ≤ p.1 ∧ p.1 ≤ 1023 ∧ 1 ≤ p.2 ∧ p.2 ≤ 256
theorem okR2_of {zs : List Int} (h : okZ zs) : okR2 (difK zs zs.length) := by
  obtain ⟨q1, q2⟩ := difK_small zs zs.length
  refine ⟨Nat.le_trans q1 h.1, fun p hp => ?_⟩
  obtain ⟨h1, j, h2, h3⟩ := difK_mem zs zs.length p hp
  have h4 := h.ith h2
  have h5 := q2 p hp
  have h6 := h.1
  rw [h3]
  unfold dif
  split
  · omega
  · have h7 := h.ith (j := j - 1) (by omega)
    omega
theorem all60_of {zs : List Int} (h : okZ zs) : All60 zs := fun x hx => by have := h.2 x hx; omega
theorem encK_len {R : List Sp} (h : okR2 R) : ∀ k, k ≤ R.length → (encK R k).length ≤ 18 * k
  | 0, _ => by simp [encK]
  | k + 1, hk => by
    rw [encK_succ (by omega), List.length_append]
    have ih := encK_len h k (by omega)
    have hp := h.2 R[k] (List.getElem_mem (by omega))
    have h1 := enc7_len9 (zig_le (n := R[k].1) (by omega) (by omega))
    have h2 := enc7_len9 (n := R[k].2 - 1) (by omega)
    unfold stL
    rw [List.length_append]
    omega

def L1 (t a : Int) : List Nat := enc7 t.toNat ++ enc7 (zig a)
def L2 (t a b : Int) : List Nat := L1 t a ++ enc7 (zig b)
def L3 (t a b c : Int) : List Nat := L2 t a b ++ enc7 (zig c)
def L4 (t a b c d : Int) : List Nat := L3 t a b c ++ enc7 (zig d)
def L5 (t a b c d : Int) (m : Nat) : List Nat := L4 t a b c d ++ enc7 m
theorem enc7_q {x : Int} (h : inQ x) : (enc7 (zig x)).length ≤ 9 := enc7_len9 (zig_le (by have := h.1; omega) (by have := h.2; omega))
theorem L_len {t a b c d : Int} {m : Nat} (ht : 0 ≤ t ∧ t ≤ 1125899906842624) (ha : inQ a) (hb : inQ b) (hc : inQ c) (hd : inQ d) (hm : m ≤ 256) :
    (enc7 t.toNat).length ≤ 9 ∧ (L1 t a).length ≤ 18 ∧ (L2 t a b).length ≤ 27 ∧ (L3 t a b c).length ≤ 36 ∧ (L4 t a b c d).length ≤ 45 ∧ (L5 t a b c d m).length ≤ 54 := by
  have h0 := enc7_len9 (n := t.toNat) (by omega)
  have h1 := enc7_q ha
  have h2 := enc7_q hb
  have h3 := enc7_q hc
  have h4 := enc7_q hd
  have h5 := enc7_len9 (n := m) (by omega)
  unfold L5 L4 L3 L2 L1
  simp only [List.length_append]
  omega
def ScR (w2 : World) (t a b c d : Int) (bv iv : Value) (wr : World) : Prop :=
  Below w2.heap.size w2 wr ∧ ((iv = .int .i64 0 ∧ OB wr w2.heap.size bv (enc7 t.toNat)) ∨ (iv = .int .i64 1 ∧ OB wr w2.heap.size bv (L1 t a)) ∨ (iv = .int .i64 2 ∧ OB wr w2.heap.size bv (L2 t a b)) ∨
    (iv = .int .i64 3 ∧ OB wr w2.heap.size bv (L3 t a b c)) ∨ (iv = .int .i64 4 ∧ OB wr w2.heap.size bv (L4 t a b c d)))
def StR (w2 : World) (M : List Nat) (R : List Sp) (bv iv : Value) (wr : World) : Prop :=
  ∃ k : Nat, iv = .int .i64 (k : Int) ∧ k ≤ R.length ∧ Hid (OB wr w2.heap.size bv (M ++ encK R k)) ∧ Below w2.heap.size w2 wr

set_option maxRecDepth 100000 in
set_option maxHeartbeats 4000000 in
theorem encode_yes (t a b c d : Int) (zs : List Int) (A : Option Addr) (n cp B : Nat) (w : World) (hx : IW w B (.slice A n cp) zs) (hB : B ≤ w.heap.size) (hok : okP t a b c d zs) :
    Calls Try.prog 39 #[.agg #[.int .i64 t, .int .i64 a, .int .i64 b, .int .i64 c, .int .i64 d, .slice A n cp]] w (RetNum w (L5 t a b c d (difK zs zs.length).length ++ encK (difK zs zs.length) (difK zs zs.length).length)) := by
  obtain ⟨W0, hW0, hb0, hG, z0⟩ := P0ex w t a b c d (.slice A n cp)
  obtain ⟨k0, k1, k2, k3, k4, k5⟩ := blk6 hG.out (Below.refl _ _)
  have HX := Lib.hid (And.intro (hx.belowM hb0 hB) hB)
  have HV := Lib.hid (valid_any t a b c d zs A n cp B W0 HX.out.1 (Nat.le_trans hB hb0.size))
  rw [decide_eq_true hok] at HV
  have hn := hx.len
  have hz6 := hok.2.2.1
  have hn1000 : n ≤ 1000 := by omega
  have HQ := Lib.hid hok
  obtain ⟨R, hR⟩ : ∃ R, R = difK zs zs.length := ⟨_, rfl⟩
  have HOR := Lib.hid (show okR2 R by rw [hR]; exact okR2_of hok.2.2)
  rw [← hR]
  have HRR := Lib.hid hR
  have LL := L_len (m := R.length) hok.1 hok.2.1.1.1 hok.2.1.1.2.1 hok.2.1.1.2.2.1 hok.2.1.1.2.2.2 HOR.out.1
  have i0 := ix40 (.int .i64 a) (.int .i64 b) (.int .i64 c) (.int .i64 d)
  have i1 := ix41 (.int .i64 a) (.int .i64 b) (.int .i64 c) (.int .i64 d)
  have i2 := ix42 (.int .i64 a) (.int .i64 b) (.int .i64 c) (.int .i64 d)
  have i3 := ix43 (.int .i64 a) (.int .i64 b) (.int .i64 c) (.int .i64 d)
  obtain ⟨T, hT⟩ : ∃ T : Nat, t = (T : Int) := ⟨t.toNat, by have := hok.1.1; omega⟩
  subst hT
  have hT4 : T ≤ 4611686018427387903 := by have := hok.1.2; omega
  clear hx hR hn hz6 hok
  go_enter Try.func39, Try.ntmps39
  go_wp2_with fail
  rw [← hW0.out]
  refine HV.out.mono ?_
  rintro e w1 ⟨rfl, b1⟩
  obtain ⟨k0', k1', k2', k3', k4', k5'⟩ := blk6 hG.out b1
  have hb1 := hb0.trans (b1.mono hb0.size)
  have HD := Lib.hid (differences_any zs (all60_of HQ.out.2.2) A n cp B hn1000 w1 (HX.out.1.belowM b1 (Nat.le_trans HX.out.2 hb0.size)) (Nat.le_trans HX.out.2 hb1.size))
  rw [← HRR.out] at HD
  have HB1 := Lib.hid (And.intro hb1 b1)
  clear k0 k1 k2 k3 k4 k5 b1 hb1
  go_wp2_with fail
  refine HD.out.mono ?_
  rintro e w2 ⟨v2, rfl, hS2, b2⟩
  obtain ⟨k0, k1, k2, k3, k4, k5⟩ := blk6 hG.out (HB1.out.2.trans (b2.mono HB1.out.2.size))
  have hbw := HB1.out.1.trans (b2.mono HB1.out.1.size)
  have HS2 := Lib.hid (And.intro hS2 hbw)
  have HG2 := Lib.hid ((HB1.out.2.trans (b2.mono HB1.out.2.size)).block w.heap.size z0 |>.trans hG.out)
  have HW := Lib.hid (written_num [] (.slice none 0 0) w2.heap.size T w2 hT4 (World.ownsRow_nil _ _ _ _) (Nat.le_refl _) (by simp))
  clear k0' k1' k2' k3' k4' k5' b2 hS2 hbw
  go_wp2_with fail
  refine HW.out.mono ?_
  rintro e w3 ⟨v3, rfl, o3, b3, _⟩
  obtain ⟨k0', k1', k2', k3', k4', k5'⟩ := blk6 HG2.out b3
  have H0 := Lib.hid (show ScR w2 (T : Int) a b c d v3 (.int .i64 0) w3 from ⟨b3, Or.inl ⟨rfl, by simpa using o3⟩⟩)
  clear o3 b3 k0 k1 k2 k3 k4 k5
  go_wp2
  go_loopw [5, 21] (fun bv iv wr => ScR w2 (T : Int) a b c d bv iv wr) (fun _ iv _ => 4 - (intOf1 iv).toNat)
  case atStart => exact H0.out
  case round =>
    obtain ⟨hb, hrel⟩ := hrel
    rcases hrel with ⟨rfl, ho⟩ | ⟨rfl, ho⟩ | ⟨rfl, ho⟩ | ⟨rfl, ho⟩ | ⟨rfl, ho⟩
    · have HW4 := Lib.hid (written_sig (enc7 (T : Int).toNat) _ w2.heap.size a wr (by have := HQ.out.2.1.1.1.1; omega) (by have := HQ.out.2.1.1.1.2; omega) ho hb.size (by have := LL; omega))
      have HB := Lib.hid hb
      clear hb ho
      go_wp2_with fail
      refine HW4.out.mono ?_
      rintro e w4 ⟨v4, rfl, o4, b4, _⟩
      have HO4 := Lib.hid (show OB w4 w2.heap.size v4 (L1 (T : Int) a) from o4)
      have HB4 := Lib.hid (HB.out.trans b4)
      clear o4 b4
      go_wp2
      go_roundw
      case rel => exact ⟨HB4.out, Or.inr (Or.inl ⟨rfl, HO4.out⟩)⟩
      case measure => simp [intOf1]
    · have HW4 := Lib.hid (written_sig (L1 (T : Int) a) _ w2.heap.size b wr (by have := HQ.out.2.1.1.2.1.1; omega) (by have := HQ.out.2.1.1.2.1.2; omega) ho hb.size (by have := LL; omega))
      have HB := Lib.hid hb
      clear hb ho
      go_wp2_with fail
      refine HW4.out.mono ?_
      rintro e w4 ⟨v4, rfl, o4, b4, _⟩
      have HO4 := Lib.hid (show OB w4 w2.heap.size v4 (L2 (T : Int) a b) from o4)
      have HB4 := Lib.hid (HB.out.trans b4)
      clear o4 b4
      go_wp2
      go_roundw
      case rel => exact ⟨HB4.out, Or.inr (Or.inr (Or.inl ⟨rfl, HO4.out⟩))⟩
      case measure => simp [intOf1]
    · have HW4 := Lib.hid (written_sig (L2 (T : Int) a b) _ w2.heap.size c wr (by have := HQ.out.2.1.1.2.2.1.1; omega) (by have := HQ.out.2.1.1.2.2.1.2; omega) ho hb.size (by have := LL; omega))
      have HB := Lib.hid hb
      clear hb ho
      go_wp2_with fail
      refine HW4.out.mono ?_
      rintro e w4 ⟨v4, rfl, o4, b4, _⟩
      have HO4 := Lib.hid (show OB w4 w2.heap.size v4 (L3 (T : Int) a b c) from o4)
      have HB4 := Lib.hid (HB.out.trans b4)
      clear o4 b4
      go_wp2
      go_roundw
      case rel => exact ⟨HB4.out, Or.inr (Or.inr (Or.inr (Or.inl ⟨rfl, HO4.out⟩)))⟩
      case measure => simp [intOf1]
    · have HW4 := Lib.hid (written_sig (L3 (T : Int) a b c) _ w2.heap.size d wr (by have := HQ.out.2.1.1.2.2.2.1; omega) (by have := HQ.out.2.1.1.2.2.2.2; omega) ho hb.size (by have := LL; omega))
      have HB := Lib.hid hb
      clear hb ho
      go_wp2_with fail
      refine HW4.out.mono ?_
      rintro e w4 ⟨v4, rfl, o4, b4, _⟩
      have HO4 := Lib.hid (show OB w4 w2.heap.size v4 (L4 (T : Int) a b c d) from o4)
      have HB4 := Lib.hid (HB.out.trans b4)
      clear o4 b4
      go_wp2
      go_roundw
      case rel => exact ⟨HB4.out, Or.inr (Or.inr (Or.inr (Or.inr ⟨rfl, HO4.out⟩)))⟩
      case measure => simp [intOf1]
    · rcases (SL.slice HS2.out.1) with ⟨A3, c3, hv2, hA3, hc3⟩
      subst hv2
      have HW5 := Lib.hid (written_num (L4 (T : Int) a b c d) _ w2.heap.size R.length wr (by have := HOR.out.1; omega) ho hb.size (by have := LL; omega))
      have HB := Lib.hid hb
      have HA3 := Lib.hid (And.intro hA3 hc3)
      clear hb ho hA3 hc3
      obtain ⟨wo, hwo⟩ : ∃ x, x = wr := ⟨_, rfl⟩
      subst hwo
      go_wp2_with fail
      refine HW5.out.mono ?_
      rintro e w5 ⟨v5, rfl, o5, b5, _⟩
      have H5 := Lib.hid (show StR w2 (L5 (T : Int) a b c d R.length) R v5 (.int .i64 0) w5 from ⟨0, rfl, Nat.zero_le _, Lib.hid (by simpa [encK, L5] using o5), HB.out.trans b5⟩)
      clear o5 b5
      go_wp2
      go_loopw [5, 34] (fun bv iv wr => StR w2 (L5 (T : Int) a b c d R.length) R bv iv wr) (fun _ iv _ => R.length - (intOf1 iv).toNat)
      case atStart => exact H5.out
      case round =>
        obtain ⟨k, rfl, hk, HO, hb⟩ := hrel
        by_cases hkR : k < R.length
        · obtain ⟨g, hg⟩ := HA3.out.1 (by omega)
          obtain ⟨rfl, hg1, hg2⟩ := hg
          have hlt : g < w2.heap.size := hg2
          obtain ⟨δ, cnt, hp⟩ : ∃ δ cnt, R[k] = (δ, cnt) := ⟨_, _, rfl⟩
          have hpr := HOR.out.2 R[k] (List.getElem_mem hkR)
          rw [hp] at hpr
          simp only at hpr
          have p0 : wr.cell? ⟨g, k * 2, none⟩ = some (.int .i64 δ) := by
            have := SL.cell stE_len HS2.out.1 (i := k) (j := 0) hkR (by omega)
            rw [hp] at this
            simp [ints, stE] at this
            exact (hb.cell (p := ⟨g, k * 2, none⟩) hlt).trans this
          have p1 : wr.cell? ⟨g, k * 2 + 1, none⟩ = some (.int .i64 (cnt : Int)) := by
            have := SL.cell stE_len HS2.out.1 (i := k) (j := 1) hkR (by omega)
            rw [hp] at this
            simp [ints, stE] at this
            exact (hb.cell (p := ⟨g, k * 2 + 1, none⟩) hlt).trans this
          have hes : encK R (k + 1) = encK R k ++ enc7 (zig δ) ++ enc7 (cnt - 1) := by rw [encK_succ hkR, hp]; simp [stL]
          have hel := encK_len HOR.out k (by omega)
          have hrl := HOR.out.1
          have HL := Lib.hid hes
          obtain ⟨W7, HW7, hw7, HG7, z7⟩ : ∃ W0, Hid (W0 = wr.alloc (.cells #[.int .i64 δ, .int .i64 (cnt : Int)] 128)) ∧ Below wr.heap.size wr W0 ∧ Hid (W0.heap[wr.heap.size]? = some (.cells #[.int .i64 δ, .int .i64 (cnt : Int)] 128 (0, 0))) ∧ wr.heap.size < W0.heap.size :=
            ⟨_, rfl, (Below.refl _ _).alloc (Nat.le_refl _) _, heap_alloc_new wr _, by simp⟩
          have hb7 := hb.trans (hw7.mono hb.size)
          have HO7 := Lib.hid (HO.out.below hw7)
          have HWa := Lib.hid (written_sig (L5 (T : Int) a b c d R.length ++ encK R k) _ w2.heap.size δ W7 (by omega) (by omega) HO7.out hb7.size (by rw [List.length_append]; omega))
          have HB7 := Lib.hid hb7
          have i6 : (0 : Int) ≤ (k : Int) := by omega
          have i7 : (k : Int) < (R.length : Int) := by omega
          have c1' : (1 : Int) ≤ (cnt : Int) := by omega
          have c2' : (cnt : Int) ≤ 256 := by omega
          have ec : (cnt : Int) - 1 = ((cnt - 1 : Nat) : Int) := by omega
          have EC := Lib.hid ec
          have hzl := enc7_len9 (zig_le (n := δ) (by omega) (by omega))
          clear hes hb hw7 hb7 hp ec
          go_wp2_with fail
          rw [← HW7.out]
          refine HWa.out.mono ?_
          rintro e w8 ⟨v8, rfl, o8, b8, n8⟩
          have hG8 := ob_keep HO7.out n8 HG7.out (by decide)
          have d0 : w8.cell? ⟨wr.heap.size, 0, none⟩ = some (.int .i64 δ) := cell_of_row _ _ _ _ _ _ hG8
          have d1 : w8.cell? ⟨wr.heap.size, 1, none⟩ = some (.int .i64 (cnt : Int)) := cell_of_row _ _ _ _ _ _ hG8
          have hb8 := HB7.out.trans b8
          have HWb := Lib.hid (written_num (L5 (T : Int) a b c d R.length ++ encK R k ++ enc7 (zig δ)) _ w2.heap.size (cnt - 1) w8 (by omega) o8 hb8.size (by rw [List.length_append, List.length_append]; omega))
          rw [← EC.out] at HWb
          have HB8 := Lib.hid hb8
          clear o8 b8 n8 hb8 hG8
          go_wp2_with fail
          refine HWb.out.mono ?_
          rintro e w9 ⟨v9, rfl, o9, b9, _⟩
          have HO9 := Lib.hid (show OB w9 w2.heap.size v9 (L5 (T : Int) a b c d R.length ++ encK R (k + 1)) from by rw [HL.out, ← List.append_assoc, ← List.append_assoc]; exact o9)
          have HB9 := Lib.hid (HB8.out.trans b9)
          clear o9 b9
          go_wp2
          go_roundw
          case rel => exact ⟨k + 1, by go_num, by omega, HO9, HB9.out⟩
          case measure => simp [intOf1]; omega
        · obtain rfl : k = R.length := by omega
          have HO' := Lib.hid (owns_base HO.out HS2.out.2.size)
          have HBw := Lib.hid (HS2.out.2.trans (hb.mono HS2.out.2.size))
          clear hb
          go_wp2
          go_ret2
          exact ⟨_, rfl, HO'.out, HBw.out⟩
end Go.Proofs.Ytndgpgciccgapaa
