/-
  The document's rational numbers: Frac, where the denominator is one limb.
  The document's rational numbers with denominators of one limb: Add, Mul, Minus, Whole.
-/
import Derived.Test.YtdpmfenikomfkaaGreatE08
namespace Go.Proofs.YtdpmfenikomfkaaGreat
open Go.RowKit

/-- A rational number of the document: z / d. -/
def QV (w : World) (B : Nat) (v : Value) (z : Int) (d : Nat) : Prop := ∃ s A m c A' m' c', v = .agg #[.bool s, .slice A m c, .slice A' m' c'] ∧ s = decide (z < 0) ∧ RW .i64 w B (.slice A m c) (words16 z.natAbs) ∧ (A = none → c = 0) ∧ RW .i64 w B (.slice A' m' c') (words16 d) ∧ (A' = none → c' = 0)
def RetQ (w : World) (z : Int) (d : Nat) (e : Ending) (w' : World) : Prop := ∃ v, e = .returned v ∧ QV w' w'.heap.size v z d ∧ Below w.heap.size w w'
/-- Its limbs lie in blocks from B on. -/
def FrQ (B : Nat) (v : Value) : Prop := ∀ s A m c A' m' c', v = .agg #[.bool s, .slice A m c, .slice A' m' c'] → (∀ ad, A = some ad → B ≤ ad.block) ∧ ∀ ad, A' = some ad → B ≤ ad.block
theorem FrQ.mk {B : Nat} {s : Bool} {A A' : Option Addr} {m c m' c' : Nat} (h1 : ∀ ad, A = some ad → B ≤ ad.block) (h2 : ∀ ad, A' = some ad → B ≤ ad.block) : FrQ B (.agg #[.bool s, .slice A m c, .slice A' m' c']) := by
  intro s0 A0 m0 c0 A1 m1 c1 e
  have e' : #[Value.bool s, Value.slice A m c, Value.slice A' m' c'] = #[Value.bool s0, Value.slice A0 m0 c0, Value.slice A1 m1 c1] := by injection e
  simp at e'
  obtain ⟨_, ⟨rfl, _, _⟩, rfl, _, _⟩ := e'
  exact ⟨h1, h2⟩
/-- A rational number in new memory. -/
def RetQf (w : World) (z : Int) (d : Nat) (e : Ending) (w' : World) : Prop := ∃ v, e = .returned v ∧ QV w' w'.heap.size v z d ∧ FrQ w.heap.size v ∧ Below w.heap.size w w'
theorem RetQf.ret {w : World} {z : Int} {d : Nat} {e : Ending} {w' : World} (h : RetQf w z d e w') : RetQ w z d e w' := by
  obtain ⟨v, h1, h2, _, h3⟩ := h
  exact ⟨v, h1, h2, h3⟩
theorem frac_sign (z : Int) (d : Nat) (hd : 0 < d) : decide (z / ((Nat.gcd z.natAbs d : Nat) : Int) < 0) = (decide (z < 0) && decide (z.natAbs / Nat.gcd z.natAbs d ≠ 0)) ∧ (z / ((Nat.gcd z.natAbs d : Nat) : Int)).natAbs = z.natAbs / Nat.gcd z.natAbs d := by
  obtain ⟨g, hg⟩ : ∃ g, g = Nat.gcd z.natAbs d := ⟨_, rfl⟩
  have hg0 : 0 < g := by rw [hg]; exact Nat.gcd_pos_of_pos_right _ hd
  obtain ⟨k, hk⟩ : g ∣ z.natAbs := by rw [hg]; exact Nat.gcd_dvd_left _ _
  rw [← hg]
  have e1 : z.natAbs / g = k := by rw [hk]; exact Nat.mul_div_cancel_left _ hg0
  rw [e1]
  have hgi : ((g : Nat) : Int) ≠ 0 := by omega
  by_cases h : z < 0
  · have e2 : z = (g : Int) * (-(k : Int)) := by
      have : z = -((z.natAbs : Nat) : Int) := by omega
      rw [this, hk, Int.mul_neg]; push_cast; rfl
    have e3 : z / (g : Int) = -(k : Int) := by
      conv => lhs; rw [e2]
      exact Int.mul_ediv_cancel_left _ hgi
    rw [e3]
    refine ⟨?_, by omega⟩
    rw [decide_eq_true h, Bool.true_and]
    by_cases hk0 : k = 0
    · subst hk0; rfl
    · rw [decide_eq_true hk0, decide_eq_true (by omega : -(k : Int) < 0)]
  · have e2 : z = (g : Int) * (k : Int) := by
      have : z = ((z.natAbs : Nat) : Int) := by omega
      rw [this, hk]; push_cast; rfl
    have e3 : z / (g : Int) = (k : Int) := by
      conv => lhs; rw [e2]
      exact Int.mul_ediv_cancel_left _ hgi
    rw [e3]
    exact ⟨by rw [decide_eq_false h, Bool.false_and, decide_eq_false (by omega : ¬ (k : Int) < 0)], by omega⟩

set_option maxRecDepth 100000 in
set_option maxHeartbeats 2000000 in
theorem dfrac_limb (z : Int) (d : Nat) (hd : 0 < d) (hd2 : d < 65536) (s s2 : Bool) (hs : Hid (s = decide (z < 0))) (A1 A2 : Option Addr) (n1 n2 c1 c2 B : Nat) (w : World) (hx : RW .i64 w B (.slice A1 n1 c1) (words16 z.natAbs)) (hz1 : A1 = none → c1 = 0) (hy : RW .i64 w B (.slice A2 n2 c2) (words16 d)) (hz2 : A2 = none → c2 = 0) (hB : B ≤ w.heap.size) (hn1 : n1 ≤ 1000000) (p : Int) (q : Nat) (hpq : Hid (p = z / ((Nat.gcd z.natAbs d : Nat) : Int) ∧ q = d / Nat.gcd z.natAbs d)) :
    Calls Tryz.prog 30 #[.agg #[.bool s, .slice A1 n1 c1], .agg #[.bool s2, .slice A2 n2 c2]] w (RetQf w p q) := by
  obtain ⟨W0, HW0, hw0, G0, G1, G2, hsz⟩ := qbox3 w (.cells #[.bool s, .slice A1 n1 c1] 39) (.cells #[.bool s2, .slice A2 n2 c2] 39) (.cells #[.bool false, .slice none 0 0, .slice none 0 0] 41)
  have hx0 : RW .i64 W0 B (.slice A1 n1 c1) (words16 z.natAbs) := hx.belowM hw0 hB
  have hy0 : RW .i64 W0 B (.slice A2 n2 c2) (words16 d) := hy.belowM hw0 hB
  have hB0 : B ≤ W0.heap.size := Nat.le_trans hB hw0.size
  have HG := Lib.hid (dgcd_limb z.natAbs d hd2 A1 A2 n1 n2 c1 c2 B W0 hx0 hz1 hy0 hz2 hB0 hn1)
  obtain ⟨g, hg⟩ : ∃ g, g = Nat.gcd z.natAbs d := ⟨_, rfl⟩
  have hg0 : 0 < g := by rw [hg]; exact Nat.gcd_pos_of_pos_right _ hd
  have hgd : g ≤ d := by rw [hg]; exact Nat.le_of_dvd hd (Nat.gcd_dvd_right _ _)
  obtain ⟨f1, f2⟩ := frac_sign z d hd
  rw [← hs.out] at f1
  have hpq1 := hpq.out.1
  have hpq2 := hpq.out.2
  rw [← hpq1] at f1 f2
  rw [← hg] at HG f1 f2 hpq2
  have hn2 : n2 ≤ 1000000 := by
    have h1 : words16 d = [d] := words16_single (by omega) (by rw [B16_eq]; exact hd2)
    have h2 : n2 = 1 := by rw [hy.len, h1]; rfl
    omega
  have HX := Lib.hid (And.intro hx0 (And.intro hy0 (And.intro hz1 hz2)))
  have HF := Lib.hid (And.intro f1 (And.intro f2 hpq2))
  have HB0 := Lib.hid hw0
  clear hx hy hx0 hy0 hz1 hz2 hpq hpq1 hpq2 f1 f2 hg hs hw0
  go_enter Tryz.func30, Tryz.ntmps30
  go_wp2_with fail
  rw [← HW0.out]
  refine HG.out.mono ?_
  rintro e w3 ⟨Ag, mg, cg, rfl, hgr, hgz, hb3⟩
  obtain ⟨k0, k1, k2, k3⟩ := qc4 G0.out G1.out hb3
  have HD1 := Lib.hid (ddivide_limb z.natAbs g hg0 (by omega) A1 Ag n1 mg c1 cg w3.heap.size w3 ((HX.out.1.belowM hb3 hB0).more (Nat.le_trans hB0 hb3.size)) HX.out.2.2.1 hgr (Nat.le_refl _) hn1)
  have H3 := Lib.hid (And.intro hgr (And.intro hgz hb3))
  clear hgr hgz hb3
  go_wp2_with fail
  refine HD1.out.mono ?_
  rintro e w4 ⟨Aq, mq, cq, Ar, mr, cr, rfl, hq, hqz, hqf, hr, hrz, hb4'⟩
  have HQF := Lib.hid (fun ad h => Nat.le_trans (Nat.le_trans HB0.out.size H3.out.2.2.size) (hqf ad h))
  have hb4 : Below W0.heap.size W0 w4 := H3.out.2.2.trans (hb4'.mono H3.out.2.2.size)
  obtain ⟨k4, k5, k6, k7⟩ := qc4 G0.out G1.out hb4
  have HD2 := Lib.hid (ddivide_limb d g hg0 (by omega) A2 Ag n2 mg c2 cg w4.heap.size w4 ((HX.out.2.1.belowM hb4 hB0).more (Nat.le_trans hB0 hb4.size)) HX.out.2.2.2 ((H3.out.1.below hb4').more hb4'.size) (Nat.le_refl _) hn2)
  have H4 := Lib.hid (And.intro hq (And.intro hqz hb4))
  clear hq hqz hqf hr hrz hb4 hb4' k0 k1 k2 k3
  go_wp2_with fail
  refine HD2.out.mono ?_
  rintro e w5 ⟨Ap, mp, cp, Ar2, mr2, cr2, rfl, hp, hpz, hpf, hr, hrz, hb5'⟩
  have HPF := Lib.hid (fun ad h => Nat.le_trans (Nat.le_trans HB0.out.size H4.out.2.2.size) (hpf ad h))
  have hb5 : Below W0.heap.size W0 w5 := H4.out.2.2.trans (hb5'.mono H4.out.2.2.size)
  obtain ⟨j0, j1, j2, j3⟩ := qc4 G0.out G1.out hb5
  have m0 := qblk_cell G2.out hb5 0 (.bool false) rfl
  have m1 := qblk_cell G2.out hb5 1 (.slice none 0 0) rfl
  have m2 := qblk_cell G2.out hb5 2 (.slice none 0 0) rfl
  have mf := qblk_frozen G2.out hb5
  have hq5 := (H4.out.1.below hb5').more hb5'.size
  have hml : mq = 0 ↔ z.natAbs / g = 0 := by rw [hq5.len]; exact words16_len_zero
  obtain ⟨sg, hsg⟩ : ∃ sg, sg = decide (p < 0) := ⟨_, rfl⟩
  obtain ⟨f1, f2⟩ := qstore3 G2.out HB0.out (by omega : w.heap.size ≤ w.heap.size + 1 + 1) hb5 (.bool sg) (.slice Aq mq cq) (.slice Ap mp cp)
  have F := Lib.hid (And.intro f1 (And.intro (f2 _ _ _ hq5) (f2 _ _ _ hp)))
  have HSG := Lib.hid hsg
  have HPZ := Lib.hid hpz
  have h1 := HF.out.1
  rw [← hsg] at h1
  clear f1 f2 hq5 hp hpz hpf hr hrz hb5 hb5' k4 k5 k6 k7 hsg
  cases s with
  | false =>
    have hsf : sg = false := by rw [h1]; rfl
    subst hsf
    clear h1 hml
    go_wp2
    refine bodyPost_ret (by simp [results, Tryz.results30, go_sem, m0, m1, m2] <;> rfl) rfl ⟨_, rfl, ⟨false, Aq, mq, cq, Ap, mp, cp, rfl, HSG.out, by rw [HF.out.2.1]; exact F.out.2.1, H4.out.2.1, by rw [HF.out.2.2]; exact F.out.2.2, HPZ.out⟩, FrQ.mk HQF.out HPF.out, F.out.1⟩
  | true =>
    by_cases hq0 : z.natAbs / g = 0
    · have hm0 : mq = 0 := hml.2 hq0
      have hsf : sg = false := by rw [h1, hq0]; rfl
      subst hsf hm0
      clear h1 hml hq0
      go_wp2
      refine bodyPost_ret (by simp [results, Tryz.results30, go_sem, m0, m1, m2] <;> rfl) rfl ⟨_, rfl, ⟨false, Aq, 0, cq, Ap, mp, cp, rfl, HSG.out, by rw [HF.out.2.1]; exact F.out.2.1, H4.out.2.1, by rw [HF.out.2.2]; exact F.out.2.2, HPZ.out⟩, FrQ.mk HQF.out HPF.out, F.out.1⟩
    · have hm1 : 0 < mq := by have : mq ≠ 0 := fun h => hq0 (hml.1 h); omega
      have hm2 : (0 : Int) < (mq : Int) := by omega
      have hsf : sg = true := by rw [h1, decide_eq_true hq0]; rfl
      subst hsf
      clear h1 hml hq0
      go_wp2
      refine bodyPost_ret (by simp [results, Tryz.results30, go_sem, m0, m1, m2] <;> rfl) rfl ⟨_, rfl, ⟨true, Aq, mq, cq, Ap, mp, cp, rfl, HSG.out, by rw [HF.out.2.1]; exact F.out.2.1, H4.out.2.1, by rw [HF.out.2.2]; exact F.out.2.2, HPZ.out⟩, FrQ.mk HQF.out HPF.out, F.out.1⟩
end Go.Proofs.YtdpmfenikomfkaaGreat

namespace Go.Proofs.YtdpmfenikomfkaaGreat
open Go.RowKit

/-- An integer, its sign by a letter. -/
def RetIs (w : World) (x : Int) (e : Ending) (w' : World) : Prop := ∃ s A m c, e = .returned (.agg #[.bool s, .slice A m c]) ∧ Hid (s = decide (x < 0)) ∧ RW .i64 w' w'.heap.size (.slice A m c) (words16 x.natAbs) ∧ (A = none → c = 0) ∧ Below w.heap.size w w'
theorem RetIs.of {w : World} {x : Int} {e : Ending} {w' : World} (h : RetIn w x e w') : RetIs w x e w' := by
  obtain ⟨v, h1, ⟨A, m, c, h2, h3, h4⟩, h5⟩ := h
  subst h2
  exact ⟨_, A, m, c, h1, Lib.hid rfl, h3, h4, h5⟩
theorem len_of {n k m c B : Nat} {w : World} {A : Option Addr} (h : RW .i64 w B (.slice A m c) (words16 n)) (hn : n < B16 ^ k) (hk : k ≤ 1000000) : m ≤ 1000000 := by
  rw [h.len]; exact Nat.le_trans (words16_length_le n k hn) hk
theorem pow_mul_limb {a d K : Nat} (ha : a < B16 ^ K) (hd : d < 65536) : a * d < B16 ^ (K + 1) := by
  rw [Nat.pow_succ]
  rcases Nat.eq_zero_or_pos d with h | h
  · subst h; rw [Nat.mul_zero]; exact Nat.mul_pos (Nat.pow_pos B16_pos) B16_pos
  · exact Nat.mul_lt_mul_of_lt_of_le ha (by rw [B16_eq]; omega) (by rw [B16_eq]; omega)
theorem pow_add_limb {a b K : Nat} (ha : a < B16 ^ K) (hb : b < B16 ^ K) : a + b < B16 ^ (K + 1) := by
  rw [Nat.pow_succ, B16_eq] at *
  omega

set_option maxRecDepth 100000 in
set_option maxHeartbeats 4000000 in
theorem qadd_any (z1 z2 : Int) (d1 d2 K : Nat) (hK : K ≤ 100000) (hk1 : z1.natAbs < B16 ^ K) (hk2 : z2.natAbs < B16 ^ K) (hd1 : 0 < d1) (hd2 : 0 < d2) (hdd : d1 * d2 < 65536) (v1 v2 : Value) (B : Nat) (w : World) (hv1 : QV w B v1 z1 d1) (hv2 : QV w B v2 z2 d2) (hB : B ≤ w.heap.size)
    (p : Int) (q : Nat) (hpq : Hid (p = (z1 * (d2 : Int) + z2 * (d1 : Int)) / ((Nat.gcd (z1 * (d2 : Int) + z2 * (d1 : Int)).natAbs (d1 * d2) : Nat) : Int) ∧ q = (d1 * d2) / Nat.gcd (z1 * (d2 : Int) + z2 * (d1 : Int)).natAbs (d1 * d2))) :
    Calls Tryz.prog 20 #[v1, v2] w (RetQf w p q) := by
  obtain ⟨s1, A1, n1, c1, D1, m1, e1, rfl, hs1, hx1, hxz1, hy1, hyz1⟩ := hv1
  obtain ⟨s2, A2, n2, c2, D2, m2, e2, rfl, hs2, hx2, hxz2, hy2, hyz2⟩ := hv2
  have hd1b : d1 < 65536 := Nat.lt_of_le_of_lt (Nat.le_mul_of_pos_right d1 hd2) hdd
  have hd2b : d2 < 65536 := Nat.lt_of_le_of_lt (Nat.le_mul_of_pos_left d2 hd1) hdd
  obtain ⟨x1, hxx1⟩ : ∃ x, x = z1 * (d2 : Int) := ⟨_, rfl⟩
  obtain ⟨x2, hxx2⟩ : ∃ x, x = z2 * (d1 : Int) := ⟨_, rfl⟩
  obtain ⟨x3, hxx3⟩ : ∃ x, x = x1 + x2 := ⟨_, rfl⟩
  obtain ⟨d3, hdd3⟩ : ∃ x, x = d1 * d2 := ⟨_, rfl⟩
  rw [← hxx1, ← hxx2, ← hxx3, ← hdd3] at hpq
  rw [← hdd3] at hdd
  have hd3 : 0 < d3 := by rw [hdd3]; exact Nat.mul_pos hd1 hd2
  have a1 : x1.natAbs < B16 ^ (K + 1) := by rw [hxx1, Int.natAbs_mul]; exact pow_mul_limb hk1 (by simpa using hd2b)
  have a2 : x2.natAbs < B16 ^ (K + 1) := by rw [hxx2, Int.natAbs_mul]; exact pow_mul_limb hk2 (by simpa using hd1b)
  have a3 : x3.natAbs < B16 ^ (K + 1 + 1) := Nat.lt_of_le_of_lt (by rw [hxx3]; exact Int.natAbs_add_le x1 x2) (pow_add_limb a1 a2)
  obtain ⟨W0, HW0, hw0, G0, G1, G2, hsz⟩ := qbox3 w (.cells #[.bool s1, .slice A1 n1 c1, .slice D1 m1 e1] 41) (.cells #[.bool s2, .slice A2 n2 c2, .slice D2 m2 e2] 41) (.cells #[.bool false, .slice none 0 0, .slice none 0 0] 41)
  have hB0 : B ≤ W0.heap.size := Nat.le_trans hB hw0.size
  have hx10 : RW .i64 W0 B (.slice A1 n1 c1) (words16 z1.natAbs) := hx1.belowM hw0 hB
  have hx20 : RW .i64 W0 B (.slice A2 n2 c2) (words16 z2.natAbs) := hx2.belowM hw0 hB
  have hy10 : RW .i64 W0 B (.slice D1 m1 e1) (words16 d1) := hy1.belowM hw0 hB
  have hy20 : RW .i64 W0 B (.slice D2 m2 e2) (words16 d2) := hy2.belowM hw0 hB
  have l1 : n1 ≤ 1000000 := len_of hx1 hk1 (by omega)
  have l2 : n2 ≤ 1000000 := len_of hx2 hk2 (by omega)
  have l3 : m1 ≤ 1000000 := len_of (k := 1) hy1 (by rw [Nat.pow_one, B16_eq]; exact hd1b) (by omega)
  have l4 : m2 ≤ 1000000 := len_of (k := 1) hy2 (by rw [Nat.pow_one, B16_eq]; exact hd2b) (by omega)
  have HX := Lib.hid (And.intro hxx1 (And.intro hxx2 (And.intro hxx3 hdd3)))
  have HA := Lib.hid (And.intro a1 (And.intro a2 a3))
  have HS1 := Lib.hid hs1
  have HS2 := Lib.hid hs2
  have HF1 : Hid (false = decide ((d1 : Int) < 0)) := Lib.hid (by simp)
  have HF2 : Hid (false = decide ((d2 : Int) < 0)) := Lib.hid (by simp)
  have K0 := Lib.hid (qc6 G0.out G1.out (Below.refl _ _))
  have HB0 := Lib.hid hw0
  have tok1 : True := trivial
  clear hx1 hx2 hy1 hy2 hs1 hs2 hxx1 hxx2 hxx3 hdd3 a1 a2 a3 hxz1 hxz2 hw0 hk1 hk2
  go_enter Tryz.func20, Tryz.ntmps20
  go_wp2
  rw [← HW0.out]
  obtain ⟨k0, k1, k2, k3, k4, k5⟩ := K0.out
  go_region_held3 (fun w' => w'.cell? ⟨w.heap.size, 0, none⟩ = some (.bool s1) ∧ w'.cell? ⟨w.heap.size, 1, none⟩ = some (.slice A1 n1 c1) ∧ w'.cell? ⟨w.heap.size, 2, none⟩ = some (.slice D1 m1 e1) ∧ w'.cell? ⟨w.heap.size + 1, 0, none⟩ = some (.bool s2) ∧ w'.cell? ⟨w.heap.size + 1, 1, none⟩ = some (.slice A2 n2 c2) ∧ w'.cell? ⟨w.heap.size + 1, 2, none⟩ = some (.slice D2 m2 e2))
    (first | exact K6.out | exact K5.out | exact K4.out | exact K3.out | exact K2.out | exact K1.out | exact K0.out | go_keep)
    (first
      | (go_at_call 31
         have _t := tok1
         refine (imul_any z1 (d2 : Int) s1 false HS1 HF2 A1 D2 n1 m2 c1 e2 B _ (by exact hx10) (by exact hy20) (by exact hB0) l1 l4).mono ?_
         intro e w1 hret
         obtain ⟨t1, P1, p1, r1, rfl, ht1, h1, hz1, hb1'⟩ := RetIs.of hret
         rw [← HX.out.1] at ht1 h1
         have hb1 : Below W0.heap.size W0 w1 := by first | exact hb1' | exact below_un hb1'
         have K1 := Lib.hid (qc6 G0.out G1.out hb1)
         have hx21 : RW .i64 w1 w1.heap.size (.slice A2 n2 c2) (words16 z2.natAbs) := (hx20.belowM hb1 hB0).more (Nat.le_trans hB0 hb1.size)
         have hy11 : RW .i64 w1 w1.heap.size (.slice D1 m1 e1) (words16 d1) := (hy10.belowM hb1 hB0).more (Nat.le_trans hB0 hb1.size)
         have tok2 : True := trivial
         clear tok1 _t hb1' hret)
      | (go_at_call 31
         have _t := tok2
         refine (imul_any z2 (d1 : Int) s2 false HS2 HF1 A2 D1 n2 m1 c2 e1 w1.heap.size _ (by exact hx21) (by exact hy11) (by exact Nat.le_refl _) l2 l3).mono ?_
         intro e w2 hret
         obtain ⟨t2, P2, p2, r2, rfl, ht2, h2, hz2, hb2'⟩ := RetIs.of hret
         rw [← HX.out.2.1] at ht2 h2
         have hb2a : Below w1.heap.size w1 w2 := by first | exact hb2' | exact below_un hb2'
         have hb2 : Below W0.heap.size W0 w2 := hb1.trans (hb2a.mono hb1.size)
         have K2 := Lib.hid (qc6 G0.out G1.out hb2)
         have h12 := (h1.below hb2a).more hb2a.size
         have l5 : p1 ≤ 1000000 := len_of h1 HA.out.1 (by omega)
         have l6 : p2 ≤ 1000000 := len_of h2 HA.out.2.1 (by omega)
         have tok3 : True := trivial
         clear tok2 _t hb2' hret)
      | (go_at_call 32
         have _t := tok3
         refine (iadd_any x1 x2 t1 t2 ht1 ht2 P1 P2 p1 p2 r1 r2 w2.heap.size _ (by exact h12) (by exact h2) (by exact Nat.le_refl _) l5 l6).mono ?_
         intro e w3 hret
         obtain ⟨t3, P3, p3, r3, rfl, ht3, h3, hz3, hb3'⟩ := RetIs.of hret
         rw [← HX.out.2.2.1] at ht3 h3
         have hb3a : Below w2.heap.size w2 w3 := by first | exact hb3' | exact below_un hb3'
         have hb3 : Below W0.heap.size W0 w3 := hb2.trans (hb3a.mono hb2.size)
         have K3 := Lib.hid (qc6 G0.out G1.out hb3)
         have l7 : p3 ≤ 1000000 := len_of h3 HA.out.2.2 (by omega)
         have hy13 : RW .i64 w3 w3.heap.size (.slice D1 m1 e1) (words16 d1) := (hy10.belowM hb3 hB0).more (Nat.le_trans hB0 hb3.size)
         have hy23 : RW .i64 w3 w3.heap.size (.slice D2 m2 e2) (words16 d2) := (hy20.belowM hb3 hB0).more (Nat.le_trans hB0 hb3.size)
         have tok4 : True := trivial
         clear tok3 _t hb3' hret)
      | (go_at_call 33
         have _t := tok4
         refine (dtimes_any d1 d2 D1 D2 m1 m2 e1 e2 w3.heap.size _ (by exact hy13) (by exact hy23) (by exact Nat.le_refl _) l3 l4).mono ?_
         rintro e w4 ⟨P4, p4, r4, rfl, h4, ⟨hz4, _⟩, hb4'⟩
         rw [← HX.out.2.2.2] at h4
         have hb4a : Below w3.heap.size w3 w4 := by first | exact hb4' | exact below_un hb4'
         have hb4 : Below W0.heap.size W0 w4 := hb3.trans (hb4a.mono hb3.size)
         have K4 := Lib.hid (qc6 G0.out G1.out hb4)
         have h34 := (h3.below hb4a).more hb4a.size
         have tok5 : True := trivial
         clear tok4 _t hb4')
      | (go_at_call 30
         have _t := tok5
         refine (dfrac_limb x3 d3 hd3 hdd t3 false ht3 P3 P4 p3 p4 r3 r4 w4.heap.size _ (by exact h34) hz3 (by exact h4) hz4 (by exact Nat.le_refl _) l7 p q hpq).mono ?_
         rintro e w5 ⟨v, rfl, ⟨sg, A7, n7, c7, A8, n8, c8, rfl, hsg, h7, hz7, h8, hz8⟩, hfr, hb5'⟩
         have HFR := Lib.hid (hfr _ _ _ _ _ _ _ rfl)
         have hb5a : Below w4.heap.size w4 w5 := by first | exact hb5' | exact below_un hb5'
         have hb5 : Below W0.heap.size W0 w5 := hb4.trans (hb5a.mono hb4.size)
         have K5 := Lib.hid (qc6 G0.out G1.out hb5)
         have K6 := Lib.hid (qc6_set (h := w.heap.size + 1 + 1) (by omega) (by omega) (.bool sg) (.slice A7 n7 c7) (.slice A8 n8 c8) K5.out)
         have m0 := qblk_cell G2.out hb5 0 (.bool false) rfl
         have m1' := qblk_cell G2.out hb5 1 (.slice none 0 0) rfl
         have m2' := qblk_cell G2.out hb5 2 (.slice none 0 0) rfl
         have mf := qblk_frozen G2.out hb5
         have HSG := Lib.hid hsg
         clear tok5 _t hb5' hsg hfr))
  all_goals
    obtain ⟨f1, f2⟩ := qstore3 G2.out HB0.out (by omega : w.heap.size ≤ w.heap.size + 1 + 1) hb5 (.bool sg) (.slice A7 n7 c7) (.slice A8 n8 c8)
    have F := Lib.hid (And.intro f1 (And.intro (f2 _ _ _ h7) (f2 _ _ _ h8)))
    have HZ := Lib.hid (And.intro hz7 hz8)
    clear f1 f2 h7 h8 hz7 hz8
    go_wp2
    refine bodyPost_ret (by simp [results, Tryz.results20, go_sem, m0, m1', m2'] <;> rfl) rfl ⟨_, rfl, ⟨sg, A7, n7, c7, A8, n8, c8, rfl, HSG.out, F.out.2.1, HZ.out.1, F.out.2.2, HZ.out.2⟩, FrQ.mk (fun ad h => Nat.le_trans (Nat.le_trans HB0.out.size hb4.size) (HFR.out.1 ad h)) (fun ad h => Nat.le_trans (Nat.le_trans HB0.out.size hb4.size) (HFR.out.2 ad h)), F.out.1⟩
end Go.Proofs.YtdpmfenikomfkaaGreat
