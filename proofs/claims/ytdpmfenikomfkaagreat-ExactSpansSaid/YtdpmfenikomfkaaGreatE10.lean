/-
  The document's rational numbers with denominators of one limb: Mul, Minus, Sub, Cmp, Whole.
  The document's rational numbers with denominators of one limb: Sub, Cmp, Whole.
-/
import Derived.Test.YtdpmfenikomfkaaGreatE09
namespace Go.Proofs.YtdpmfenikomfkaaGreat
open Go.RowKit

set_option maxRecDepth 100000 in
set_option maxHeartbeats 4000000 in
theorem qmul_any (z1 z2 : Int) (d1 d2 K : Nat) (hK : K ≤ 100000) (hk1 : z1.natAbs < B16 ^ K) (hk2 : z2.natAbs < B16 ^ K) (hd1 : 0 < d1) (hd2 : 0 < d2) (hdd : d1 * d2 < 65536) (v1 v2 : Value) (B : Nat) (w : World) (hv1 : QV w B v1 z1 d1) (hv2 : QV w B v2 z2 d2) (hB : B ≤ w.heap.size)
    (p : Int) (q : Nat) (hpq : Hid (p = (z1 * z2) / ((Nat.gcd (z1 * z2).natAbs (d1 * d2) : Nat) : Int) ∧ q = (d1 * d2) / Nat.gcd (z1 * z2).natAbs (d1 * d2))) :
    Calls Tryz.prog 22 #[v1, v2] w (RetQf w p q) := by
  obtain ⟨s1, A1, n1, c1, D1, m1, e1, rfl, hs1, hx1, hxz1, hy1, hyz1⟩ := hv1
  obtain ⟨s2, A2, n2, c2, D2, m2, e2, rfl, hs2, hx2, hxz2, hy2, hyz2⟩ := hv2
  have hd1b : d1 < 65536 := Nat.lt_of_le_of_lt (Nat.le_mul_of_pos_right d1 hd2) hdd
  have hd2b : d2 < 65536 := Nat.lt_of_le_of_lt (Nat.le_mul_of_pos_left d2 hd1) hdd
  obtain ⟨x3, hxx3⟩ : ∃ x, x = z1 * z2 := ⟨_, rfl⟩
  obtain ⟨d3, hdd3⟩ : ∃ x, x = d1 * d2 := ⟨_, rfl⟩
  rw [← hxx3, ← hdd3] at hpq
  rw [← hdd3] at hdd
  have hd3 : 0 < d3 := by rw [hdd3]; exact Nat.mul_pos hd1 hd2
  have a3 : x3.natAbs < B16 ^ (K + K) := by
    rw [hxx3, Int.natAbs_mul, Nat.pow_add]
    exact Nat.mul_lt_mul_of_lt_of_le hk1 (Nat.le_of_lt hk2) (Nat.pow_pos B16_pos)
  obtain ⟨W0, HW0, hw0, G0, G1, G2, hsz⟩ := qbox3 w (.cells #[.bool s1, .slice A1 n1 c1, .slice D1 m1 e1] 41) (.cells #[.bool s2, .slice A2 n2 c2, .slice D2 m2 e2] 41) (.cells #[.bool false, .slice none 0 0, .slice none 0 0] 41)
  have hB0 : B ≤ W0.heap.size := Nat.le_trans hB hw0.size
  have hx10 : RW .i64 W0 B (.slice A1 n1 c1) (words16 z1.natAbs) := hx1.belowM hw0 hB
  have hx20 : RW .i64 W0 B (.slice A2 n2 c2) (words16 z2.natAbs) := hx2.belowM hw0 hB
  have hy10 : RW .i64 W0 B (.slice D1 m1 e1) (words16 d1) := hy1.belowM hw0 hB
  have hy20 : RW .i64 W0 B (.slice D2 m2 e2) (words16 d2) := hy2.belowM hw0 hB
  have l1 : n1 ≤ 1000000 := len_of hx1 hk1 (by omega)
  have l2 : n2 ≤ 1000000 := len_of hx2 hk2 (by omega)
  have l3 : m1 ≤ 1000000 := len_of (k := 1) hy1 (by rw [Nat.pow_one, B16_eq]; exact hd1b) (by omega)
  have l4 : m2 ≤ 1000000 := len_of (k := 1) hy2 (by rw [Nat.pow_one, B16_eq]; exact hd2b) (by omega)
  have HX := Lib.hid (And.intro hxx3 hdd3)
  have HA := Lib.hid a3
  have HS1 := Lib.hid hs1
  have HS2 := Lib.hid hs2
  have K0 := Lib.hid (qc6 G0.out G1.out (Below.refl _ _))
  have HB0 := Lib.hid hw0
  have tok1 : True := trivial
  clear hx1 hx2 hy1 hy2 hs1 hs2 hxx3 hdd3 a3 hxz1 hxz2 hw0 hk1 hk2
  go_enter Tryz.func22, Tryz.ntmps22
  go_wp2
  rw [← HW0.out]
  obtain ⟨k0, k1, k2, k3, k4, k5⟩ := K0.out
  go_region_held3 (fun w' => w'.cell? ⟨w.heap.size, 0, none⟩ = some (.bool s1) ∧ w'.cell? ⟨w.heap.size, 1, none⟩ = some (.slice A1 n1 c1) ∧ w'.cell? ⟨w.heap.size, 2, none⟩ = some (.slice D1 m1 e1) ∧ w'.cell? ⟨w.heap.size + 1, 0, none⟩ = some (.bool s2) ∧ w'.cell? ⟨w.heap.size + 1, 1, none⟩ = some (.slice A2 n2 c2) ∧ w'.cell? ⟨w.heap.size + 1, 2, none⟩ = some (.slice D2 m2 e2))
    (first | exact K6.out | exact K5.out | exact K4.out | exact K3.out | exact K0.out | go_keep)
    (first
      | (go_at_call 31
         have _t := tok1
         refine (imul_any z1 z2 s1 s2 HS1 HS2 A1 A2 n1 n2 c1 c2 B _ (by exact hx10) (by exact hx20) (by exact hB0) l1 l2).mono ?_
         intro e w3 hret
         obtain ⟨t3, P3, p3, r3, rfl, ht3, h3, hz3, hb3'⟩ := RetIs.of hret
         rw [← HX.out.1] at ht3 h3
         have hb3 : Below W0.heap.size W0 w3 := by first | exact hb3' | exact below_un hb3'
         have K3 := Lib.hid (qc6 G0.out G1.out hb3)
         have l7 : p3 ≤ 1000000 := len_of h3 HA.out (by omega)
         have hy13 : RW .i64 w3 w3.heap.size (.slice D1 m1 e1) (words16 d1) := (hy10.belowM hb3 hB0).more (Nat.le_trans hB0 hb3.size)
         have hy23 : RW .i64 w3 w3.heap.size (.slice D2 m2 e2) (words16 d2) := (hy20.belowM hb3 hB0).more (Nat.le_trans hB0 hb3.size)
         have tok4 : True := trivial
         clear tok1 _t hb3' hret)
      | (go_at_call 33
         have _t := tok4
         refine (dtimes_any d1 d2 D1 D2 m1 m2 e1 e2 w3.heap.size _ (by exact hy13) (by exact hy23) (by exact Nat.le_refl _) l3 l4).mono ?_
         rintro e w4 ⟨P4, p4, r4, rfl, h4, ⟨hz4, _⟩, hb4'⟩
         rw [← HX.out.2] at h4
         have hb4a : Below w3.heap.size w3 w4 := by first | exact hb4' | exact below_un hb4'
         have hb4 : Below W0.heap.size W0 w4 := hb3.trans (hb4a.mono hb3.size)
         have K4 := Lib.hid (qc6 G0.out G1.out hb4)
         have h34 := (h3.below hb4a).more hb4a.size
         have tok5 : True := trivial
         clear tok4 _t hb4')
      | (go_at_call 30
         have _t := tok5
         refine (dfrac_limb x3 d3 hd3 hdd t3 false ht3 P3 P4 p3 p4 r3 r4 w4.heap.size _ (by exact h34) hz3 (by exact h4) hz4 (by exact Nat.le_refl _) l7 p q hpq).mono ?_
         rintro e w5 ⟨v, rfl, ⟨sg, A7, n7, c7, A8, n8, c8, rfl, hsg, h7, hz7, h8, hz8⟩, hfr, hb5'⟩
         have HFR := Lib.hid (hfr _ _ _ _ _ _ _ rfl)
         have hb5a : Below w4.heap.size w4 w5 := by first | exact hb5' | exact below_un hb5'
         have hb5 : Below W0.heap.size W0 w5 := hb4.trans (hb5a.mono hb4.size)
         have K5 := Lib.hid (qc6 G0.out G1.out hb5)
         have K6 := Lib.hid (qc6_set (h := w.heap.size + 1 + 1) (by omega) (by omega) (.bool sg) (.slice A7 n7 c7) (.slice A8 n8 c8) K5.out)
         have m0 := qblk_cell G2.out hb5 0 (.bool false) rfl
         have m1' := qblk_cell G2.out hb5 1 (.slice none 0 0) rfl
         have m2' := qblk_cell G2.out hb5 2 (.slice none 0 0) rfl
         have mf := qblk_frozen G2.out hb5
         have HSG := Lib.hid hsg
         clear tok5 _t hb5' hsg hfr))
  all_goals
    obtain ⟨f1, f2⟩ := qstore3 G2.out HB0.out (by omega : w.heap.size ≤ w.heap.size + 1 + 1) hb5 (.bool sg) (.slice A7 n7 c7) (.slice A8 n8 c8)
    have F := Lib.hid (And.intro f1 (And.intro (f2 _ _ _ h7) (f2 _ _ _ h8)))
    have HZ := Lib.hid (And.intro hz7 hz8)
    clear f1 f2 h7 h8 hz7 hz8
    go_wp2
    refine bodyPost_ret (by simp [results, Tryz.results22, go_sem, m0, m1', m2'] <;> rfl) rfl ⟨_, rfl, ⟨sg, A7, n7, c7, A8, n8, c8, rfl, HSG.out, F.out.2.1, HZ.out.1, F.out.2.2, HZ.out.2⟩, FrQ.mk (fun ad h => Nat.le_trans (Nat.le_trans HB0.out.size hb4.size) (HFR.out.1 ad h)) (fun ad h => Nat.le_trans (Nat.le_trans HB0.out.size hb4.size) (HFR.out.2 ad h)), F.out.1⟩

set_option maxRecDepth 100000 in
set_option maxHeartbeats 2000000 in
theorem qminus_any (z : Int) (d : Nat) (v : Value) (B : Nat) (w : World) (hv : QV w B v z d) (hB : B ≤ w.heap.size) :
    Calls Tryz.prog 34 #[v] w (RetQ w (-z) d) := by
  obtain ⟨s1, A1, n1, c1, D1, m1, e1, rfl, hs1, hx1, hxz1, hy1, hyz1⟩ := hv
  obtain ⟨x, hx⟩ : ∃ x, x = -z := ⟨_, rfl⟩
  rw [← hx]
  obtain ⟨W0, HW0, hw0, G0, G2, hsz⟩ := qbox2 w (.cells #[.bool s1, .slice A1 n1 c1, .slice D1 m1 e1] 41) (.cells #[.bool false, .slice none 0 0, .slice none 0 0] 41)
  have hB0 : B ≤ W0.heap.size := Nat.le_trans hB hw0.size
  have hx10 : RW .i64 W0 B (.slice A1 n1 c1) (words16 z.natAbs) := hx1.belowM hw0 hB
  have hy10 : RW .i64 W0 B (.slice D1 m1 e1) (words16 d) := hy1.belowM hw0 hB
  have HX := Lib.hid hx
  have HS1 := Lib.hid hs1
  have qc3 : ∀ w1, Below W0.heap.size W0 w1 → w1.cell? ⟨w.heap.size, 0, none⟩ = some (.bool s1) ∧ w1.cell? ⟨w.heap.size, 1, none⟩ = some (.slice A1 n1 c1) ∧ w1.cell? ⟨w.heap.size, 2, none⟩ = some (.slice D1 m1 e1) :=
    fun w1 h => ⟨qblk_cell G0.out h 0 _ rfl, qblk_cell G0.out h 1 _ rfl, qblk_cell G0.out h 2 _ rfl⟩
  have QC := Lib.hid qc3
  have K0 := Lib.hid (qc3 W0 (Below.refl _ _))
  have HB0 := Lib.hid hw0
  have HYZ := Lib.hid hyz1
  have HXZ := Lib.hid hxz1
  clear hx1 hy1 hs1 hx hw0 qc3 hyz1 hxz1
  go_enter Tryz.func34, Tryz.ntmps34
  go_wp2
  rw [← HW0.out]
  obtain ⟨k0, k1, k2⟩ := K0.out
  go_region_held3 (fun w' => w'.cell? ⟨w.heap.size, 0, none⟩ = some (.bool s1) ∧ w'.cell? ⟨w.heap.size, 1, none⟩ = some (.slice A1 n1 c1) ∧ w'.cell? ⟨w.heap.size, 2, none⟩ = some (.slice D1 m1 e1))
    (first | exact K6.out | exact K5.out | exact K0.out | go_keep)
    (first
      | (go_at_call 58
         refine (iminus_any z s1 HS1 A1 n1 c1 B _ (by exact hx10) HXZ.out (by exact hB0)).mono ?_
         intro e w5 hret
         obtain ⟨sg, A7, n7, c7, rfl, hsg, h7, hz7, hb5'⟩ := RetIs.of hret
         rw [← HX.out] at hsg h7
         have hb5 : Below W0.heap.size W0 w5 := by first | exact hb5' | exact below_un hb5'
         have K5 := Lib.hid (QC.out w5 hb5)
         have K6 := Lib.hid (show (((w5.setCell ⟨w.heap.size + 1, 0, none⟩ (.bool sg)).setCell ⟨w.heap.size + 1, 1, none⟩ (.slice A7 n7 c7)).setCell ⟨w.heap.size + 1, 2, none⟩ (.slice D1 m1 e1)).cell? ⟨w.heap.size, 0, none⟩ = some (.bool s1) ∧ (((w5.setCell ⟨w.heap.size + 1, 0, none⟩ (.bool sg)).setCell ⟨w.heap.size + 1, 1, none⟩ (.slice A7 n7 c7)).setCell ⟨w.heap.size + 1, 2, none⟩ (.slice D1 m1 e1)).cell? ⟨w.heap.size, 1, none⟩ = some (.slice A1 n1 c1) ∧ (((w5.setCell ⟨w.heap.size + 1, 0, none⟩ (.bool sg)).setCell ⟨w.heap.size + 1, 1, none⟩ (.slice A7 n7 c7)).setCell ⟨w.heap.size + 1, 2, none⟩ (.slice D1 m1 e1)).cell? ⟨w.heap.size, 2, none⟩ = some (.slice D1 m1 e1) from by
           have e : ∀ i, (((w5.setCell ⟨w.heap.size + 1, 0, none⟩ (.bool sg)).setCell ⟨w.heap.size + 1, 1, none⟩ (.slice A7 n7 c7)).setCell ⟨w.heap.size + 1, 2, none⟩ (.slice D1 m1 e1)).cell? ⟨w.heap.size, i, none⟩ = w5.cell? ⟨w.heap.size, i, none⟩ := fun i => ((set_other (by show w.heap.size ≠ _; omega)).trans (set_other (by show w.heap.size ≠ _; omega))).trans (set_other (by show w.heap.size ≠ _; omega))
           rw [e, e, e]
           exact K5.out)
         have m0 := qblk_cell G2.out hb5 0 (.bool false) rfl
         have m1' := qblk_cell G2.out hb5 1 (.slice none 0 0) rfl
         have m2' := qblk_cell G2.out hb5 2 (.slice none 0 0) rfl
         have mf := qblk_frozen G2.out hb5
         have h8 := (hy10.belowM hb5 hB0).more (Nat.le_trans hB0 hb5.size)
         clear hb5' hret))
  all_goals
    obtain ⟨f1, f2⟩ := qstore3 G2.out HB0.out (by omega : w.heap.size ≤ w.heap.size + 1) hb5 (.bool sg) (.slice A7 n7 c7) (.slice D1 m1 e1)
    have F := Lib.hid (And.intro f1 (And.intro (f2 _ _ _ h7) (f2 _ _ _ h8)))
    have HZ := Lib.hid hz7
    clear f1 f2 h7 h8 hz7
    go_wp2
    refine bodyPost_ret (by simp [results, Tryz.results34, go_sem, m0, m1', m2'] <;> rfl) rfl ⟨_, rfl, ⟨sg, A7, n7, c7, D1, m1, e1, rfl, hsg.out, F.out.2.1, HZ.out, F.out.2.2, HYZ.out⟩, F.out.1⟩
end Go.Proofs.YtdpmfenikomfkaaGreat

namespace Go.Proofs.YtdpmfenikomfkaaGreat
open Go.RowKit

@[go_sem] theorem field_num (s : Bool) (A A' : Option Addr) (m c m' c' : Nat) (w : World) : (Instr.field 41 (.agg #[.bool s, .slice A m c, .slice A' m' c']) 0).run Tryz.prog w = .ok (.agg #[.bool s, .slice A m c]) w := by
  simp [Instr.field, part, go_sem, Tryz.underlying41, asAgg]
theorem QV.below {w w' : World} {B B' : Nat} {v : Value} {z : Int} {d : Nat} (h : QV w B v z d) (hb : Below B' w w') (hB : B ≤ B') : QV w' B v z d := by
  obtain ⟨s, A, m, c, A', m', c', h0, h1, h2, h3, h4, h5⟩ := h
  exact ⟨s, A, m, c, A', m', c', h0, h1, h2.belowM hb hB, h3, h4.belowM hb hB, h5⟩
theorem QV.more {w : World} {B B' : Nat} {v : Value} {z : Int} {d : Nat} (h : QV w B v z d) (hB : B ≤ B') : QV w B' v z d := by
  obtain ⟨s, A, m, c, A', m', c', h0, h1, h2, h3, h4, h5⟩ := h
  exact ⟨s, A, m, c, A', m', c', h0, h1, h2.more hB, h3, h4.more hB, h5⟩

set_option maxRecDepth 100000 in
set_option maxHeartbeats 4000000 in
theorem qsub_any (z1 z2 : Int) (d1 d2 K : Nat) (hK : K ≤ 100000) (hk1 : z1.natAbs < B16 ^ K) (hk2 : z2.natAbs < B16 ^ K) (hd1 : 0 < d1) (hd2 : 0 < d2) (hdd : d1 * d2 < 65536) (v1 v2 : Value) (B : Nat) (w : World) (hv1 : QV w B v1 z1 d1) (hv2 : QV w B v2 z2 d2) (hB : B ≤ w.heap.size)
    (p : Int) (q : Nat) (hpq : Hid (p = (z1 * (d2 : Int) + -z2 * (d1 : Int)) / ((Nat.gcd (z1 * (d2 : Int) + -z2 * (d1 : Int)).natAbs (d1 * d2) : Nat) : Int) ∧ q = (d1 * d2) / Nat.gcd (z1 * (d2 : Int) + -z2 * (d1 : Int)).natAbs (d1 * d2))) :
    Calls Tryz.prog 21 #[v1, v2] w (RetQf w p q) := by
  have hv1' := hv1
  have hv2' := hv2
  obtain ⟨s1, A1, n1, c1, D1, m1, e1, rfl, -⟩ := hv1'
  obtain ⟨s2, A2, n2, c2, D2, m2, e2, rfl, -⟩ := hv2'
  obtain ⟨W0, HW0, hw0, G0, G1, G2, hsz⟩ := qbox3 w (.cells #[.bool s1, .slice A1 n1 c1, .slice D1 m1 e1] 41) (.cells #[.bool s2, .slice A2 n2 c2, .slice D2 m2 e2] 41) (.cells #[.bool false, .slice none 0 0, .slice none 0 0] 41)
  have hB0 : B ≤ W0.heap.size := Nat.le_trans hB hw0.size
  have HV1 := Lib.hid (hv1.below hw0 hB)
  have HV2 := Lib.hid (hv2.below hw0 hB)
  obtain ⟨y, hy⟩ : ∃ y, y = -z2 := ⟨_, rfl⟩
  rw [← hy] at hpq
  have hky : y.natAbs < B16 ^ K := by rw [hy, Int.natAbs_neg]; exact hk2
  have HY := Lib.hid hy
  have K0 := Lib.hid (qc6 G0.out G1.out (Below.refl _ _))
  have HB0 := Lib.hid hw0
  have HKY := Lib.hid (And.intro hk1 hky)
  clear hv1 hv2 hy hw0 hk1 hk2 hky
  go_enter Tryz.func21, Tryz.ntmps21
  go_wp2
  rw [← HW0.out]
  obtain ⟨k0, k1, k2, k3, k4, k5⟩ := K0.out
  go_region_held3 (fun w' => w'.cell? ⟨w.heap.size, 0, none⟩ = some (.bool s1) ∧ w'.cell? ⟨w.heap.size, 1, none⟩ = some (.slice A1 n1 c1) ∧ w'.cell? ⟨w.heap.size, 2, none⟩ = some (.slice D1 m1 e1) ∧ w'.cell? ⟨w.heap.size + 1, 0, none⟩ = some (.bool s2) ∧ w'.cell? ⟨w.heap.size + 1, 1, none⟩ = some (.slice A2 n2 c2) ∧ w'.cell? ⟨w.heap.size + 1, 2, none⟩ = some (.slice D2 m2 e2))
    (first | exact K6.out | exact K5.out | exact K4.out | exact K0.out | go_keep)
    (first
      | (go_at_call 34
         refine (qminus_any z2 d2 _ B _ (by exact HV2.out) (by exact hB0)).mono ?_
         rintro e w4 ⟨v4, rfl, hv4, hb4'⟩
         have hb4 : Below W0.heap.size W0 w4 := by first | exact hb4' | exact below_un hb4'
         have K4 := Lib.hid (qc6 G0.out G1.out hb4)
         rw [← HY.out] at hv4
         have HV4 := Lib.hid hv4
         obtain ⟨t4, P4, p4, r4, Q4, q4, u4, rfl, -⟩ := hv4
         have HV14 := Lib.hid ((HV1.out.below hb4 hB0).more (Nat.le_trans hB0 hb4.size))
         clear hb4')
      | (go_at_call 20
         refine (qadd_any z1 y d1 d2 K hK HKY.out.1 HKY.out.2 hd1 hd2 hdd _ _ w4.heap.size _ (by exact HV14.out) (by exact HV4.out) (by exact Nat.le_refl _) p q hpq).mono ?_
         rintro e w5 ⟨v, rfl, ⟨sg, A7, n7, c7, A8, n8, c8, rfl, hsg, h7, hz7, h8, hz8⟩, hfr, hb5'⟩
         have HFR := Lib.hid (hfr _ _ _ _ _ _ _ rfl)
         have hb5a : Below w4.heap.size w4 w5 := by first | exact hb5' | exact below_un hb5'
         have hb5 : Below W0.heap.size W0 w5 := hb4.trans (hb5a.mono hb4.size)
         have K5 := Lib.hid (qc6 G0.out G1.out hb5)
         have K6 := Lib.hid (qc6_set (h := w.heap.size + 1 + 1) (by omega) (by omega) (.bool sg) (.slice A7 n7 c7) (.slice A8 n8 c8) K5.out)
         have m0 := qblk_cell G2.out hb5 0 (.bool false) rfl
         have m1' := qblk_cell G2.out hb5 1 (.slice none 0 0) rfl
         have m2' := qblk_cell G2.out hb5 2 (.slice none 0 0) rfl
         have mf := qblk_frozen G2.out hb5
         have HSG := Lib.hid hsg
         clear hb5' hsg hfr))
  all_goals
    obtain ⟨f1, f2⟩ := qstore3 G2.out HB0.out (by omega : w.heap.size ≤ w.heap.size + 1 + 1) hb5 (.bool sg) (.slice A7 n7 c7) (.slice A8 n8 c8)
    have F := Lib.hid (And.intro f1 (And.intro (f2 _ _ _ h7) (f2 _ _ _ h8)))
    have HZ := Lib.hid (And.intro hz7 hz8)
    clear f1 f2 h7 h8 hz7 hz8
    go_wp2
    refine bodyPost_ret (by simp [results, Tryz.results21, go_sem, m0, m1', m2'] <;> rfl) rfl ⟨_, rfl, ⟨sg, A7, n7, c7, A8, n8, c8, rfl, HSG.out, F.out.2.1, HZ.out.1, F.out.2.2, HZ.out.2⟩, FrQ.mk (fun ad h => Nat.le_trans (Nat.le_trans HB0.out.size hb4.size) (HFR.out.1 ad h)) (fun ad h => Nat.le_trans (Nat.le_trans HB0.out.size hb4.size) (HFR.out.2 ad h)), F.out.1⟩

set_option maxRecDepth 100000 in
set_option maxHeartbeats 2000000 in
theorem qcmp_any (z1 z2 : Int) (d1 d2 K : Nat) (hK : K ≤ 100000) (hk1 : z1.natAbs < B16 ^ K) (hk2 : z2.natAbs < B16 ^ K) (hd1 : 0 < d1) (hd2 : 0 < d2) (hdd : d1 * d2 < 65536) (v1 v2 : Value) (B : Nat) (w : World) (hv1 : QV w B v1 z1 d1) (hv2 : QV w B v2 z2 d2) (hB : B ≤ w.heap.size) :
    Calls Tryz.prog 35 #[v1, v2] w (RetI w (isgn ((z1 * (d2 : Int) + -z2 * (d1 : Int)) / ((Nat.gcd (z1 * (d2 : Int) + -z2 * (d1 : Int)).natAbs (d1 * d2) : Nat) : Int)))) := by
  have hv1' := hv1
  have hv2' := hv2
  obtain ⟨s1, A1, n1, c1, D1, m1, e1, rfl, -⟩ := hv1'
  obtain ⟨s2, A2, n2, c2, D2, m2, e2, rfl, -⟩ := hv2'
  obtain ⟨W0, HW0, hw0, G0, G1, hsz⟩ := qbox2 w (.cells #[.bool s1, .slice A1 n1 c1, .slice D1 m1 e1] 41) (.cells #[.bool s2, .slice A2 n2 c2, .slice D2 m2 e2] 41)
  obtain ⟨p, hp⟩ : ∃ p, p = (z1 * (d2 : Int) + -z2 * (d1 : Int)) / ((Nat.gcd (z1 * (d2 : Int) + -z2 * (d1 : Int)).natAbs (d1 * d2) : Nat) : Int) := ⟨_, rfl⟩
  obtain ⟨q, hq⟩ : ∃ q, q = (d1 * d2) / Nat.gcd (z1 * (d2 : Int) + -z2 * (d1 : Int)).natAbs (d1 * d2) := ⟨_, rfl⟩
  have HS := Lib.hid (qsub_any z1 z2 d1 d2 K hK hk1 hk2 hd1 hd2 hdd _ _ B W0 (hv1.below hw0 hB) (hv2.below hw0 hB) (Nat.le_trans hB hw0.size) p q (Lib.hid ⟨hp, hq⟩))
  rw [← hp]
  have HB0 := Lib.hid hw0
  clear hv1 hv2 hp hq hw0 hk1 hk2
  go_enter Tryz.func35, Tryz.ntmps35
  go_wp2_with fail
  rw [← HW0.out]
  refine HS.out.mono ?_
  rintro e w5 ⟨v, rfl, ⟨sg, A7, n7, c7, A8, n8, c8, rfl, hsg, h7, hz7, h8, hz8⟩, _, hb5⟩
  have HG := Lib.hid (isign_any p sg (Lib.hid hsg) A7 n7 c7 w5.heap.size w5 h7)
  have HB5 := Lib.hid (HB0.out.trans (hb5.mono HB0.out.size))
  clear hsg h7 hz7 h8 hz8 hb5
  go_wp2_with fail
  refine HG.out.mono ?_
  rintro e w6 ⟨rfl, b6⟩
  go_wp2
  go_ret
  exact ⟨rfl, HB5.out.trans (b6.mono HB5.out.size)⟩

set_option maxRecDepth 100000 in
set_option maxHeartbeats 2000000 in
theorem whole_any (z : Int) (h1 : -9223372036854775808 ≤ z) (h2 : z ≤ 9223372036854775807) (w : World) :
    Calls Tryz.prog 19 #[.int .i64 z] w (RetQ w z 1) := by
  obtain ⟨W0, HW0, HW, HG⟩ := qbox1 w #[.bool false, .slice none 0 0, .slice none 0 0] 41
  have HS := Lib.hid (dsmall_any z h1 h2 W0)
  clear h1 h2
  go_enter Tryz.func19, Tryz.ntmps19
  go_wp2_with fail
  rw [← HW0.out]
  refine HS.out.mono ?_
  intro e w3 hret
  obtain ⟨s, A, m, c, rfl, hs, hr, hz, hb3⟩ := RetIs.of hret
  obtain ⟨w4, hw4⟩ : ∃ w4, w4 = w3.alloc (.cells #[.int .i64 1] 3) := ⟨_, rfl⟩
  have hb34 : Below w3.heap.size w3 w4 := by rw [hw4]; exact (Below.refl _ _).alloc (Nat.le_refl _) _
  have hb4 : Below W0.heap.size W0 w4 := hb3.trans (hb34.mono hb3.size)
  have hrow : Row .i64 w4 w3.heap.size 3 [1] := by rw [hw4]; exact Row.one .i64 w3 _ 1
  have hr1 : RW .i64 w4 w4.heap.size (.slice (some ⟨w3.heap.size, 0, none⟩) 1 1) (words16 1) := by
    rw [words16_single (by omega) (by rw [B16_eq]; omega)]
    exact RW.of_row0 (post := []) hrow rfl (Nat.le_refl _) (by unfold maxLen; omega) hrow.lt
  have hr4 := (hr.below hb34).more hb34.size
  have m0 := qblk_cell HG.out hb4 0 (.bool false) rfl
  have m1' := qblk_cell HG.out hb4 1 (.slice none 0 0) rfl
  have m2' := qblk_cell HG.out hb4 2 (.slice none 0 0) rfl
  have mf := qblk_frozen HG.out hb4
  obtain ⟨f1, f2⟩ := qstore3 HG.out HW.out (Nat.le_refl _) hb4 (.bool s) (.slice A m c) (.slice (some ⟨w3.heap.size, 0, none⟩) 1 1)
  have F := Lib.hid (And.intro f1 (And.intro (f2 _ _ _ hr4) (f2 _ _ _ hr1)))
  have HZ := Lib.hid hz
  rw [hw4] at m0 m1' m2' mf
  have HW4 := Lib.hid hw4
  clear f1 f2 hr hz hb3 hw4 hb34 hb4 hrow hr1 hr4 hret
  go_wp2
  rw [← HW4.out]
  rw [← HW4.out] at m0 m1' m2' mf
  refine bodyPost_ret (by simp [results, Tryz.results19, go_sem, m0, m1', m2'] <;> rfl) rfl ⟨_, rfl, ⟨s, A, m, c, _, 1, 1, rfl, hs.out, F.out.2.1, HZ.out, F.out.2.2, fun h => by cases h⟩, F.out.1⟩
end Go.Proofs.YtdpmfenikomfkaaGreat
