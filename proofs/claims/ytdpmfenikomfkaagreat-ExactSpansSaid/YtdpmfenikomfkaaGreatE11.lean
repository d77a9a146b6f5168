/-
  The document's rational numbers with denominators of one limb: Floor, Ceil.
  The document's integers: Fits, end.
-/
import Derived.Test.YtdpmfenikomfkaaGreatE10
namespace Go.Proofs.YtdpmfenikomfkaaGreat
open Go.RowKit

theorem down_pos {z : Int} {d : Nat} (h : ¬ z < 0) : false = decide (z / (d : Int) < 0) ∧ (z / (d : Int)).natAbs = z.natAbs / d := by
  obtain ⟨a, rfl⟩ : ∃ a : Nat, z = (a : Int) := ⟨z.toNat, by omega⟩
  have e : (a : Int) / (d : Int) = ((a / d : Nat) : Int) := (Int.natCast_ediv a d).symm
  have e2 : ((a : Int)).natAbs = a := Int.natAbs_natCast a
  rw [e, e2]
  obtain ⟨k, hk⟩ : ∃ k, k = a / d := ⟨_, rfl⟩
  rw [← hk]
  exact ⟨(decide_eq_false (by omega : ¬ ((k : Nat) : Int) < 0)).symm, Int.natAbs_natCast k⟩
theorem down_neg {z : Int} {d : Nat} (hd : 0 < d) (h : z < 0) (h0 : z.natAbs % d = 0) : z / (d : Int) = -((z.natAbs / d : Nat) : Int) ∧ z.natAbs / d ≠ 0 := by
  obtain ⟨a, ha⟩ : ∃ a, a = z.natAbs := ⟨_, rfl⟩
  rw [← ha] at h0 ⊢
  have h1 := Nat.div_add_mod a d
  rw [h0, Nat.add_zero] at h1
  have hz : z = (d : Int) * (-((a / d : Nat) : Int)) := by
    have : z = -(a : Int) := by omega
    rw [this, Int.mul_neg]
    conv => lhs; rw [← h1]
    push_cast; rfl
  refine ⟨?_, fun e => ?_⟩
  · conv => lhs; rw [hz]
    exact Int.mul_ediv_cancel_left _ (by omega)
  · rw [e, Nat.mul_zero] at h1; omega
theorem neg_sign {k : Nat} (h : k ≠ 0) : true = decide (-((k : Nat) : Int) < 0) := (decide_eq_true (by omega : -((k : Nat) : Int) < 0)).symm
theorem down_more {z : Int} {d : Nat} (hd : 0 < d) (h : z < 0) (h0 : z.natAbs % d ≠ 0) : z / (d : Int) = -((z.natAbs / d + 1 : Nat) : Int) := by
  obtain ⟨a, ha⟩ : ∃ a, a = z.natAbs := ⟨_, rfl⟩
  rw [← ha] at h0 ⊢
  have h1 := Nat.div_add_mod a d
  have h2 := Nat.mod_lt a hd
  obtain ⟨q, hq⟩ : ∃ q, q = a / d := ⟨_, rfl⟩
  obtain ⟨r, hr⟩ : ∃ r, r = a % d := ⟨_, rfl⟩
  rw [← hq, ← hr] at h1
  rw [← hr] at h0 h2
  rw [← hq]
  have h3 : (d : Int) * (q : Int) + (r : Int) = (a : Int) := by exact_mod_cast h1
  refine ((Int.ediv_emod_unique (r := (d : Int) - (r : Int)) (by omega : (0 : Int) < (d : Int))).2 ⟨?_, by omega, by omega⟩).1
  push_cast
  rw [Int.mul_neg, Int.mul_add, Int.mul_one]
  omega

set_option maxRecDepth 100000 in
set_option maxHeartbeats 2000000 in
theorem idown_limb (z : Int) (d : Nat) (hd : 0 < d) (hd2 : d < 65536) (s s2 : Bool) (hs : Hid (s = decide (z < 0))) (A1 A2 : Option Addr) (n1 n2 c1 c2 B : Nat) (w : World) (hx : RW .i64 w B (.slice A1 n1 c1) (words16 z.natAbs)) (hz1 : A1 = none → c1 = 0) (hy : RW .i64 w B (.slice A2 n2 c2) (words16 d)) (hB : B ≤ w.heap.size) (hn1 : n1 ≤ 999999) :
    Calls Tryz.prog 61 #[.agg #[.bool s, .slice A1 n1 c1], .agg #[.bool s2, .slice A2 n2 c2]] w (RetIn w (z / (d : Int))) := by
  obtain ⟨W0, HW0, hw0, G0, G1, G2, hsz⟩ := qbox3 w (.cells #[.bool s, .slice A1 n1 c1] 39) (.cells #[.bool s2, .slice A2 n2 c2] 39) (.cells #[.bool false, .slice none 0 0] 39)
  have hB0 : B ≤ W0.heap.size := Nat.le_trans hB hw0.size
  have HD := Lib.hid (ddivide_limb z.natAbs d hd hd2 A1 A2 n1 n2 c1 c2 B W0 (hx.belowM hw0 hB) hz1 (hy.belowM hw0 hB) hB0 (by omega))
  have hql : (words16 (z.natAbs / d)).length ≤ n1 := by rw [hx.len]; exact words16_len_mono (Nat.div_le_self _ _)
  have HQL := Lib.hid hql
  have HB0 := Lib.hid hw0
  clear hx hy hz1 hw0 hql
  go_enter Tryz.func61, Tryz.ntmps61
  go_wp2_with fail
  rw [← HW0.out]
  refine HD.out.mono ?_
  rintro e w3 ⟨Aq, mq, cq, Ar, mr, cr, rfl, hq, hqz, hqf, hr, hrz, hb3⟩
  obtain ⟨k0, k1, k2, k3⟩ := qc4 G0.out G1.out hb3
  have m0 := qblk_cell G2.out hb3 0 (.bool false) rfl
  have m1 := qblk_cell G2.out hb3 1 (.slice none 0 0) rfl
  have mf := qblk_frozen G2.out hb3
  have hmr : mr = 0 ↔ z.natAbs % d = 0 := by rw [hr.len]; exact words16_len_zero
  have hmq : mq = 0 ↔ z.natAbs / d = 0 := by rw [hq.len]; exact words16_len_zero
  have hmql : mq ≤ n1 := by rw [hq.len]; exact HQL.out
  have HQ := Lib.hid (And.intro hq (And.intro hqz hb3))
  clear hq hqz hqf hr hrz hb3
  have hs' := hs.out
  clear hs
  by_cases hn : z < 0
  · have hss : s = true := by rw [hs', decide_eq_true hn]
    subst hss
    by_cases hr0 : z.natAbs % d = 0
    · have hm0 : mr = 0 := hmr.2 hr0
      obtain ⟨e1, e2⟩ := down_neg hd hn hr0
      have hm1 : 0 < mq := by have : mq ≠ 0 := fun h => e2 (hmq.1 h); omega
      have hm2 : (0 : Int) < (mq : Int) := by omega
      obtain ⟨f1, f2⟩ := qstore2 G2.out HB0.out (by omega : w.heap.size ≤ w.heap.size + 1 + 1) HQ.out.2.2 (.bool true) (.slice Aq mq cq)
      have F := Lib.hid (And.intro f1 (f2 _ _ _ HQ.out.1))
      have HE := Lib.hid (And.intro e1 e2)
      subst hm0
      clear f1 f2 e1 e2 hs' hmr hmq hr0 hn
      go_wp2
      refine bodyPost_ret (v := .agg #[.bool true, .slice Aq mq cq]) (by simp [results, Tryz.results61, go_sem, m0, m1, hm1]) rfl ⟨_, rfl, IN.mk (by rw [HE.out.1]; exact neg_sign HE.out.2) (by rw [HE.out.1, Int.natAbs_neg]; exact F.out.2) HQ.out.2.1, F.out.1⟩
    · have hm1 : 0 < mr := by have : mr ≠ 0 := fun h => hr0 (hmr.1 h); omega
      have hm2 : (0 : Int) < (mr : Int) := by omega
      have e1 := down_more hd hn hr0
      have hrow : Row .i64 (w3.alloc (.cells #[.int .i64 1] 3)) w3.heap.size 3 [1] := Row.one .i64 w3 _ 1
      have hone : RW .i64 (w3.alloc (.cells #[.int .i64 1] 3)) (w3.alloc (.cells #[.int .i64 1] 3)).heap.size (.slice (some ⟨w3.heap.size, 0, none⟩) 1 1) (words16 1) := by
        rw [words16_single (by omega) (by rw [B16_eq]; omega)]
        exact RW.of_row0 (post := []) hrow rfl (Nat.le_refl _) (by unfold maxLen; omega) hrow.lt
      have hq4 := (HQ.out.1.alloc (Nat.le_refl _) (.cells #[.int .i64 1] 3)).more (show w3.heap.size ≤ (w3.alloc (.cells #[.int .i64 1] 3)).heap.size by simp)
      have hb4 : Below W0.heap.size W0 (w3.alloc (.cells #[.int .i64 1] 3)) := HQ.out.2.2.alloc HQ.out.2.2.size _
      have HP := Lib.hid (dplus_any (z.natAbs / d) 1 Aq (some ⟨w3.heap.size, 0, none⟩) mq 1 cq 1 _ _ hq4 hone (Nat.le_refl _) (by omega) (by omega))
      have HB4 := Lib.hid hb4
      have HE := Lib.hid e1
      clear hrow hone hq4 hb4 e1 hs' hmr hmq hr0 hn
      go_wp2_with fail
      refine HP.out.mono ?_
      rintro e w5 ⟨Ap, mp, cp, rfl, hp, ⟨hpz, _⟩, hb5'⟩
      have hb5 : Below W0.heap.size W0 w5 := HB4.out.trans (hb5'.mono HB4.out.size)
      have m0' := qblk_cell G2.out hb5 0 (.bool false) rfl
      have m1' := qblk_cell G2.out hb5 1 (.slice none 0 0) rfl
      have mf' := qblk_frozen G2.out hb5
      have hmp : 0 < mp := by
        have : mp ≠ 0 := fun h => by
          rw [hp.len] at h
          exact Nat.succ_ne_zero _ (words16_len_zero.1 h)
        omega
      have hmp2 : (0 : Int) < (mp : Int) := by omega
      obtain ⟨f1, f2⟩ := qstore2 G2.out HB0.out (by omega : w.heap.size ≤ w.heap.size + 1 + 1) hb5 (.bool true) (.slice Ap mp cp)
      have F := Lib.hid (And.intro f1 (f2 _ _ _ hp))
      have HZ := Lib.hid hpz
      clear f1 f2 hp hpz hb5 hb5'
      go_wp2
      refine bodyPost_ret (v := .agg #[.bool true, .slice Ap mp cp]) (by simp [results, Tryz.results61, go_sem, m0', m1', hmp]) rfl ⟨_, rfl, IN.mk (by rw [HE.out]; exact neg_sign (Nat.succ_ne_zero _)) (by rw [HE.out, Int.natAbs_neg]; exact F.out.2) HZ.out, F.out.1⟩
  · have hss : s = false := by rw [hs', decide_eq_false hn]
    obtain ⟨e1, e2⟩ := down_pos (d := d) hn
    obtain ⟨f1, f2⟩ := qstore2 G2.out HB0.out (by omega : w.heap.size ≤ w.heap.size + 1 + 1) HQ.out.2.2 (.bool false) (.slice Aq mq cq)
    have F := Lib.hid (And.intro f1 (f2 _ _ _ HQ.out.1))
    have HE := Lib.hid (And.intro e1 e2)
    subst hss
    clear f1 f2 e1 e2 hs' hmr hmq hn
    go_wp2
    refine bodyPost_ret (by simp [results, Tryz.results61, go_sem, m0, m1] <;> rfl) rfl ⟨_, rfl, IN.mk HE.out.1 (by rw [HE.out.2]; exact F.out.2) HQ.out.2.1, F.out.1⟩

set_option maxRecDepth 100000 in
set_option maxHeartbeats 2000000 in
theorem qfloor_any (z : Int) (d : Nat) (hd : 0 < d) (hd2 : d < 65536) (K : Nat) (hK : K ≤ 900000) (hk : z.natAbs < B16 ^ K) (v : Value) (B : Nat) (w : World) (hv : QV w B v z d) (hB : B ≤ w.heap.size) :
    Calls Tryz.prog 37 #[v] w (RetIs w (z / (d : Int))) := by
  obtain ⟨s1, A1, n1, c1, D1, m1, e1, rfl, hs1, hx1, hxz1, hy1, hyz1⟩ := hv
  obtain ⟨W0, HW0, hw0, G0, G2, hsz⟩ := qbox2 w (.cells #[.bool s1, .slice A1 n1 c1, .slice D1 m1 e1] 41) (.cells #[.bool false, .slice none 0 0] 39)
  have hB0 : B ≤ W0.heap.size := Nat.le_trans hB hw0.size
  have l1 : n1 ≤ 999999 := by rw [hx1.len]; exact Nat.le_trans (words16_length_le _ K hk) (by omega)
  have HD := Lib.hid (idown_limb z d hd hd2 s1 false (Lib.hid hs1) A1 D1 n1 m1 c1 e1 B W0 (hx1.belowM hw0 hB) hxz1 (hy1.belowM hw0 hB) hB0 l1)
  obtain ⟨x, hx⟩ : ∃ x, x = z / (d : Int) := ⟨_, rfl⟩
  rw [← hx] at HD ⊢
  have HB0 := Lib.hid hw0
  clear hs1 hx1 hxz1 hy1 hyz1 hw0 hx hk
  go_enter Tryz.func37, Tryz.ntmps37
  go_wp2_with fail
  rw [← HW0.out]
  refine HD.out.mono ?_
  intro e w3 hret
  obtain ⟨s, A, m, c, rfl, hs, hr, hz, hb3⟩ := RetIs.of hret
  have m0 := qblk_cell G2.out hb3 0 (.bool false) rfl
  have m1 := qblk_cell G2.out hb3 1 (.slice none 0 0) rfl
  have mf := qblk_frozen G2.out hb3
  obtain ⟨f1, f2⟩ := qstore2 G2.out HB0.out (by omega : w.heap.size ≤ w.heap.size + 1) hb3 (.bool s) (.slice A m c)
  have F := Lib.hid (And.intro f1 (f2 _ _ _ hr))
  have HZ := Lib.hid hz
  clear f1 f2 hr hz hb3 hret
  go_wp2
  refine bodyPost_ret (by simp [results, Tryz.results37, go_sem, m0, m1] <;> rfl) rfl ⟨s, A, m, c, rfl, hs, F.out.2, HZ.out, F.out.1⟩

set_option maxRecDepth 100000 in
set_option maxHeartbeats 2000000 in
theorem qceil_any (z : Int) (d : Nat) (hd : 0 < d) (hd2 : d < 65536) (K : Nat) (hK : K ≤ 900000) (hk : z.natAbs < B16 ^ K) (v : Value) (B : Nat) (w : World) (hv : QV w B v z d) (hB : B ≤ w.heap.size) :
    Calls Tryz.prog 38 #[v] w (RetIs w (-(-z / (d : Int)))) := by
  have hv' := hv
  obtain ⟨s1, A1, n1, c1, D1, m1, e1, rfl, -⟩ := hv'
  obtain ⟨W0, HW0, hw0, G0, G2, hsz⟩ := qbox2 w (.cells #[.bool s1, .slice A1 n1 c1, .slice D1 m1 e1] 41) (.cells #[.bool false, .slice none 0 0] 39)
  have hB0 : B ≤ W0.heap.size := Nat.le_trans hB hw0.size
  have HM := Lib.hid (qminus_any z d _ B W0 (hv.below hw0 hB) hB0)
  obtain ⟨y, hy⟩ : ∃ y, y = -z := ⟨_, rfl⟩
  obtain ⟨x, hx⟩ : ∃ x, x = y / (d : Int) := ⟨_, rfl⟩
  obtain ⟨u, hu⟩ : ∃ u, u = -x := ⟨_, rfl⟩
  have hky : y.natAbs < B16 ^ K := by rw [hy, Int.natAbs_neg]; exact hk
  rw [← hy] at HM ⊢
  rw [← hx, ← hu]
  have HX := Lib.hid (And.intro hx (And.intro hu hky))
  have HB0 := Lib.hid hw0
  clear hv hw0 hy hx hu hk hky
  go_enter Tryz.func38, Tryz.ntmps38
  go_wp2_with fail
  rw [← HW0.out]
  refine HM.out.mono ?_
  rintro e w3 ⟨v3, rfl, hv3, hb3⟩
  have HF := Lib.hid (qfloor_any y d hd hd2 K hK HX.out.2.2 v3 w3.heap.size w3 hv3 (Nat.le_refl _))
  obtain ⟨t3, P3, p3, r3, Q3, q3, u3, rfl, -⟩ := hv3
  have HB3 := Lib.hid hb3
  clear hb3
  rw [← HX.out.1] at HF
  go_wp2_with fail
  refine HF.out.mono ?_
  rintro e w4 ⟨s4, A4, m4, c4, rfl, hs4, hr4, hz4, hb4⟩
  have HI := Lib.hid (iminus_any x s4 hs4 A4 m4 c4 w4.heap.size w4 hr4 hz4 (Nat.le_refl _))
  rw [← HX.out.2.1] at HI
  have HB4 := Lib.hid (HB3.out.trans (hb4.mono HB3.out.size))
  clear hs4 hr4 hz4 hb4
  go_wp2_with fail
  refine HI.out.mono ?_
  intro e w5 hret
  obtain ⟨s, A, m, c, rfl, hs, hr, hz, hb5'⟩ := RetIs.of hret
  have hb5 : Below W0.heap.size W0 w5 := HB4.out.trans (hb5'.mono HB4.out.size)
  have m0 := qblk_cell G2.out hb5 0 (.bool false) rfl
  have m1 := qblk_cell G2.out hb5 1 (.slice none 0 0) rfl
  have mf := qblk_frozen G2.out hb5
  obtain ⟨f1, f2⟩ := qstore2 G2.out HB0.out (by omega : w.heap.size ≤ w.heap.size + 1) hb5 (.bool s) (.slice A m c)
  have F := Lib.hid (And.intro f1 (f2 _ _ _ hr))
  have HZ := Lib.hid hz
  clear f1 f2 hr hz hb5 hb5' hret
  go_wp2
  refine bodyPost_ret (by simp [results, Tryz.results38, go_sem, m0, m1] <;> rfl) rfl ⟨s, A, m, c, rfl, hs, F.out.2, HZ.out, F.out.1⟩
end Go.Proofs.YtdpmfenikomfkaaGreat

namespace Go.Proofs.YtdpmfenikomfkaaGreat
open Go.RowKit

def RetFt (w : World) (z : Int) (e : Ending) (w' : World) : Prop :=
  ((z.natAbs ≤ 4611686018427387904 ∧ e = .returned (.tuple #[.int .i64 z, .bool true])) ∨ (4611686018427387904 < z.natAbs ∧ e = .returned (.tuple #[.int .i64 0, .bool false]))) ∧ Below w.heap.size w w'
theorem top4 {N m : Nat} (hm : (words16 N).length = m) : (m ≤ 3 → N < 281474976710656) ∧ (4 < m → 4611686018427387904 < N) ∧ (m = 4 → N = val16 ((words16 N).take 3) + 281474976710656 * nth (words16 N) 3 ∧ val16 ((words16 N).take 3) < 281474976710656) := by
  refine ⟨fun h => ?_, fun h => ?_, fun h => ?_⟩
  · have h1 := words16_lt N
    have h2 : B16 ^ (words16 N).length ≤ B16 ^ 3 := Nat.pow_le_pow_right B16_pos (by omega)
    have h3 : B16 ^ 3 = 281474976710656 := by rw [B16_eq]
    omega
  · rcases Nat.lt_or_ge N (B16 ^ 4) with h1 | h1
    · have := words16_length_le N 4 h1
      omega
    · have h3 : B16 ^ 4 = 18446744073709551616 := by rw [B16_eq]
      omega
  · have h1 := val16_split (words16 N) 3 (by omega)
    have h2 : (words16 N).drop 4 = [] := List.drop_eq_nil_of_le (by omega)
    rw [h2, val16_nil, Nat.mul_zero, Nat.add_zero, val16_words16] at h1
    have h3 : B16 ^ 3 = 281474976710656 := by rw [B16_eq]
    rw [h3] at h1
    refine ⟨h1, ?_⟩
    have h4 := val16_lt ((words16 N).take 3) (fun x hx => words16_ok N x (List.mem_of_mem_take hx))
    have h5 : ((words16 N).take 3).length = 3 := by rw [List.length_take]; omega
    rw [h5, h3] at h4
    exact h4

def FtR (N m : Nat) (nv iv : Value) : Prop :=
  ∃ k n : Nat, k ≤ m ∧ iv = .int .i64 ((k : Int) - 1) ∧ nv = .int .i64 (n : Int) ∧ n ≤ N ∧ Hid (n = val16 ((words16 N).drop k))

set_option maxRecDepth 100000 in
set_option maxHeartbeats 2000000 in
theorem fits_any (z : Int) (s : Bool) (hs : Hid (s = decide (z < 0))) (A1 : Option Addr) (n1 c1 B : Nat) (w : World) (hx : RW .i64 w B (.slice A1 n1 c1) (words16 z.natAbs)) (hB : B ≤ w.heap.size) :
    Calls Tryz.prog 60 #[.agg #[.bool s, .slice A1 n1 c1]] w (RetFt w z) := by
  obtain ⟨N, hN⟩ : ∃ N, N = z.natAbs := ⟨_, rfl⟩
  have hlen := hx.len
  rw [← hN] at hx hlen
  obtain ⟨t1, t2, t3⟩ := top4 hlen.symm
  have HT := Lib.hid (And.intro t1 (And.intro t2 t3))
  have HN := Lib.hid hN
  have HX := Lib.hid hx
  have HL := Lib.hid hlen
  clear hx t1 t2 t3 hN hlen
  rcases Nat.lt_or_ge 4 n1 with h5 | h5
  · have i1 : (4 : Int) < (n1 : Int) := by omega
    have HB := Lib.hid (HT.out.2.1 h5)
    go_enter Tryz.func60, Tryz.ntmps60
    go_wp2
    go_ret2
    exact ⟨.inr ⟨by rw [← HN.out]; exact HB.out, rfl⟩, (Below.refl _ _).alloc (Nat.le_refl _) _⟩
  · have i1 : ¬ (4 : Int) < (n1 : Int) := by omega
    have hway : (n1 = 4 ∧ 16384 < nth (words16 N) 3) ∨ (N < 9223372036854775808 ∧ (n1 = 4 → nth (words16 N) 3 ≤ 16384)) := by
      rcases Nat.lt_or_ge n1 4 with h | h
      · right
        have := HT.out.1 (by omega)
        exact ⟨by omega, fun h => by omega⟩
      · obtain ⟨e1, e2⟩ := HT.out.2.2 (by omega)
        rcases Nat.lt_or_ge 16384 (nth (words16 N) 3) with h6 | h6
        · exact .inl ⟨by omega, h6⟩
        · exact .inr ⟨by omega, fun _ => h6⟩
    rcases hway with ⟨h4, h6⟩ | ⟨hNb, h6⟩
    · obtain ⟨b, o, hA, hb, hc⟩ := HX.out.at_ (by omega)
      have hc3 := hc 3 (by omega)
      subst h4 hA
      obtain ⟨x, hxx⟩ : ∃ x, x = nth (words16 N) 3 := ⟨_, rfl⟩
      rw [← hxx] at hc3 h6
      have i2 : (16384 : Int) < (x : Int) := by omega
      have HB := Lib.hid (show 4611686018427387904 < N by have := HT.out.2.2 rfl; rw [← hxx] at this; omega)
      have hc3' : (w.alloc (.cells #[.bool s, .slice (some ⟨b, o, none⟩) 4 c1] 39)).cell? ⟨b, o + 3, none⟩ = some (.int .i64 (x : Int)) := by rw [World.cell?_alloc_lt _ _ _ (by show b < _; omega)]; exact hc3
      clear hc hc3 hxx
      go_enter Tryz.func60, Tryz.ntmps60
      go_wp2
      go_ret2
      exact ⟨.inr ⟨by rw [← HN.out]; exact HB.out, rfl⟩, (Below.refl _ _).alloc (Nat.le_refl _) _⟩
    · by_cases h4 : n1 = 4
      · obtain ⟨b, o, hA, hb, hc⟩ := HX.out.at_ (by omega)
        have hc3 := hc 3 (by omega)
        obtain ⟨x, hxx⟩ : ∃ x, x = nth (words16 N) 3 := ⟨_, rfl⟩
        have h7 := h6 h4
        rw [← hxx] at hc3 h7
        have i2 : ¬ (16384 : Int) < (x : Int) := by omega
        have hc3' : (w.alloc (.cells #[.bool s, .slice A1 n1 c1] 39)).cell? ⟨b, o + 3, none⟩ = some (.int .i64 (x : Int)) := by rw [World.cell?_alloc_lt _ _ _ (by show b < _; omega)]; exact hc3
        subst h4 hA
        clear hc hc3 hxx h6 h7
        go_enter Tryz.func60, Tryz.ntmps60
        go_wp2
        go_loop [4, 5] (fun nv iv => FtR N 4 nv iv) (fun _ iv => (numQ iv + 1).toNat)
        case atStart => exact ⟨4, 0, Nat.le_refl _, rfl, rfl, Nat.zero_le _, Lib.hid (by rw [List.drop_of_length_le (by rw [← HL.out]; omega)]; rfl)⟩
        case round =>
          obtain ⟨k, n, hk, rfl, rfl, hnN, HV⟩ := hrel
          by_cases h0 : k = 0
          · subst h0
            have hn : n = N := by rw [HV.out, List.drop_zero, val16_words16]
            subst hn
            have j1 : ¬ (n : Int) < 0 := by omega
            by_cases h62 : n ≤ 4611686018427387904
            · have j2 : ¬ (4611686018427387904 : Int) < (n : Int) := by omega
              have H62 := Lib.hid h62
              clear h62 hnN
              cases s with
              | true =>
                have hz : -(n : Int) = z := by have h1 := of_decide_eq_true hs.out.symm; have := HN.out; omega
                have HZ := Lib.hid hz
                have hw : wrap64 (-(n : Int)) = -(n : Int) := by unfold wrap64; omega
                clear hz
                go_wp2
                go_ret2
                exact ⟨.inl ⟨by rw [← HN.out]; exact H62.out, by first | rfl | (rw [hw, HZ.out]; rfl) | (rw [HZ.out]; rfl)⟩, (Below.refl _ _).alloc (Nat.le_refl _) _⟩
              | false =>
                have hz : (n : Int) = z := by have h1 := of_decide_eq_false hs.out.symm; have := HN.out; omega
                have HZ := Lib.hid hz
                clear hz
                go_wp2
                go_ret2
                exact ⟨.inl ⟨by rw [← HN.out]; exact H62.out, by first | rfl | (rw [HZ.out]; rfl)⟩, (Below.refl _ _).alloc (Nat.le_refl _) _⟩
            · have j2 : (4611686018427387904 : Int) < (n : Int) := by omega
              have H62 := Lib.hid h62
              clear h62 hnN
              go_wp2
              go_ret2
              exact ⟨.inr ⟨by rw [← HN.out]; have := H62.out; omega, rfl⟩, (Below.refl _ _).alloc (Nat.le_refl _) _⟩
          · obtain ⟨u, rfl⟩ : ∃ u, k = u + 1 := ⟨k - 1, by omega⟩
            have ek : ((u + 1 : Nat) : Int) - 1 = (u : Int) := by omega
            rw [ek]
            obtain ⟨bb, oo, hA', hbb, hcc⟩ := HX.out.at_ (by omega)
            have hcu := hcc u (by omega)
            have hcv : (w.alloc (.cells #[.bool s, .slice (some ⟨b, o, none⟩) 4 c1] 39)).cell? ⟨bb, oo + u, none⟩ = some (.int .i64 (nth (words16 N) u : Nat)) := by rw [World.cell?_alloc_lt _ _ _ (by show bb < _; omega)]; exact hcu
            obtain ⟨x, hxx⟩ : ∃ x, x = nth (words16 N) u := ⟨_, rfl⟩
            have hval : val16 ((words16 N).drop u) = x + 65536 * n := by rw [val16_drop _ _ (by rw [← HL.out]; omega), ← hxx, ← HV.out, B16_eq]
            have hle : x + 65536 * n ≤ N := by
              rw [← hval, val16_drop_div _ (words16_ok N), val16_words16]
              exact Nat.div_le_self _ _
            rw [← hxx] at hcv
            injection hA' with hA'
            injection hA' with e1 e2
            subst e1 e2
            have HVV := Lib.hid hval
            obtain ⟨y, hy⟩ : ∃ y, y = x + 65536 * n := ⟨_, rfl⟩
            have hyi : (n : Int) * 65536 + (x : Int) = (y : Int) := by omega
            rw [← hy] at HVV hle
            clear hcc hcu hxx hval hnN ek
            go_wp2
            go_round
            case rel => exact ⟨u, y, by omega, by go_num, by first | rfl | (congr 1; omega) | (rw [← hyi]), hle, Lib.hid HVV.out.symm⟩
            case measure => simp [numQ]
      · have q4 : ((n1 : Int) == 4) = false := by rw [beq_eq_false_iff_ne]; omega
        clear h4 h6
        go_enter Tryz.func60, Tryz.ntmps60
        go_wp2
        go_loop [4, 5] (fun nv iv => FtR N n1 nv iv) (fun _ iv => (numQ iv + 1).toNat)
        case atStart => exact ⟨n1, 0, Nat.le_refl _, rfl, rfl, Nat.zero_le _, Lib.hid (by rw [List.drop_of_length_le (by rw [← HL.out]; omega)]; rfl)⟩
        case round =>
          obtain ⟨k, n, hk, rfl, rfl, hnN, HV⟩ := hrel
          by_cases h0 : k = 0
          · subst h0
            have hn : n = N := by rw [HV.out, List.drop_zero, val16_words16]
            subst hn
            have j1 : ¬ (n : Int) < 0 := by omega
            by_cases h62 : n ≤ 4611686018427387904
            · have j2 : ¬ (4611686018427387904 : Int) < (n : Int) := by omega
              have H62 := Lib.hid h62
              clear h62 hnN
              cases s with
              | true =>
                have hz : -(n : Int) = z := by have h1 := of_decide_eq_true hs.out.symm; have := HN.out; omega
                have HZ := Lib.hid hz
                have hw : wrap64 (-(n : Int)) = -(n : Int) := by unfold wrap64; omega
                clear hz
                go_wp2
                go_ret2
                exact ⟨.inl ⟨by rw [← HN.out]; exact H62.out, by first | rfl | (rw [hw, HZ.out]; rfl) | (rw [HZ.out]; rfl)⟩, (Below.refl _ _).alloc (Nat.le_refl _) _⟩
              | false =>
                have hz : (n : Int) = z := by have h1 := of_decide_eq_false hs.out.symm; have := HN.out; omega
                have HZ := Lib.hid hz
                clear hz
                go_wp2
                go_ret2
                exact ⟨.inl ⟨by rw [← HN.out]; exact H62.out, by first | rfl | (rw [HZ.out]; rfl)⟩, (Below.refl _ _).alloc (Nat.le_refl _) _⟩
            · have j2 : (4611686018427387904 : Int) < (n : Int) := by omega
              have H62 := Lib.hid h62
              clear h62 hnN
              go_wp2
              go_ret2
              exact ⟨.inr ⟨by rw [← HN.out]; have := H62.out; omega, rfl⟩, (Below.refl _ _).alloc (Nat.le_refl _) _⟩
          · obtain ⟨u, rfl⟩ : ∃ u, k = u + 1 := ⟨k - 1, by omega⟩
            have ek : ((u + 1 : Nat) : Int) - 1 = (u : Int) := by omega
            rw [ek]
            obtain ⟨bb, oo, hA', hbb, hcc⟩ := HX.out.at_ (by omega)
            have hcu := hcc u (by omega)
            have hcv : (w.alloc (.cells #[.bool s, .slice A1 n1 c1] 39)).cell? ⟨bb, oo + u, none⟩ = some (.int .i64 (nth (words16 N) u : Nat)) := by rw [World.cell?_alloc_lt _ _ _ (by show bb < _; omega)]; exact hcu
            obtain ⟨x, hxx⟩ : ∃ x, x = nth (words16 N) u := ⟨_, rfl⟩
            have hval : val16 ((words16 N).drop u) = x + 65536 * n := by rw [val16_drop _ _ (by rw [← HL.out]; omega), ← hxx, ← HV.out, B16_eq]
            have hle : x + 65536 * n ≤ N := by
              rw [← hval, val16_drop_div _ (words16_ok N), val16_words16]
              exact Nat.div_le_self _ _
            rw [← hxx] at hcv
            subst hA'
            have HVV := Lib.hid hval
            obtain ⟨y, hy⟩ : ∃ y, y = x + 65536 * n := ⟨_, rfl⟩
            have hyi : (n : Int) * 65536 + (x : Int) = (y : Int) := by omega
            rw [← hy] at HVV hle
            clear hcc hcu hxx hval hnN ek
            go_wp2
            go_round
            case rel => exact ⟨u, y, by omega, by go_num, by first | rfl | (congr 1; omega) | (rw [← hyi]), hle, Lib.hid HVV.out.symm⟩
            case measure => simp [numQ]
end Go.Proofs.YtdpmfenikomfkaaGreat
