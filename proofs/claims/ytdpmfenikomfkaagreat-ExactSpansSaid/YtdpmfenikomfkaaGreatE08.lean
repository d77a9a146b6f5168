/-
  The document's integers: Mul, Minus, Sign.
  The document's integers: Add.
-/
import Derived.Test.YtdpmfenikomfkaaGreatE07
namespace Go.Proofs.YtdpmfenikomfkaaGreat
open Go.RowKit

theorem IN.mk {w : World} {B : Nat} {s : Bool} {A : Option Addr} {m c : Nat} {z : Int} (hs : s = decide (z < 0)) (h : RW .i64 w B (.slice A m c) (words16 z.natAbs)) (hz : A = none → c = 0) : IN w B (.agg #[.bool s, .slice A m c]) z :=
  ⟨A, m, c, by rw [hs], h, hz⟩
theorem sgn_mul (z1 z2 : Int) : decide (z1 * z2 < 0) = ((decide (z1 < 0) != decide (z2 < 0)) && decide (z1.natAbs * z2.natAbs ≠ 0)) := by
  by_cases h1 : z1 = 0
  · subst h1; simp
  by_cases h2 : z2 = 0
  · subst h2; simp
  have hp : z1.natAbs * z2.natAbs ≠ 0 := Nat.mul_ne_zero (by omega) (by omega)
  rw [decide_eq_true hp, Bool.and_true]
  by_cases s1 : z1 < 0
  · by_cases s2 : z2 < 0
    · have h := Int.mul_pos_of_neg_of_neg s1 s2
      rw [decide_eq_false (by omega : ¬ z1 * z2 < 0), decide_eq_true s1, decide_eq_true s2]; rfl
    · have h := Int.mul_neg_of_neg_of_pos s1 (by omega : 0 < z2)
      rw [decide_eq_true h, decide_eq_true s1, decide_eq_false s2]; rfl
  · by_cases s2 : z2 < 0
    · have h := Int.mul_neg_of_pos_of_neg (by omega : 0 < z1) s2
      rw [decide_eq_true h, decide_eq_false s1, decide_eq_true s2]; rfl
    · have h := Int.mul_pos (by omega : 0 < z1) (by omega : 0 < z2)
      rw [decide_eq_false (by omega : ¬ z1 * z2 < 0), decide_eq_false s1, decide_eq_false s2]; rfl

set_option maxRecDepth 100000 in
set_option maxHeartbeats 1000000 in
theorem imul_any (z1 z2 : Int) (s1 s2 : Bool) (hs1 : Hid (s1 = decide (z1 < 0))) (hs2 : Hid (s2 = decide (z2 < 0))) (A1 A2 : Option Addr) (n1 n2 c1 c2 B : Nat) (w : World) (hx : RW .i64 w B (.slice A1 n1 c1) (words16 z1.natAbs)) (hy : RW .i64 w B (.slice A2 n2 c2) (words16 z2.natAbs)) (hB : B ≤ w.heap.size) (hn1 : n1 ≤ 1000000) (hn2 : n2 ≤ 1000000) :
    Calls Tryz.prog 31 #[.agg #[.bool s1, .slice A1 n1 c1], .agg #[.bool s2, .slice A2 n2 c2]] w (RetIn w (z1 * z2)) := by
  obtain ⟨W0, HW0, hw0, G0, G1, G2, hsz⟩ := qbox3 w (.cells #[.bool s1, .slice A1 n1 c1] 39) (.cells #[.bool s2, .slice A2 n2 c2] 39) (.cells #[.bool false, .slice none 0 0] 39)
  have HT := Lib.hid (dtimes_any z1.natAbs z2.natAbs A1 A2 n1 n2 c1 c2 B W0 (hx.belowM hw0 hB) (hy.belowM hw0 hB) (Nat.le_trans hB hw0.size) hn1 hn2)
  obtain ⟨p, hp⟩ : ∃ p, p = z1.natAbs * z2.natAbs := ⟨_, rfl⟩
  have hsg : decide (z1 * z2 < 0) = ((s1 != s2) && decide (p ≠ 0)) := by rw [hs1.out, hs2.out, hp]; exact sgn_mul z1 z2
  have hab : (z1 * z2).natAbs = p := by rw [hp, Int.natAbs_mul]
  rw [← hp] at HT
  have HS := Lib.hid (And.intro hsg hab)
  have HB0 := Lib.hid hw0
  clear hsg hab hp hs1 hs2 hx hy hw0
  go_enter Tryz.func31, Tryz.ntmps31
  go_wp2_with fail
  rw [← HW0.out]
  refine HT.out.mono ?_
  rintro e w3 ⟨A, m, c, rfl, hr, ⟨hz, _⟩, hb3⟩
  obtain ⟨k0, k1, k2, k3⟩ := qc4 G0.out G1.out hb3
  have m0 := qblk_cell G2.out hb3 0 (.bool false) rfl
  have m1 := qblk_cell G2.out hb3 1 (.slice none 0 0) rfl
  have mf := qblk_frozen G2.out hb3
  have hml : m = 0 ↔ p = 0 := by rw [hr.len]; exact words16_len_zero
  obtain ⟨sg, hsg⟩ : ∃ sg, sg = decide (z1 * z2 < 0) := ⟨_, rfl⟩
  obtain ⟨f1, f2⟩ := qstore2 G2.out HB0.out (by omega : w.heap.size ≤ w.heap.size + 1 + 1) hb3 (.bool sg) (.slice A m c)
  have F := Lib.hid (And.intro f1 (f2 _ _ _ hr))
  have HSG := Lib.hid hsg
  have HZ := Lib.hid hz
  have hsg2 := HS.out.1
  rw [← hsg] at hsg2
  clear f1 f2 hr hz hb3 hsg
  by_cases hp0 : p = 0
  · have hm0 : m = 0 := hml.2 hp0
    have hsf : sg = false := by rw [hsg2, hp0]; simp
    subst hm0 hsf
    have HP := Lib.hid hp0
    clear hsg2 hml hp0
    cases s1 <;> cases s2
    all_goals
      go_wp2
      refine bodyPost_ret (v := .agg #[.bool false, .slice A 0 c]) (by simp [results, Tryz.results31, go_sem, m0, m1]) rfl ⟨_, rfl, IN.mk HSG.out ?_ HZ.out, F.out.1⟩
      rw [HS.out.2]
      exact F.out.2
  · have hm1 : 0 < m := by have : m ≠ 0 := fun h => hp0 (hml.1 h); omega
    have hm0 : (0 : Int) < (m : Int) := by omega
    have hsf : sg = (s1 != s2) := by rw [hsg2]; simp [hp0]
    clear hsg2 hml hp0
    cases s1 <;> cases s2
    all_goals
      simp only [bne_self_eq_false, Bool.false_bne, Bool.true_bne, Bool.bne_true, Bool.bne_false, Bool.not_true, Bool.not_false] at hsf
      subst hsf
      go_wp2
      refine bodyPost_ret (by simp [results, Tryz.results31, go_sem, m0, m1] <;> rfl) rfl ⟨_, rfl, IN.mk HSG.out ?_ HZ.out, F.out.1⟩
      rw [HS.out.2]
      exact F.out.2

set_option maxRecDepth 100000 in
set_option maxHeartbeats 1000000 in
theorem iminus_any (z : Int) (s : Bool) (hs : Hid (s = decide (z < 0))) (A1 : Option Addr) (n1 c1 B : Nat) (w : World) (hx : RW .i64 w B (.slice A1 n1 c1) (words16 z.natAbs)) (hz : A1 = none → c1 = 0) (hB : B ≤ w.heap.size) :
    Calls Tryz.prog 58 #[.agg #[.bool s, .slice A1 n1 c1]] w (RetIn w (-z)) := by
  have hml : n1 = 0 ↔ z = 0 := by rw [hx.len, words16_len_zero]; omega
  have HX := Lib.hid (show ∀ X Y : Obj, RW .i64 ((w.alloc X).alloc Y) ((w.alloc X).alloc Y).heap.size (.slice A1 n1 c1) (words16 (-z).natAbs) from fun X Y => by
    rw [Int.natAbs_neg]
    exact ((hx.alloc hB X).alloc (by simp; omega) Y).more (by simp; omega))
  obtain ⟨sg, hsg⟩ : ∃ sg, sg = decide (-z < 0) := ⟨_, rfl⟩
  have HSG := Lib.hid hsg
  have HZ := Lib.hid hz
  have hs' := hs.out
  clear hx hz hs
  by_cases h0 : z = 0
  · have hm0 : n1 = 0 := hml.2 h0
    subst hm0
    have hsf : sg = false := by rw [hsg, h0]; rfl
    have hss : s = false := by rw [hs', h0]; rfl
    subst hsf hss
    clear hsg hs' hml h0
    go_enter Tryz.func58, Tryz.ntmps58
    go_wp2
    refine bodyPost_ret (by simp [results, Tryz.results58, go_sem] <;> rfl) rfl ⟨_, rfl, IN.mk HSG.out (HX.out _ _) HZ.out, ((Below.refl _ _).alloc (Nat.le_refl _) _).alloc (by simp) _⟩
  · have hm1 : 0 < n1 := by have : n1 ≠ 0 := fun h => h0 (hml.1 h); omega
    have hm0 : (0 : Int) < (n1 : Int) := by omega
    by_cases hn : z < 0
    · have hss : s = true := by rw [hs']; simpa using hn
      have hsf : sg = false := by rw [hsg]; simp; omega
      subst hsf hss
      clear hsg hs' hml h0 hn
      go_enter Tryz.func58, Tryz.ntmps58
      go_wp2
      refine bodyPost_ret (by simp [results, Tryz.results58, go_sem] <;> rfl) rfl ⟨_, rfl, IN.mk HSG.out (HX.out _ _) HZ.out, ((Below.refl _ _).alloc (Nat.le_refl _) _).alloc (by simp) _⟩
    · have hss : s = false := by rw [hs']; simp; omega
      have hsf : sg = true := by rw [hsg]; simp; omega
      subst hsf hss
      clear hsg hs' hml h0 hn
      go_enter Tryz.func58, Tryz.ntmps58
      go_wp2
      refine bodyPost_ret (by simp [results, Tryz.results58, go_sem] <;> rfl) rfl ⟨_, rfl, IN.mk HSG.out (HX.out _ _) HZ.out, ((Below.refl _ _).alloc (Nat.le_refl _) _).alloc (by simp) _⟩

def isgn (z : Int) : Int := if z = 0 then 0 else if z < 0 then -1 else 1
def RetI (w : World) (z : Int) (e : Ending) (w' : World) : Prop := e = .returned (.int .i64 z) ∧ Below w.heap.size w w'
set_option maxRecDepth 100000 in
set_option maxHeartbeats 1000000 in
theorem isign_any (z : Int) (s : Bool) (hs : Hid (s = decide (z < 0))) (A1 : Option Addr) (n1 c1 B : Nat) (w : World) (hx : RW .i64 w B (.slice A1 n1 c1) (words16 z.natAbs)) :
    Calls Tryz.prog 59 #[.agg #[.bool s, .slice A1 n1 c1]] w (RetI w (isgn z)) := by
  have hml : n1 = 0 ↔ z = 0 := by rw [hx.len, words16_len_zero]; omega
  have hb : Below w.heap.size w (w.alloc (.cells #[.bool s, .slice A1 n1 c1] 39)) := (Below.refl _ _).alloc (Nat.le_refl _) _
  have hs' := hs.out
  clear hs hx
  by_cases h0 : z = 0
  · have hm0 : n1 = 0 := hml.2 h0
    have e : isgn z = 0 := by unfold isgn; rw [if_pos h0]
    rw [e]
    subst hm0
    clear hs' hml h0 e
    go_enter Tryz.func59, Tryz.ntmps59
    go_wp2
    go_ret
    exact ⟨rfl, hb⟩
  · have hm1 : n1 ≠ 0 := fun h => h0 (hml.1 h)
    have hm2 : ((n1 : Int) == 0) = false := by rw [beq_eq_false_iff_ne]; omega
    by_cases hn : z < 0
    · have hss : s = true := by rw [hs']; simpa using hn
      have e : isgn z = -1 := by unfold isgn; rw [if_neg h0, if_pos hn]
      rw [e]
      subst hss
      clear hs' hml h0 hn e
      go_enter Tryz.func59, Tryz.ntmps59
      go_wp2
      go_ret
      exact ⟨rfl, hb⟩
    · have hss : s = false := by rw [hs']; simp; omega
      have e : isgn z = 1 := by unfold isgn; rw [if_neg h0, if_neg hn]
      rw [e]
      subst hss
      clear hs' hml h0 hn e
      go_enter Tryz.func59, Tryz.ntmps59
      go_wp2
      go_ret
      exact ⟨rfl, hb⟩
end Go.Proofs.YtdpmfenikomfkaaGreat

namespace Go.Proofs.YtdpmfenikomfkaaGreat
open Go.RowKit

set_option maxRecDepth 100000 in
set_option maxHeartbeats 2000000 in
theorem iadd_any (z1 z2 : Int) (s1 s2 : Bool) (hs1 : Hid (s1 = decide (z1 < 0))) (hs2 : Hid (s2 = decide (z2 < 0))) (A1 A2 : Option Addr) (n1 n2 c1 c2 B : Nat) (w : World) (hx : RW .i64 w B (.slice A1 n1 c1) (words16 z1.natAbs)) (hy : RW .i64 w B (.slice A2 n2 c2) (words16 z2.natAbs)) (hB : B ≤ w.heap.size) (hn1 : n1 ≤ 1000000) (hn2 : n2 ≤ 1000000) :
    Calls Tryz.prog 32 #[.agg #[.bool s1, .slice A1 n1 c1], .agg #[.bool s2, .slice A2 n2 c2]] w (RetIn w (z1 + z2)) := by
  obtain ⟨W0, HW0, hw0, G0, G1, G2, hsz⟩ := qbox3 w (.cells #[.bool s1, .slice A1 n1 c1] 39) (.cells #[.bool s2, .slice A2 n2 c2] 39) (.cells #[.bool false, .slice none 0 0] 39)
  have hx0 : RW .i64 W0 B (.slice A1 n1 c1) (words16 z1.natAbs) := hx.belowM hw0 hB
  have hy0 : RW .i64 W0 B (.slice A2 n2 c2) (words16 z2.natAbs) := hy.belowM hw0 hB
  have hB0 : B ≤ W0.heap.size := Nat.le_trans hB hw0.size
  have K0 := Lib.hid (qc4 G0.out G1.out (Below.refl _ _))
  clear hx hy
  by_cases he : s1 = s2
  · subst he
    have hab : (z1 + z2).natAbs = z1.natAbs + z2.natAbs := by
      have h1 := hs1.out
      have h2 := hs2.out
      rw [h1] at h2
      by_cases q : z1 < 0
      · have : z2 < 0 := by rw [decide_eq_true q] at h2; simpa using h2.symm
        omega
      · have : ¬ z2 < 0 := by rw [decide_eq_false q] at h2; simpa using h2.symm
        omega
    have hsg : s1 = decide (z1 + z2 < 0) := by
      have h1 := hs1.out
      have h2 := hs2.out
      by_cases q : z1 < 0
      · have q2 : z2 < 0 := by rw [h1, decide_eq_true q] at h2; simpa using h2.symm
        rw [h1, decide_eq_true q, decide_eq_true (by omega : z1 + z2 < 0)]
      · have q2 : ¬ z2 < 0 := by rw [h1, decide_eq_false q] at h2; simpa using h2.symm
        rw [h1, decide_eq_false q, decide_eq_false (by omega : ¬ z1 + z2 < 0)]
    have HSG := Lib.hid (And.intro hsg hab)
    clear hsg hab hs1 hs2
    go_enter Tryz.func32, Tryz.ntmps32
    go_wp2
    rw [← HW0.out]
    obtain ⟨k0, k1, k2, k3⟩ := K0.out
    go_region_held3 (fun w' => w'.cell? ⟨w.heap.size, 0, none⟩ = some (.bool s1) ∧ w'.cell? ⟨w.heap.size, 1, none⟩ = some (.slice A1 n1 c1) ∧ w'.cell? ⟨w.heap.size + 1, 0, none⟩ = some (.bool s1) ∧ w'.cell? ⟨w.heap.size + 1, 1, none⟩ = some (.slice A2 n2 c2))
      (first | exact K2.out | exact K1.out | exact K0.out | go_keep)
      (first
        | (go_at_call 54
           refine (dplus_any z1.natAbs z2.natAbs A1 A2 n1 n2 c1 c2 B _ (by exact hx0) (by exact hy0) (by exact hB0) hn1 hn2).mono ?_
           rintro e w1 ⟨A, m, c, rfl, hr, ⟨hz, _⟩, hb1'⟩
           have hb1 : Below W0.heap.size W0 w1 := by first | exact hb1' | exact below_un hb1'
           have K1 := Lib.hid (qc4 G0.out G1.out hb1)
           have K2 := Lib.hid (qc4_set (h := w.heap.size + 1 + 1) (by omega) (by omega) (.bool s1) (.slice A m c) K1.out)
           have m0 := qblk_cell G2.out hb1 0 (.bool false) rfl
           have m1 := qblk_cell G2.out hb1 1 (.slice none 0 0) rfl
           have mf := qblk_frozen G2.out hb1
           clear hb1'))
    all_goals
      obtain ⟨f1, f2⟩ := qstore2 G2.out hw0 (by omega : w.heap.size ≤ w.heap.size + 1 + 1) hb1 (.bool s1) (.slice A m c)
      have F := Lib.hid (And.intro f1 (f2 _ _ _ hr))
      have HZ := Lib.hid hz
      clear f1 f2 hz hr
      go_wp2
      refine bodyPost_ret (by simp [results, Tryz.results32, go_sem, m0, m1] <;> rfl) rfl ⟨_, rfl, IN.mk HSG.out.1 (by rw [HSG.out.2]; exact F.out.2) HZ.out, F.out.1⟩
  · have hne : (s1 == s2) = false := by simpa using he
    have HC := Lib.hid (dcompare_any z1.natAbs z2.natAbs A1 A2 n1 n2 c1 c2 B W0 hx0 hy0)
    have hss : z1.natAbs = z2.natAbs → z1 + z2 = 0 := by
      intro h
      have h1 := hs1.out
      have h2 := hs2.out
      by_cases q : z1 < 0
      · by_cases q2 : z2 < 0
        · exact absurd (h1.trans ((decide_eq_true q).trans ((decide_eq_true q2).symm.trans h2.symm))) he
        · omega
      · by_cases q2 : z2 < 0
        · omega
        · exact absurd (h1.trans ((decide_eq_false q).trans ((decide_eq_false q2).symm.trans h2.symm))) he
    have hs1' : z2.natAbs < z1.natAbs → s1 = decide (z1 + z2 < 0) ∧ (z1 + z2).natAbs = z1.natAbs - z2.natAbs := by
      intro h
      have h1 := hs1.out
      have h2 := hs2.out
      by_cases q : z1 < 0
      · have q2 : ¬ z2 < 0 := fun q2 => he (h1.trans ((decide_eq_true q).trans ((decide_eq_true q2).symm.trans h2.symm)))
        exact ⟨by rw [h1, decide_eq_true q, decide_eq_true (by omega : z1 + z2 < 0)], by omega⟩
      · have q2 : z2 < 0 := by
          rcases Int.lt_or_le z2 0 with q2 | q2
          · exact q2
          · exact absurd (h1.trans ((decide_eq_false q).trans ((decide_eq_false (by omega : ¬ z2 < 0)).symm.trans h2.symm))) he
        exact ⟨by rw [h1, decide_eq_false q, decide_eq_false (by omega : ¬ z1 + z2 < 0)], by omega⟩
    have hs2' : z1.natAbs < z2.natAbs → s2 = decide (z1 + z2 < 0) ∧ (z1 + z2).natAbs = z2.natAbs - z1.natAbs := by
      intro h
      have h1 := hs1.out
      have h2 := hs2.out
      by_cases q2 : z2 < 0
      · have q : ¬ z1 < 0 := fun q => he (h1.trans ((decide_eq_true q).trans ((decide_eq_true q2).symm.trans h2.symm)))
        exact ⟨by rw [h2, decide_eq_true q2, decide_eq_true (by omega : z1 + z2 < 0)], by omega⟩
      · have q : z1 < 0 := by
          rcases Int.lt_or_le z1 0 with q | q
          · exact q
          · exact absurd (h1.trans ((decide_eq_false (by omega : ¬ z1 < 0)).trans ((decide_eq_false q2).symm.trans h2.symm))) he
        exact ⟨by rw [h2, decide_eq_false q2, decide_eq_false (by omega : ¬ z1 + z2 < 0)], by omega⟩
    have HSG := Lib.hid (And.intro hss (And.intro hs1' hs2'))
    clear hss hs1' hs2' hs1 hs2
    have m00 := qblk_cell G2.out (below_drewN (B := W0.heap.size) (w := W0) 0) 0 (.bool false) rfl
    clear m00
    rcases Nat.lt_trichotomy z1.natAbs z2.natAbs with hlt | heq | hgt
    · have hc : dcmp z1.natAbs z2.natAbs = -1 := dcmp_lt hlt
      have HLT := Lib.hid hlt
      clear hlt
      rw [hc] at HC
      clear hc
      go_enter Tryz.func32, Tryz.ntmps32
      go_wp2_with fail
      rw [← HW0.out]
      refine HC.out.mono ?_
      rintro e w2 ⟨rfl, q, hw2⟩
      have hb2 : Below W0.heap.size W0 w2 := by rw [hw2]; exact below_drewN q
      have K3 := Lib.hid (qc4 G0.out G1.out hb2)
      have hx2 : RW .i64 w2 B (.slice A1 n1 c1) (words16 z1.natAbs) := hx0.belowM hb2 hB0
      have hy2 : RW .i64 w2 B (.slice A2 n2 c2) (words16 z2.natAbs) := hy0.belowM hb2 hB0
      have hB2 : B ≤ w2.heap.size := Nat.le_trans hB0 hb2.size
      have HB2 := Lib.hid hb2
      clear hw2 hb2
      go_wp2
      obtain ⟨k0, k1, k2, k3⟩ := K3.out
      go_region_held3 (fun w' => w'.cell? ⟨w.heap.size, 0, none⟩ = some (.bool s1) ∧ w'.cell? ⟨w.heap.size, 1, none⟩ = some (.slice A1 n1 c1) ∧ w'.cell? ⟨w.heap.size + 1, 0, none⟩ = some (.bool s2) ∧ w'.cell? ⟨w.heap.size + 1, 1, none⟩ = some (.slice A2 n2 c2))
        (first | exact K2.out | exact K1.out | exact K3.out | go_keep)
        (first
          | (go_at_call 56
             refine (dless_any z2.natAbs z1.natAbs (by exact Nat.le_of_lt HLT.out) A2 A1 n2 n1 c2 c1 B _ (by exact hy2) (by exact hx2) (by exact hB2) hn2).mono ?_
             rintro e w1 ⟨A, m, c, rfl, hr, ⟨hz, _⟩, hb1'⟩
             have hb1a : Below w2.heap.size w2 w1 := by first | exact hb1' | exact below_un hb1'
             have hb1 : Below W0.heap.size W0 w1 := HB2.out.trans (hb1a.mono HB2.out.size)
             have K1 := Lib.hid (qc4 G0.out G1.out hb1)
             have K2 := Lib.hid (qc4_set (h := w.heap.size + 1 + 1) (by omega) (by omega) (.bool s2) (.slice A m c) K1.out)
             have m0 := qblk_cell G2.out hb1 0 (.bool false) rfl
             have m1 := qblk_cell G2.out hb1 1 (.slice none 0 0) rfl
             have mf := qblk_frozen G2.out hb1
             clear hb1'))
      all_goals
        obtain ⟨f1, f2⟩ := qstore2 G2.out hw0 (by omega : w.heap.size ≤ w.heap.size + 1 + 1) hb1 (.bool s2) (.slice A m c)
        have F := Lib.hid (And.intro f1 (f2 _ _ _ hr))
        have HZ := Lib.hid hz
        clear f1 f2 hz hr
        go_wp2
        refine bodyPost_ret (by simp [results, Tryz.results32, go_sem, m0, m1] <;> rfl) rfl ⟨_, rfl, IN.mk (HSG.out.2.2 HLT.out).1 (by rw [(HSG.out.2.2 HLT.out).2]; exact F.out.2) HZ.out, F.out.1⟩
    · have hc : dcmp z1.natAbs z2.natAbs = 0 := dcmp_eq heq
      have HLT := Lib.hid heq
      clear heq
      rw [hc] at HC
      clear hc
      go_enter Tryz.func32, Tryz.ntmps32
      go_wp2_with fail
      rw [← HW0.out]
      refine HC.out.mono ?_
      rintro e w2 ⟨rfl, q, hw2⟩
      have hb2 : Below W0.heap.size W0 w2 := by rw [hw2]; exact below_drewN q
      have m0 := qblk_cell G2.out hb2 0 (.bool false) rfl
      have m1 := qblk_cell G2.out hb2 1 (.slice none 0 0) rfl
      have mf := qblk_frozen G2.out hb2
      obtain ⟨f1, f2⟩ := qstore2 G2.out hw0 (by omega : w.heap.size ≤ w.heap.size + 1 + 1) hb2 (.bool false) (.slice none 0 0)
      have F := Lib.hid (And.intro f1 (f2 .i64 (.slice none 0 0) [] RW.nil_))
      clear f1 f2 hw2 hb2
      go_wp2
      have hz0 := HSG.out.1 HLT.out
      refine bodyPost_ret (v := .agg #[.bool false, .slice none 0 0]) (by simp [results, Tryz.results32, go_sem, m0, m1]) rfl ⟨_, rfl, IN.mk (by rw [hz0]; rfl) (by rw [hz0]; show RW _ _ _ _ (words16 0); rw [words16_zero]; exact RW.nil_) (fun _ => rfl), F.out.1⟩
    · have hc : dcmp z1.natAbs z2.natAbs = 1 := dcmp_gt hgt
      have HLT := Lib.hid hgt
      clear hgt
      rw [hc] at HC
      clear hc
      go_enter Tryz.func32, Tryz.ntmps32
      go_wp2_with fail
      rw [← HW0.out]
      refine HC.out.mono ?_
      rintro e w2 ⟨rfl, q, hw2⟩
      have hb2 : Below W0.heap.size W0 w2 := by rw [hw2]; exact below_drewN q
      have K3 := Lib.hid (qc4 G0.out G1.out hb2)
      have hx2 : RW .i64 w2 B (.slice A1 n1 c1) (words16 z1.natAbs) := hx0.belowM hb2 hB0
      have hy2 : RW .i64 w2 B (.slice A2 n2 c2) (words16 z2.natAbs) := hy0.belowM hb2 hB0
      have hB2 : B ≤ w2.heap.size := Nat.le_trans hB0 hb2.size
      have HB2 := Lib.hid hb2
      clear hw2 hb2
      go_wp2
      obtain ⟨k0, k1, k2, k3⟩ := K3.out
      go_region_held3 (fun w' => w'.cell? ⟨w.heap.size, 0, none⟩ = some (.bool s1) ∧ w'.cell? ⟨w.heap.size, 1, none⟩ = some (.slice A1 n1 c1) ∧ w'.cell? ⟨w.heap.size + 1, 0, none⟩ = some (.bool s2) ∧ w'.cell? ⟨w.heap.size + 1, 1, none⟩ = some (.slice A2 n2 c2))
        (first | exact K2.out | exact K1.out | exact K3.out | go_keep)
        (first
          | (go_at_call 56
             refine (dless_any z1.natAbs z2.natAbs (by exact Nat.le_of_lt HLT.out) A1 A2 n1 n2 c1 c2 B _ (by exact hx2) (by exact hy2) (by exact hB2) hn1).mono ?_
             rintro e w1 ⟨A, m, c, rfl, hr, ⟨hz, _⟩, hb1'⟩
             have hb1a : Below w2.heap.size w2 w1 := by first | exact hb1' | exact below_un hb1'
             have hb1 : Below W0.heap.size W0 w1 := HB2.out.trans (hb1a.mono HB2.out.size)
             have K1 := Lib.hid (qc4 G0.out G1.out hb1)
             have K2 := Lib.hid (qc4_set (h := w.heap.size + 1 + 1) (by omega) (by omega) (.bool s1) (.slice A m c) K1.out)
             have m0 := qblk_cell G2.out hb1 0 (.bool false) rfl
             have m1 := qblk_cell G2.out hb1 1 (.slice none 0 0) rfl
             have mf := qblk_frozen G2.out hb1
             clear hb1'))
      all_goals
        obtain ⟨f1, f2⟩ := qstore2 G2.out hw0 (by omega : w.heap.size ≤ w.heap.size + 1 + 1) hb1 (.bool s1) (.slice A m c)
        have F := Lib.hid (And.intro f1 (f2 _ _ _ hr))
        have HZ := Lib.hid hz
        clear f1 f2 hz hr
        go_wp2
        refine bodyPost_ret (by simp [results, Tryz.results32, go_sem, m0, m1] <;> rfl) rfl ⟨_, rfl, IN.mk (HSG.out.2.1 HLT.out).1 (by rw [(HSG.out.2.1 HLT.out).2]; exact F.out.2) HZ.out, F.out.1⟩
end Go.Proofs.YtdpmfenikomfkaaGreat
