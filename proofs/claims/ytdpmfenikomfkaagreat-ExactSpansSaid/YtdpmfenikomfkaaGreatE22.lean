/-
  FromRat and Div of fractions.
  Div of fractions.
-/
import Derived.Test.YtdpmfenikomfkaaGreatE21
namespace Go.Proofs.YtdpmfenikomfkaaGreat
open Go.RowKit

/-- All that reduced calls at a and b does its work. -/
def RedOk (a b : Nat) : Prop := a ≠ 0 → b ≠ 1 → GcdAt a b ∧ DivideAt a (Nat.gcd a b) ∧ DivideAt b (Nat.gcd a b)

theorem redOk_small {a b : Nat} (ha : a < B64) (hb : b < B64) (hb0 : b ≠ 0) : RedOk a b := by
  intro ha0 _
  have hg0 : 0 < Nat.gcd a b := Nat.gcd_pos_of_pos_left _ (by omega)
  have hg1 : Nat.gcd a b < B64 := Nat.lt_of_le_of_lt (Nat.gcd_le_left _ (by omega)) ha
  refine ⟨?_, divide_small hg0 hg1 (divOk_small ha hg0), divide_small hg0 hg1 (divOk_small hb hg0)⟩
  rcases Nat.lt_or_ge a b with h | h
  · exact gcd_small_swap (a := b) (b := a) ha h (fun h0 => divOk_small hb h0)
  · exact gcd_small (a := a) (b := b) hb h (fun h0 => divOk_small ha h0)

def d1 (d : Nat) : Nat := if d = 0 then 1 else d

theorem RW.lenW {w : World} {B n c : Nat} {A : Option Addr} {m : Nat} (h : RW .u64 w B (.slice A n c) (words m)) (hm : (words m).length ≤ 65536) : n ≤ 65536 := by rw [h.len]; exact hm

set_option maxRecDepth 100000 in
set_option maxHeartbeats 1000000 in
theorem fromRat_any (sg neg : Bool) (xs ys : List Nat) (A1 A2 : Option Addr) (n1 n2 c1 c2 : Nat) (B : Nat) (w : World) (hx : RW .u32 w B (.slice A1 n1 c1) xs) (hy : RW .u32 w B (.slice A2 n2 c2) ys) (hB : B ≤ w.heap.size)
    (hxo : AllOk32 xs) (hyo : AllOk32 ys) (ht1 : top xs ≤ 65536) (ht2 : top ys ≤ 65536) (a b : Nat) (ha : a = val32 xs) (hb : b = d1 (val32 ys)) (hla : (words a).length ≤ 65536) (hlb : (words b).length ≤ 65536) (hR : RedOk a b) (hsg : Hid (sg = (neg && decide (a ≠ 0)))) :
    Calls Tryz.prog 45 #[.agg #[.bool neg, .slice A1 n1 c1, .slice A2 n2 c2]] w (RetF w sg (a / Nat.gcd a b) (b / Nat.gcd a b)) := by
  obtain ⟨W0, hW0⟩ : ∃ W0, W0 = (w.alloc (.cells #[.bool neg, .slice A1 n1 c1, .slice A2 n2 c2] 48)).alloc (.cells #[.bool false, .slice none 0 0, .slice none 0 0] 74) := ⟨_, rfl⟩
  have HW0 := Lib.hid hW0
  clear hW0
  have hx0 : RW .u32 W0 B (.slice A1 n1 c1) xs := by rw [HW0.out]; exact (hx.alloc hB _).alloc (by simp; omega) _
  have hy0 : RW .u32 W0 B (.slice A2 n2 c2) ys := by rw [HW0.out]; exact (hy.alloc hB _).alloc (by simp; omega) _
  have hs0 : w.heap.size + 1 < W0.heap.size := by rw [HW0.out]; simp
  have hB0 : B ≤ W0.heap.size := by omega
  have g0 : W0.heap[w.heap.size]? = some (.cells #[.bool neg, .slice A1 n1 c1, .slice A2 n2 c2] 48 (0, 0)) := by rw [HW0.out]; exact heap_alloc2_old _ _ _
  have g1 : W0.heap[w.heap.size + 1]? = some (.cells #[.bool false, .slice none 0 0, .slice none 0 0] 74 (0, 0)) := by rw [HW0.out]; exact heap_alloc2_new _ _ _
  have G1 := Lib.hid g1
  have G0 := Lib.hid g0
  have hw0 : Below w.heap.size w W0 := by rw [HW0.out]; exact ((Below.refl _ _).alloc (Nat.le_refl _) _).alloc (by simp) _
  clear g0 g1
  have hb0 : b ≠ 0 := by rw [hb]; unfold d1; split <;> omega
  have HA := Lib.hid ha
  have HB := Lib.hid hb
  clear ha hb
  go_enter Tryz.func45, Tryz.ntmps45
  go_wp2_with fail
  rw [← HW0.out]
  refine (pack_any A2 n2 c2 ys hyo B _ (by exact hy0) (by exact hB0) ht2).mono ?_
  rintro e w1 ⟨A3, n3, c3, rfl, h3, hb3⟩
  by_cases hz : val32 ys = 0
  · have hn0 : ((n3 : Int) == 0) = true := by
      have : n3 = 0 := by rw [h3.len, hz, words_zero]; rfl
      rw [this]; rfl
    have hb1 : b = 1 := by rw [HB.out, hz]; rfl
    have HB1 := Lib.hid hb1
    clear hz hb1
    go_wp2_with fail
    refine (single_any 1 (by unfold B64; omega) _).mono ?_
    rintro e w2 ⟨A5, n5, c5, rfl, h5, hb5⟩
    rw [← HB1.out] at h5
    have hbw : Below W0.heap.size W0 w2 := hb3.trans (hb5.mono hb3.size)
    have hx2 : RW .u32 w2 B (.slice A1 n1 c1) xs := hx0.belowM hbw hB0
    have hB2 : B ≤ w2.heap.size := Nat.le_trans hB0 hbw.size
    obtain ⟨k0, k1, k2, _⟩ := fr_cellsG G0.out hbw
    go_wp2
    go_region_held3 (fun w' => w'.cell? ⟨w.heap.size, 0, none⟩ = some (.bool neg) ∧ w'.cell? ⟨w.heap.size, 1, none⟩ = some (.slice A1 n1 c1))
      (first | exact ⟨r0, r1⟩ | exact ⟨q0, q1⟩ | exact ⟨k0, k1⟩ | go_keep)
      (first
        | (go_at_call 66
           refine (pack_any A1 n1 c1 xs hxo B _ (by exact hx2) (by exact hB2) ht1).mono ?_
           rintro e w3 ⟨A6, n6, c6, rfl, h6, hb6'⟩
           have hb6 : Below w2.heap.size w2 w3 := by first | exact hb6' | exact below_un hb6' | exact below_unN hb6'
           clear hb6'
           rw [← HA.out] at h6
           have hb7 : Below W0.heap.size W0 w3 := hbw.trans (hb6.mono hbw.size)
           have h5' : RW .u64 w3 w3.heap.size (.slice A5 n5 c5) (words b) := (h5.below hb6).more hb6.size
           obtain ⟨q0, q1, q2, _⟩ := fr_cellsG G0.out hb7)
        | (go_at_call 67
           refine (reduced_sg sg neg a b hsg A6 A5 n6 n5 c6 c5 w3.heap.size _ (by exact h6) (by exact h5') (by exact Nat.le_refl _) (h6.lenW hla) (h5'.lenW hlb) hb0 (fun p q => (hR p q).1) (fun p q => (hR p q).2.1) (fun p q => (hR p q).2.2)).mono ?_
           rintro e w4 ⟨v, rfl, ⟨A7, n7, c7, A8, n8, c8, rfl, h7, h8⟩, hb8'⟩
           have hb8 : Below w3.heap.size w3 w4 := by first | exact hb8' | exact below_un hb8' | exact below_unN hb8'
           clear hb8'
           have hb9 : Below W0.heap.size W0 w4 := hb7.trans (hb8.mono hb7.size)
           obtain ⟨r0, r1, r2, _⟩ := fr_cellsG G0.out hb9
           obtain ⟨m0, m1, m2, mf⟩ := fr_cellsG G1.out hb9))
    all_goals
      obtain ⟨f1, f2⟩ := fr_storeG G1.out hw0 (Nat.le_succ _) hb9 (.bool sg) (.slice A7 n7 c7) (.slice A8 n8 c8)
      have F := Lib.hid (And.intro f1 f2)
      clear f1 f2
      go_wp2
      obtain ⟨f1, f2⟩ := F.out
      refine bodyPost_ret (v := .agg #[.bool sg, .slice A7 n7 c7, .slice A8 n8 c8]) (by simp [results, Tryz.results45, go_sem, m0, m1, m2]) rfl ⟨.agg #[.bool sg, .slice A7 n7 c7, .slice A8 n8 c8], rfl, ?_, f1⟩
      exact FR.mk (f2 _ _ _ h7) (f2 _ _ _ h8)
  · have hn0 : ((n3 : Int) == 0) = false := by
      have : n3 ≠ 0 := by rw [h3.len]; exact fun h => hz (words_len_zero.1 h)
      rw [beq_eq_false_iff_ne]; omega
    have hbv : b = val32 ys := by rw [HB.out]; unfold d1; rw [if_neg hz]
    rw [← hbv] at h3
    clear hz hbv
    have hbw : Below W0.heap.size W0 w1 := hb3
    have hx2 : RW .u32 w1 B (.slice A1 n1 c1) xs := hx0.belowM hbw hB0
    have hB2 : B ≤ w1.heap.size := Nat.le_trans hB0 hbw.size
    obtain ⟨k0, k1, k2, _⟩ := fr_cellsG G0.out hbw
    go_wp2
    go_region_held3 (fun w' => w'.cell? ⟨w.heap.size, 0, none⟩ = some (.bool neg) ∧ w'.cell? ⟨w.heap.size, 1, none⟩ = some (.slice A1 n1 c1))
      (first | exact ⟨r0, r1⟩ | exact ⟨q0, q1⟩ | exact ⟨k0, k1⟩ | go_keep)
      (first
        | (go_at_call 66
           refine (pack_any A1 n1 c1 xs hxo B _ (by exact hx2) (by exact hB2) ht1).mono ?_
           rintro e w3 ⟨A6, n6, c6, rfl, h6, hb6'⟩
           have hb6 : Below w1.heap.size w1 w3 := by first | exact hb6' | exact below_un hb6' | exact below_unN hb6'
           clear hb6'
           rw [← HA.out] at h6
           have hb7 : Below W0.heap.size W0 w3 := hbw.trans (hb6.mono hbw.size)
           have h5' : RW .u64 w3 w3.heap.size (.slice A3 n3 c3) (words b) := (h3.below hb6).more hb6.size
           obtain ⟨q0, q1, q2, _⟩ := fr_cellsG G0.out hb7)
        | (go_at_call 67
           refine (reduced_sg sg neg a b hsg A6 A3 n6 n3 c6 c3 w3.heap.size _ (by exact h6) (by exact h5') (by exact Nat.le_refl _) (h6.lenW hla) (h5'.lenW hlb) hb0 (fun p q => (hR p q).1) (fun p q => (hR p q).2.1) (fun p q => (hR p q).2.2)).mono ?_
           rintro e w4 ⟨v, rfl, ⟨A7, n7, c7, A8, n8, c8, rfl, h7, h8⟩, hb8'⟩
           have hb8 : Below w3.heap.size w3 w4 := by first | exact hb8' | exact below_un hb8' | exact below_unN hb8'
           clear hb8'
           have hb9 : Below W0.heap.size W0 w4 := hb7.trans (hb8.mono hb7.size)
           obtain ⟨r0, r1, r2, _⟩ := fr_cellsG G0.out hb9
           obtain ⟨m0, m1, m2, mf⟩ := fr_cellsG G1.out hb9))
    all_goals
      obtain ⟨f1, f2⟩ := fr_storeG G1.out hw0 (Nat.le_succ _) hb9 (.bool sg) (.slice A7 n7 c7) (.slice A8 n8 c8)
      have F := Lib.hid (And.intro f1 f2)
      clear f1 f2
      go_wp2
      obtain ⟨f1, f2⟩ := F.out
      refine bodyPost_ret (v := .agg #[.bool sg, .slice A7 n7 c7, .slice A8 n8 c8]) (by simp [results, Tryz.results45, go_sem, m0, m1, m2]) rfl ⟨.agg #[.bool sg, .slice A7 n7 c7, .slice A8 n8 c8], rfl, ?_, f1⟩
      exact FR.mk (f2 _ _ _ h7) (f2 _ _ _ h8)
end Go.Proofs.YtdpmfenikomfkaaGreat

namespace Go.Proofs.YtdpmfenikomfkaaGreat
open Go.RowKit

def RetFB (w : World) (neg : Bool) (n d : Nat) (e : Ending) (w' : World) : Prop :=
  ∃ v, e = .returned (.tuple #[v, .bool true]) ∧ FR w' w'.heap.size v neg n d ∧ Below w.heap.size w w'

theorem cells6 {W0 w1 : World} {g : Nat} {a b c a' b' c' : Value} {T T' : TypeId} (h0 : W0.heap[g]? = some (.cells #[a, b, c] T (0, 0))) (h1 : W0.heap[g + 1]? = some (.cells #[a', b', c'] T' (0, 0))) (h : Below W0.heap.size W0 w1) :
    w1.cell? ⟨g, 0, none⟩ = some a ∧ w1.cell? ⟨g, 1, none⟩ = some b ∧ w1.cell? ⟨g, 2, none⟩ = some c ∧ w1.cell? ⟨g + 1, 0, none⟩ = some a' ∧ w1.cell? ⟨g + 1, 1, none⟩ = some b' ∧ w1.cell? ⟨g + 1, 2, none⟩ = some c' := by
  obtain ⟨x, y, z, _⟩ := fr_cellsG h0 h
  obtain ⟨x', y', z', _⟩ := fr_cellsG h1 h
  exact ⟨x, y, z, x', y', z'⟩

theorem cells6_set {w1 : World} {g h : Nat} {a b c a' b' c' : Value} (hh : h ≠ g) (hh1 : h ≠ g + 1) (u0 u1 u2 : Value)
    (K : w1.cell? ⟨g, 0, none⟩ = some a ∧ w1.cell? ⟨g, 1, none⟩ = some b ∧ w1.cell? ⟨g, 2, none⟩ = some c ∧ w1.cell? ⟨g + 1, 0, none⟩ = some a' ∧ w1.cell? ⟨g + 1, 1, none⟩ = some b' ∧ w1.cell? ⟨g + 1, 2, none⟩ = some c') :
    (((w1.setCell ⟨h, 0, none⟩ u0).setCell ⟨h, 1, none⟩ u1).setCell ⟨h, 2, none⟩ u2).cell? ⟨g, 0, none⟩ = some a ∧ (((w1.setCell ⟨h, 0, none⟩ u0).setCell ⟨h, 1, none⟩ u1).setCell ⟨h, 2, none⟩ u2).cell? ⟨g, 1, none⟩ = some b ∧ (((w1.setCell ⟨h, 0, none⟩ u0).setCell ⟨h, 1, none⟩ u1).setCell ⟨h, 2, none⟩ u2).cell? ⟨g, 2, none⟩ = some c ∧ (((w1.setCell ⟨h, 0, none⟩ u0).setCell ⟨h, 1, none⟩ u1).setCell ⟨h, 2, none⟩ u2).cell? ⟨g + 1, 0, none⟩ = some a' ∧ (((w1.setCell ⟨h, 0, none⟩ u0).setCell ⟨h, 1, none⟩ u1).setCell ⟨h, 2, none⟩ u2).cell? ⟨g + 1, 1, none⟩ = some b' ∧ (((w1.setCell ⟨h, 0, none⟩ u0).setCell ⟨h, 1, none⟩ u1).setCell ⟨h, 2, none⟩ u2).cell? ⟨g + 1, 2, none⟩ = some c' := by
  have e : ∀ q i, h ≠ q → (((w1.setCell ⟨h, 0, none⟩ u0).setCell ⟨h, 1, none⟩ u1).setCell ⟨h, 2, none⟩ u2).cell? ⟨q, i, none⟩ = w1.cell? ⟨q, i, none⟩ := by
    intro q i hq
    rw [World.cell?_of_block (Below.heap_setCell _ _ _ _ (fun e => hq e.symm)), World.cell?_of_block (Below.heap_setCell _ _ _ _ (fun e => hq e.symm)), World.cell?_of_block (Below.heap_setCell _ _ _ _ (fun e => hq e.symm))]
  rw [e _ _ hh, e _ _ hh, e _ _ hh, e _ _ hh1, e _ _ hh1, e _ _ hh1]
  exact K

theorem alloc3 (w : World) (A B C : Obj) : (((w.alloc A).alloc B).alloc C).heap[w.heap.size]? = some A ∧ (((w.alloc A).alloc B).alloc C).heap[w.heap.size + 1]? = some B ∧ (((w.alloc A).alloc B).alloc C).heap[w.heap.size + 1 + 1]? = some C := by
  have e1 : (w.alloc A).heap.size = w.heap.size + 1 := by simp
  have e2 : ((w.alloc A).alloc B).heap.size = w.heap.size + 2 := by simp
  refine ⟨?_, ?_, ?_⟩
  · rw [heap_alloc_old _ _ (by rw [e2]; omega)]; exact heap_alloc2_old _ _ _
  · rw [heap_alloc_old _ _ (by rw [e2]; omega)]; exact heap_alloc2_new _ _ _
  · have := heap_alloc_new ((w.alloc A).alloc B) C
    rw [e2] at this
    exact this

set_option maxRecDepth 100000 in
set_option maxHeartbeats 2000000 in
theorem fdiv_any (sg neg1 neg2 : Bool) (x1 y1 x2 y2 : Nat) (A1 A2 A3 A4 : Option Addr) (n1 n2 n3 n4 c1 c2 c3 c4 : Nat) (B : Nat) (w : World)
    (hx1 : RW .u64 w B (.slice A1 n1 c1) (words x1)) (hy1 : RW .u64 w B (.slice A2 n2 c2) (words (dd y1))) (hx2 : RW .u64 w B (.slice A3 n3 c3) (words x2)) (hy2 : RW .u64 w B (.slice A4 n4 c4) (words (dd y2))) (hB : B ≤ w.heap.size)
    (h10 : y1 ≠ 0) (h20 : y2 ≠ 0) (hx20 : x2 ≠ 0) (l1 : (words x1).length ≤ 65536) (l2 : (words y1).length ≤ 65536) (l3 : (words x2).length ≤ 65536) (l4 : (words y2).length ≤ 65536)
    (a b : Nat) (ha : a = x1 * y2) (hb : b = y1 * x2) (hla : (words a).length ≤ 65536) (hlb : (words b).length ≤ 65536) (hR : RedOk a b) (hsg : Hid (sg = ((neg1 != neg2) && decide (a ≠ 0)))) :
    Calls Tryz.prog 62 #[.agg #[.bool neg1, .slice A1 n1 c1, .slice A2 n2 c2], .agg #[.bool neg2, .slice A3 n3 c3, .slice A4 n4 c4]] w (RetFB w sg (a / Nat.gcd a b) (b / Nat.gcd a b)) := by
  obtain ⟨W0, hW0⟩ : ∃ W0, W0 = ((w.alloc (.cells #[.bool neg1, .slice A1 n1 c1, .slice A2 n2 c2] 74)).alloc (.cells #[.bool neg2, .slice A3 n3 c3, .slice A4 n4 c4] 74)).alloc (.cells #[.bool false, .slice none 0 0, .slice none 0 0] 74) := ⟨_, rfl⟩
  have HW0 := Lib.hid hW0
  clear hW0
  have hw0 : Below w.heap.size w W0 := by rw [HW0.out]; exact (((Below.refl _ _).alloc (Nat.le_refl _) _).alloc (by simp) _).alloc (by simp; omega) _
  have hx10 : RW .u64 W0 B (.slice A1 n1 c1) (words x1) := hx1.belowM hw0 hB
  have hy10 : RW .u64 W0 B (.slice A2 n2 c2) (words (dd y1)) := hy1.belowM hw0 hB
  have hx20' : RW .u64 W0 B (.slice A3 n3 c3) (words x2) := hx2.belowM hw0 hB
  have hy20 : RW .u64 W0 B (.slice A4 n4 c4) (words (dd y2)) := hy2.belowM hw0 hB
  have hB0 : B ≤ W0.heap.size := Nat.le_trans hB hw0.size
  obtain ⟨g0, g1, g2⟩ := alloc3 w (.cells #[.bool neg1, .slice A1 n1 c1, .slice A2 n2 c2] 74) (.cells #[.bool neg2, .slice A3 n3 c3, .slice A4 n4 c4] 74) (.cells #[.bool false, .slice none 0 0, .slice none 0 0] 74)
  rw [← HW0.out] at g0 g1 g2
  have G0 := Lib.hid g0
  have G1 := Lib.hid g1
  have G2 := Lib.hid g2
  have K0 := Lib.hid (cells6 g0 g1 (Below.refl _ _))
  clear g0 g1 g2
  have hn3 : ((n3 : Int) == 0) = false := by
    have : n3 ≠ 0 := by rw [hx2.len]; exact fun h => hx20 (words_len_zero.1 h)
    rw [beq_eq_false_iff_ne]; omega
  have hb0 : b ≠ 0 := by rw [hb]; exact Nat.mul_ne_zero h10 hx20
  have HA := Lib.hid ha
  have HB := Lib.hid hb
  clear ha hb
  have tok1 : True := trivial
  go_enter Tryz.func62, Tryz.ntmps62
  go_wp2
  rw [← HW0.out]
  have k := K0.out
  obtain ⟨k0, k1, k2, k3, k4, k5⟩ := k
  go_region_held3 (fun w' => w'.cell? ⟨w.heap.size, 0, none⟩ = some (.bool neg1) ∧ w'.cell? ⟨w.heap.size, 1, none⟩ = some (.slice A1 n1 c1) ∧ w'.cell? ⟨w.heap.size, 2, none⟩ = some (.slice A2 n2 c2) ∧ w'.cell? ⟨w.heap.size + 1, 0, none⟩ = some (.bool neg2) ∧ w'.cell? ⟨w.heap.size + 1, 1, none⟩ = some (.slice A3 n3 c3) ∧ w'.cell? ⟨w.heap.size + 1, 2, none⟩ = some (.slice A4 n4 c4))
    (first | exact K6.out | exact K5.out | exact K4.out | exact K3.out | exact K2.out | exact K1.out | exact K0.out | go_keep)
    (first
      | (go_at_call 74
         have _t := tok1
         refine (denominator_any neg2 y2 h20 A3 A4 n3 n4 c3 c4 B _ (by exact hy20) (by exact hB0)).mono ?_
         rintro e w1 ⟨P1, p1, r1, rfl, h1, hb1'⟩
         have hb1 : Below W0.heap.size W0 w1 := by first | exact hb1' | exact below_un hb1' | exact below_unN hb1'
         have K1 := Lib.hid (cells6 G0.out G1.out hb1)
         have hx11 : RW .u64 w1 w1.heap.size (.slice A1 n1 c1) (words x1) := (hx10.belowM hb1 hB0).more (Nat.le_trans hB0 hb1.size)
         have tok2 : True := trivial
         clear tok1 _t hb1')
      | (go_at_call 73
         have _t := tok2
         refine (times_any A1 P1 n1 p1 c1 r1 (words x1) (words y2) w1.heap.size _ (by exact hx11) (by exact h1) (by exact Nat.le_refl _) (words_ok _) (words_ok _) (hx11.lenW l1) (h1.lenW l4)).mono ?_
         rintro e w2 ⟨P2, p2, r2, rfl, h2, hb2'⟩
         have hb2a : Below w1.heap.size w1 w2 := by first | exact hb2' | exact below_un hb2' | exact below_unN hb2'
         have hb2 : Below W0.heap.size W0 w2 := hb1.trans (hb2a.mono hb1.size)
         have K2 := Lib.hid (cells6 G0.out G1.out hb2)
         rw [val_words, val_words, ← HA.out] at h2
         have hy12 : RW .u64 w2 w2.heap.size (.slice A2 n2 c2) (words (dd y1)) := (hy10.belowM hb2 hB0).more (Nat.le_trans hB0 hb2.size)
         have tok3 : True := trivial
         clear tok2 _t hb2')
      | (go_at_call 74
         have _t := tok3
         refine (denominator_any neg1 y1 h10 A1 A2 n1 n2 c1 c2 w2.heap.size _ (by exact hy12) (by exact Nat.le_refl _)).mono ?_
         rintro e w3 ⟨P3, p3, r3, rfl, h3, hb3'⟩
         have hb3a : Below w2.heap.size w2 w3 := by first | exact hb3' | exact below_un hb3' | exact below_unN hb3'
         have hb3 : Below W0.heap.size W0 w3 := hb2.trans (hb3a.mono hb2.size)
         have K3 := Lib.hid (cells6 G0.out G1.out hb3)
         have hx23 : RW .u64 w3 w3.heap.size (.slice A3 n3 c3) (words x2) := (hx20'.belowM hb3 hB0).more (Nat.le_trans hB0 hb3.size)
         have h23 := (h2.below hb3a).more hb3a.size
         have tok4 : True := trivial
         clear tok3 _t hb3')
      | (go_at_call 73
         have _t := tok4
         refine (times_any P3 A3 p3 n3 r3 c3 (words y1) (words x2) w3.heap.size _ (by exact h3) (by exact hx23) (by exact Nat.le_refl _) (words_ok _) (words_ok _) (h3.lenW l2) (hx23.lenW l3)).mono ?_
         rintro e w4 ⟨P4, p4, r4, rfl, h4, hb4'⟩
         have hb4a : Below w3.heap.size w3 w4 := by first | exact hb4' | exact below_un hb4' | exact below_unN hb4'
         have hb4 : Below W0.heap.size W0 w4 := hb3.trans (hb4a.mono hb3.size)
         have K4 := Lib.hid (cells6 G0.out G1.out hb4)
         rw [val_words, val_words, ← HB.out] at h4
         have h24 := (h23.below hb4a).more hb4a.size
         clear tok4 _t hb4')
      | (go_at_call 67
         refine (reduced_sg sg (neg1 != neg2) a b hsg P2 P4 p2 p4 r2 r4 w4.heap.size _ (by exact h24) (by exact h4) (by exact Nat.le_refl _) (h24.lenW hla) (h4.lenW hlb) hb0 (fun p q => (hR p q).1) (fun p q => (hR p q).2.1) (fun p q => (hR p q).2.2)).mono ?_
         rintro e w5 ⟨v, rfl, ⟨A7, n7, c7, A8, n8, c8, rfl, h7, h8⟩, hb5'⟩
         have hb5a : Below w4.heap.size w4 w5 := by first | exact hb5' | exact below_un hb5' | exact below_unN hb5'
         have hb5 : Below W0.heap.size W0 w5 := hb4.trans (hb5a.mono hb4.size)
         have K5 := Lib.hid (cells6 G0.out G1.out hb5)
         have K6 := Lib.hid (cells6_set (h := w.heap.size + 1 + 1) (by omega) (by omega) (.bool sg) (.slice A7 n7 c7) (.slice A8 n8 c8) K5.out)
         clear hb5'
         obtain ⟨m0, m1, m2, mf⟩ := fr_cellsG G2.out hb5))
  all_goals
    obtain ⟨f1, f2⟩ := fr_storeG G2.out hw0 (by omega) hb5 (.bool sg) (.slice A7 n7 c7) (.slice A8 n8 c8)
    have F := Lib.hid (And.intro f1 f2)
    clear f1 f2
    go_wp2
    obtain ⟨f1, f2⟩ := F.out
    refine bodyPost_ret (v := .tuple #[.agg #[.bool sg, .slice A7 n7 c7, .slice A8 n8 c8], .bool true]) (by simp [results, Tryz.results62, go_sem, m0, m1, m2]) rfl ⟨.agg #[.bool sg, .slice A7 n7 c7, .slice A8 n8 c8], rfl, ?_, f1⟩
    exact FR.mk (f2 _ _ _ h7) (f2 _ _ _ h8)
end Go.Proofs.YtdpmfenikomfkaaGreat
