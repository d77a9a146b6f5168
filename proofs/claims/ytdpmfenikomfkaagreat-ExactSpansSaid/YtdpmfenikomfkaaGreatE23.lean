/-
  bounded, divided, Ratio of package exact, where nothing is large.
  Floor, Ceil, Int of fractions, and exact.end.
  Int of fractions and exact.end, where the number fits.
-/
import Derived.Test.YtdpmfenikomfkaaGreatE20
import Derived.Test.YtdpmfenikomfkaaGreatE22
namespace Go.Proofs.YtdpmfenikomfkaaGreat
open Go.RowKit

/-- A Rat and OK. -/
def RetRE (w : World) (neg : Bool) (n d : Nat) (e : Ending) (w' : World) : Prop :=
  ∃ v, e = .returned (.tuple #[v, .int .i64 0]) ∧ UR w' w'.heap.size v neg n d ∧ Below w.heap.size w w'

def Fits (n d : Nat) : Prop := (words32 n).length ≤ 256 ∧ (words32 (dd d)).length ≤ 256

theorem fits_len {n : Nat} (h : (words32 n).length ≤ 256) : (words n).length ≤ 65536 := by
  refine Nat.le_trans (words_length_le n 256 ?_) (by omega)
  have h1 := words32_lt n
  refine Nat.lt_of_lt_of_le h1 (Nat.le_trans (Nat.pow_le_pow_right B32_pos h) ?_)
  exact Nat.pow_le_pow_left (by unfold B32 B64; omega) 256

set_option maxRecDepth 100000 in
set_option maxHeartbeats 1000000 in
theorem bounded_any (neg : Bool) (n d : Nat) (A1 A2 : Option Addr) (n1 n2 c1 c2 : Nat) (B : Nat) (w : World) (hx : RW .u64 w B (.slice A1 n1 c1) (words n)) (hy : RW .u64 w B (.slice A2 n2 c2) (words (dd d))) (hB : B ≤ w.heap.size) (hF : Fits n d) :
    Calls Tryz.prog 63 #[.agg #[.bool neg, .slice A1 n1 c1, .slice A2 n2 c2]] w (RetRE w neg n d) := by
  obtain ⟨hF1, hF2⟩ := hF
  obtain ⟨W0, hW0⟩ : ∃ W0, W0 = (w.alloc (.cells #[.bool neg, .slice A1 n1 c1, .slice A2 n2 c2] 74)).alloc (.cells #[.bool false, .slice none 0 0, .slice none 0 0] 48) := ⟨_, rfl⟩
  have HW0 := Lib.hid hW0
  clear hW0
  have hw0 : Below w.heap.size w W0 := by rw [HW0.out]; exact ((Below.refl _ _).alloc (Nat.le_refl _) _).alloc (by simp) _
  have hx0 : RW .u64 W0 B (.slice A1 n1 c1) (words n) := hx.belowM hw0 hB
  have hy0 : RW .u64 W0 B (.slice A2 n2 c2) (words (dd d)) := hy.belowM hw0 hB
  have hB0 : B ≤ W0.heap.size := Nat.le_trans hB hw0.size
  have g1 : W0.heap[w.heap.size + 1]? = some (.cells #[.bool false, .slice none 0 0, .slice none 0 0] 48 (0, 0)) := by rw [HW0.out]; exact heap_alloc2_new _ _ _
  have G1 := Lib.hid g1
  have hgl : w.heap.size + 1 < W0.heap.size := (Array.getElem?_eq_some_iff.1 g1).1
  clear g1
  go_enter Tryz.func63, Tryz.ntmps63
  go_wp2_with fail
  rw [← HW0.out]
  refine (rat_any neg n d A1 A2 n1 n2 c1 c2 B _ (by exact hx0) (by exact hy0) (by exact hB0) (hx0.lenW (fits_len hF1)) (hy0.lenW (fits_len hF2))).mono ?_
  rintro e w1 ⟨v, rfl, ⟨A3, n3, c3, A4, n4, c4, rfl, h3, h4⟩, hb1⟩
  go_wp2_with fail
  have h3' := (h3.alloc (Nat.le_refl _) (.cells #[.bool neg, .slice A3 n3 c3, .slice A4 n4 c4] 48)).alloc (by simp) (.cells #[.bool neg, .slice A3 n3 c3, .slice A4 n4 c4] 48)
  have h4' := (h4.alloc (Nat.le_refl _) (.cells #[.bool neg, .slice A3 n3 c3, .slice A4 n4 c4] 48)).alloc (by simp) (.cells #[.bool neg, .slice A3 n3 c3, .slice A4 n4 c4] 48)
  obtain ⟨W2, hW2⟩ : ∃ W2, W2 = (w1.alloc (.cells #[.bool neg, .slice A3 n3 c3, .slice A4 n4 c4] 48)).alloc (.cells #[.bool neg, .slice A3 n3 c3, .slice A4 n4 c4] 48) := ⟨_, rfl⟩
  rw [← hW2] at h3' h4'
  have hsz : W2.heap.size = w1.heap.size + 2 := by rw [hW2]; simp
  have hb12 : Below w1.heap.size w1 W2 := by rw [hW2]; exact ((Below.refl _ _).alloc (Nat.le_refl _) _).alloc (by simp) _
  have l0 : W2.heap[w1.heap.size]? = some (.cells #[.bool neg, .slice A3 n3 c3, .slice A4 n4 c4] 48 (0, 0)) := by rw [hW2]; exact heap_alloc2_old _ _ _
  have l1 : W2.heap[w1.heap.size + 1]? = some (.cells #[.bool neg, .slice A3 n3 c3, .slice A4 n4 c4] 48 (0, 0)) := by rw [hW2]; exact heap_alloc2_new _ _ _
  have hsm : AllSmall W2 (w1.heap.size + 1) W2.heap.size 1 := by
    intro k hk
    have : k = 0 := by omega
    subst this
    obtain ⟨a0, a1, a2, _⟩ := fr_cellsG l1 (Below.refl _ _)
    exact ⟨neg, A3, n3, c3, A4, n4, c4, words32 n, words32 (dd d), a0, a1, a2, h3'.more (by omega), h4'.more (by omega), by rw [top_words32]; exact hF1, by rw [top_words32]; exact hF2⟩
  have L0 := Lib.hid l0
  have HS := Lib.hid hsm
  have HSZ := Lib.hid hsz
  have hg2 : w1.heap.size + 1 < W2.heap.size := by omega
  have hW2' : (w1.alloc (.cells #[.bool neg, .slice A3 n3 c3, .slice A4 n4 c4] 48)).alloc (.cells #[.bool neg, .slice A3 n3 c3, .slice A4 n4 c4] 48) = W2 := hW2.symm
  rw [hW2']
  clear hW2 hW2' hsm l0 l1 hsz
  refine (anyLarge_no _ W2.heap.size 1 1 W2 HS.out hg2 (Nat.le_refl _) (by omega)).mono ?_
  rintro e w3 ⟨rfl, hb3⟩
  obtain ⟨q0, q1, q2, _⟩ := fr_cellsG L0.out hb3
  have hbb : Below W0.heap.size W0 w3 := (hb1.trans (hb12.mono hb1.size)).trans (hb3.mono (Nat.le_trans hb1.size hb12.size))
  obtain ⟨m0, m1, m2, mf⟩ := fr_cellsG G1.out hbb
  obtain ⟨f1, f2⟩ := fr_storeG G1.out hw0 (Nat.le_succ _) hbb (.bool neg) (.slice A3 n3 c3) (.slice A4 n4 c4)
  have F := Lib.hid (And.intro f1 f2)
  clear f1 f2
  go_wp2
  obtain ⟨f1, f2⟩ := F.out
  refine bodyPost_ret (v := .tuple #[.agg #[.bool neg, .slice A3 n3 c3, .slice A4 n4 c4], .int .i64 0]) (by simp [results, Tryz.results63, go_sem, m0, m1, m2]) rfl ⟨.agg #[.bool neg, .slice A3 n3 c3, .slice A4 n4 c4], rfl, ?_, f1⟩
  exact ⟨_, _, _, _, _, _, rfl, f2 _ _ _ ((h3'.belowM hb3 hb12.size).more (by have := hb3.size; have := hb12.size; omega)), f2 _ _ _ ((h4'.belowM hb3 hb12.size).more (by have := hb3.size; have := hb12.size; omega))⟩

set_option maxRecDepth 100000 in
set_option maxHeartbeats 1000000 in
theorem divided_any (sg neg1 neg2 : Bool) (x1 y1 x2 y2 : Nat) (A1 A2 A3 A4 : Option Addr) (n1 n2 n3 n4 c1 c2 c3 c4 : Nat) (B : Nat) (w : World)
    (hx1 : RW .u64 w B (.slice A1 n1 c1) (words x1)) (hy1 : RW .u64 w B (.slice A2 n2 c2) (words (dd y1))) (hx2 : RW .u64 w B (.slice A3 n3 c3) (words x2)) (hy2 : RW .u64 w B (.slice A4 n4 c4) (words (dd y2))) (hB : B ≤ w.heap.size)
    (h10 : y1 ≠ 0) (h20 : y2 ≠ 0) (hx20 : x2 ≠ 0) (l1 : (words x1).length ≤ 65536) (l2 : (words y1).length ≤ 65536) (l3 : (words x2).length ≤ 65536) (l4 : (words y2).length ≤ 65536)
    (a b : Nat) (ha : a = x1 * y2) (hb : b = y1 * x2) (hla : (words a).length ≤ 65536) (hlb : (words b).length ≤ 65536) (hR : RedOk a b) (hsg : Hid (sg = ((neg1 != neg2) && decide (a ≠ 0)))) (hF : Fits (a / Nat.gcd a b) (b / Nat.gcd a b)) :
    Calls Tryz.prog 42 #[.agg #[.bool neg1, .slice A1 n1 c1, .slice A2 n2 c2], .agg #[.bool neg2, .slice A3 n3 c3, .slice A4 n4 c4]] w (RetRE w sg (a / Nat.gcd a b) (b / Nat.gcd a b)) := by
  obtain ⟨W0, hW0⟩ : ∃ W0, W0 = ((w.alloc (.cells #[.bool neg1, .slice A1 n1 c1, .slice A2 n2 c2] 74)).alloc (.cells #[.bool neg2, .slice A3 n3 c3, .slice A4 n4 c4] 74)).alloc (.cells #[.bool false, .slice none 0 0, .slice none 0 0] 48) := ⟨_, rfl⟩
  have HW0 := Lib.hid hW0
  clear hW0
  have hw0 : Below w.heap.size w W0 := by rw [HW0.out]; exact (((Below.refl _ _).alloc (Nat.le_refl _) _).alloc (by simp) _).alloc (by simp; omega) _
  have hB0 : B ≤ W0.heap.size := Nat.le_trans hB hw0.size
  obtain ⟨_, _, g2⟩ := alloc3 w (.cells #[.bool neg1, .slice A1 n1 c1, .slice A2 n2 c2] 74) (.cells #[.bool neg2, .slice A3 n3 c3, .slice A4 n4 c4] 74) (.cells #[.bool false, .slice none 0 0, .slice none 0 0] 48)
  rw [← HW0.out] at g2
  have G2 := Lib.hid g2
  clear g2
  have hcall := Lib.hid (And.intro (fdiv_any sg neg1 neg2 x1 y1 x2 y2 A1 A2 A3 A4 n1 n2 n3 n4 c1 c2 c3 c4 B W0 (hx1.belowM hw0 hB) (hy1.belowM hw0 hB) (hx2.belowM hw0 hB) (hy2.belowM hw0 hB) hB0 h10 h20 hx20 l1 l2 l3 l4 a b ha hb hla hlb hR hsg) trivial)
  obtain ⟨p, hp⟩ : ∃ p, p = a / Nat.gcd a b := ⟨_, rfl⟩
  obtain ⟨q, hq⟩ : ∃ q, q = b / Nat.gcd a b := ⟨_, rfl⟩
  rw [← hp, ← hq] at hF hcall ⊢
  clear ha hb hp hq
  go_enter Tryz.func42, Tryz.ntmps42
  go_wp2_with fail
  rw [← HW0.out]
  refine hcall.out.1.mono ?_
  rintro e w1 ⟨v, rfl, ⟨A7, n7, c7, A8, n8, c8, rfl, h7, h8⟩, hb1⟩
  have h7' := h7.alloc (Nat.le_refl _) (.cells #[.bool sg, .slice A7 n7 c7, .slice A8 n8 c8] 74)
  have h8' := h8.alloc (Nat.le_refl _) (.cells #[.bool sg, .slice A7 n7 c7, .slice A8 n8 c8] 74)
  go_wp2_with fail
  refine (bounded_any sg p q A7 A8 n7 n8 c7 c8 w1.heap.size _ (by exact h7') (by exact h8') (by simp) hF).mono ?_
  rintro e w2 ⟨v, rfl, ⟨A5, n5, c5, A6, n6, c6, rfl, h5, h6⟩, hb2⟩
  have hbb : Below W0.heap.size W0 w2 := (hb1.trans ((Below.refl _ _).alloc hb1.size (.cells #[.bool sg, .slice A7 n7 c7, .slice A8 n8 c8] 74))).trans (hb2.mono (by have := hb1.size; simp; omega))
  obtain ⟨m0, m1, m2, mf⟩ := fr_cellsG G2.out hbb
  obtain ⟨f1, f2⟩ := fr_storeG G2.out hw0 (by omega) hbb (.bool sg) (.slice A5 n5 c5) (.slice A6 n6 c6)
  have F := Lib.hid (And.intro f1 f2)
  clear f1 f2
  go_wp2
  obtain ⟨f1, f2⟩ := F.out
  refine bodyPost_ret (v := .tuple #[.agg #[.bool sg, .slice A5 n5 c5, .slice A6 n6 c6], .int .i64 0]) (by simp [results, Tryz.results42, go_sem, m0, m1, m2]) rfl ⟨.agg #[.bool sg, .slice A5 n5 c5, .slice A6 n6 c6], rfl, ?_, f1⟩
  exact ⟨_, _, _, _, _, _, rfl, f2 _ _ _ h5, f2 _ _ _ h6⟩

set_option maxRecDepth 100000 in
set_option maxHeartbeats 1000000 in
theorem ratio_any (sg : Bool) (a b : Int) (ha1 : -9223372036854775808 ≤ a) (ha2 : a ≤ 9223372036854775807) (hb1 : -9223372036854775808 ≤ b) (hb2 : b ≤ 9223372036854775807) (hb0 : b ≠ 0) (w : World)
    (hsg : Hid (sg = ((decide (a < 0) != decide (b < 0)) && decide (a.natAbs ≠ 0)))) :
    Calls Tryz.prog 25 #[.int .i64 a, .int .i64 b] w (RetRE w sg (a.natAbs / Nat.gcd a.natAbs b.natAbs) (b.natAbs / Nat.gcd a.natAbs b.natAbs)) := by
  obtain ⟨x, hx⟩ : ∃ x, x = a.natAbs := ⟨_, rfl⟩
  obtain ⟨y, hy⟩ : ∃ y, y = b.natAbs := ⟨_, rfl⟩
  have hxb : x < B64 := by unfold B64; omega
  have hyb : y < B64 := by unfold B64; omega
  have hy0 : y ≠ 0 := by omega
  rw [← hx, ← hy]
  rw [← hx] at hsg
  have HX := Lib.hid hx
  have HY := Lib.hid hy
  obtain ⟨sa, hsa⟩ : ∃ sa, sa = decide (a < 0) := ⟨_, rfl⟩
  obtain ⟨sb, hsb⟩ : ∃ sb, sb = decide (b < 0) := ⟨_, rfl⟩
  rw [← hsa, ← hsb] at hsg
  have HSA := Lib.hid hsa
  have HSB := Lib.hid hsb
  clear hx hy hsa hsb
  have len1 : ∀ z, z < B64 → (words z).length ≤ 65536 := fun z hz => Nat.le_trans (words_length_le z 1 (by rw [Nat.pow_one]; exact hz)) (by omega)
  have w1 : (words 1).length ≤ 65536 := len1 1 (by unfold B64; omega)
  have fit : ∀ z, z < B64 → (words32 z).length ≤ 256 := fun z hz => Nat.le_trans (words32_length_le z 2 (by unfold B64 at hz; unfold B32; omega)) (by omega)
  have hF : Fits (x / Nat.gcd x y) (y / Nat.gcd x y) := by
    refine ⟨fit _ (Nat.lt_of_le_of_lt (Nat.div_le_self _ _) hxb), fit _ ?_⟩
    unfold dd
    split
    · unfold B64; omega
    · exact Nat.lt_of_le_of_lt (Nat.div_le_self _ _) hyb
  have LL := Lib.hid (And.intro w1 (And.intro (len1 x hxb) (And.intro (len1 y hyb) hF)))
  clear len1 fit w1 hF
  obtain ⟨p, hp⟩ : ∃ p, p = x / Nat.gcd x y := ⟨_, rfl⟩
  obtain ⟨q, hq⟩ : ∃ q, q = y / Nat.gcd x y := ⟨_, rfl⟩
  rw [← hp, ← hq]
  have HPQ := Lib.hid (And.intro hp hq)
  clear hp hq
  go_enter Tryz.func25, Tryz.ntmps25
  go_wp2_with fail
  refine (fromInt_any a ha1 ha2 _).mono ?_
  rintro e w1 ⟨v, rfl, ⟨A1, n1, c1, A2, n2, c2, rfl, h1, h2⟩, hb1'⟩
  rw [← HX.out] at h1
  rw [← HSA.out]
  go_wp2_with fail
  refine (fromInt_any b hb1 hb2 _).mono ?_
  rintro e w2 ⟨v, rfl, ⟨A3, n3, c3, A4, n4, c4, rfl, h3, h4⟩, hb2'⟩
  rw [← HY.out] at h3
  rw [← HSB.out]
  go_wp2_with fail
  have hd := divided_any sg sa sb x 1 y 1 A1 A2 A3 A4 n1 n2 n3 n4 c1 c2 c3 c4 w2.heap.size w2 ((h1.below hb2').more hb2'.size) ((h2.below hb2').more hb2'.size) h3 h4 (Nat.le_refl _) (by omega) (by omega) hy0 LL.out.2.1 LL.out.1 LL.out.2.2.1 LL.out.1 x y (Nat.mul_one x).symm (Nat.one_mul y).symm LL.out.2.1 LL.out.2.2.1 (redOk_small hxb hyb hy0) hsg LL.out.2.2.2
  rw [← HPQ.out.1, ← HPQ.out.2] at hd
  refine hd.mono ?_
  rintro e w3 ⟨v, rfl, ⟨A5, n5, c5, A6, n6, c6, rfl, h5, h6⟩, hb3'⟩
  clear hd
  have g1 := heap_alloc_new w (.cells #[.bool false, .slice none 0 0, .slice none 0 0] 48)
  have hw0 : Below w.heap.size w (w.alloc (.cells #[.bool false, .slice none 0 0, .slice none 0 0] 48)) := (Below.refl _ _).alloc (Nat.le_refl _) _
  have hbb := (hb1'.trans (hb2'.mono hb1'.size)).trans (hb3'.mono (Nat.le_trans hb1'.size hb2'.size))
  obtain ⟨m0, m1, m2, mf⟩ := fr_cellsG g1 hbb
  obtain ⟨f1, f2⟩ := fr_storeG g1 hw0 (Nat.le_refl _) hbb (.bool sg) (.slice A5 n5 c5) (.slice A6 n6 c6)
  have F := Lib.hid (And.intro f1 f2)
  clear f1 f2 g1
  go_wp2
  obtain ⟨f1, f2⟩ := F.out
  refine bodyPost_ret (v := .tuple #[.agg #[.bool sg, .slice A5 n5 c5, .slice A6 n6 c6], .int .i64 0]) (by simp [results, Tryz.results25, go_sem, m0, m1, m2]) rfl ⟨.agg #[.bool sg, .slice A5 n5 c5, .slice A6 n6 c6], rfl, ?_, f1⟩
  exact ⟨_, _, _, _, _, _, rfl, f2 _ _ _ h5, f2 _ _ _ h6⟩
end Go.Proofs.YtdpmfenikomfkaaGreat

namespace Go.Proofs.YtdpmfenikomfkaaGreat
open Go.RowKit

def flo (neg : Bool) (n d : Nat) : Nat := if neg = true ∧ n % d ≠ 0 then n / d + 1 else n / d

set_option maxRecDepth 100000 in
set_option maxHeartbeats 1000000 in
theorem floor_any (neg : Bool) (n d : Nat) (A1 A2 : Option Addr) (n1 n2 c1 c2 : Nat) (B : Nat) (w : World) (hx : RW .u64 w B (.slice A1 n1 c1) (words n)) (hy : RW .u64 w B (.slice A2 n2 c2) (words (dd d))) (hB : B ≤ w.heap.size)
    (hd0 : d ≠ 0) (l1 : (words n).length ≤ 65536) (hD : DivideAt n d) :
    Calls Tryz.prog 71 #[.agg #[.bool neg, .slice A1 n1 c1, .slice A2 n2 c2]] w (RetF w neg (flo neg n d) 1) := by
  obtain ⟨W0, hW0⟩ : ∃ W0, W0 = (w.alloc (.cells #[.bool neg, .slice A1 n1 c1, .slice A2 n2 c2] 74)).alloc (.cells #[.bool false, .slice none 0 0, .slice none 0 0] 74) := ⟨_, rfl⟩
  have HW0 := Lib.hid hW0
  clear hW0
  have hw0 : Below w.heap.size w W0 := by rw [HW0.out]; exact ((Below.refl _ _).alloc (Nat.le_refl _) _).alloc (by simp) _
  have hx0 : RW .u64 W0 B (.slice A1 n1 c1) (words n) := hx.belowM hw0 hB
  have hy0 : RW .u64 W0 B (.slice A2 n2 c2) (words (dd d)) := hy.belowM hw0 hB
  have hB0 : B ≤ W0.heap.size := Nat.le_trans hB hw0.size
  have g0 : W0.heap[w.heap.size]? = some (.cells #[.bool neg, .slice A1 n1 c1, .slice A2 n2 c2] 74 (0, 0)) := by rw [HW0.out]; exact heap_alloc2_old _ _ _
  have g1 : W0.heap[w.heap.size + 1]? = some (.cells #[.bool false, .slice none 0 0, .slice none 0 0] 74 (0, 0)) := by rw [HW0.out]; exact heap_alloc2_new _ _ _
  have G1 := Lib.hid g1
  have G0 := Lib.hid g0
  obtain ⟨k0, k1, k2, _⟩ := fr_cellsG g0 (Below.refl _ _)
  clear g0 g1
  go_enter Tryz.func71, Tryz.ntmps71
  go_wp2
  rw [← HW0.out]
  go_region_held3 (fun w' => w'.cell? ⟨w.heap.size, 0, none⟩ = some (.bool neg) ∧ w'.cell? ⟨w.heap.size, 1, none⟩ = some (.slice A1 n1 c1) ∧ w'.cell? ⟨w.heap.size, 2, none⟩ = some (.slice A2 n2 c2))
    (first | exact ⟨r0, r1, r2⟩ | exact ⟨q0, q1, q2⟩ | exact ⟨k0, k1, k2⟩ | go_keep)
    (first
      | (go_at_call 74
         refine (denominator_any neg d hd0 A1 A2 n1 n2 c1 c2 B _ (by exact hy0) (by exact hB0)).mono ?_
         rintro e w1 ⟨P1, p1, r1, rfl, h1, hb1'⟩
         have hb1 : Below W0.heap.size W0 w1 := by first | exact hb1' | exact below_un hb1' | exact below_unN hb1'
         obtain ⟨q0, q1, q2, _⟩ := fr_cellsG G0.out hb1
         have hx1 : RW .u64 w1 w1.heap.size (.slice A1 n1 c1) (words n) := (hx0.belowM hb1 hB0).more (Nat.le_trans hB0 hb1.size)
         clear hb1')
      | (go_at_call 79
         refine (hD _ w1.heap.size A1 P1 n1 p1 c1 r1 (by exact hx1) (by exact h1) (by exact Nat.le_refl _) (hx1.lenW l1)).mono ?_
         rintro e w2 ⟨Q1, p2, s1, Q2, p3, s2, rfl, h2, h3, hb2'⟩
         have hb2a : Below w1.heap.size w1 w2 := by first | exact hb2' | exact below_un hb2' | exact below_unN hb2'
         have hb2 : Below W0.heap.size W0 w2 := hb1.trans (hb2a.mono hb1.size)
         obtain ⟨r0, r1', r2, _⟩ := fr_cellsG G0.out hb2
         obtain ⟨m0, m1, m2, mf⟩ := fr_cellsG G1.out hb2
         clear hb2'))
  all_goals
    have h2' := (h2 : RW .u64 w2 w2.heap.size (.slice Q1 p2 s1) (words (n / d)))
    cases neg with
    | false =>
      have e1 : flo false n d = n / d := by unfold flo; simp
      have E1 := Lib.hid e1
      clear e1
      obtain ⟨f1, f2⟩ := fr_storeG G1.out hw0 (Nat.le_succ _) hb2 (.bool false) (.slice Q1 p2 s1) (.slice none 0 0)
      have F := Lib.hid (And.intro f1 f2)
      clear f1 f2
      go_wp2
      obtain ⟨f1, f2⟩ := F.out
      refine bodyPost_ret (v := .agg #[.bool false, .slice Q1 p2 s1, .slice none 0 0]) (by simp [results, Tryz.results71, go_sem, m0, m1, m2]) rfl ⟨.agg #[.bool false, .slice Q1 p2 s1, .slice none 0 0], rfl, ?_, f1⟩
      rw [E1.out]; exact FR.mk (f2 _ _ _ h2') rw_one
    | true =>
      have h0 := h3.len0
      have hm := h3.cap
      unfold maxLen at hm
      by_cases hp : p3 = 0
      · have e1 : flo true n d = n / d := by unfold flo; simp [h0.1 hp]
        have E1 := Lib.hid e1
        subst hp
        clear e1 h0
        obtain ⟨f1, f2⟩ := fr_storeG G1.out hw0 (Nat.le_succ _) hb2 (.bool true) (.slice Q1 p2 s1) (.slice none 0 0)
        have F := Lib.hid (And.intro f1 f2)
        clear f1 f2
        go_wp2
        obtain ⟨f1, f2⟩ := F.out
        refine bodyPost_ret (v := .agg #[.bool true, .slice Q1 p2 s1, .slice none 0 0]) (by simp [results, Tryz.results71, go_sem, m0, m1, m2]) rfl ⟨.agg #[.bool true, .slice Q1 p2 s1, .slice none 0 0], rfl, ?_, f1⟩
        rw [E1.out]; exact FR.mk (f2 _ _ _ h2') rw_one
      · have hnz : n % d ≠ 0 := fun h => hp (h0.2 h)
        have e1 : flo true n d = n / d + 1 := by unfold flo; simp [hnz]
        have hp0 : 0 < p3 := by omega
        have hq1 : p2 ≤ 65536 := by
          rw [h2.len]
          exact Nat.le_trans (words_len_mono (Nat.div_le_self n d)) l1
        have E1 := Lib.hid e1
        clear e1 h0 hp hnz
        go_wp2_with fail
        refine (single_any 1 (by unfold B64; omega) _).mono ?_
        rintro e w3 ⟨Q3, p4, s3, rfl, h4, hb3⟩
        have h25 := (h2'.below hb3).more hb3.size
        have h4l : p4 ≤ 65536 := by rw [h4.len, words_single (by omega) (by unfold B64; omega)]; simp
        go_wp2_with fail
        refine (plus_any (n / d) 1 Q1 Q3 p2 p4 s1 s3 w3.heap.size _ (by exact h25) (by exact h4) (by exact Nat.le_refl _) hq1 h4l).mono ?_
        rintro e w4 ⟨Q5, p5, s5, rfl, h5, hb4⟩
        have hb4' : Below W0.heap.size W0 w4 := (hb2.trans (hb3.mono hb2.size)).trans (hb4.mono (Nat.le_trans hb2.size hb3.size))
        clear m0 m1 m2 mf
        obtain ⟨m0, m1, m2, mf⟩ := fr_cellsG G1.out hb4'
        obtain ⟨t0, t1, t2, _⟩ := fr_cellsG G0.out hb4'
        obtain ⟨f1, f2⟩ := fr_storeG G1.out hw0 (Nat.le_succ _) hb4' (.bool true) (.slice Q5 p5 s5) (.slice none 0 0)
        have F := Lib.hid (And.intro f1 f2)
        clear f1 f2
        go_wp2
        obtain ⟨f1, f2⟩ := F.out
        refine bodyPost_ret (v := .agg #[.bool true, .slice Q5 p5 s5, .slice none 0 0]) (by simp [results, Tryz.results71, go_sem, m0, m1, m2]) rfl ⟨.agg #[.bool true, .slice Q5 p5 s5, .slice none 0 0], rfl, ?_, f1⟩
        rw [E1.out]; exact FR.mk (f2 _ _ _ h5) rw_one

set_option maxRecDepth 100000 in
set_option maxHeartbeats 1000000 in
theorem ceil_any (neg : Bool) (n d : Nat) (A1 A2 : Option Addr) (n1 n2 c1 c2 : Nat) (B : Nat) (w : World) (hx : RW .u64 w B (.slice A1 n1 c1) (words n)) (hy : RW .u64 w B (.slice A2 n2 c2) (words (dd d))) (hB : B ≤ w.heap.size)
    (hd0 : d ≠ 0) (l1 : (words n).length ≤ 65536) (hD : DivideAt n d) :
    Calls Tryz.prog 48 #[.agg #[.bool neg, .slice A1 n1 c1, .slice A2 n2 c2]] w (RetF w (!(!neg && decide (0 < n)) && decide (0 < flo (!neg && decide (0 < n)) n d)) (flo (!neg && decide (0 < n)) n d) 1) := by
  obtain ⟨W0, hW0⟩ : ∃ W0, W0 = (w.alloc (.cells #[.bool neg, .slice A1 n1 c1, .slice A2 n2 c2] 74)).alloc (.cells #[.bool false, .slice none 0 0, .slice none 0 0] 74) := ⟨_, rfl⟩
  have HW0 := Lib.hid hW0
  clear hW0
  have hw0 : Below w.heap.size w W0 := by rw [HW0.out]; exact ((Below.refl _ _).alloc (Nat.le_refl _) _).alloc (by simp) _
  have hx0 : RW .u64 W0 B (.slice A1 n1 c1) (words n) := hx.belowM hw0 hB
  have hy0 : RW .u64 W0 B (.slice A2 n2 c2) (words (dd d)) := hy.belowM hw0 hB
  have hB0 : B ≤ W0.heap.size := Nat.le_trans hB hw0.size
  have g1 : W0.heap[w.heap.size + 1]? = some (.cells #[.bool false, .slice none 0 0, .slice none 0 0] 74 (0, 0)) := by rw [HW0.out]; exact heap_alloc2_new _ _ _
  have G1 := Lib.hid g1
  clear g1
  obtain ⟨sg, hsg⟩ : ∃ sg, sg = (!neg && decide (0 < n)) := ⟨_, rfl⟩
  obtain ⟨q, hq⟩ : ∃ q, q = flo sg n d := ⟨_, rfl⟩
  obtain ⟨s2, hs2⟩ : ∃ s2, s2 = (!sg && decide (0 < q)) := ⟨_, rfl⟩
  rw [← hsg, ← hq, ← hs2]
  have HSG := Lib.hid hsg
  have HQ := Lib.hid hq
  have HS2 := Lib.hid hs2
  clear hsg hq hs2
  go_enter Tryz.func48, Tryz.ntmps48
  go_wp2_with fail
  rw [← HW0.out]
  refine (neg_any neg n d A1 A2 n1 n2 c1 c2 B _ (by exact hx0) (by exact hy0) (by exact hB0)).mono ?_
  rintro e w1 ⟨v, rfl, ⟨A3, n3, c3, A4, n4, c4, rfl, h3, h4⟩, hb1⟩
  rw [← HSG.out]
  go_wp2_with fail
  refine (floor_any sg n d A3 A4 n3 n4 c3 c4 w1.heap.size _ (by exact h3) (by exact h4) (by exact Nat.le_refl _) hd0 l1 hD).mono ?_
  rintro e w2 ⟨v, rfl, ⟨A5, n5, c5, A6, n6, c6, rfl, h5, h6⟩, hb2⟩
  rw [← HQ.out] at h5
  go_wp2_with fail
  refine (neg_any sg q 1 A5 A6 n5 n6 c5 c6 w2.heap.size _ (by exact h5) (by exact h6) (by exact Nat.le_refl _)).mono ?_
  rintro e w3 ⟨v, rfl, ⟨A7, n7, c7, A8, n8, c8, rfl, h7, h8⟩, hb3⟩
  rw [← HS2.out]
  have hbb : Below W0.heap.size W0 w3 := (hb1.trans (hb2.mono hb1.size)).trans (hb3.mono (Nat.le_trans hb1.size hb2.size))
  obtain ⟨m0, m1, m2, mf⟩ := fr_cellsG G1.out hbb
  obtain ⟨f1, f2⟩ := fr_storeG G1.out hw0 (Nat.le_succ _) hbb (.bool s2) (.slice A7 n7 c7) (.slice A8 n8 c8)
  have F := Lib.hid (And.intro f1 f2)
  clear f1 f2
  go_wp2
  obtain ⟨f1, f2⟩ := F.out
  refine bodyPost_ret (v := .agg #[.bool s2, .slice A7 n7 c7, .slice A8 n8 c8]) (by simp [results, Tryz.results48, go_sem, m0, m1, m2]) rfl ⟨.agg #[.bool s2, .slice A7 n7 c7, .slice A8 n8 c8], rfl, ?_, f1⟩
  exact FR.mk (f2 _ _ _ h7) (f2 _ _ _ h8)
end Go.Proofs.YtdpmfenikomfkaaGreat

namespace Go.Proofs.YtdpmfenikomfkaaGreat
open Go.RowKit

def sgn (neg : Bool) (n : Nat) : Int := if neg then -(n : Int) else n

/-- An integer and a bool, or an integer and an error. -/
def RetIV (w : World) (i : Int) (v : Value) (e : Ending) (w' : World) : Prop :=
  e = .returned (.tuple #[.int .i64 i, v]) ∧ Below w.heap.size w w'

set_option maxRecDepth 100000 in
set_option maxHeartbeats 1000000 in
theorem int_small (neg : Bool) (n : Nat) (hn : n ≤ 1152921504606846976) (A1 A2 : Option Addr) (n1 n2 c1 c2 : Nat) (B : Nat) (w : World) (hx : RW .u64 w B (.slice A1 n1 c1) (words n)) (hy : RW .u64 w B (.slice A2 n2 c2) (words (dd 1))) (hB : B ≤ w.heap.size) :
    Calls Tryz.prog 69 #[.agg #[.bool neg, .slice A1 n1 c1, .slice A2 n2 c2]] w (RetIV w (sgn neg n) (.bool true)) := by
  have hn2 : n2 = 0 := by rw [hy.len]; exact (dd_len (by omega)).2 rfl
  subst hn2
  have hb : Below w.heap.size w (w.alloc (.cells #[.bool neg, .slice A1 n1 c1, .slice A2 0 c2] 74)) := (Below.refl _ _).alloc (Nat.le_refl _) _
  by_cases h0 : n = 0
  · have hn1 : n1 = 0 := by rw [hx.len, h0, words_zero]; rfl
    have e : sgn neg n = 0 := by unfold sgn; rw [h0]; cases neg <;> rfl
    subst hn1
    rw [e]
    clear e h0
    cases neg
    all_goals
      go_enter Tryz.func69, Tryz.ntmps69
      go_wp2
      go_ret2
      exact ⟨rfl, hb⟩
  · obtain ⟨hn1, g, o, hA, hg, hc⟩ := hx.single (by omega) (by unfold B64; omega)
    subst hn1 hA
    have hc' : (w.alloc (.cells #[.bool neg, .slice (some ⟨g, o, none⟩) 1 c1, .slice A2 0 c2] 74)).cell? ⟨g, o, none⟩ = some (.int .u64 (n : Nat)) := by
      rw [World.cell?_alloc_lt _ _ _ (by show g < _; omega)]; exact hc
    cases neg with
    | false =>
      go_enter Tryz.func69, Tryz.ntmps69
      go_wp2
      go_ret2
      exact ⟨rfl, hb⟩
    | true =>
      have e : sgn true n = wrap64 (IntKind.u64.wrap (-(n : Int))) := by
        unfold wrap64 sgn
        rw [IntKind.wrap_u64]
        simp only [if_true]
        omega
      have E := Lib.hid e
      clear e
      go_enter Tryz.func69, Tryz.ntmps69
      go_wp2
      go_ret2
      exact ⟨by rw [E.out]; rfl, hb⟩

set_option maxRecDepth 100000 in
set_option maxHeartbeats 1000000 in
theorem end_small (neg : Bool) (n : Nat) (hn : n ≤ 1152921504606846976) (A1 A2 : Option Addr) (n1 n2 c1 c2 : Nat) (B : Nat) (w : World) (hx : RW .u64 w B (.slice A1 n1 c1) (words n)) (hy : RW .u64 w B (.slice A2 n2 c2) (words (dd 1))) (hB : B ≤ w.heap.size) :
    Calls Tryz.prog 47 #[.agg #[.bool neg, .slice A1 n1 c1, .slice A2 n2 c2]] w (RetIV w (sgn neg n) (.int .i64 0)) := by
  have hx0 := hx.alloc hB (.cells #[.bool neg, .slice A1 n1 c1, .slice A2 n2 c2] 74)
  have hy0 := hy.alloc hB (.cells #[.bool neg, .slice A1 n1 c1, .slice A2 n2 c2] 74)
  have hB0 : B ≤ (w.alloc (.cells #[.bool neg, .slice A1 n1 c1, .slice A2 n2 c2] 74)).heap.size := by simp; omega
  obtain ⟨s, hs⟩ : ∃ s, s = sgn neg n := ⟨_, rfl⟩
  have HS := Lib.hid hs
  have hs1 : -1152921504606846976 ≤ s ∧ s ≤ 1152921504606846976 := by rw [hs]; unfold sgn; split <;> omega
  rw [← hs]
  clear hs
  obtain ⟨hs1, hs2⟩ := hs1
  go_enter Tryz.func47, Tryz.ntmps47
  go_wp2_with fail
  refine (int_small neg n hn A1 A2 n1 n2 c1 c2 B _ (by exact hx0) (by exact hy0) (by exact hB0)).mono ?_
  rintro e w1 ⟨rfl, hb1⟩
  rw [← HS.out]
  go_wp2
  go_ret2
  exact ⟨rfl, ((Below.refl _ _).alloc (Nat.le_refl _) _).trans (hb1.mono (by simp))⟩
end Go.Proofs.YtdpmfenikomfkaaGreat
