/-
  Where echoes begin, and Time of an echo and of the same one later.
-/
import Derived.Test.YtkcagifljelfoaaVAny
import Derived.Test.YtkcagifljelfoaaVChn
import Derived.Test.YtkcagifljelfoaaVDly
namespace Go.Proofs.Ytkcagifljelfoaa
open Go.RowKit

def begE (zs : List Int) (fr : Nat) (lv : Int) : Prop := fr = 0 ∨ ith zs (fr - 1) < lv ∨ ith zs fr < lv
def begS (zs : List Int) (S : Fs) : Prop := begE zs S.e.fr S.e.lv ∧ ∀ e ∈ S.R, begE zs e.fr e.lv
theorem begS_step {zs : List Int} {drop : Int} (hd : 1 ≤ drop) {S : Fs} {i : Nat} (h : begS zs S) : begS zs (stF zs drop S i) := by
  obtain ⟨fall, ⟨fr, to, pk, lv, tp⟩, va, R⟩ := S
  obtain ⟨h1, h2⟩ := h
  simp only at h1 h2
  unfold stF
  cases fall with
  | true =>
    simp only [if_true]
    split
    · exact ⟨h1, h2⟩
    · split
      · refine ⟨.inr (.inr (by simp only; omega)), fun e he => ?_⟩
        simp only [List.mem_append, List.mem_singleton] at he
        rcases he with he | rfl
        · exact h2 _ he
        · exact h1
      · exact ⟨h1, h2⟩
  | false =>
    simp only [Bool.false_eq_true, if_false]
    split
    · exact ⟨h1, h2⟩
    · split
      · exact ⟨h1, h2⟩
      · exact ⟨h1, h2⟩
theorem runS_beg {zs : List Int} {drop T : Int} (hd : 1 ≤ drop) {x : Nat} {R : List Eo} (hx : begE zs x T) (hR : ∀ e ∈ R, begE zs e.fr e.lv) : ∀ k, begS zs (runS zs drop T x R k)
  | 0 => ⟨hx, hR⟩
  | k + 1 => begS_step hd (runS_beg hd hx hR k)
theorem goneR_beg {zs : List Int} {drop T : Int} (hd : 1 ≤ drop) {x y : Nat} {R : List Eo} (hx : begE zs x T) (hR : ∀ e ∈ R, begE zs e.fr e.lv) : ∀ e ∈ goneR zs drop T x y R, begE zs e.fr e.lv := fun e he => by
  obtain ⟨h1, h2⟩ := runS_beg hd hx hR (y - 1 - x)
  unfold goneR at he
  simp only [List.mem_append, List.mem_singleton] at he
  rcases he with he | rfl
  · exact h2 _ he
  · exact h1
theorem echR_beg {zs : List Int} {drop T : Int} (hd : 1 ≤ drop) (n : Nat) : ∀ j, j ≤ (runsK zs T n).length → ∀ e ∈ echR zs drop T (runsK zs T n) j, begE zs e.fr e.lv
  | 0, _ => by simp [echR]
  | j + 1, h => by
    rw [echR_succ (show j < (runsK zs T n).length by omega)]
    refine goneR_beg hd ?_ (echR_beg hd n j (by omega))
    rcases (runsK_facts zs T n j (by omega)).1 with h1 | h1
    · exact .inl h1
    · exact .inr (.inl h1)
theorem echF_beg {zs : List Int} {d : De} (hd : 1 ≤ d.dp) : ∀ e ∈ echF zs d, begE zs e.fr e.lv := fun e he => by
  unfold echF at he
  exact echR_beg hd _ _ (Nat.le_refl _) e (List.mem_of_mem_take he)
theorem shift_lo (m d P x : Int) (hd : 0 < d) : 256 * (P + x - 1) / d + 256 * m = 256 * (m * d + P + x - 1) / d := by
  have e : 256 * (m * d + P + x - 1) = 256 * (P + x - 1) + 256 * m * d := by rw [Int.mul_assoc]; omega
  rw [e, Int.add_mul_ediv_right _ _ (by omega)]
theorem shift_hi (m d P x : Int) (hd : 0 < d) : -(-(256 * (P + x)) / d) + 256 * m = -(-(256 * (m * d + P + x)) / d) := by
  have e : -(256 * (m * d + P + x)) = -(256 * (P + x)) + -(256 * m) * d := by rw [Int.neg_mul, Int.mul_assoc]; omega
  rw [e, Int.add_mul_ediv_right _ _ (by omega)]
  omega
theorem div_room (y d : Int) (hd : 0 < d) (h0 : 0 ≤ y) (h1 : y ≤ 65536 * d) : (0 ≤ y / d ∧ y / d ≤ 65536) ∧ (0 ≤ -(-y / d) ∧ -(-y / d) ≤ 65536) := by
  have a1 := Int.ediv_nonneg h0 (Int.le_of_lt hd)
  have a2 := Int.ediv_le_of_le_mul hd h1
  have a3 : -y / d ≤ 0 := Int.ediv_le_of_le_mul hd (by omega)
  have a4 : -65536 ≤ -y / d := Int.le_ediv_of_mul_le hd (by omega)
  omega
theorem time_delay (zs : List Int) (hok : okZ zs) (m : Nat) (hm : 0 < m) (b : Int) (hok' : okZ (laZ zs m b)) (fr to pk : Nat) (lv tp tp' : Int) (hg : goodE zs zs.length ⟨fr, to, pk, lv, tp⟩) (hb : begE zs fr lv) (hlv : b < lv) :
    ∃ lo hi cc lo' hi', (∀ (A : Option Addr) (n c : Nat) (w : World), IW w w.heap.size (.slice A n c) zs → Calls Try.prog 22 #[.slice A n c, .agg #[.int .i64 (fr : Int), .int .i64 (to : Int), .int .i64 (pk : Int), .int .i64 lv, .int .i64 tp]] w (RetSE w lo hi cc)) ∧
      (∀ (A : Option Addr) (n c : Nat) (w : World), IW w w.heap.size (.slice A n c) (laZ zs m b) → Calls Try.prog 22 #[.slice A n c, .agg #[.int .i64 ((m + fr : Nat) : Int), .int .i64 ((m + to : Nat) : Int), .int .i64 ((m + pk : Nat) : Int), .int .i64 lv, .int .i64 tp']] w (RetSE w lo' hi' 0)) ∧
      ((cc = 0 ∧ lo + 256 * (m : Int) = lo' ∧ hi + 256 * (m : Int) = hi' ∧ -1048576 ≤ lo ∧ lo ≤ 1048576 ∧ -1048576 ≤ hi ∧ hi ≤ 1048576) ∨ (cc = 32 ∧ fr = 0)) := by
  obtain ⟨g1, g2, g3, g4, g5⟩ := hg
  simp only at g1 g2 g3 g4
  have e : fr + (pk - fr) = pk := by omega
  obtain ⟨i, i1, i2, i3, i4⟩ := first_high (zs := zs) (lv := lv) (fr := fr) (pk - fr) (by rw [e]; exact g4)
  have i5 : i < to := by omega
  have u1 : ith (laZ zs m b) (m + i) = ith zs i := ith_la zs m b i
  have j4 : ∀ j, m + fr ≤ j → j < m + i → ith (laZ zs m b) j < lv := fun j h1 h2 => by
    obtain ⟨k, rfl⟩ : ∃ k, j = m + k := ⟨j - m, by omega⟩
    rw [ith_la]
    exact i4 k (by omega) (by omega)
  have j3 : lv ≤ ith (laZ zs m b) (m + i) := by omega
  have hlen := laZ_len zs m b
  have hz := hok.1
  have b1 := hok.ith (j := i) (by omega)
  rcases Nat.eq_zero_or_pos i with h0 | h0
  · subst h0
    have hf : fr = 0 := by omega
    have u2 : ith (laZ zs m b) (m + 0 - 1) = b := ith_la0 (by omega)
    have r2 := fun (A : Option Addr) (n c : Nat) (w : World) (hx : IW w w.heap.size (.slice A n c) (laZ zs m b)) =>
      time_raw (laZ zs m b) hok' (m + fr) (m + to) (m + 0) ((m + pk : Nat) : Int) lv tp' A n c w hx (by omega) (by rw [hx.len, hlen]; omega) (by omega) (by omega) (by omega) j4 j3 (by omega)
    exact ⟨0, 0, 32, _, _, fun A n c w hx => time_cut0 zs hok fr to 0 (pk : Int) lv tp A n c w hx (by omega) (by rw [hx.len]; exact g3) i1 i5 rfl i4 i3, r2, .inr ⟨rfl, hf⟩⟩
  · have hq : ith zs (i - 1) < lv := by
      by_cases h1 : fr < i
      · exact i4 (i - 1) (by omega) (by omega)
      · obtain rfl : i = fr := by omega
        rcases hb with hb | hb | hb
        · omega
        · exact hb
        · omega
    have e2 : m + i - 1 = m + (i - 1) := by omega
    have u2 : ith (laZ zs m b) (m + i - 1) = ith zs (i - 1) := by rw [e2]; exact ith_la zs m b (i - 1)
    have b2 := hok.ith (j := i - 1) (by omega)
    obtain ⟨J, hJ⟩ : ∃ J, i - 1 = J := ⟨_, rfl⟩
    have r1 := fun (A : Option Addr) (n c : Nat) (w : World) (hx : IW w w.heap.size (.slice A n c) zs) =>
      time_raw zs hok fr to i (pk : Int) lv tp A n c w hx (by omega) (by rw [hx.len]; exact g3) i1 i5 h0 i4 i3 hq
    have r2 := fun (A : Option Addr) (n c : Nat) (w : World) (hx : IW w w.heap.size (.slice A n c) (laZ zs m b)) =>
      time_raw (laZ zs m b) hok' (m + fr) (m + to) (m + i) ((m + pk : Nat) : Int) lv tp' A n c w hx (by omega) (by rw [hx.len, hlen]; omega) (by omega) (by omega) (by omega) j4 j3 (by omega)
    rw [e2] at r2
    have u2' : ith (laZ zs m b) (m + (i - 1)) = ith zs (i - 1) := by rw [← e2]; exact u2
    rw [u1, u2'] at r2
    rw [hJ] at r1 r2 hq b2
    obtain ⟨s, hs⟩ : ∃ s, ith zs i = s := ⟨_, rfl⟩
    obtain ⟨q, hqd⟩ : ∃ q, ith zs J = q := ⟨_, rfl⟩
    rw [hs] at r1 r2 i3 b1
    rw [hqd] at r1 r2 hq b2
    have hd : 0 < s - q := by omega
    have hJb : (J : Int) ≤ 255 := by omega
    obtain ⟨D, hD⟩ : ∃ D, s - q = D := ⟨_, rfl⟩
    have eJ : ((m + J : Nat) : Int) * D = (m : Int) * D + (J : Int) * D := by rw [Int.natCast_add, Int.add_mul]
    rw [hD] at r1 r2 hd
    rw [eJ] at r2
    obtain ⟨P, hP⟩ : ∃ P, (J : Int) * D = P := ⟨_, rfl⟩
    have hP0 : 0 ≤ P := by rw [← hP]; exact Int.mul_nonneg (by omega) (by omega)
    have hP1 : P ≤ 255 * D := by rw [← hP]; exact Int.mul_le_mul_of_nonneg_right hJb (by omega)
    rw [hP] at r1 r2
    have q1 := shift_lo (m : Int) D P (lv - q) hd
    have q2 := shift_hi (m : Int) D P (lv - q) hd
    have w1 := (div_room (256 * (P + (lv - q) - 1)) D hd (by omega) (by omega)).1
    have w2 := (div_room (256 * (P + (lv - q))) D hd (by omega) (by omega)).2
    exact ⟨_, _, 0, _, _, r1, r2, .inl ⟨rfl, q1, q2, by omega, by omega, by omega, by omega⟩⟩
end Go.Proofs.Ytkcagifljelfoaa
