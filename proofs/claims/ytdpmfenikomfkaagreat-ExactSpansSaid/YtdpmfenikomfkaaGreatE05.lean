/-
  The document's numbers on limbs of 16 bits: differences.
  The document's numbers on limbs of 16 bits: products.
-/
import Derived.Test.YtdpmfenikomfkaaGreatE04
namespace Go.Proofs.YtdpmfenikomfkaaGreat
open Go.RowKit

theorem less_step {X Y O : List Nat} {k br br2 lo : Nat} (hO : O.length = k) (h : val16 O + val16 (Y.take k) = val16 (X.take k) + B16 ^ k * br) (hs : lo + nth Y k + br = nth X k + B16 * br2) :
    val16 (O ++ [lo]) + val16 (Y.take (k + 1)) = val16 (X.take (k + 1)) + B16 ^ (k + 1) * br2 := by
  have e : B16 ^ k * (lo + nth Y k + br) = B16 ^ k * (nth X k + B16 * br2) := by rw [hs]
  rw [Nat.mul_add, Nat.mul_add, Nat.mul_add, ← Nat.mul_assoc, ← Nat.pow_succ, Nat.succ_eq_add_one] at e
  rw [val16_append, hO, val16_take_any, val16_take_any, val16_cons, val16_nil, Nat.mul_zero, Nat.add_zero]
  omega
theorem less_end {a b br : Nat} {O : List Nat} {n : Nat} (hab : b ≤ a) (hn : (words16 a).length = n) (hO : O.length = n) (hok : AllOk16 O) (h : val16 O + val16 ((words16 b).take n) = val16 ((words16 a).take n) + B16 ^ n * br) : val16 O = a - b := by
  have hl : (words16 b).length ≤ n := by rw [← hn]; exact words16_len_mono hab
  rw [List.take_of_length_le hl, List.take_of_length_le (by omega), val16_words16, val16_words16] at h
  have h1 := val16_lt O hok
  rw [hO] at h1
  rcases Nat.eq_zero_or_pos br with h0 | h0
  · subst h0; omega
  · have : B16 ^ n * 1 ≤ B16 ^ n * br := Nat.mul_le_mul_left _ h0
    omega

def LsR (X Y : List Nat) (w : World) (ov cv iv : Value) (wr : World) : Prop :=
  ∃ (k br : Nat) (O : List Nat), iv = .int .i64 (k : Int) ∧ cv = .int .i64 (br : Int) ∧ k ≤ X.length ∧ br ≤ 1 ∧
    Hid (QO wr w.heap.size ov O ∧ O.length = k ∧ AllOk16 O ∧ val16 O + val16 (Y.take k) = val16 (X.take k) + B16 ^ k * br) ∧ Below w.heap.size w wr

set_option maxRecDepth 100000 in
set_option maxHeartbeats 2000000 in
theorem dless_any (a b : Nat) (hab : b ≤ a) (A1 A2 : Option Addr) (n m c1 c2 B : Nat) (w : World) (hx : RW .i64 w B (.slice A1 n c1) (words16 a)) (hy : RW .i64 w B (.slice A2 m c2) (words16 b)) (hB : B ≤ w.heap.size) (hn : n ≤ 1000000) :
    Calls Tryz.prog 56 #[.slice A1 n c1, .slice A2 m c2] w (RetQn w (a - b)) := by
  obtain ⟨i0, hi0, hz0, hz1, hz2⟩ := info_parts infoQ
  have HXL := Lib.hid hx.len
  have HYL := Lib.hid hy.len
  have hm : m ≤ 9223372036854775807 := by have := hy.cap; unfold maxLen at this; omega
  have HX := Lib.hid (And.intro hx hy)
  clear hx hy
  go_enter Tryz.func56, Tryz.ntmps56
  go_wp2
  go_loopw [5, 6, 7] (fun ov cv iv wr => LsR (words16 a) (words16 b) w ov cv iv wr) (fun _ _ iv _ => n - (numQ iv).toNat)
  case atStart => exact ⟨0, 0, [], rfl, rfl, by omega, by omega, Lib.hid ⟨QO.nil_ _ _, rfl, AllOk16.nil, by simp [val16_nil]⟩, Below.refl _ _⟩
  case round =>
    obtain ⟨k, br, O, rfl, rfl, hk, hcy, hT, hbr⟩ := hrel
    have hk2 : k ≤ n := by rw [HXL.out]; exact hk
    clear hk
    by_cases hkn : k < n
    · obtain ⟨x, hxx⟩ : ∃ x, nth (words16 a) k = x := ⟨_, rfl⟩
      obtain ⟨y, hyy⟩ : ∃ y, nth (words16 b) k = y := ⟨_, rfl⟩
      have hxb : x < 65536 := by rw [← hxx]; exact nth_ok16 (words16_ok a) k
      have hyb : y < 65536 := by rw [← hyy]; exact nth_ok16 (words16_ok b) k
      have HXY := Lib.hid (And.intro hxx hyy)
      clear hxx hyy
      obtain ⟨b1, o1, rfl, hb1, hc1⟩ := HX.out.1.at_ (by omega)
      have hx1 := (hbr.cell (p := ⟨b1, o1 + k, none⟩) (by show b1 < w.heap.size; omega)).trans (hc1 k hkn)
      rw [HXY.out.1] at hx1
      clear hc1
      by_cases hkm : k < m
      · by_cases hneg : (x : Int) - (br : Int) - (y : Int) < 0
        · skip
          obtain ⟨b2, o2, rfl, hb2, hc2⟩ := HX.out.2.at_ (by omega)
          have hy1 := (hbr.cell (p := ⟨b2, o2 + k, none⟩) (by show b2 < w.heap.size; omega)).trans (hc2 k hkm)
          rw [HXY.out.2] at hy1
          clear hc2
          obtain ⟨lo, hlo⟩ : ∃ lo : Nat, (x : Int) - (br : Int) - (y : Int) + 65536 = (lo : Int) := ⟨((x : Int) - (br : Int) - (y : Int) + 65536).toNat, by omega⟩
          have hlob : lo < 65536 := by omega
          have HS := Lib.hid (show lo + nth (words16 b) k + br = nth (words16 a) k + B16 * 1 by rw [HXY.out.1, HXY.out.2, B16_eq]; omega)
          have hbs := hbr.size
          have hown : wr.ownsRow w.heap.size 3 1 u5 O.length (qs O) := hT.out.1
          obtain ⟨F, hF⟩ : ∃ F, qs O = F := ⟨_, rfl⟩
          rw [hT.out.2.1, hF] at hown
          have HF := Lib.hid (And.intro hT.out.2.1 hF)
          have HBR := Lib.hid hbr
          have HC := Lib.hid (laidq wr 3 lo)
          clear hF hbr
          go_wp2_with (at_builtin
                       refine wpList_append_own_at _ rfl (.tmp 35) (.tmp 37) _ rfl w.heap.size 3 i0 _ 1 8 Tryz.underlying36 hi0 hz0 hz1 hz2 rfl (by decide) _ k _ rfl (hown.alloc _) ⟨wr.heap.size, 0, none⟩ 1 1 [.int .i64 (lo : Int)] rfl rfl HC.out (by intro u hu; simp at hu; subst hu; rfl) (by unfold maxLen; omega) (by omega) (by simp; omega) ?_)
          intro v' w2 ho hg _ _
          have HG := Lib.hid (QO.grows hT.out.1 HBR.out _ HF.out ho hg)
          clear ho hg hown
          go_wp2
          go_roundw
          case rel =>
            exact ⟨k + 1, 1, O ++ [lo], by simp, rfl, by have h1 := HXL.out; omega, by omega, Lib.hid ⟨HG.out.1, by rw [List.length_append, HF.out.1]; rfl, hT.out.2.2.1.append (fun z hz => by rw [List.mem_singleton.1 hz, B16_eq]; exact hlob), less_step HF.out.1 hT.out.2.2.2 HS.out⟩, HG.out.2⟩
          case measure => simp [numQ]; omega
        · skip
          obtain ⟨b2, o2, rfl, hb2, hc2⟩ := HX.out.2.at_ (by omega)
          have hy1 := (hbr.cell (p := ⟨b2, o2 + k, none⟩) (by show b2 < w.heap.size; omega)).trans (hc2 k hkm)
          rw [HXY.out.2] at hy1
          clear hc2
          obtain ⟨lo, hlo⟩ : ∃ lo : Nat, (x : Int) - (br : Int) - (y : Int) = (lo : Int) := ⟨((x : Int) - (br : Int) - (y : Int)).toNat, by omega⟩
          have hlob : lo < 65536 := by omega
          have HS := Lib.hid (show lo + nth (words16 b) k + br = nth (words16 a) k + B16 * 0 by rw [HXY.out.1, HXY.out.2, B16_eq]; omega)
          have hbs := hbr.size
          have hown : wr.ownsRow w.heap.size 3 1 u5 O.length (qs O) := hT.out.1
          obtain ⟨F, hF⟩ : ∃ F, qs O = F := ⟨_, rfl⟩
          rw [hT.out.2.1, hF] at hown
          have HF := Lib.hid (And.intro hT.out.2.1 hF)
          have HBR := Lib.hid hbr
          have HC := Lib.hid (laidq wr 3 lo)
          clear hF hbr
          go_wp2_with (at_builtin
                       refine wpList_append_own_at _ rfl (.tmp 35) (.tmp 37) _ rfl w.heap.size 3 i0 _ 1 8 Tryz.underlying36 hi0 hz0 hz1 hz2 rfl (by decide) _ k _ rfl (hown.alloc _) ⟨wr.heap.size, 0, none⟩ 1 1 [.int .i64 (lo : Int)] rfl rfl HC.out (by intro u hu; simp at hu; subst hu; rfl) (by unfold maxLen; omega) (by omega) (by simp; omega) ?_)
          intro v' w2 ho hg _ _
          have HG := Lib.hid (QO.grows hT.out.1 HBR.out _ HF.out ho hg)
          clear ho hg hown
          go_wp2
          go_roundw
          case rel =>
            exact ⟨k + 1, 0, O ++ [lo], by simp, rfl, by have h1 := HXL.out; omega, by omega, Lib.hid ⟨HG.out.1, by rw [List.length_append, HF.out.1]; rfl, hT.out.2.2.1.append (fun z hz => by rw [List.mem_singleton.1 hz, B16_eq]; exact hlob), less_step HF.out.1 hT.out.2.2.2 HS.out⟩, HG.out.2⟩
          case measure => simp [numQ]; omega
      · by_cases hneg : (x : Int) - (br : Int) < 0
        · skip
          have hy0 : y = 0 := by rw [← HXY.out.2]; exact nth_ge (by rw [← HYL.out]; omega)
          subst hy0
          obtain ⟨lo, hlo⟩ : ∃ lo : Nat, (x : Int) - (br : Int) + 65536 = (lo : Int) := ⟨((x : Int) - (br : Int) + 65536).toNat, by omega⟩
          have hlob : lo < 65536 := by omega
          have HS := Lib.hid (show lo + nth (words16 b) k + br = nth (words16 a) k + B16 * 1 by rw [HXY.out.1, HXY.out.2, B16_eq]; omega)
          have hbs := hbr.size
          have hown : wr.ownsRow w.heap.size 3 1 u5 O.length (qs O) := hT.out.1
          obtain ⟨F, hF⟩ : ∃ F, qs O = F := ⟨_, rfl⟩
          rw [hT.out.2.1, hF] at hown
          have HF := Lib.hid (And.intro hT.out.2.1 hF)
          have HBR := Lib.hid hbr
          have HC := Lib.hid (laidq wr 3 lo)
          clear hF hbr
          go_wp2_with (at_builtin
                       refine wpList_append_own_at _ rfl (.tmp 35) (.tmp 37) _ rfl w.heap.size 3 i0 _ 1 8 Tryz.underlying36 hi0 hz0 hz1 hz2 rfl (by decide) _ k _ rfl (hown.alloc _) ⟨wr.heap.size, 0, none⟩ 1 1 [.int .i64 (lo : Int)] rfl rfl HC.out (by intro u hu; simp at hu; subst hu; rfl) (by unfold maxLen; omega) (by omega) (by simp; omega) ?_)
          intro v' w2 ho hg _ _
          have HG := Lib.hid (QO.grows hT.out.1 HBR.out _ HF.out ho hg)
          clear ho hg hown
          go_wp2
          go_roundw
          case rel =>
            exact ⟨k + 1, 1, O ++ [lo], by simp, rfl, by have h1 := HXL.out; omega, by omega, Lib.hid ⟨HG.out.1, by rw [List.length_append, HF.out.1]; rfl, hT.out.2.2.1.append (fun z hz => by rw [List.mem_singleton.1 hz, B16_eq]; exact hlob), less_step HF.out.1 hT.out.2.2.2 HS.out⟩, HG.out.2⟩
          case measure => simp [numQ]; omega
        · skip
          have hy0 : y = 0 := by rw [← HXY.out.2]; exact nth_ge (by rw [← HYL.out]; omega)
          subst hy0
          obtain ⟨lo, hlo⟩ : ∃ lo : Nat, (x : Int) - (br : Int) = (lo : Int) := ⟨((x : Int) - (br : Int)).toNat, by omega⟩
          have hlob : lo < 65536 := by omega
          have HS := Lib.hid (show lo + nth (words16 b) k + br = nth (words16 a) k + B16 * 0 by rw [HXY.out.1, HXY.out.2, B16_eq]; omega)
          have hbs := hbr.size
          have hown : wr.ownsRow w.heap.size 3 1 u5 O.length (qs O) := hT.out.1
          obtain ⟨F, hF⟩ : ∃ F, qs O = F := ⟨_, rfl⟩
          rw [hT.out.2.1, hF] at hown
          have HF := Lib.hid (And.intro hT.out.2.1 hF)
          have HBR := Lib.hid hbr
          have HC := Lib.hid (laidq wr 3 lo)
          clear hF hbr
          go_wp2_with (at_builtin
                       refine wpList_append_own_at _ rfl (.tmp 35) (.tmp 37) _ rfl w.heap.size 3 i0 _ 1 8 Tryz.underlying36 hi0 hz0 hz1 hz2 rfl (by decide) _ k _ rfl (hown.alloc _) ⟨wr.heap.size, 0, none⟩ 1 1 [.int .i64 (lo : Int)] rfl rfl HC.out (by intro u hu; simp at hu; subst hu; rfl) (by unfold maxLen; omega) (by omega) (by simp; omega) ?_)
          intro v' w2 ho hg _ _
          have HG := Lib.hid (QO.grows hT.out.1 HBR.out _ HF.out ho hg)
          clear ho hg hown
          go_wp2
          go_roundw
          case rel =>
            exact ⟨k + 1, 0, O ++ [lo], by simp, rfl, by have h1 := HXL.out; omega, by omega, Lib.hid ⟨HG.out.1, by rw [List.length_append, HF.out.1]; rfl, hT.out.2.2.1.append (fun z hz => by rw [List.mem_singleton.1 hz, B16_eq]; exact hlob), less_step HF.out.1 hT.out.2.2.2 HS.out⟩, HG.out.2⟩
          case measure => simp [numQ]; omega
    · obtain rfl : k = n := by omega
      have hT2 := hT.out
      have hO := hT2.1.reads
      obtain ⟨AO, cO, hvO, hnz⟩ := hT2.1.form
      subst hvO
      have HO := Lib.hid hO
      have HNZ := Lib.hid hnz
      clear hnz
      have HBR := Lib.hid hbr
      have HV := Lib.hid (less_end hab HXL.out.symm hT2.2.1 hT2.2.2.1 hT2.2.2.2)
      have HOK := Lib.hid hT2.2.2.1
      clear hT2 hO hbr
      go_wp2_with fail
      refine (dtrim_any O AO O.length cO wr.heap.size _ HO.out).mono ?_
      rintro en w2 ⟨rfl, rfl⟩
      go_wp2
      go_ret
      refine ⟨_, _, _, rfl, ?_, HNZ.out, HBR.out⟩
      have := dtrim_limbs HO.out HOK.out
      rwa [HV.out] at this
end Go.Proofs.YtdpmfenikomfkaaGreat

namespace Go.Proofs.YtdpmfenikomfkaaGreat
open Go.RowKit

theorem val16_put : ∀ (xs : List Nat) (i x : Nat), i < xs.length → val16 (xs.set i x) + B16 ^ i * nth xs i = val16 xs + B16 ^ i * x
  | [], i, x, h => absurd h (by simp)
  | y :: ys, 0, x, h => by
    simp only [List.set_cons_zero, val16_cons, Nat.pow_zero, Nat.one_mul]
    have : nth (y :: ys) 0 = y := rfl
    omega
  | y :: ys, i + 1, x, h => by
    have ih := val16_put ys i x (by simpa using h)
    have e : nth (y :: ys) (i + 1) = nth ys i := rfl
    rw [List.set_cons_succ, val16_cons, val16_cons, e, Nat.pow_succ, Nat.mul_comm (B16 ^ i) B16, Nat.mul_assoc, Nat.mul_assoc]
    have e2 := congrArg (B16 * ·) ih
    simp only [Nat.mul_add] at e2
    omega

/-- One limb of a row of a product. -/
theorem times_in {L Y : List Nat} {V K cy s x i j : Nat} (hl : i + j < L.length) (h : val16 L + B16 ^ (i + j) * cy = V + B16 ^ i * (x * val16 (Y.take j))) (hs : s = x * nth Y j + nth L (i + j) + cy) :
    val16 (L.set (i + j) (s % B16)) + B16 ^ (i + (j + 1)) * (s / B16) = V + B16 ^ i * (x * val16 (Y.take (j + 1))) := by
  have h1 := val16_put L (i + j) (s % B16) hl
  have h2 : B16 ^ (i + j) * (s % B16) + B16 ^ (i + (j + 1)) * (s / B16) = B16 ^ (i + j) * s := by
    rw [show i + (j + 1) = (i + j) + 1 from rfl, Nat.pow_succ, Nat.mul_assoc, ← Nat.mul_add, Nat.mod_add_div]
  have h3 : B16 ^ (i + j) * s = B16 ^ (i + j) * (x * nth Y j) + B16 ^ (i + j) * nth L (i + j) + B16 ^ (i + j) * cy := by rw [hs, Nat.mul_add, Nat.mul_add]
  have h4 : B16 ^ i * (x * val16 (Y.take (j + 1))) = B16 ^ i * (x * val16 (Y.take j)) + B16 ^ (i + j) * (x * nth Y j) := by
    rw [val16_take_any, Nat.mul_add, Nat.mul_add, Nat.pow_add]
    congr 1
    rw [Nat.mul_left_comm x, ← Nat.mul_assoc, ← Nat.mul_assoc]
  omega
theorem times_out {L Y X : List Nat} {cy x i m : Nat} (hl : i + m < L.length) (hy : Y.length = m) (hx : nth X i = x) (hz : nth L (i + m) = 0) (h : val16 L + B16 ^ (i + m) * cy = val16 (X.take i) * val16 Y + B16 ^ i * (x * val16 (Y.take m))) :
    val16 (L.set (i + m) cy) = val16 (X.take (i + 1)) * val16 Y := by
  have h1 := val16_put L (i + m) cy hl
  rw [hz, Nat.mul_zero, Nat.add_zero] at h1
  rw [h1, h, show Y.take m = Y from List.take_of_length_le (by omega), val16_take_any, hx, Nat.add_mul, Nat.mul_assoc]

def TmR (X Y : List Nat) (n m : Nat) (w : World) (iv : Value) (wr : World) : Prop :=
  ∃ (i : Nat) (L : List Nat), i ≤ n ∧ iv = .int .i64 (i : Int) ∧ Hid (L.length = n + m ∧ AllOk16 L ∧ Row .i64 wr w.heap.size 3 L ∧ val16 L = val16 (X.take i) * val16 Y ∧ ∀ p, i + m ≤ p → nth L p = 0) ∧ Below w.heap.size w wr
def TjR (Y : List Nat) (V x i n m : Nat) (w : World) (cv jv : Value) (wr : World) : Prop :=
  ∃ (j cy : Nat) (L : List Nat), j ≤ m ∧ jv = .int .i64 (j : Int) ∧ cv = .int .i64 (cy : Int) ∧ cy < 65536 ∧
    Hid (L.length = n + m ∧ AllOk16 L ∧ Row .i64 wr w.heap.size 3 L ∧ val16 L + B16 ^ (i + j) * cy = V + B16 ^ i * (x * val16 (Y.take j)) ∧ ∀ p, i + m ≤ p → nth L p = 0) ∧ Below w.heap.size w wr

set_option maxRecDepth 100000 in
set_option maxHeartbeats 2000000 in
theorem dtimes_any (a b : Nat) (A1 A2 : Option Addr) (n m c1 c2 B : Nat) (w : World) (hx : RW .i64 w B (.slice A1 n c1) (words16 a)) (hy : RW .i64 w B (.slice A2 m c2) (words16 b)) (hB : B ≤ w.heap.size) (hn : n ≤ 1000000) (hm : m ≤ 1000000) :
    Calls Tryz.prog 33 #[.slice A1 n c1, .slice A2 m c2] w (RetQn w (a * b)) := by
  obtain ⟨i0, hi0, hz0, hz1, hz2⟩ := info_parts infoQ
  have HXL := Lib.hid hx.len
  have HYL := Lib.hid hy.len
  have HX := Lib.hid (And.intro hx hy)
  clear hx hy
  go_enter Tryz.func33, Tryz.ntmps33
  go_wp2_with (at_make
               refine wpList_make_full _ rfl (.tmp 14) (.tmp 14) _ rfl w.heap.size 3 i0 _ 1 Tryz.underlying36 hi0 hz0 hz1 .i64 .i64 _ _ (n + m) rfl rfl (by omega) (by omega) (by rw [hz2]; omega) (by unfold maxLen; omega) (Nat.le_refl _) ?_
               intro w1 hown hg1
               have hb1 : Below w.heap.size w w1 := (Below.refl _ _).grown hg1 (Nat.le_refl _) (by simp)
               have hrow := row_of_made hown
               have HRO := Lib.hid (And.intro hrow hb1)
               clear hown hg1 hrow hb1)
  go_loopw [6] (fun iv wr => TmR (words16 a) (words16 b) n m w iv wr) (fun iv _ => n - (numQ iv).toNat)
  case atStart =>
    refine ⟨0, _, Nat.zero_le _, rfl, Lib.hid ⟨by simp, AllOk16.zeros _, HRO.out.1, ?_, ?_⟩, HRO.out.2⟩
    · rw [val16_zeros_n]; simp [val16_nil]
    · intro j _; unfold nth; simp [List.getD_eq_getElem?_getD, List.getElem?_replicate]; split <;> rfl
  case round =>
    obtain ⟨wo, hwo⟩ : ∃ x, x = wr := ⟨_, rfl⟩
    subst hwo
    obtain ⟨i, L0, hi, rfl, hT, hbr⟩ := hrel
    by_cases hlt : i < n
    · obtain ⟨x, hxx⟩ : ∃ x, nth (words16 a) i = x := ⟨_, rfl⟩
      have hxb : x < 65536 := by rw [← hxx]; exact nth_ok16 (words16_ok a) i
      obtain ⟨b1, o1, rfl, hb1, hc1⟩ := HX.out.1.at_ (by omega)
      have hcx := hc1 i hlt
      rw [hxx] at hcx
      have HXX := Lib.hid (And.intro hxx hcx)
      obtain ⟨V, hV⟩ : ∃ V, val16 ((words16 a).take i) * val16 (words16 b) = V := ⟨_, rfl⟩
      have HV := Lib.hid hV
      have HBR := Lib.hid hbr
      have HT0 : Hid (TjR (words16 b) V x i n m w (.int .i64 0) (.int .i64 0) wo) := by
        obtain ⟨h1, h2, h3, h4, h5⟩ := hT.out
        exact ⟨0, 0, L0, Nat.zero_le _, rfl, rfl, by omega, Lib.hid ⟨h1, h2, h3, by rw [h4, hV]; simp [val16_nil], h5⟩, hbr⟩
      clear hxx hcx hc1 hV hbr hT
      go_wp2
      go_loopw [7, 8] (fun cv jv wr => TjR (words16 b) V x i n m w cv jv wr) (fun _ jv _ => m - (numQ jv).toNat)
      case atStart => exact HT0.out
      case round =>
        obtain ⟨j, cy, L, hj, rfl, rfl, hcy, hT, hbr⟩ := hrel
        have hgs := hT.out.2.2.1.frozen
        by_cases hjm : j < m
        · obtain ⟨y, hyy⟩ : ∃ y, nth (words16 b) j = y := ⟨_, rfl⟩
          have hyb : y < 65536 := by rw [← hyy]; exact nth_ok16 (words16_ok b) j
          obtain ⟨b2, o2, rfl, hb2, hc2⟩ := HX.out.2.at_ (by omega)
          have hx1 := (hbr.cell (p := ⟨b1, o1 + i, none⟩) (by show b1 < w.heap.size; omega)).trans HXX.out.2
          have hy1 := (hbr.cell (p := ⟨b2, o2 + j, none⟩) (by show b2 < w.heap.size; omega)).trans (hc2 j hjm)
          rw [hyy] at hy1
          obtain ⟨p, hp⟩ : ∃ p, i + j = p := ⟨_, rfl⟩
          have hpl : p < L.length := by rw [hT.out.1]; omega
          have hpn : p < n + m := by omega
          have hlc := hT.out.2.2.1.cell hpl
          obtain ⟨lp, hlp⟩ : ∃ lp, nth L p = lp := ⟨_, rfl⟩
          have hlpb : lp < 65536 := by rw [← hlp]; exact nth_ok16 hT.out.2.1 p
          rw [hlp] at hlc
          obtain ⟨q, hq⟩ : ∃ q, x * y = q := ⟨_, rfl⟩
          have hqb : q ≤ 65535 * 65535 := by rw [← hq]; exact Nat.mul_le_mul (by omega) (by omega)
          have hqi : (x : Int) * (y : Int) = (q : Int) := by rw [← hq]; simp
          obtain ⟨s, hs⟩ : ∃ s, q + lp + cy = s := ⟨_, rfl⟩
          have hsi : (q : Int) + (lp : Int) + (cy : Int) = (s : Int) := by omega
          have hql : (q : Int) + (lp : Int) = ((q + lp : Nat) : Int) := by omega
          have hpi : (i : Int) + (j : Int) = (p : Int) := by omega
          have HS := Lib.hid (show s = x * nth (words16 b) j + nth L (i + j) + cy by rw [hyy, hp, hlp, hq]; exact hs.symm)
          have hsb : s < 4294967296 := by omega
          obtain ⟨lo, hlo⟩ : ∃ lo, s % 65536 = lo := ⟨_, rfl⟩
          obtain ⟨hh, hhh⟩ : ∃ hh, s / 65536 = hh := ⟨_, rfl⟩
          have hlob : lo < 65536 := by omega
          have hhb : hh < 65536 := by omega
          have hmod : (s : Int) % 65536 = (lo : Int) := by omega
          have hdiv : (s : Int) / 65536 = (hh : Int) := by omega
          have HLH := Lib.hid (And.intro hlo (And.intro hhh (And.intro hp hpl)))
          have HBR2 := Lib.hid hbr
          have hlc2 : wr.cell? ⟨w.heap.size, p, none⟩ = some (.int .i64 (lp : Int)) := hlc
          clear hyy hc2 hp hlp hq hs hlo hhh hbr hlc hql
          go_wp2
          go_region
          all_goals
            go_wp2
            go_roundw
            case rel =>
              obtain ⟨t1, t2, t3, t4, t5⟩ := hT.out
              refine ⟨j + 1, hh, L.set p lo, by omega, by simp, rfl, hhb, Lib.hid ⟨by rw [List.length_set]; exact t1, t2.set (by rw [B16_eq]; exact hlob), ?_, ?_, ?_⟩, ?_⟩
              · first
                  | exact (t3.set p lo).drew
                  | exact t3.drew.set p lo
              · have h := times_in (K := 0) (by rw [HLH.out.2.2.1]; exact HLH.out.2.2.2) t4 HS.out
                rw [HLH.out.2.2.1, show s % B16 = lo from HLH.out.1, show s / B16 = hh from HLH.out.2.1] at h
                exact h
              · intro p' hp'
                rw [nth_set, if_neg (by have := HLH.out.2.2.1; omega)]
                exact t5 p' hp'
              · first
                  | exact (Below.setCell (p := ⟨w.heap.size, p, none⟩) HBR2.out (Nat.le_refl _) _).drew
                  | exact Below.setCell (p := ⟨w.heap.size, p, none⟩) HBR2.out.drew (Nat.le_refl _) _
            case measure => simp [numQ]; omega
        · obtain rfl : j = m := by omega
          obtain ⟨t1, t2, t3, t4, t5⟩ := hT.out
          obtain ⟨p, hp⟩ : ∃ p, i + j = p := ⟨_, rfl⟩
          have hpl : p < L.length := by rw [t1]; omega
          have hpn : p < n + j := by omega
          have hlc : wr.cell? ⟨w.heap.size, p, none⟩ = some (.int .i64 (0 : Int)) := by
            have h := t3.cell hpl
            rwa [t5 p (by omega)] at h
          have hpi : (i : Int) + (j : Int) = (p : Int) := by omega
          have HBR2 := Lib.hid hbr
          have HP := Lib.hid (And.intro hp hpl)
          clear t1 t2 t3 t4 t5 hp hpl hbr
          go_wp2
          go_roundw
          case rel =>
            obtain ⟨t1, t2, t3, t4, t5⟩ := hT.out
            refine ⟨i + 1, L.set p cy, by omega, by simp, Lib.hid ⟨by rw [List.length_set]; exact t1, t2.set (by rw [B16_eq]; exact hcy), t3.set p cy, ?_, ?_⟩, Below.setCell (p := ⟨w.heap.size, p, none⟩) HBR2.out (Nat.le_refl _) _⟩
            · have h := times_out (X := words16 a) (by rw [HP.out.1]; exact HP.out.2) HYL.out.symm HXX.out.1 (t5 _ (Nat.le_refl _)) (by rw [HV.out]; exact t4)
              rwa [HP.out.1] at h
            · intro p' hp'
              rw [nth_set, if_neg (by have := HP.out.1; omega)]
              exact t5 p' (by omega)
          case measure => simp [numQ]; omega
    · obtain rfl : i = n := by omega
      obtain ⟨t1, t2, t3, t4, t5⟩ := hT.out
      have hrw : RW .i64 wo wo.heap.size (.slice (some ⟨w.heap.size, 0, none⟩) (i + m) (i + m)) L0 := RW.of_row0 (post := []) (t3.of_eq (by simp)) t1.symm (Nat.le_refl _) (by unfold maxLen; omega) t3.lt
      have HRW := Lib.hid hrw
      have HV : Hid (val16 L0 = a * b) := by
        rw [t4, List.take_of_length_le (by rw [← HXL.out]; omega), val16_words16, val16_words16]
        exact rfl
      have HOK := Lib.hid t2
      have HBR := Lib.hid hbr
      clear hrw t1 t2 t3 t4 t5 hbr
      go_wp2_with fail
      refine (dtrim_any L0 _ (i + m) (i + m) wo.heap.size _ HRW.out).mono ?_
      rintro en w2 ⟨rfl, rfl⟩
      go_wp2
      go_ret
      refine ⟨_, _, _, rfl, ?_, ⟨(fun h => by cases h), fun ad h => by injection h with h; rw [← h]; exact Nat.le_refl _⟩, HBR.out⟩
      have := dtrim_limbs HRW.out HOK.out
      rwa [HV.out] at this
end Go.Proofs.YtdpmfenikomfkaaGreat
