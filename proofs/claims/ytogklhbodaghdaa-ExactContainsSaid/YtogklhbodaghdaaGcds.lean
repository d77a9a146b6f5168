/-
  The greatest common divisor where one of the numbers is one word.
-/
import Derived.Test.YtogklhbodaghdaaSmall
namespace Go.Proofs.Ytogklhbodaghdaa
open Go.RowKit

set_option maxRecDepth 100000 in
set_option maxHeartbeats 1000000 in
theorem gcd_small {a b : Nat} (hb : b < B64) (hab : b ≤ a) (hD : 0 < b → DivOk a b) : GcdAt a b := by
  intro w B A1 A2 n m c1 c2 hx hy hB hn hm
  have HXL := Lib.hid hx.len
  have HYL := Lib.hid hy.len
  have HD := Lib.hid hD
  clear hD
  have hnm : m ≤ n := by rw [HXL.out, HYL.out]; exact words_len_mono hab
  have hlt : ¬ cmpN a b < 0 := by
    rcases Nat.lt_or_ge b a with h | h
    · rw [cmpN_gt h]; omega
    · rw [cmpN_eq (by omega)]; omega
  go_enter Try.func49, Try.ntmps49
  go_wp2_with (first
    | (go_at_call 57; refine (compare_any a b _ _ _ _ _ _ _ _ hx hy).mono ?_; rintro e w' ⟨rfl, q, rfl⟩)
    | fail)
  refine (extended_any A1 n c1 n (words a) B _ (hx.drewN q) hB (Nat.le_refl _) (by omega)).mono ?_
  rintro e w1 ⟨rfl, hr1, hb1⟩
  rw [Nat.sub_self, List.replicate_zero, List.append_nil] at hr1 ⊢
  rw [← HXL.out]
  go_wp2_with fail
  refine (extended_any A2 m c2 n (words b) B _ ((hy.drewN q).belowM hb1 hB) (Nat.le_trans hB hb1.size) hnm (by omega)).mono ?_
  rintro e w2 ⟨rfl, hr2, hb2⟩
  have hlen : (words b ++ List.replicate (n - m) 0).length = n := by rw [List.length_append, List.length_replicate, ← HYL.out]; omega
  rw [hlen]
  have hbelow : Below w.heap.size w w2 := ((below_drewN (Below.refl _ _) q).trans hb1).trans (hb2.mono hb1.size)
  have hrx := hr1.below hb2 hr1.lt
  have hgx : (w.drewN q).heap.size < w2.heap.size := hrx.lt
  have hgy : w1.heap.size < w2.heap.size := hr2.lt
  have hxw : RW .u64 w2 w2.heap.size (.slice (some ⟨(w.drewN q).heap.size, 0, none⟩) n n) (words a) := RW.of_row0 (post := []) (hrx.of_eq (by simp)) HXL.out (Nat.le_refl _) (by unfold maxLen; omega) hgx
  have hyw : RW .u64 w2 w2.heap.size (.slice (some ⟨w1.heap.size, 0, none⟩) n n) (words b ++ List.replicate (n - m) 0) := RW.of_row0 (post := []) (hr2.of_eq (by simp)) hlen.symm (Nat.le_refl _) (by unfold maxLen; omega) hgy
  have htop : top (words b ++ List.replicate (n - m) 0) = (words b).length := by
    rw [top_eq_len _ ((words_ok b).append (AllOk.zeros _)), val_append, val_zeros_n, Nat.mul_zero, Nat.add_zero, val_words]
  have hb1l : (words b).length ≤ 1 := words_length_le b 1 (by rw [Nat.pow_one]; exact hb)
  have HT := Lib.hid htop
  have HL := Lib.hid hlen
  clear htop hlen hrx hr1 hr2
  change RW .u64 w2 w2.heap.size (.slice (some ⟨w.heap.size, 0, none⟩) n n) (words a) at hxw
  obtain ⟨tb, htb⟩ : ∃ tb, tb = top (words b ++ List.replicate (n - m) 0) := ⟨_, rfl⟩
  have HTB := Lib.hid htb
  have htb1 : tb ≤ 1 := by rw [htb, HT.out]; exact hb1l
  clear htb
  by_cases hb0 : b = 0
  · have hz : tb = 0 := by rw [HTB.out, HT.out, hb0, words_zero]; rfl
    have HZ := Lib.hid hz
    have hzb : ((tb : Int) == 0) = true := by rw [hz]; rfl
    have HB0 := Lib.hid hb0
    clear hz hb0
    go_wp2
    go_loopw [0, 1] (fun u v wr => u = .slice (some ⟨w.heap.size, 0, none⟩) n n ∧ v = .slice (some ⟨w1.heap.size, 0, none⟩) n n ∧ wr = w2) (fun _ _ _ => 0)
    case atStart => exact ⟨rfl, rfl, rfl⟩
    case round =>
      obtain ⟨rfl, rfl, rfl⟩ := hrel
      go_wp2_with (go_at_call 56; refine (words64_any _ _ _ _ _ _ hyw).mono ?_; rw [← HTB.out]; rintro e w' ⟨rfl, rfl⟩)
      go_ret
      rw [HB0.out, Nat.gcd_zero_right]
      exact ⟨_, _, _, rfl, hxw, hbelow⟩
  · have hz : tb = 1 := by
      rw [HTB.out, HT.out]
      exact words_len_one.2 ⟨hb0, hb⟩
    have hzb : ((tb : Int) == 0) = false := by rw [hz]; rfl
    have h0b : 0 < b := by omega
    have hn0 : 0 < n := by
      have h3 : (words b).length ≠ 0 := fun e => hb0 (words_len_zero.1 e)
      have h4 := HYL.out
      omega
    clear hz hb0
    obtain ⟨b2, o2, hA2, hg2, hc2⟩ := hyw.at_ hn0
    have hcy : w2.cell? ⟨w1.heap.size, 0, none⟩ = some (.int .u64 (b : Nat)) := by
      injection hA2 with hA2
      injection hA2 with h3 h4
      subst h3 h4
      have h5 := hc2 0 hn0
      rw [words_single (by omega) hb] at h5
      exact h5
    clear hc2 hA2 hg2
    have hmod : a % b < b := Nat.mod_lt _ h0b
    go_wp2
    go_loopw [0, 1] (fun u v wr => u = .slice (some ⟨w.heap.size, 0, none⟩) n n ∧ v = .slice (some ⟨w1.heap.size, 0, none⟩) n n ∧ wr = w2) (fun _ _ _ => 0)
    case atStart => exact ⟨rfl, rfl, rfl⟩
    case round =>
      obtain ⟨rfl, rfl, rfl⟩ := hrel
      go_wp2_with (go_at_call 56; refine (words64_any _ _ _ _ _ _ hyw).mono ?_; rw [← HTB.out]; rintro e w' ⟨rfl, rfl⟩)
      refine (divideWord_any _ _ _ b (words a) _ _ hxw (Nat.le_refl _) (words_ok a) h0b hn (fun k hk => HD.out h0b _ _ (Nat.mod_lt _ h0b) (nth_ok (words_ok a) k) (fun ha => drop_hi hk ha))).mono ?_
      rintro e w3 ⟨A3, n3, c3, rfl, h3, hb3⟩
      rw [val_words] at h3 ⊢
      have hcy3 : w3.cell? ⟨w1.heap.size, 0, none⟩ = some (.int .u64 (b : Nat)) := (hb3.cell hgy).trans hcy
      go_wp2_with fail
      refine (wordDivisor_any b (a % b) (Nat.lt_trans hmod hb) _).mono ?_
      rintro e w4 ⟨rfl, q4, rfl⟩
      have hgl : Nat.gcd b (a % b) < B64 := Nat.lt_of_le_of_lt (Nat.gcd_le_left _ h0b) hb
      go_wp2_with fail
      refine (single_any _ hgl _).mono ?_
      rintro e w5 ⟨A5, n5, c5, rfl, h5, hb5⟩
      go_wp2
      go_ret
      refine ⟨_, _, _, rfl, ?_, (hbelow.trans (hb3.mono hbelow.size)).trans (((below_drewN (Below.refl _ _) q4).trans hb5).mono (Nat.le_trans hbelow.size hb3.size))⟩
      have e : Nat.gcd a b = Nat.gcd b (a % b) := by rw [Nat.gcd_comm a b, Nat.gcd_rec, Nat.gcd_comm]
      rw [e]
      exact h5

set_option maxRecDepth 100000 in
set_option maxHeartbeats 1000000 in
theorem gcd_small_swap {a b : Nat} (hb : b < B64) (hab : b < a) (hD : 0 < b → DivOk a b) : GcdAt b a := by
  intro w B A2 A1 m n c2 c1 hy hx hB hm hn
  have HXL := Lib.hid hx.len
  have HYL := Lib.hid hy.len
  have HD := Lib.hid hD
  clear hD
  have hnm : m ≤ n := by rw [HXL.out, HYL.out]; exact words_len_mono (Nat.le_of_lt hab)
  have hlt : cmpN b a < 0 := by rw [cmpN_lt hab]; omega
  rw [Nat.gcd_comm]
  go_enter Try.func49, Try.ntmps49
  go_wp2_with (first
    | (go_at_call 57; refine (compare_any b a _ _ _ _ _ _ _ _ hy hx).mono ?_; rintro e w' ⟨rfl, q, rfl⟩)
    | fail)
  refine (extended_any A1 n c1 n (words a) B _ (hx.drewN q) hB (Nat.le_refl _) (by omega)).mono ?_
  rintro e w1 ⟨rfl, hr1, hb1⟩
  rw [Nat.sub_self, List.replicate_zero, List.append_nil] at hr1 ⊢
  rw [← HXL.out]
  go_wp2_with fail
  refine (extended_any A2 m c2 n (words b) B _ ((hy.drewN q).belowM hb1 hB) (Nat.le_trans hB hb1.size) hnm (by omega)).mono ?_
  rintro e w2 ⟨rfl, hr2, hb2⟩
  have hlen : (words b ++ List.replicate (n - m) 0).length = n := by rw [List.length_append, List.length_replicate, ← HYL.out]; omega
  rw [hlen]
  have hbelow : Below w.heap.size w w2 := ((below_drewN (Below.refl _ _) q).trans hb1).trans (hb2.mono hb1.size)
  have hrx := hr1.below hb2 hr1.lt
  have hgx : (w.drewN q).heap.size < w2.heap.size := hrx.lt
  have hgy : w1.heap.size < w2.heap.size := hr2.lt
  have hxw : RW .u64 w2 w2.heap.size (.slice (some ⟨(w.drewN q).heap.size, 0, none⟩) n n) (words a) := RW.of_row0 (post := []) (hrx.of_eq (by simp)) HXL.out (Nat.le_refl _) (by unfold maxLen; omega) hgx
  have hyw : RW .u64 w2 w2.heap.size (.slice (some ⟨w1.heap.size, 0, none⟩) n n) (words b ++ List.replicate (n - m) 0) := RW.of_row0 (post := []) (hr2.of_eq (by simp)) hlen.symm (Nat.le_refl _) (by unfold maxLen; omega) hgy
  have htop : top (words b ++ List.replicate (n - m) 0) = (words b).length := by
    rw [top_eq_len _ ((words_ok b).append (AllOk.zeros _)), val_append, val_zeros_n, Nat.mul_zero, Nat.add_zero, val_words]
  have hb1l : (words b).length ≤ 1 := words_length_le b 1 (by rw [Nat.pow_one]; exact hb)
  have HT := Lib.hid htop
  have HL := Lib.hid hlen
  clear htop hlen hrx hr1 hr2
  change RW .u64 w2 w2.heap.size (.slice (some ⟨w.heap.size, 0, none⟩) n n) (words a) at hxw
  obtain ⟨tb, htb⟩ : ∃ tb, tb = top (words b ++ List.replicate (n - m) 0) := ⟨_, rfl⟩
  have HTB := Lib.hid htb
  have htb1 : tb ≤ 1 := by rw [htb, HT.out]; exact hb1l
  clear htb
  by_cases hb0 : b = 0
  · have hz : tb = 0 := by rw [HTB.out, HT.out, hb0, words_zero]; rfl
    have HZ := Lib.hid hz
    have hzb : ((tb : Int) == 0) = true := by rw [hz]; rfl
    have HB0 := Lib.hid hb0
    clear hz hb0
    go_wp2
    go_loopw [0, 1] (fun u v wr => u = .slice (some ⟨w.heap.size, 0, none⟩) n n ∧ v = .slice (some ⟨w1.heap.size, 0, none⟩) n n ∧ wr = w2) (fun _ _ _ => 0)
    case atStart => exact ⟨rfl, rfl, rfl⟩
    case round =>
      obtain ⟨rfl, rfl, rfl⟩ := hrel
      go_wp2_with (go_at_call 56; refine (words64_any _ _ _ _ _ _ hyw).mono ?_; rw [← HTB.out]; rintro e w' ⟨rfl, rfl⟩)
      go_ret
      rw [HB0.out, Nat.gcd_zero_right]
      exact ⟨_, _, _, rfl, hxw, hbelow⟩
  · have hz : tb = 1 := by
      rw [HTB.out, HT.out]
      exact words_len_one.2 ⟨hb0, hb⟩
    have hzb : ((tb : Int) == 0) = false := by rw [hz]; rfl
    have h0b : 0 < b := by omega
    have hn0 : 0 < n := by
      have h3 : (words b).length ≠ 0 := fun e => hb0 (words_len_zero.1 e)
      have h4 := HYL.out
      omega
    clear hz hb0
    obtain ⟨b2, o2, hA2, hg2, hc2⟩ := hyw.at_ hn0
    have hcy : w2.cell? ⟨w1.heap.size, 0, none⟩ = some (.int .u64 (b : Nat)) := by
      injection hA2 with hA2
      injection hA2 with h3 h4
      subst h3 h4
      have h5 := hc2 0 hn0
      rw [words_single (by omega) hb] at h5
      exact h5
    clear hc2 hA2 hg2
    have hmod : a % b < b := Nat.mod_lt _ h0b
    go_wp2
    go_loopw [0, 1] (fun u v wr => u = .slice (some ⟨w.heap.size, 0, none⟩) n n ∧ v = .slice (some ⟨w1.heap.size, 0, none⟩) n n ∧ wr = w2) (fun _ _ _ => 0)
    case atStart => exact ⟨rfl, rfl, rfl⟩
    case round =>
      obtain ⟨rfl, rfl, rfl⟩ := hrel
      go_wp2_with (go_at_call 56; refine (words64_any _ _ _ _ _ _ hyw).mono ?_; rw [← HTB.out]; rintro e w' ⟨rfl, rfl⟩)
      refine (divideWord_any _ _ _ b (words a) _ _ hxw (Nat.le_refl _) (words_ok a) h0b hn (fun k hk => HD.out h0b _ _ (Nat.mod_lt _ h0b) (nth_ok (words_ok a) k) (fun ha => drop_hi hk ha))).mono ?_
      rintro e w3 ⟨A3, n3, c3, rfl, h3, hb3⟩
      rw [val_words] at h3 ⊢
      have hcy3 : w3.cell? ⟨w1.heap.size, 0, none⟩ = some (.int .u64 (b : Nat)) := (hb3.cell hgy).trans hcy
      go_wp2_with fail
      refine (wordDivisor_any b (a % b) (Nat.lt_trans hmod hb) _).mono ?_
      rintro e w4 ⟨rfl, q4, rfl⟩
      have hgl : Nat.gcd b (a % b) < B64 := Nat.lt_of_le_of_lt (Nat.gcd_le_left _ h0b) hb
      go_wp2_with fail
      refine (single_any _ hgl _).mono ?_
      rintro e w5 ⟨A5, n5, c5, rfl, h5, hb5⟩
      go_wp2
      go_ret
      refine ⟨_, _, _, rfl, ?_, (hbelow.trans (hb3.mono hbelow.size)).trans (((below_drewN (Below.refl _ _) q4).trans hb5).mono (Nat.le_trans hbelow.size hb3.size))⟩
      have e : Nat.gcd a b = Nat.gcd b (a % b) := by rw [Nat.gcd_comm a b, Nat.gcd_rec, Nat.gcd_comm]
      rw [e]
      exact h5

end Go.Proofs.Ytogklhbodaghdaa
