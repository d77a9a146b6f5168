/-
  The greatest common divisor where one of the numbers is one word.
  The product of two lists of words.
-/
import Derived.Test.YtdpmfenikomfkaaGreatE16
import Derived.Test.YtdpmfenikomfkaaGreatE15
namespace Go.Proofs.YtdpmfenikomfkaaGreat
open Go.RowKit

set_option maxRecDepth 100000 in
set_option maxHeartbeats 1000000 in
theorem gcd_small {a b : Nat} (hb : b < B64) (hab : b ≤ a) (hD : 0 < b → DivOk a b) : GcdAt a b := by
  intro w B A1 A2 n m c1 c2 hx hy hB hn hm
  have HXL := Lib.hid hx.len
  have HYL := Lib.hid hy.len
  have HD := Lib.hid hD
  clear hD
  have hnm : m ≤ n := by rw [HXL.out, HYL.out]; exact words_len_mono hab
  have hlt : ¬ cmpN a b < 0 := by
    rcases Nat.lt_or_ge b a with h | h
    · rw [cmpN_gt h]; omega
    · rw [cmpN_eq (by omega)]; omega
  go_enter Tryz.func78, Tryz.ntmps78
  go_wp2_with (first
    | (go_at_call 86; refine (compare_any a b _ _ _ _ _ _ _ _ hx hy).mono ?_; rintro e w' ⟨rfl, q, rfl⟩)
    | fail)
  refine (extended_any A1 n c1 n (words a) B _ (hx.drewN q) hB (Nat.le_refl _) (by omega)).mono ?_
  rintro e w1 ⟨rfl, hr1, hb1⟩
  rw [Nat.sub_self, List.replicate_zero, List.append_nil] at hr1 ⊢
  rw [← HXL.out]
  go_wp2_with fail
  refine (extended_any A2 m c2 n (words b) B _ ((hy.drewN q).belowM hb1 hB) (Nat.le_trans hB hb1.size) hnm (by omega)).mono ?_
  rintro e w2 ⟨rfl, hr2, hb2⟩
  have hlen : (words b ++ List.replicate (n - m) 0).length = n := by rw [List.length_append, List.length_replicate, ← HYL.out]; omega
  rw [hlen]
  have hbelow : Below w.heap.size w w2 := ((below_drewN (Below.refl _ _) q).trans hb1).trans (hb2.mono hb1.size)
  have hrx := hr1.below hb2 hr1.lt
  have hgx : (w.drewN q).heap.size < w2.heap.size := hrx.lt
  have hgy : w1.heap.size < w2.heap.size := hr2.lt
  have hxw : RW .u64 w2 w2.heap.size (.slice (some ⟨(w.drewN q).heap.size, 0, none⟩) n n) (words a) := RW.of_row0 (post := []) (hrx.of_eq (by simp)) HXL.out (Nat.le_refl _) (by unfold maxLen; omega) hgx
  have hyw : RW .u64 w2 w2.heap.size (.slice (some ⟨w1.heap.size, 0, none⟩) n n) (words b ++ List.replicate (n - m) 0) := RW.of_row0 (post := []) (hr2.of_eq (by simp)) hlen.symm (Nat.le_refl _) (by unfold maxLen; omega) hgy
  have htop : top (words b ++ List.replicate (n - m) 0) = (words b).length := by
    rw [top_eq_len _ ((words_ok b).append (AllOk.zeros _)), val_append, val_zeros_n, Nat.mul_zero, Nat.add_zero, val_words]
  have hb1l : (words b).length ≤ 1 := words_length_le b 1 (by rw [Nat.pow_one]; exact hb)
  have HT := Lib.hid htop
  have HL := Lib.hid hlen
  clear htop hlen hrx hr1 hr2
  change RW .u64 w2 w2.heap.size (.slice (some ⟨w.heap.size, 0, none⟩) n n) (words a) at hxw
  obtain ⟨tb, htb⟩ : ∃ tb, tb = top (words b ++ List.replicate (n - m) 0) := ⟨_, rfl⟩
  have HTB := Lib.hid htb
  have htb1 : tb ≤ 1 := by rw [htb, HT.out]; exact hb1l
  clear htb
  by_cases hb0 : b = 0
  · have hz : tb = 0 := by rw [HTB.out, HT.out, hb0, words_zero]; rfl
    have HZ := Lib.hid hz
    have hzb : ((tb : Int) == 0) = true := by rw [hz]; rfl
    have HB0 := Lib.hid hb0
    clear hz hb0
    go_wp2
    go_loopw [0, 1] (fun u v wr => u = .slice (some ⟨w.heap.size, 0, none⟩) n n ∧ v = .slice (some ⟨w1.heap.size, 0, none⟩) n n ∧ wr = w2) (fun _ _ _ => 0)
    case atStart => exact ⟨rfl, rfl, rfl⟩
    case round =>
      obtain ⟨rfl, rfl, rfl⟩ := hrel
      go_wp2_with (go_at_call 85; refine (words64_any _ _ _ _ _ _ hyw).mono ?_; rw [← HTB.out]; rintro e w' ⟨rfl, rfl⟩)
      go_ret
      rw [HB0.out, Nat.gcd_zero_right]
      exact ⟨_, _, _, rfl, hxw, hbelow⟩
  · have hz : tb = 1 := by
      rw [HTB.out, HT.out]
      exact words_len_one.2 ⟨hb0, hb⟩
    have hzb : ((tb : Int) == 0) = false := by rw [hz]; rfl
    have h0b : 0 < b := by omega
    have hn0 : 0 < n := by
      have h3 : (words b).length ≠ 0 := fun e => hb0 (words_len_zero.1 e)
      have h4 := HYL.out
      omega
    clear hz hb0
    obtain ⟨b2, o2, hA2, hg2, hc2⟩ := hyw.at_ hn0
    have hcy : w2.cell? ⟨w1.heap.size, 0, none⟩ = some (.int .u64 (b : Nat)) := by
      injection hA2 with hA2
      injection hA2 with h3 h4
      subst h3 h4
      have h5 := hc2 0 hn0
      rw [words_single (by omega) hb] at h5
      exact h5
    clear hc2 hA2 hg2
    have hmod : a % b < b := Nat.mod_lt _ h0b
    go_wp2
    go_loopw [0, 1] (fun u v wr => u = .slice (some ⟨w.heap.size, 0, none⟩) n n ∧ v = .slice (some ⟨w1.heap.size, 0, none⟩) n n ∧ wr = w2) (fun _ _ _ => 0)
    case atStart => exact ⟨rfl, rfl, rfl⟩
    case round =>
      obtain ⟨rfl, rfl, rfl⟩ := hrel
      go_wp2_with (go_at_call 85; refine (words64_any _ _ _ _ _ _ hyw).mono ?_; rw [← HTB.out]; rintro e w' ⟨rfl, rfl⟩)
      refine (divideWord_any _ _ _ b (words a) _ _ hxw (Nat.le_refl _) (words_ok a) h0b hn (fun k hk => HD.out h0b _ _ (Nat.mod_lt _ h0b) (nth_ok (words_ok a) k) (fun ha => drop_hi hk ha))).mono ?_
      rintro e w3 ⟨A3, n3, c3, rfl, h3, hb3⟩
      rw [val_words] at h3 ⊢
      have hcy3 : w3.cell? ⟨w1.heap.size, 0, none⟩ = some (.int .u64 (b : Nat)) := (hb3.cell hgy).trans hcy
      go_wp2_with fail
      refine (wordDivisor_any b (a % b) (Nat.lt_trans hmod hb) _).mono ?_
      rintro e w4 ⟨rfl, q4, rfl⟩
      have hgl : Nat.gcd b (a % b) < B64 := Nat.lt_of_le_of_lt (Nat.gcd_le_left _ h0b) hb
      go_wp2_with fail
      refine (single_any _ hgl _).mono ?_
      rintro e w5 ⟨A5, n5, c5, rfl, h5, hb5⟩
      go_wp2
      go_ret
      refine ⟨_, _, _, rfl, ?_, (hbelow.trans (hb3.mono hbelow.size)).trans (((below_drewN (Below.refl _ _) q4).trans hb5).mono (Nat.le_trans hbelow.size hb3.size))⟩
      have e : Nat.gcd a b = Nat.gcd b (a % b) := by rw [Nat.gcd_comm a b, Nat.gcd_rec, Nat.gcd_comm]
      rw [e]
      exact h5

set_option maxRecDepth 100000 in
set_option maxHeartbeats 1000000 in
theorem gcd_small_swap {a b : Nat} (hb : b < B64) (hab : b < a) (hD : 0 < b → DivOk a b) : GcdAt b a := by
  intro w B A2 A1 m n c2 c1 hy hx hB hm hn
  have HXL := Lib.hid hx.len
  have HYL := Lib.hid hy.len
  have HD := Lib.hid hD
  clear hD
  have hnm : m ≤ n := by rw [HXL.out, HYL.out]; exact words_len_mono (Nat.le_of_lt hab)
  have hlt : cmpN b a < 0 := by rw [cmpN_lt hab]; omega
  rw [Nat.gcd_comm]
  go_enter Tryz.func78, Tryz.ntmps78
  go_wp2_with (first
    | (go_at_call 86; refine (compare_any b a _ _ _ _ _ _ _ _ hy hx).mono ?_; rintro e w' ⟨rfl, q, rfl⟩)
    | fail)
  refine (extended_any A1 n c1 n (words a) B _ (hx.drewN q) hB (Nat.le_refl _) (by omega)).mono ?_
  rintro e w1 ⟨rfl, hr1, hb1⟩
  rw [Nat.sub_self, List.replicate_zero, List.append_nil] at hr1 ⊢
  rw [← HXL.out]
  go_wp2_with fail
  refine (extended_any A2 m c2 n (words b) B _ ((hy.drewN q).belowM hb1 hB) (Nat.le_trans hB hb1.size) hnm (by omega)).mono ?_
  rintro e w2 ⟨rfl, hr2, hb2⟩
  have hlen : (words b ++ List.replicate (n - m) 0).length = n := by rw [List.length_append, List.length_replicate, ← HYL.out]; omega
  rw [hlen]
  have hbelow : Below w.heap.size w w2 := ((below_drewN (Below.refl _ _) q).trans hb1).trans (hb2.mono hb1.size)
  have hrx := hr1.below hb2 hr1.lt
  have hgx : (w.drewN q).heap.size < w2.heap.size := hrx.lt
  have hgy : w1.heap.size < w2.heap.size := hr2.lt
  have hxw : RW .u64 w2 w2.heap.size (.slice (some ⟨(w.drewN q).heap.size, 0, none⟩) n n) (words a) := RW.of_row0 (post := []) (hrx.of_eq (by simp)) HXL.out (Nat.le_refl _) (by unfold maxLen; omega) hgx
  have hyw : RW .u64 w2 w2.heap.size (.slice (some ⟨w1.heap.size, 0, none⟩) n n) (words b ++ List.replicate (n - m) 0) := RW.of_row0 (post := []) (hr2.of_eq (by simp)) hlen.symm (Nat.le_refl _) (by unfold maxLen; omega) hgy
  have htop : top (words b ++ List.replicate (n - m) 0) = (words b).length := by
    rw [top_eq_len _ ((words_ok b).append (AllOk.zeros _)), val_append, val_zeros_n, Nat.mul_zero, Nat.add_zero, val_words]
  have hb1l : (words b).length ≤ 1 := words_length_le b 1 (by rw [Nat.pow_one]; exact hb)
  have HT := Lib.hid htop
  have HL := Lib.hid hlen
  clear htop hlen hrx hr1 hr2
  change RW .u64 w2 w2.heap.size (.slice (some ⟨w.heap.size, 0, none⟩) n n) (words a) at hxw
  obtain ⟨tb, htb⟩ : ∃ tb, tb = top (words b ++ List.replicate (n - m) 0) := ⟨_, rfl⟩
  have HTB := Lib.hid htb
  have htb1 : tb ≤ 1 := by rw [htb, HT.out]; exact hb1l
  clear htb
  by_cases hb0 : b = 0
  · have hz : tb = 0 := by rw [HTB.out, HT.out, hb0, words_zero]; rfl
    have HZ := Lib.hid hz
    have hzb : ((tb : Int) == 0) = true := by rw [hz]; rfl
    have HB0 := Lib.hid hb0
    clear hz hb0
    go_wp2
    go_loopw [0, 1] (fun u v wr => u = .slice (some ⟨w.heap.size, 0, none⟩) n n ∧ v = .slice (some ⟨w1.heap.size, 0, none⟩) n n ∧ wr = w2) (fun _ _ _ => 0)
    case atStart => exact ⟨rfl, rfl, rfl⟩
    case round =>
      obtain ⟨rfl, rfl, rfl⟩ := hrel
      go_wp2_with (go_at_call 85; refine (words64_any _ _ _ _ _ _ hyw).mono ?_; rw [← HTB.out]; rintro e w' ⟨rfl, rfl⟩)
      go_ret
      rw [HB0.out, Nat.gcd_zero_right]
      exact ⟨_, _, _, rfl, hxw, hbelow⟩
  · have hz : tb = 1 := by
      rw [HTB.out, HT.out]
      exact words_len_one.2 ⟨hb0, hb⟩
    have hzb : ((tb : Int) == 0) = false := by rw [hz]; rfl
    have h0b : 0 < b := by omega
    have hn0 : 0 < n := by
      have h3 : (words b).length ≠ 0 := fun e => hb0 (words_len_zero.1 e)
      have h4 := HYL.out
      omega
    clear hz hb0
    obtain ⟨b2, o2, hA2, hg2, hc2⟩ := hyw.at_ hn0
    have hcy : w2.cell? ⟨w1.heap.size, 0, none⟩ = some (.int .u64 (b : Nat)) := by
      injection hA2 with hA2
      injection hA2 with h3 h4
      subst h3 h4
      have h5 := hc2 0 hn0
      rw [words_single (by omega) hb] at h5
      exact h5
    clear hc2 hA2 hg2
    have hmod : a % b < b := Nat.mod_lt _ h0b
    go_wp2
    go_loopw [0, 1] (fun u v wr => u = .slice (some ⟨w.heap.size, 0, none⟩) n n ∧ v = .slice (some ⟨w1.heap.size, 0, none⟩) n n ∧ wr = w2) (fun _ _ _ => 0)
    case atStart => exact ⟨rfl, rfl, rfl⟩
    case round =>
      obtain ⟨rfl, rfl, rfl⟩ := hrel
      go_wp2_with (go_at_call 85; refine (words64_any _ _ _ _ _ _ hyw).mono ?_; rw [← HTB.out]; rintro e w' ⟨rfl, rfl⟩)
      refine (divideWord_any _ _ _ b (words a) _ _ hxw (Nat.le_refl _) (words_ok a) h0b hn (fun k hk => HD.out h0b _ _ (Nat.mod_lt _ h0b) (nth_ok (words_ok a) k) (fun ha => drop_hi hk ha))).mono ?_
      rintro e w3 ⟨A3, n3, c3, rfl, h3, hb3⟩
      rw [val_words] at h3 ⊢
      have hcy3 : w3.cell? ⟨w1.heap.size, 0, none⟩ = some (.int .u64 (b : Nat)) := (hb3.cell hgy).trans hcy
      go_wp2_with fail
      refine (wordDivisor_any b (a % b) (Nat.lt_trans hmod hb) _).mono ?_
      rintro e w4 ⟨rfl, q4, rfl⟩
      have hgl : Nat.gcd b (a % b) < B64 := Nat.lt_of_le_of_lt (Nat.gcd_le_left _ h0b) hb
      go_wp2_with fail
      refine (single_any _ hgl _).mono ?_
      rintro e w5 ⟨A5, n5, c5, rfl, h5, hb5⟩
      go_wp2
      go_ret
      refine ⟨_, _, _, rfl, ?_, (hbelow.trans (hb3.mono hbelow.size)).trans (((below_drewN (Below.refl _ _) q4).trans hb5).mono (Nat.le_trans hbelow.size hb3.size))⟩
      have e : Nat.gcd a b = Nat.gcd b (a % b) := by rw [Nat.gcd_comm a b, Nat.gcd_rec, Nat.gcd_comm]
      rw [e]
      exact h5

end Go.Proofs.YtdpmfenikomfkaaGreat

namespace Go.Proofs.YtdpmfenikomfkaaGreat
open Go.RowKit

def TimesRel (w : World) (xs ys : List Nat) (n m : Nat) (i : Value) (wr : World) : Prop :=
  ∃ k L, k ≤ n ∧ i = .int .i64 (k : Nat) ∧ L.length = n + m ∧ AllOk L ∧ Row .u64 wr w.heap.size 65 L ∧ Below w.heap.size w wr ∧ val L = val (xs.take k) * val ys ∧ (∀ j, k + m ≤ j → nth L j = 0)

theorem split3 (L : List Nat) (k m : Nat) : L = L.take k ++ ((L.drop k).take m ++ L.drop (k + m)) := by
  rw [← List.drop_drop, List.take_append_drop, List.take_append_drop]

theorem times_step {L zs' : List Nat} {k m n X x Y up : Nat} (hl : L.length = n + m) (hk : k < n) (hz : zs'.length = m) (h1 : val zs' + B64 ^ m * up = val ((L.drop k).take m) + x * Y) (h2 : val L = X * Y) (h3 : nth L (k + m) = 0) :
    val (L.take k ++ (zs' ++ (L.drop (k + m)).set 0 up)) = (X + B64 ^ k * x) * Y := by
  have hp : (L.take k).length = k := by rw [List.length_take]; omega
  have hm : ((L.drop k).take m).length = m := by rw [List.length_take, List.length_drop]; omega
  have e0 := congrArg val (split3 L k m)
  rw [val_append, val_append, hp, hm, h2] at e0
  rw [val_append, val_append, hp, hz]
  have hd : nth (L.drop (k + m)) 0 = 0 := by
    unfold nth at *
    rw [List.getD_eq_getElem?_getD] at *
    rw [List.getElem?_drop]
    exact h3
  have hs := val_set (L.drop (k + m)) 0 up (by rw [List.length_drop]; omega)
  rw [hd, Nat.mul_zero, Nat.add_zero, Nat.pow_zero, Nat.one_mul] at hs
  rw [hs]
  generalize val (L.take k) = p at *
  generalize val ((L.drop k).take m) = z at *
  generalize val (L.drop (k + m)) = q at *
  generalize val zs' = z' at *
  generalize B64 ^ k = K at *
  generalize B64 ^ m = M at *
  rw [Nat.add_mul, e0]
  have e1 := congrArg (K * ·) h1
  simp only [Nat.mul_add] at e1 ⊢
  have e2 : K * x * Y = K * (x * Y) := Nat.mul_assoc _ _ _
  omega

set_option maxRecDepth 100000 in
set_option maxHeartbeats 1000000 in
theorem times_any (A1 A2 : Option Addr) (n m c1 c2 : Nat) (xs ys : List Nat) (B : Nat) (w : World) (hx : RW .u64 w B (.slice A1 n c1) xs) (hy : RW .u64 w B (.slice A2 m c2) ys) (hB : B ≤ w.heap.size)
    (hxo : AllOk xs) (hyo : AllOk ys) (hn : n ≤ 65536) (hm : m ≤ 65536) :
    Calls Tryz.prog 73 #[.slice A1 n c1, .slice A2 m c2] w (RetW w (val xs * val ys)) := by
  obtain ⟨i0, hi0, hz0, hz1, hz2⟩ := info_parts info64
  have HXL := Lib.hid hx.len
  have HYL := Lib.hid hy.len
  go_enter Tryz.func73, Tryz.ntmps73
  go_wp2_with (at_make
               refine wpList_make_full _ rfl (.tmp 12) (.tmp 12) _ rfl w.heap.size 65 i0 _ 1 Tryz.underlying72 hi0 hz0 hz1 .i64 .i64 _ _ (n + m) rfl rfl (by omega) (by omega) (by rw [hz2]; omega) (by unfold maxLen; omega) (Nat.le_refl _) ?_
               intro w1 hown hg1
               have hb1 : Below w.heap.size w w1 := (Below.refl _ _).grown hg1 (Nat.le_refl _) (by simp)
               have hrow := row_of_made hown
               clear hown hg1)
  go_loopw [16] (fun i wr => TimesRel w xs ys n m i wr) (fun i _ => n - (intOf i).toNat)
  case atStart =>
    refine ⟨0, _, Nat.zero_le _, rfl, by simp, AllOk.zeros _, hrow, hb1, ?_, ?_⟩
    · rw [val_zeros_n]; simp [val_nil]
    · intro j _; unfold nth; simp [List.getD_eq_getElem?_getD, List.getElem?_replicate]; split <;> rfl
  case round =>
    obtain ⟨k, L, hk, rfl, hLl, hLo, hr, hbr, hKK⟩ := hrel
    have HK := Lib.hid hKK
    have HL := Lib.hid hLl
    clear hKK hLl
    by_cases hlt : k < n
    · have hxr := hx.belowM hbr hB
      obtain ⟨b, o, hA, hb, hcell⟩ := hxr.at_ (by omega)
      subst hA
      have hxc : wr.cell? ⟨b, o + k, none⟩ = some (.int .u64 (nth xs k : Nat)) := hcell _ hlt
      have hv := nth_ok hxo k
      have hyr := (hy.belowM hbr hB).more hB
      have hlp : (L.take k).length = k := by rw [List.length_take, HL.out]; omega
      have hlm : ((L.drop k).take m).length = m := by rw [List.length_take, List.length_drop, HL.out]; omega
      have hr3 : Row .u64 wr w.heap.size 65 (L.take k ++ ((L.drop k).take m ++ L.drop (k + m))) := hr.of_eq (split3 L k m)
      have hcall := addTimes_any w.heap.size _ _ _ ys m (n + m - k) c2 (nth xs k) A2 wr hr3 hlm.symm (by omega) (by omega) hyr ((hLo.drop k).take m) hyo hv
      rw [hlp] at hcall
      have HC := hcall
      clear hcall hcell hxr hyr
      have HLP := Lib.hid hlp
      have HLM := Lib.hid hlm
      clear hlp hlm
      have HCC := Lib.hid (And.intro HC trivial)
      clear HC
      go_wp2_with fail
      refine HCC.out.1.mono ?_
      rintro e w2 ⟨zs', up, rfl, hzl, hzo, hup, hval, hrow2, hg2⟩
      rw [HLM.out] at hzl hval
      have hpost : (L.drop (k + m)).length = n + m - (k + m) := by rw [List.length_drop, HL.out]
      have hidx : k + m < (L.take k ++ (zs' ++ L.drop (k + m))).length := by rw [List.length_append, List.length_append, HLP.out, hzl, hpost]; omega
      have hcs := hrow2.cell hidx
      have hfs : w2.frozen? ⟨w.heap.size, k + m, none⟩ = false := hrow2.frozen _
      have HV := Lib.hid (And.intro hzl (And.intro hval hpost))
      clear hzl hval hpost hidx
      go_wp2
      go_roundw
      case rel =>
        obtain ⟨hzl, hval, hpost⟩ := HV.out
        obtain ⟨g1, g2⟩ := HK.out
        have hset : (L.take k ++ (zs' ++ L.drop (k + m))).set (k + m) up = L.take k ++ (zs' ++ (L.drop (k + m)).set 0 up) := by
          have h1 := set_mid (L.take k ++ zs') (L.drop (k + m)) [] 0 up (by rw [hpost]; omega)
          rw [List.append_nil, List.append_nil, List.length_append, HLP.out, hzl, Nat.add_zero, List.append_assoc, List.append_assoc] at h1
          exact h1
        have hr4 := hrow2.set (k + m) up
        rw [hset] at hr4
        refine ⟨k + 1, _, by omega, by go_num, ?_, ?_, hr4, ?_, ?_, ?_⟩
        · rw [List.length_append, List.length_append, List.length_set, HLP.out, hzl, hpost]; omega
        · exact (hLo.take k).append (hzo.append ((hLo.drop _).set hup))
        · exact (hbr.grown hg2 hbr.size (by intro q hq; injection hq with hq; omega)).setCell (Nat.le_refl _) _
        · rw [times_step HL.out hlt hzl hval g1 (g2 _ (Nat.le_refl _)), val_take_succ xs k (by rw [← HXL.out]; exact hlt)]
        · intro j hj
          obtain ⟨d, rfl⟩ : ∃ d, j = (L.take k ++ zs').length + (d + 1) := ⟨j - (k + m) - 1, by rw [List.length_append, HLP.out, hzl]; omega⟩
          rw [← List.append_assoc, nth_append_right, nth_set, if_neg (by omega)]
          have h2 := g2 (k + m + (d + 1)) (by omega)
          unfold nth at h2 ⊢
          rw [List.getD_eq_getElem?_getD] at h2 ⊢
          rw [List.getElem?_drop]
          exact h2
      case measure => simp [intOf]; omega
    · have hkn : k = n := by omega
      have HKN := Lib.hid hkn
      clear hkn
      have hrw : RW .u64 wr wr.heap.size (.slice (some ⟨w.heap.size, 0, none⟩) (n + m) (n + m)) L := RW.of_row0 (post := []) (hr.of_eq (by simp)) HL.out.symm (Nat.le_refl _) (by unfold maxLen; omega) hr.lt
      go_wp2_with (go_at_call 76; refine (trim_any _ _ _ _ _ _ hrw).mono ?_; rintro e w' ⟨rfl, rfl⟩)
      go_ret
      obtain ⟨g1, g2⟩ := HK.out
      have h3 := trim_words hrw hLo
      have hkn := HKN.out
      rw [g1, List.take_of_length_le (by rw [← HXL.out]; omega)] at h3
      exact ⟨_, _, _, rfl, h3, hbr⟩
end Go.Proofs.YtdpmfenikomfkaaGreat
