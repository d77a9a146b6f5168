/-
  Comparison of numbers.
-/
import Derived.Test.YtogklhbodaghdaaWord
import Derived.Deep.QuietTactic
import Derived.BigQuiet
namespace Go.Proofs.Ytogklhbodaghdaa
open Go.RowKit

theorem quiet_add_left {P : Program} {f : FuncId} {args : Array Value} {w : World} {a n : Nat} {v : Value}
    (h : Calls P f args (w.drewN (a + n)) fun e w' => e = .returned v ∧ w.drewN (a + n) = w') :
    Calls P f args (w.drewN (a + n)) fun e w'' => e = .returned v ∧ ∃ m, w'' = w.drewN (a + m) :=
  h.mono fun _ _ ⟨he, hm⟩ => ⟨he, n, hm.symm⟩
theorem quiet_left {P : Program} {f : FuncId} {args : Array Value} {w : World} {n : Nat} {v : Value}
    (h : Calls P f args (w.drewN n) fun e w' => e = .returned v ∧ w.drewN n = w') : Calls P f args (w.drewN n) fun e w'' => e = .returned v ∧ ∃ m, w'' = w.drewN m :=
  h.mono fun _ _ ⟨he, hm⟩ => ⟨he, n, hm.symm⟩

def cmpN (a b : Nat) : Int := if a < b then -1 else if a = b then 0 else 1
theorem cmpN_lt {a b : Nat} (h : a < b) : cmpN a b = -1 := by unfold cmpN; rw [if_pos h]
theorem cmpN_eq {a b : Nat} (h : a = b) : cmpN a b = 0 := by unfold cmpN; rw [if_neg (by omega), if_pos h]
theorem cmpN_gt {a b : Nat} (h : b < a) : cmpN a b = 1 := by unfold cmpN; rw [if_neg (by omega), if_neg (by omega)]

theorem cmpInt_any (a b : Nat) (w : World) : Calls Try.prog 70 #[.int .i64 (a : Int), .int .i64 (b : Int)] w fun e w' => e = .returned (.int .i64 (cmpN a b)) ∧ w = w' := by
  have ha : ((a : Int) != (a : Int)) = false := by simp
  have hb : ((b : Int) != (b : Int)) = false := by simp
  rcases Nat.lt_trichotomy a b with h | h | h
  · go_enter Try.func70, Try.ntmps70
    go_wp2
    go_ret
    exact ⟨by rw [cmpN_lt h]; rfl, rfl⟩
  · subst h
    go_enter Try.func70, Try.ntmps70
    go_wp2
    go_ret
    exact ⟨by rw [cmpN_eq rfl]; rfl, rfl⟩
  · go_enter Try.func70, Try.ntmps70
    go_wp2
    go_ret
    exact ⟨by rw [cmpN_gt h]; rfl, rfl⟩

theorem cmpU_any (a b : Nat) (w : World) : Calls Try.prog 71 #[.int .u64 (a : Int), .int .u64 (b : Int)] w fun e w' => e = .returned (.int .i64 (cmpN a b)) ∧ w = w' := by
  have ha : ((a : Int) != (a : Int)) = false := by simp
  have hb : ((b : Int) != (b : Int)) = false := by simp
  rcases Nat.lt_trichotomy a b with h | h | h
  · go_enter Try.func71, Try.ntmps71
    go_wp2
    go_ret
    exact ⟨by rw [cmpN_lt h]; rfl, rfl⟩
  · subst h
    go_enter Try.func71, Try.ntmps71
    go_wp2
    go_ret
    exact ⟨by rw [cmpN_eq rfl]; rfl, rfl⟩
  · go_enter Try.func71, Try.ntmps71
    go_wp2
    go_ret
    exact ⟨by rw [cmpN_gt h]; rfl, rfl⟩

theorem nth_drop (xs : List Nat) (k j : Nat) : nth (xs.drop k) j = nth xs (k + j) := by
  unfold nth
  rw [List.getD_eq_getElem?_getD, List.getD_eq_getElem?_getD, List.getElem?_drop]

theorem list_ext_nth {xs ys : List Nat} (hl : xs.length = ys.length) (h : ∀ j, j < xs.length → nth xs j = nth ys j) : xs = ys := by
  apply List.ext_getElem hl
  intro i h1 h2
  rw [← nth_lt h1, ← nth_lt h2]
  exact h i h1

theorem val_split (xs : List Nat) (k : Nat) (h : k < xs.length) : val xs = val (xs.take k) + B64 ^ k * (nth xs k + B64 * val (xs.drop (k + 1))) := by
  conv => lhs; rw [← List.take_append_drop k xs]
  rw [val_append, List.length_take, Nat.min_eq_left (by omega), List.drop_eq_getElem_cons h, val_cons, nth_lt h]

theorem val_cmp {xs ys : List Nat} {k : Nat} (hl : xs.length = ys.length) (hx : AllOk xs) (hk : k < xs.length) (h : ∀ j, k < j → j < xs.length → nth xs j = nth ys j) (hlt : nth xs k < nth ys k) : val xs < val ys := by
  have e : xs.drop (k + 1) = ys.drop (k + 1) := by
    refine list_ext_nth (by simp [hl]) (fun j hj => ?_)
    rw [nth_drop, nth_drop]
    rw [List.length_drop] at hj
    exact h _ (by omega) (by omega)
  rw [val_split xs k hk, val_split ys k (by omega), e]
  have h1 := val_lt (xs.take k) (hx.take k)
  rw [List.length_take, Nat.min_eq_left (by omega)] at h1
  have h2 : B64 ^ k * (nth xs k + B64 * val (ys.drop (k + 1)) + 1) ≤ B64 ^ k * (nth ys k + B64 * val (ys.drop (k + 1))) := Nat.mul_le_mul_left _ (by omega)
  rw [Nat.mul_add, Nat.mul_one] at h2
  omega

set_option maxRecDepth 100000 in
set_option maxHeartbeats 1000000 in
theorem compare_any (a b : Nat) (A1 A2 : Option Addr) (n m c1 c2 : Nat) (B : Nat) (w : World) (hx : RW .u64 w B (.slice A1 n c1) (words a)) (hy : RW .u64 w B (.slice A2 m c2) (words b)) :
    Calls Try.prog 57 #[.slice A1 n c1, .slice A2 m c2] w fun e w' => e = .returned (.int .i64 (cmpN a b)) ∧ ∃ q, w' = w.drewN q := by
  have HXL := Lib.hid hx.len
  have HYL := Lib.hid hy.len
  have hn : n ≤ 9223372036854775807 := by have := hx.cap; unfold maxLen at this; omega
  have hm : m ≤ 9223372036854775807 := by have := hy.cap; unfold maxLen at this; omega
  by_cases hnm : n = m
  · subst hnm
    have hb0 : ((n : Int) != (n : Int)) = false := by simp
    go_enter Try.func57, Try.ntmps57
    go_wp2
    go_loopw [5] (fun i wr => ∃ k q : Nat, k ≤ n ∧ i = .int .i64 ((k : Int) - 1) ∧ wr = w.drewN q ∧ ∀ j, k ≤ j → j < n → nth (words a) j = nth (words b) j) (fun i _ => (intOf i + 1).toNat)
    case atStart => exact ⟨n, 0, Nat.le_refl _, rfl, rfl, fun j h1 h2 => absurd h1 (by omega)⟩
    case round =>
      obtain ⟨k, q, hk, rfl, rfl, hKK⟩ := hrel
      have HK := Lib.hid hKK
      clear hKK
      by_cases h0 : k = 0
      · subst h0
        go_wp2
        go_ret
        have e := words_inj (list_ext_nth (xs := words a) (ys := words b) (by rw [← HXL.out, ← HYL.out]) (fun j hj => HK.out j (Nat.zero_le _) (by rw [HXL.out]; exact hj)))
        exact ⟨by rw [cmpN_eq e]; rfl, q, rfl⟩
      · obtain ⟨k, rfl⟩ : ∃ t, k = t + 1 := ⟨k - 1, by omega⟩
        obtain ⟨b1, o1, hA1, _, hc1⟩ := hx.at_ (by omega)
        obtain ⟨b2, o2, hA2, _, hc2⟩ := hy.at_ (by omega)
        subst hA1 hA2
        have hx1 : w.cell? ⟨b1, o1 + k, none⟩ = some (.int .u64 (nth (words a) k : Nat)) := hc1 k (by omega)
        have hx2 : w.cell? ⟨b2, o2 + k, none⟩ = some (.int .u64 (nth (words b) k : Nat)) := hc2 k (by omega)
        have ek : ((k + 1 : Nat) : Int) - 1 = (k : Int) := by omega
        rw [ek]
        clear hc1 hc2 ek
        by_cases he : nth (words a) k = nth (words b) k
        · have hne : ((nth (words a) k : Int) != (nth (words b) k : Int)) = false := by rw [he]; simp
          have HE := Lib.hid he
          clear he
          go_wp2
          go_region
          all_goals
            go_wp2
            go_roundw
            case rel =>
              refine ⟨k, q + 1, by omega, rfl, rfl, fun j h1 h2 => ?_⟩
              by_cases e : j = k
              · subst e; exact HE.out
              · exact HK.out j (by omega) h2
            case measure => simp [intOf] <;> omega
        · have hne : ((nth (words a) k : Int) != (nth (words b) k : Int)) = true := by rw [bne_iff_ne]; omega
          have HE := Lib.hid he
          clear he
          go_wp2
          go_region
          all_goals
            go_wp2
            go_quiet ((go_at_call 71; first | exact quiet_add_left (cmpU_any _ _ _) | exact quiet_left (cmpU_any _ _ _)))
            go_wp2
            go_ret
            refine ⟨?_, _, World.drewN_drewN _ _ _⟩
            have hl : (words a).length = (words b).length := by rw [← HXL.out, ← HYL.out]
            have : cmpN (nth (words a) k) (nth (words b) k) = cmpN a b := by
              rcases Nat.lt_trichotomy (nth (words a) k) (nth (words b) k) with h | h | h
              · have h2 := val_cmp hl (words_ok a) (k := k) (by rw [← HXL.out]; omega) (fun j h3 h4 => HK.out j (by omega) (by rw [HXL.out]; exact h4)) h
                rw [val_words, val_words] at h2
                rw [cmpN_lt h, cmpN_lt h2]
              · exact absurd h HE.out
              · have h2 := val_cmp hl.symm (words_ok b) (k := k) (by rw [← HYL.out]; omega) (fun j h3 h4 => (HK.out j (by omega) (by rw [HYL.out]; exact h4)).symm) h
                rw [val_words, val_words] at h2
                rw [cmpN_gt h, cmpN_gt h2]
            rw [← this]
            rfl
  · have hb0 : ((n : Int) != (m : Int)) = true := by rw [bne_iff_ne]; omega
    have HN := Lib.hid hnm
    go_enter Try.func57, Try.ntmps57
    go_wp2_with (go_at_call 70; refine (cmpInt_any _ _ _).mono ?_; rintro e w' ⟨rfl, rfl⟩)
    go_ret
    refine ⟨?_, 0, rfl⟩
    have : cmpN n m = cmpN a b := by
      have h1 := HXL.out
      have h2 := HYL.out
      rcases Nat.lt_trichotomy n m with h | h | h
      · rw [cmpN_lt h, cmpN_lt (words_len_gt (by omega))]
      · exact absurd h hnm
      · rw [cmpN_gt h, cmpN_gt (words_len_gt (by omega))]
    rw [← this]
    rfl
end Go.Proofs.Ytogklhbodaghdaa
