/-
  The document's numbers on limbs of 16 bits: trim, compare.
-/
import Derived.Test.YtdpmfenikomfkaaGreatRows
import Derived.Test.YtdpmfenikomfkaaGreatE02
import Derived.WalkKit
import Derived.Handy
namespace Go.Proofs.YtdpmfenikomfkaaGreat
open Go.RowKit

def numQ (v : Value) : Int := match v with | .int _ n => n | _ => 0

set_option maxRecDepth 100000 in
set_option maxHeartbeats 800000 in
theorem dtrim_any (xs : List Nat) (A : Option Addr) (n c B : Nat) (w : World) (hx : RW .i64 w B (.slice A n c) xs) :
    Calls Tryz.prog 57 #[.slice A n c] w fun e w' => e = .returned (.slice A (top xs) c) ∧ w = w' := by
  have HL := Lib.hid hx.len
  have hcap := hx.cap
  unfold maxLen at hcap
  go_enter Tryz.func57, Tryz.ntmps57
  go_wp2
  go_loopw [3] (fun iv wr => ∃ k : Nat, k ≤ n ∧ iv = .int .i64 (k : Int) ∧ Hid (∀ j, k ≤ j → j < xs.length → nth xs j = 0) ∧ wr = w) (fun iv _ => (numQ iv).toNat)
  case atStart => exact ⟨n, Nat.le_refl _, rfl, Lib.hid (fun j h1 h2 => by have := HL.out; omega), rfl⟩
  case round =>
    obtain ⟨k, hk, rfl, hz, rfl⟩ := hrel
    by_cases h0 : k = 0
    · have ht : top xs = 0 := top_unique (fun j h1 h2 => hz.out j (by omega) h2) (fun h => absurd h (by omega))
      subst h0
      go_wp2
      go_ret
      exact ⟨by rw [ht]; rfl, rfl⟩
    · obtain ⟨i, rfl⟩ : ∃ i, k = i + 1 := ⟨k - 1, by omega⟩
      obtain ⟨b, o, rfl, hb, hc⟩ := hx.at_ (by omega)
      have hci := hc i (by omega)
      have e1 : ((i + 1 : Nat) : Int) - 1 = (i : Int) := by omega
      obtain ⟨x, hxx⟩ : ∃ x, nth xs i = x := ⟨_, rfl⟩
      rw [hxx] at hci
      have HXX := Lib.hid hxx
      clear hc hxx
      by_cases hxz : x = 0
      · have hb0 : ((x : Int) == 0) = true := by rw [beq_iff_eq]; omega
        have HZ := Lib.hid hxz
        clear hxz
        go_wp2
        go_roundw
        case rel => exact ⟨i, by omega, by simp, Lib.hid (fun j h1 h2 => by
          by_cases e : j = i
          · subst e; rw [HXX.out]; exact HZ.out
          · exact hz.out j (by omega) h2), by first | rfl | trivial⟩
        case measure => simp [numQ]
      · have hb0 : ((x : Int) == 0) = false := by rw [beq_eq_false_iff_ne]; omega
        have ht : top xs = i + 1 := top_unique (fun j h1 h2 => hz.out j h1 h2) (fun _ => by rw [Nat.add_sub_cancel, HXX.out]; exact hxz)
        have HT := Lib.hid ht
        clear ht hxz
        go_wp2
        go_ret
        exact ⟨by rw [HT.out]; simp, rfl⟩

theorem dtrim_limbs {A : Option Addr} {n c : Nat} {xs : List Nat} {B : Nat} {w : World} (h : RW .i64 w B (.slice A n c) xs) (hok : AllOk16 xs) :
    RW .i64 w B (.slice A (top xs) c) (words16 (val16 xs)) :=
  (h.take (by rw [h.len]; exact top_le xs)).of_eq (take_top16 xs hok)

def dcmp (a b : Nat) : Int := if a < b then -1 else if a = b then 0 else 1
theorem dcmp_lt {a b : Nat} (h : a < b) : dcmp a b = -1 := by unfold dcmp; rw [if_pos h]
theorem dcmp_eq {a b : Nat} (h : a = b) : dcmp a b = 0 := by unfold dcmp; rw [if_neg (by omega), if_pos h]
theorem dcmp_gt {a b : Nat} (h : b < a) : dcmp a b = 1 := by unfold dcmp; rw [if_neg (by omega), if_neg (by omega)]
theorem nthq_drop (xs : List Nat) (k j : Nat) : nth (xs.drop k) j = nth xs (k + j) := by
  unfold nth
  rw [List.getD_eq_getElem?_getD, List.getD_eq_getElem?_getD, List.getElem?_drop]
theorem listq_ext {xs ys : List Nat} (hl : xs.length = ys.length) (h : ∀ j, j < xs.length → nth xs j = nth ys j) : xs = ys := by
  apply List.ext_getElem hl
  intro i h1 h2
  rw [← nth_lt h1, ← nth_lt h2]
  exact h i h1
theorem val16_split (xs : List Nat) (k : Nat) (h : k < xs.length) : val16 xs = val16 (xs.take k) + B16 ^ k * (nth xs k + B16 * val16 (xs.drop (k + 1))) := by
  conv => lhs; rw [← List.take_append_drop k xs]
  rw [val16_append, List.length_take, Nat.min_eq_left (by omega), List.drop_eq_getElem_cons h, val16_cons, nth_lt h]
theorem val16_cmp {xs ys : List Nat} {k : Nat} (hl : xs.length = ys.length) (hx : AllOk16 xs) (hk : k < xs.length) (h : ∀ j, k < j → j < xs.length → nth xs j = nth ys j) (hlt : nth xs k < nth ys k) : val16 xs < val16 ys := by
  have e : xs.drop (k + 1) = ys.drop (k + 1) := by
    refine listq_ext (by simp [hl]) (fun j hj => ?_)
    rw [nthq_drop, nthq_drop]
    rw [List.length_drop] at hj
    exact h _ (by omega) (by omega)
  rw [val16_split xs k hk, val16_split ys k (by omega), e]
  have h1 := val16_lt (xs.take k) (hx.take k)
  rw [List.length_take, Nat.min_eq_left (by omega)] at h1
  have h2 : B16 ^ k * (nth xs k + B16 * val16 (ys.drop (k + 1)) + 1) ≤ B16 ^ k * (nth ys k + B16 * val16 (ys.drop (k + 1))) := Nat.mul_le_mul_left _ (by omega)
  rw [Nat.mul_add, Nat.mul_one] at h2
  omega

/-- The result does not hang on what was drawn. -/
def RetC (w : World) (n : Int) (e : Ending) (w' : World) : Prop := e = .returned (.int .i64 n) ∧ ∃ q, w' = w.drewN q

set_option maxRecDepth 100000 in
set_option maxHeartbeats 800000 in
theorem dcompare_any (a b : Nat) (A1 A2 : Option Addr) (n m c1 c2 B : Nat) (w : World) (hx : RW .i64 w B (.slice A1 n c1) (words16 a)) (hy : RW .i64 w B (.slice A2 m c2) (words16 b)) :
    Calls Tryz.prog 55 #[.slice A1 n c1, .slice A2 m c2] w (RetC w (dcmp a b)) := by
  have HXL := Lib.hid hx.len
  have HYL := Lib.hid hy.len
  have hn : n ≤ 9223372036854775807 := by have := hx.cap; unfold maxLen at this; omega
  have hm : m ≤ 9223372036854775807 := by have := hy.cap; unfold maxLen at this; omega
  obtain ⟨r, hr⟩ : ∃ r, dcmp a b = r := ⟨_, rfl⟩
  rw [hr]
  have HR := Lib.hid hr
  clear hr
  by_cases hnm : n = m
  · subst hnm
    have hb0 : ((n : Int) != (n : Int)) = false := by simp
    go_enter Tryz.func55, Tryz.ntmps55
    go_wp2
    go_loopw [5] (fun i wr => ∃ k q : Nat, k ≤ n ∧ i = .int .i64 ((k : Int) - 1) ∧ wr = w.drewN q ∧ Hid (∀ j, k ≤ j → j < n → nth (words16 a) j = nth (words16 b) j)) (fun i _ => (numQ i + 1).toNat)
    case atStart => exact ⟨n, 0, Nat.le_refl _, rfl, rfl, Lib.hid (fun j h1 h2 => absurd h1 (by omega))⟩
    case round =>
      obtain ⟨k, q, hk, rfl, rfl, HK⟩ := hrel
      by_cases h0 : k = 0
      · subst h0
        have e := words16_inj (listq_ext (xs := words16 a) (ys := words16 b) (by rw [← HXL.out, ← HYL.out]) (fun j hj => HK.out j (Nat.zero_le _) (by rw [HXL.out]; exact hj)))
        have hr0 : Hid (r = 0) := by rw [← HR.out]; exact dcmp_eq e
        clear e
        go_wp2
        go_ret
        exact ⟨by rw [hr0.out]; rfl, q, rfl⟩
      · obtain ⟨k, rfl⟩ : ∃ t, k = t + 1 := ⟨k - 1, by omega⟩
        obtain ⟨b1, o1, hA1, _, hc1⟩ := hx.at_ (by omega)
        obtain ⟨b2, o2, hA2, _, hc2⟩ := hy.at_ (by omega)
        subst hA1 hA2
        have hx1 : w.cell? ⟨b1, o1 + k, none⟩ = some (.int .i64 (nth (words16 a) k : Nat)) := hc1 k (by omega)
        have hx2 : w.cell? ⟨b2, o2 + k, none⟩ = some (.int .i64 (nth (words16 b) k : Nat)) := hc2 k (by omega)
        have ek : ((k + 1 : Nat) : Int) - 1 = (k : Int) := by omega
        rw [ek]
        clear hc1 hc2 ek
        obtain ⟨x, hxx⟩ : ∃ x, nth (words16 a) k = x := ⟨_, rfl⟩
        obtain ⟨y, hyy⟩ : ∃ y, nth (words16 b) k = y := ⟨_, rfl⟩
        rw [hxx] at hx1
        rw [hyy] at hx2
        have HXY := Lib.hid (And.intro hxx hyy)
        clear hxx hyy
        by_cases he : x = y
        · subst he
          have hne : ((x : Int) != (x : Int)) = false := by simp
          go_wp2
          go_region
          all_goals
            go_wp2
            go_roundw
            case rel =>
              refine ⟨k, q + 1, by omega, rfl, rfl, Lib.hid (fun j h1 h2 => ?_)⟩
              by_cases e : j = k
              · subst e; rw [HXY.out.1, HXY.out.2]
              · exact HK.out j (by omega) h2
            case measure => simp [numQ] <;> omega
        · have hne : ((x : Int) != (y : Int)) = true := by rw [bne_iff_ne]; omega
          have HE := Lib.hid he
          by_cases hlt : x < y
          · have hr0 : Hid (r = -1) := by
              rw [← HR.out]
              refine dcmp_lt ?_
              have := val16_cmp (xs := words16 a) (ys := words16 b) (k := k) (by rw [← HXL.out, ← HYL.out]) (words16_ok a) (by rw [← HXL.out]; omega) (fun j h1 h2 => HK.out j (by omega) (by rw [HXL.out]; exact h2)) (by rw [HXY.out.1, HXY.out.2]; exact hlt)
              rwa [val16_words16, val16_words16] at this
            clear he
            go_wp2
            go_region
            all_goals
              go_wp2
              go_region
            all_goals
              go_wp2
              go_ret
              exact ⟨by rw [hr0.out]; rfl, _, rfl⟩
          · have hr0 : Hid (r = 1) := by
              rw [← HR.out]
              refine dcmp_gt ?_
              have := val16_cmp (xs := words16 b) (ys := words16 a) (k := k) (by rw [← HXL.out, ← HYL.out]) (words16_ok b) (by rw [← HYL.out]; omega) (fun j h1 h2 => (HK.out j (by omega) (by rw [HYL.out]; exact h2)).symm) (by rw [HXY.out.1, HXY.out.2]; omega)
              rwa [val16_words16, val16_words16] at this
            clear he
            go_wp2
            go_region
            all_goals
              go_wp2
              go_region
            all_goals
              go_wp2
              go_ret
              exact ⟨by rw [hr0.out]; rfl, _, rfl⟩
  · have hb0 : ((n : Int) != (m : Int)) = true := by rw [bne_iff_ne]; omega
    have HNM := Lib.hid hnm
    by_cases hlt : n < m
    · have hr0 : Hid (r = -1) := by
        rw [← HR.out]
        exact dcmp_lt (words16_len_gt (by rw [← HXL.out, ← HYL.out]; exact hlt))
      have hb1 : (n : Int) < (m : Int) := by omega
      clear hnm
      go_enter Tryz.func55, Tryz.ntmps55
      go_wp2
      go_ret
      exact ⟨by rw [hr0.out]; rfl, 0, rfl⟩
    · have hr0 : Hid (r = 1) := by
        rw [← HR.out]
        exact dcmp_gt (words16_len_gt (by rw [← HXL.out, ← HYL.out]; omega))
      have hb1 : ¬ (n : Int) < (m : Int) := by omega
      clear hnm
      go_enter Tryz.func55, Tryz.ntmps55
      go_wp2
      go_ret
      exact ⟨by rw [hr0.out]; rfl, 0, rfl⟩
end Go.Proofs.YtdpmfenikomfkaaGreat
