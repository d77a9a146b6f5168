/-
  Comparison of numbers.
  Division by one word.
  Division and common divisors where the divisor is one word.
-/
import Derived.Test.YtdpmfenikomfkaaGreatE15
import Derived.Deep.QuietTactic
import Derived.BigQuiet
import Derived.WalkSmall
namespace Go.Proofs.YtdpmfenikomfkaaGreat
open Go.RowKit

theorem quiet_add_left {P : Program} {f : FuncId} {args : Array Value} {w : World} {a n : Nat} {v : Value}
    (h : Calls P f args (w.drewN (a + n)) fun e w' => e = .returned v ∧ w.drewN (a + n) = w') :
    Calls P f args (w.drewN (a + n)) fun e w'' => e = .returned v ∧ ∃ m, w'' = w.drewN (a + m) :=
  h.mono fun _ _ ⟨he, hm⟩ => ⟨he, n, hm.symm⟩
theorem quiet_left {P : Program} {f : FuncId} {args : Array Value} {w : World} {n : Nat} {v : Value}
    (h : Calls P f args (w.drewN n) fun e w' => e = .returned v ∧ w.drewN n = w') : Calls P f args (w.drewN n) fun e w'' => e = .returned v ∧ ∃ m, w'' = w.drewN m :=
  h.mono fun _ _ ⟨he, hm⟩ => ⟨he, n, hm.symm⟩

def cmpN (a b : Nat) : Int := if a < b then -1 else if a = b then 0 else 1
theorem cmpN_lt {a b : Nat} (h : a < b) : cmpN a b = -1 := by unfold cmpN; rw [if_pos h]
theorem cmpN_eq {a b : Nat} (h : a = b) : cmpN a b = 0 := by unfold cmpN; rw [if_neg (by omega), if_pos h]
theorem cmpN_gt {a b : Nat} (h : b < a) : cmpN a b = 1 := by unfold cmpN; rw [if_neg (by omega), if_neg (by omega)]

theorem cmpInt_any (a b : Nat) (w : World) : Calls Tryz.prog 99 #[.int .i64 (a : Int), .int .i64 (b : Int)] w fun e w' => e = .returned (.int .i64 (cmpN a b)) ∧ w = w' := by
  have ha : ((a : Int) != (a : Int)) = false := by simp
  have hb : ((b : Int) != (b : Int)) = false := by simp
  rcases Nat.lt_trichotomy a b with h | h | h
  · go_enter Tryz.func99, Tryz.ntmps99
    go_wp2
    go_ret
    exact ⟨by rw [cmpN_lt h]; rfl, rfl⟩
  · subst h
    go_enter Tryz.func99, Tryz.ntmps99
    go_wp2
    go_ret
    exact ⟨by rw [cmpN_eq rfl]; rfl, rfl⟩
  · go_enter Tryz.func99, Tryz.ntmps99
    go_wp2
    go_ret
    exact ⟨by rw [cmpN_gt h]; rfl, rfl⟩

theorem cmpU_any (a b : Nat) (w : World) : Calls Tryz.prog 100 #[.int .u64 (a : Int), .int .u64 (b : Int)] w fun e w' => e = .returned (.int .i64 (cmpN a b)) ∧ w = w' := by
  have ha : ((a : Int) != (a : Int)) = false := by simp
  have hb : ((b : Int) != (b : Int)) = false := by simp
  rcases Nat.lt_trichotomy a b with h | h | h
  · go_enter Tryz.func100, Tryz.ntmps100
    go_wp2
    go_ret
    exact ⟨by rw [cmpN_lt h]; rfl, rfl⟩
  · subst h
    go_enter Tryz.func100, Tryz.ntmps100
    go_wp2
    go_ret
    exact ⟨by rw [cmpN_eq rfl]; rfl, rfl⟩
  · go_enter Tryz.func100, Tryz.ntmps100
    go_wp2
    go_ret
    exact ⟨by rw [cmpN_gt h]; rfl, rfl⟩

theorem nth_drop (xs : List Nat) (k j : Nat) : nth (xs.drop k) j = nth xs (k + j) := by
  unfold nth
  rw [List.getD_eq_getElem?_getD, List.getD_eq_getElem?_getD, List.getElem?_drop]

theorem list_ext_nth {xs ys : List Nat} (hl : xs.length = ys.length) (h : ∀ j, j < xs.length → nth xs j = nth ys j) : xs = ys := by
  apply List.ext_getElem hl
  intro i h1 h2
  rw [← nth_lt h1, ← nth_lt h2]
  exact h i h1

theorem val_split (xs : List Nat) (k : Nat) (h : k < xs.length) : val xs = val (xs.take k) + B64 ^ k * (nth xs k + B64 * val (xs.drop (k + 1))) := by
  conv => lhs; rw [← List.take_append_drop k xs]
  rw [val_append, List.length_take, Nat.min_eq_left (by omega), List.drop_eq_getElem_cons h, val_cons, nth_lt h]

theorem val_cmp {xs ys : List Nat} {k : Nat} (hl : xs.length = ys.length) (hx : AllOk xs) (hk : k < xs.length) (h : ∀ j, k < j → j < xs.length → nth xs j = nth ys j) (hlt : nth xs k < nth ys k) : val xs < val ys := by
  have e : xs.drop (k + 1) = ys.drop (k + 1) := by
    refine list_ext_nth (by simp [hl]) (fun j hj => ?_)
    rw [nth_drop, nth_drop]
    rw [List.length_drop] at hj
    exact h _ (by omega) (by omega)
  rw [val_split xs k hk, val_split ys k (by omega), e]
  have h1 := val_lt (xs.take k) (hx.take k)
  rw [List.length_take, Nat.min_eq_left (by omega)] at h1
  have h2 : B64 ^ k * (nth xs k + B64 * val (ys.drop (k + 1)) + 1) ≤ B64 ^ k * (nth ys k + B64 * val (ys.drop (k + 1))) := Nat.mul_le_mul_left _ (by omega)
  rw [Nat.mul_add, Nat.mul_one] at h2
  omega

set_option maxRecDepth 100000 in
set_option maxHeartbeats 1000000 in
theorem compare_any (a b : Nat) (A1 A2 : Option Addr) (n m c1 c2 : Nat) (B : Nat) (w : World) (hx : RW .u64 w B (.slice A1 n c1) (words a)) (hy : RW .u64 w B (.slice A2 m c2) (words b)) :
    Calls Tryz.prog 86 #[.slice A1 n c1, .slice A2 m c2] w fun e w' => e = .returned (.int .i64 (cmpN a b)) ∧ ∃ q, w' = w.drewN q := by
  have HXL := Lib.hid hx.len
  have HYL := Lib.hid hy.len
  have hn : n ≤ 9223372036854775807 := by have := hx.cap; unfold maxLen at this; omega
  have hm : m ≤ 9223372036854775807 := by have := hy.cap; unfold maxLen at this; omega
  by_cases hnm : n = m
  · subst hnm
    have hb0 : ((n : Int) != (n : Int)) = false := by simp
    go_enter Tryz.func86, Tryz.ntmps86
    go_wp2
    go_loopw [5] (fun i wr => ∃ k q : Nat, k ≤ n ∧ i = .int .i64 ((k : Int) - 1) ∧ wr = w.drewN q ∧ ∀ j, k ≤ j → j < n → nth (words a) j = nth (words b) j) (fun i _ => (intOf i + 1).toNat)
    case atStart => exact ⟨n, 0, Nat.le_refl _, rfl, rfl, fun j h1 h2 => absurd h1 (by omega)⟩
    case round =>
      obtain ⟨k, q, hk, rfl, rfl, hKK⟩ := hrel
      have HK := Lib.hid hKK
      clear hKK
      by_cases h0 : k = 0
      · subst h0
        go_wp2
        go_ret
        have e := words_inj (list_ext_nth (xs := words a) (ys := words b) (by rw [← HXL.out, ← HYL.out]) (fun j hj => HK.out j (Nat.zero_le _) (by rw [HXL.out]; exact hj)))
        exact ⟨by rw [cmpN_eq e]; rfl, q, rfl⟩
      · obtain ⟨k, rfl⟩ : ∃ t, k = t + 1 := ⟨k - 1, by omega⟩
        obtain ⟨b1, o1, hA1, _, hc1⟩ := hx.at_ (by omega)
        obtain ⟨b2, o2, hA2, _, hc2⟩ := hy.at_ (by omega)
        subst hA1 hA2
        have hx1 : w.cell? ⟨b1, o1 + k, none⟩ = some (.int .u64 (nth (words a) k : Nat)) := hc1 k (by omega)
        have hx2 : w.cell? ⟨b2, o2 + k, none⟩ = some (.int .u64 (nth (words b) k : Nat)) := hc2 k (by omega)
        have ek : ((k + 1 : Nat) : Int) - 1 = (k : Int) := by omega
        rw [ek]
        clear hc1 hc2 ek
        by_cases he : nth (words a) k = nth (words b) k
        · have hne : ((nth (words a) k : Int) != (nth (words b) k : Int)) = false := by rw [he]; simp
          have HE := Lib.hid he
          clear he
          go_wp2
          go_region
          all_goals
            go_wp2
            go_roundw
            case rel =>
              refine ⟨k, q + 1, by omega, rfl, rfl, fun j h1 h2 => ?_⟩
              by_cases e : j = k
              · subst e; exact HE.out
              · exact HK.out j (by omega) h2
            case measure => simp [intOf] <;> omega
        · have hne : ((nth (words a) k : Int) != (nth (words b) k : Int)) = true := by rw [bne_iff_ne]; omega
          have HE := Lib.hid he
          clear he
          go_wp2
          go_region
          all_goals
            go_wp2
            go_quiet ((go_at_call 100; first | exact quiet_add_left (cmpU_any _ _ _) | exact quiet_left (cmpU_any _ _ _)))
            go_wp2
            go_ret
            refine ⟨?_, _, World.drewN_drewN _ _ _⟩
            have hl : (words a).length = (words b).length := by rw [← HXL.out, ← HYL.out]
            have : cmpN (nth (words a) k) (nth (words b) k) = cmpN a b := by
              rcases Nat.lt_trichotomy (nth (words a) k) (nth (words b) k) with h | h | h
              · have h2 := val_cmp hl (words_ok a) (k := k) (by rw [← HXL.out]; omega) (fun j h3 h4 => HK.out j (by omega) (by rw [HXL.out]; exact h4)) h
                rw [val_words, val_words] at h2
                rw [cmpN_lt h, cmpN_lt h2]
              · exact absurd h HE.out
              · have h2 := val_cmp hl.symm (words_ok b) (k := k) (by rw [← HYL.out]; omega) (fun j h3 h4 => (HK.out j (by omega) (by rw [HYL.out]; exact h4)).symm) h
                rw [val_words, val_words] at h2
                rw [cmpN_gt h, cmpN_gt h2]
            rw [← this]
            rfl
  · have hb0 : ((n : Int) != (m : Int)) = true := by rw [bne_iff_ne]; omega
    have HN := Lib.hid hnm
    go_enter Tryz.func86, Tryz.ntmps86
    go_wp2_with (go_at_call 99; refine (cmpInt_any _ _ _).mono ?_; rintro e w' ⟨rfl, rfl⟩)
    go_ret
    refine ⟨?_, 0, rfl⟩
    have : cmpN n m = cmpN a b := by
      have h1 := HXL.out
      have h2 := HYL.out
      rcases Nat.lt_trichotomy n m with h | h | h
      · rw [cmpN_lt h, cmpN_lt (words_len_gt (by omega))]
      · exact absurd h hnm
      · rw [cmpN_gt h, cmpN_gt (words_len_gt (by omega))]
    rw [← this]
    rfl
end Go.Proofs.YtdpmfenikomfkaaGreat

namespace Go.Proofs.YtdpmfenikomfkaaGreat
open Go.RowKit

/-- The quotient and the rest of two words by one. -/
def dq (hi lo y : Nat) : Nat := (hi * B64 + lo) / y
def dr (hi lo y : Nat) : Nat := (hi * B64 + lo) % y

def Div64At (hi lo y : Nat) : Prop := ∀ w : World, Calls Tryz.prog 96 #[.int .u64 (hi : Nat), .int .u64 (lo : Nat), .int .u64 (y : Nat)] w fun e w' =>
  e = .returned (.tuple #[.int .u64 (dq hi lo y : Nat), .int .u64 (dr hi lo y : Nat)]) ∧ ∃ q, w' = w.drewN q

theorem div64_zero (lo y : Nat) (hy : 0 < y) (hlo : lo < B64) : Div64At 0 lo y := by
  intro w
  have h1 : ((y : Int) == 0) = false := by rw [beq_eq_false_iff_ne]; omega
  have e1 : dq 0 lo y = lo / y := by unfold dq; rw [Nat.zero_mul, Nat.zero_add]
  have e2 : dr 0 lo y = lo % y := by unfold dr; rw [Nat.zero_mul, Nat.zero_add]
  rw [e1, e2]
  clear e1 e2
  have hw : IntKind.u64.wrap ((lo : Int) / (y : Int)) = (lo : Int) / (y : Int) := wrap_small (lo / y) (Nat.lt_of_le_of_lt (Nat.div_le_self _ _) hlo)
  go_enter Tryz.func96, Tryz.ntmps96
  go_wp2
  go_region
  all_goals
    go_wp2
    go_ret2
    exact ⟨by simp [hw], 1, rfl⟩

/-- A quotient in words and a rest of one word. -/
def RetD (w : World) (q r : Nat) (e : Ending) (w' : World) : Prop :=
  ∃ A n c, e = .returned (.tuple #[.slice A n c, .int .u64 (r : Nat)]) ∧ RW .u64 w' w'.heap.size (.slice A n c) (words q) ∧ Below w.heap.size w w'

def DivwRel (w : World) (xs : List Nat) (n d : Nat) (r i : Value) (wr : World) : Prop :=
  ∃ (k : Nat) (L : List Nat), k ≤ n ∧ i = .int .i64 ((k : Int) - 1) ∧ r = .int .u64 (val (xs.drop k) % d : Nat) ∧ L.length = n ∧ AllOk L ∧ Row .u64 wr w.heap.size 65 L ∧ Below w.heap.size w wr ∧ val (L.drop k) = val (xs.drop k) / d

theorem divw_step {d x X : Nat} (hd : 0 < d) (hx : x < B64) : (x + B64 * X) / d = dq (X % d) x d + B64 * (X / d) ∧ (x + B64 * X) % d = dr (X % d) x d ∧ dq (X % d) x d < B64 := by
  have e : x + B64 * X = ((X % d) * B64 + x) + d * (B64 * (X / d)) := by
    have h := congrArg (B64 * ·) (Nat.mod_add_div X d)
    simp only [Nat.mul_add] at h
    rw [Nat.mul_left_comm B64 d] at h
    rw [Nat.mul_comm (X % d)]
    omega
  unfold dq dr
  refine ⟨?_, ?_, ?_⟩
  · rw [e, Nat.add_mul_div_left _ _ hd]
  · rw [e, Nat.add_mul_mod_self_left]
  · refine Nat.div_lt_of_lt_mul ?_
    have h1 : X % d + 1 ≤ d := Nat.mod_lt _ hd
    have h2 := Nat.mul_le_mul_right B64 h1
    rw [Nat.add_mul] at h2
    omega

set_option maxRecDepth 100000 in
set_option maxHeartbeats 1000000 in
theorem divideWord_any (A : Option Addr) (n c d : Nat) (xs : List Nat) (B : Nat) (w : World) (hx : RW .u64 w B (.slice A n c) xs) (hB : B ≤ w.heap.size) (hxo : AllOk xs) (hd : 0 < d) (hn : n ≤ 65536)
    (hD : ∀ k, k < xs.length → Div64At (val (xs.drop (k + 1)) % d) (nth xs k) d) :
    Calls Tryz.prog 80 #[.slice A n c, .int .u64 (d : Nat)] w (RetD w (val xs / d) (val xs % d)) := by
  obtain ⟨i0, hi0, hz0, hz1, hz2⟩ := info_parts info64
  have HXL := Lib.hid hx.len
  have HD := Lib.hid hD
  clear hD
  go_enter Tryz.func80, Tryz.ntmps80
  go_wp2_with (at_make
               refine wpList_make_full _ rfl (.tmp 10) (.tmp 10) _ rfl w.heap.size 65 i0 _ 1 Tryz.underlying72 hi0 hz0 hz1 .i64 .i64 _ _ n rfl rfl (by omega) (by omega) (by rw [hz2]; omega) (by unfold maxLen; omega) (Nat.le_refl _) ?_
               intro w1 hown hg1
               have hb1 : Below w.heap.size w w1 := (Below.refl _ _).grown hg1 (Nat.le_refl _) (by simp)
               have hrow := row_of_made hown
               clear hown hg1)
  go_loopw [7, 8] (fun r i wr => DivwRel w xs n d r i wr) (fun _ i _ => (intOf i + 1).toNat)
  case atStart =>
    refine ⟨n, _, Nat.le_refl _, rfl, ?_, by simp, AllOk.zeros _, hrow, hb1, ?_⟩
    · rw [List.drop_of_length_le (by rw [← HXL.out]; exact Nat.le_refl _)]; simp [val_nil]
    · rw [List.drop_of_length_le (l := xs) (by rw [← HXL.out]; exact Nat.le_refl _), List.drop_of_length_le (by simp)]; simp [val_nil]
  case round =>
    obtain ⟨k, L, hk, rfl, rfl, hLl, hLo, hr, hbr, hKK⟩ := hrel
    have HK := Lib.hid hKK
    have HL := Lib.hid hLl
    clear hKK hLl
    by_cases h0 : k = 0
    · subst h0
      have hrw : RW .u64 wr wr.heap.size (.slice (some ⟨w.heap.size, 0, none⟩) n n) L := RW.of_row0 (post := []) (hr.of_eq (by simp)) HL.out.symm (Nat.le_refl _) (by unfold maxLen; omega) hr.lt
      go_wp2_with (go_at_call 76; refine (trim_any _ _ _ _ _ _ hrw).mono ?_; rintro e w' ⟨rfl, rfl⟩)
      go_ret2
      have h3 := trim_words hrw hLo
      have hK := HK.out
      rw [List.drop_zero, List.drop_zero] at hK
      rw [hK] at h3
      exact ⟨_, _, _, rfl, h3, hbr⟩
    · obtain ⟨k, rfl⟩ : ∃ t, k = t + 1 := ⟨k - 1, by omega⟩
      have hxr := hx.belowM hbr hB
      obtain ⟨b, o, hA, hb, hcell⟩ := hxr.at_ (by omega)
      subst hA
      have hxc : wr.cell? ⟨b, o + k, none⟩ = some (.int .u64 (nth xs k : Nat)) := hcell _ (by omega)
      have hzc : wr.cell? ⟨w.heap.size, k, none⟩ = some (.int .u64 (nth L k : Nat)) := hr.cell (by rw [HL.out]; omega)
      have hf : wr.frozen? ⟨w.heap.size, k, none⟩ = false := hr.frozen _
      have hkx : k < xs.length := by rw [← HXL.out]; omega
      have hc := Lib.hid (HD.out k hkx)
      have ek : ((k + 1 : Nat) : Int) - 1 = (k : Int) := by omega
      rw [ek]
      clear hcell hxr ek
      go_wp2_with (go_at_call 96; refine (hc.out _).mono ?_; rintro e w' ⟨rfl, q, rfl⟩)
      go_roundw
      case rel =>
        obtain ⟨s1, s2, s3⟩ := divw_step (X := val (xs.drop (k + 1))) hd (nth_ok hxo k)
        refine ⟨k, L.set k (dq (val (xs.drop (k + 1)) % d) (nth xs k) d), by omega, rfl, ?_, by rw [List.length_set]; exact HL.out, hLo.set s3, hr.set _ _, (below_drewN hbr q).setCell (Nat.le_refl _) _, ?_⟩
        · rw [List.drop_eq_getElem_cons hkx, val_cons, ← nth_lt hkx, s2]
        · have hkL : k < L.length := by rw [HL.out]; omega
          rw [List.drop_eq_getElem_cons hkx, val_cons, ← nth_lt hkx, s1, List.drop_eq_getElem_cons (by rw [List.length_set]; exact hkL), val_cons, List.getElem_set_self, List.drop_set_of_lt (by omega), HK.out]
      case measure => simp [intOf] <;> omega
end Go.Proofs.YtdpmfenikomfkaaGreat

namespace Go.Proofs.YtdpmfenikomfkaaGreat
open Go.RowKit

/-- Two numbers in words are handed back. -/
def RetWW (w : World) (p q : Nat) (e : Ending) (w' : World) : Prop :=
  ∃ A n c A' n' c', e = .returned (.tuple #[.slice A n c, .slice A' n' c']) ∧ RW .u64 w' w'.heap.size (.slice A n c) (words p) ∧ RW .u64 w' w'.heap.size (.slice A' n' c') (words q) ∧ Below w.heap.size w w'

/-- divide does its work at a and b. -/
def DivideAt (a b : Nat) : Prop := ∀ (w : World) (B : Nat) (A1 A2 : Option Addr) (n m c1 c2 : Nat), RW .u64 w B (.slice A1 n c1) (words a) → RW .u64 w B (.slice A2 m c2) (words b) → B ≤ w.heap.size → n ≤ 65536 →
  Calls Tryz.prog 79 #[.slice A1 n c1, .slice A2 m c2] w (RetWW w (a / b) (a % b))

/-- commonDivisor does its work at a and b. -/
def GcdAt (a b : Nat) : Prop := ∀ (w : World) (B : Nat) (A1 A2 : Option Addr) (n m c1 c2 : Nat), RW .u64 w B (.slice A1 n c1) (words a) → RW .u64 w B (.slice A2 m c2) (words b) → B ≤ w.heap.size → n ≤ 65536 → m ≤ 65536 →
  Calls Tryz.prog 78 #[.slice A1 n c1, .slice A2 m c2] w (RetW w (Nat.gcd a b))

def DivOk (a b : Nat) : Prop := ∀ hi lo, hi < b → lo < B64 → (a < B64 → hi = 0) → Div64At hi lo b

theorem divOk_small {a b : Nat} (ha : a < B64) (hb : 0 < b) : DivOk a b := by
  intro hi lo _ h2 h3
  rw [h3 ha]
  exact div64_zero lo b hb h2

theorem drop_hi {a b k : Nat} (hk : k < (words a).length) (h : a < B64) : val ((words a).drop (k + 1)) % b = 0 := by
  have h1 := words_length_le a 1 (by rw [Nat.pow_one]; exact h)
  rw [List.drop_of_length_le (by omega), val_nil, Nat.zero_mod]

theorem RW.single {w : World} {B b n c : Nat} {A : Option Addr} (h : RW .u64 w B (.slice A n c) (words b)) (h0 : 0 < b) (hb : b < B64) : n = 1 ∧ ∃ g o, A = some ⟨g, o, none⟩ ∧ g < B ∧ w.cell? ⟨g, o, none⟩ = some (.int .u64 (b : Nat)) := by
  have hl := h.len
  rw [words_len_one.2 ⟨by omega, hb⟩] at hl
  obtain ⟨g, o, hA, hg, hc⟩ := h.at_ (by omega)
  have := hc 0 (by omega)
  rw [words_single (by omega) hb] at this
  exact ⟨hl, g, o, hA, hg, this⟩

set_option maxRecDepth 100000 in
set_option maxHeartbeats 1000000 in
theorem divide_small {a b : Nat} (h0 : 0 < b) (hb : b < B64) (hD : DivOk a b) : DivideAt a b := by
  intro w B A1 A2 n m c1 c2 hx hy hB hn
  have HD := Lib.hid hD
  clear hD
  by_cases hab : a < b
  · have hlt : cmpN a b < 0 := by rw [cmpN_lt hab]; omega
    go_enter Tryz.func79, Tryz.ntmps79
    go_wp2_with (go_at_call 86; refine (compare_any a b _ _ _ _ _ _ _ _ hx hy).mono ?_; rintro e w' ⟨rfl, q, rfl⟩)
    go_ret2
    refine ⟨_, _, _, _, _, _, rfl, ?_, ?_, below_drewN (Below.refl _ _) q⟩
    · rw [Nat.div_eq_of_lt hab, words_zero]; exact RW.nil_
    · rw [Nat.mod_eq_of_lt hab]; exact (hx.drewN q).more hB
  · have hlt : ¬ cmpN a b < 0 := by
      rcases Nat.lt_or_ge b a with h | h
      · rw [cmpN_gt h]; omega
      · rw [cmpN_eq (by omega)]; omega
    obtain ⟨hm, g, o, hA, hg, hcell⟩ := hy.single h0 hb
    subst hm hA
    go_enter Tryz.func79, Tryz.ntmps79
    go_wp2_with (go_at_call 86; refine (compare_any a b _ _ _ _ _ _ _ _ hx hy).mono ?_; rintro e w' ⟨rfl, q, rfl⟩)
    refine (divideWord_any A1 n c1 b (words a) B _ (hx.drewN q) hB (words_ok a) h0 hn (fun k hk => HD.out _ _ (Nat.mod_lt _ h0) (nth_ok (words_ok a) k) (fun ha => drop_hi hk ha))).mono ?_
    rintro e w1 ⟨A, n1, c3, rfl, h1, hb1⟩
    rw [val_words] at h1 ⊢
    have hr : a % b < B64 := Nat.lt_trans (Nat.mod_lt _ h0) hb
    go_wp2_with (go_at_call 64; refine (single_any (a % b) hr _).mono ?_; rintro e w2 ⟨A3, n3, c4, rfl, h2, hb2⟩)
    go_ret2
    exact ⟨_, _, _, _, _, _, rfl, (h1.below hb2).more hb2.size, h2, ((below_drewN (Below.refl _ _) q).trans hb1).trans (hb2.mono (by have := hb1.size; simpa using this))⟩

set_option maxRecDepth 100000 in
set_option maxHeartbeats 400000 in
theorem wordDivisor_any (x y : Nat) (hy : y < B64) (w : World) :
    Calls Tryz.prog 91 #[.int .u64 (x : Nat), .int .u64 (y : Nat)] w fun e w' => e = .returned (.int .u64 (Nat.gcd x y : Nat)) ∧ ∃ q, w' = w.drewN q := by
  go_enter Tryz.func91, Tryz.ntmps91
  go_wp2
  go_loopw [0, 1] (fun u v wr => ∃ a b q : Nat, u = .int .u64 (a : Nat) ∧ v = .int .u64 (b : Nat) ∧ wr = w.drewN q ∧ b < B64 ∧ Hid (Nat.gcd a b = Nat.gcd x y)) (fun _ v _ => (intOf v).toNat)
  case atStart => exact ⟨x, y, 0, rfl, rfl, rfl, hy, rfl⟩
  case round =>
    obtain ⟨a, b, q, rfl, rfl, rfl, hb, hg⟩ := hrel
    by_cases h0 : b = 0
    · subst h0
      have hbb : ((0 : Int) != 0) = false := rfl
      go_wp2
      go_ret
      have := hg.out
      rw [Nat.gcd_zero_right] at this
      rw [this]
      exact ⟨rfl, _, rfl⟩
    · have hbb : ((b : Int) != 0) = true := by rw [bne_iff_ne]; omega
      have hbe : ((b : Int) == 0) = false := by rw [beq_eq_false_iff_ne]; omega
      have hpos : 0 < b := by omega
      have hml := Nat.mod_lt a hpos
      have hw : IntKind.u64.wrap ((a : Int) % (b : Int)) = (a : Int) % (b : Int) := wrap_small (a % b) (Nat.lt_trans hml hb)
      have HW := Lib.hid hw
      clear hw
      go_wp2
      go_region
      all_goals
        go_wp2
        go_roundw
        case rel =>
          refine ⟨b, a % b, q + 1, rfl, ?_, rfl, Nat.lt_trans hml hb, ?_⟩
          · first
            | rw [HW.out]; rfl
            | rfl
          · refine Eq.trans ?_ hg.out
            rw [Nat.gcd_comm, ← Nat.gcd_rec, Nat.gcd_comm]
        case measure => simp [intOf] <;> omega
end Go.Proofs.YtdpmfenikomfkaaGreat
