/-
  Plain facts on natural numbers as lists of words32 of 64 bits: no program, no memory.
  Words of 32 bits packed to words of 64 bits, and back.
-/
import Derived.Test.YtdpmfenikomfkaaGreatE01
import Derived.Test.YtdpmfenikomfkaaGreatE15
import Derived.Laws.BitsAllLaws
namespace Go.Proofs.YtdpmfenikomfkaaGreat
set_option autoImplicit false

def B32 : Nat := 4294967296
theorem B32_pos : 0 < B32 := by unfold B32; omega
theorem B32_eq : B32 = 4294967296 := rfl

def val32 : List Nat → Nat
  | [] => 0
  | x :: xs => x + B32 * val32 xs

def AllOk32 (xs : List Nat) : Prop := ∀ x ∈ xs, x < B32

def words32 (n : Nat) : List Nat := if _h : n = 0 then [] else (n % B32) :: words32 (n / B32)
termination_by n
decreasing_by exact Nat.div_lt_self (by omega) (by unfold B32; omega)

theorem words32_zero : words32 0 = [] := by rw [words32]; simp
theorem words32_pos {n : Nat} (h : n ≠ 0) : words32 n = (n % B32) :: words32 (n / B32) := by rw [words32]; simp [h]

theorem val32_words32 (n : Nat) : val32 (words32 n) = n := by
  induction n using Nat.strongRecOn with
  | _ n ih =>
    by_cases h : n = 0
    · subst h; rw [words32_zero]; rfl
    · rw [words32_pos h, val32, ih _ (Nat.div_lt_self (by omega) (by unfold B32; omega))]
      exact Nat.mod_add_div n B32

theorem words32_ok (n : Nat) : AllOk32 (words32 n) := by
  induction n using Nat.strongRecOn with
  | _ n ih =>
    by_cases h : n = 0
    · subst h; rw [words32_zero]; intro x hx; cases hx
    · rw [words32_pos h]
      intro x hx
      rcases List.mem_cons.1 hx with rfl | hx
      · exact Nat.mod_lt _ B32_pos
      · exact ih _ (Nat.div_lt_self (by omega) (by unfold B32; omega)) x hx

theorem val32_nil : val32 [] = 0 := rfl
theorem val32_cons (x : Nat) (xs : List Nat) : val32 (x :: xs) = x + B32 * val32 xs := rfl

theorem AllOk32.cons {x : Nat} {xs : List Nat} (h : AllOk32 (x :: xs)) : x < B32 ∧ AllOk32 xs :=
  ⟨h x (List.mem_cons_self), fun y hy => h y (List.mem_cons_of_mem _ hy)⟩

/-- A list without a most significant word 0 is the words32 of its value. -/
theorem words32_val32 : ∀ (xs : List Nat), AllOk32 xs → (xs ≠ [] → xs.getLastD 1 ≠ 0) → words32 (val32 xs) = xs
  | [], _, _ => words32_zero
  | x :: xs, hok, hl => by
    obtain ⟨hx, hxs⟩ := hok.cons
    have hne : val32 (x :: xs) ≠ 0 := by
      intro h0
      rw [val32_cons] at h0
      have hx0 : x = 0 := by omega
      have hv0 : val32 xs = 0 := by
        rcases Nat.eq_zero_of_add_eq_zero_left h0 with h
        rcases Nat.mul_eq_zero.1 h with h | h
        · unfold B32 at h; omega
        · exact h
      cases xs with
      | nil => exact hl (by simp) (by simp [hx0])
      | cons y ys =>
        have := words32_val32 (y :: ys) hxs (fun _ => by
          have := hl (by simp)
          simpa [List.getLastD] using this)
        rw [hv0, words32_zero] at this
        cases this
    rw [words32_pos hne, val32_cons, Nat.add_mul_mod_self_left, Nat.mod_eq_of_lt hx, Nat.add_mul_div_left _ _ B32_pos, Nat.div_eq_of_lt hx, Nat.zero_add]
    congr 1
    refine words32_val32 xs hxs (fun hn => ?_)
    have := hl (by simp)
    cases xs with
    | nil => exact absurd rfl hn
    | cons y ys => simpa [List.getLastD] using this

theorem val32_append : ∀ (xs ys : List Nat), val32 (xs ++ ys) = val32 xs + B32 ^ xs.length * val32 ys
  | [], ys => by simp [val32_nil]
  | x :: xs, ys => by
    rw [List.cons_append, val32_cons, val32_cons, val32_append xs ys, List.length_cons, Nat.pow_succ, Nat.mul_add, Nat.add_assoc]
    congr 2
    rw [← Nat.mul_assoc, Nat.mul_comm B32 (B32 ^ xs.length)]

theorem val32_lt : ∀ (xs : List Nat), AllOk32 xs → val32 xs < B32 ^ xs.length
  | [], _ => by simp [val32_nil]
  | x :: xs, h => by
    obtain ⟨hx, hxs⟩ := h.cons
    have ih := val32_lt xs hxs
    rw [val32_cons, List.length_cons, Nat.pow_succ]
    have h1 : B32 * (val32 xs + 1) ≤ B32 * B32 ^ xs.length := Nat.mul_le_mul_left _ ih
    rw [Nat.mul_add, Nat.mul_one] at h1
    rw [Nat.mul_comm (B32 ^ xs.length)]
    omega

theorem val32_zeros : ∀ (xs : List Nat), (∀ x ∈ xs, x = 0) → val32 xs = 0
  | [], _ => rfl
  | x :: xs, h => by
    rw [val32_cons, h x (List.mem_cons_self), val32_zeros xs (fun y hy => h y (List.mem_cons_of_mem _ hy)), Nat.mul_zero]

/-- What trim leaves. -/
theorem take_words32 (xs : List Nat) (n : Nat) (hok : AllOk32 xs) (hn : n ≤ xs.length) (hz : ∀ j, n ≤ j → j < xs.length → xs.getD j 0 = 0) (hl : 0 < n → xs.getD (n - 1) 0 ≠ 0) :
    xs.take n = words32 (val32 xs) := by
  have hv : val32 xs = val32 (xs.take n) := by
    conv => lhs; rw [← List.take_append_drop n xs]
    rw [val32_append, val32_zeros (xs.drop n)]
    · simp
    · intro x hx
      obtain ⟨i, hi, rfl⟩ := List.mem_iff_getElem.1 hx
      have hi' : n + i < xs.length := by simp at hi; omega
      have := hz (n + i) (by omega) hi'
      rw [List.getD_eq_getElem?_getD, List.getElem?_eq_getElem hi'] at this
      simpa using this
  rw [hv, words32_val32 _ (fun x hx => hok x (List.mem_of_mem_take hx))]
  intro hne
  have hn0 : 0 < n := by
    rcases Nat.eq_zero_or_pos n with h | h
    · subst h; simp at hne
    · exact h
  have h1 := hl hn0
  have h2 : (xs.take n).getLastD 1 = xs.getD (n - 1) 0 := by
    rw [List.getLastD_eq_getLast?, List.getLast?_eq_getElem?, List.length_take, Nat.min_eq_left hn, List.getElem?_take_of_lt (by omega), List.getD_eq_getElem?_getD]
    rw [List.getElem?_eq_getElem (by omega)]
    rfl
  rw [h2]
  exact h1

theorem words32_length_le (n k : Nat) (h : n < B32 ^ k) : (words32 n).length ≤ k := by
  induction k generalizing n with
  | zero => simp at h; subst h; rw [words32_zero]; simp
  | succ k ih =>
    by_cases h0 : n = 0
    · subst h0; rw [words32_zero]; simp
    · rw [words32_pos h0, List.length_cons]
      have := ih (n / B32) (Nat.div_lt_of_lt_mul (by rw [Nat.pow_succ] at h; rw [Nat.mul_comm]; exact h))
      omega

theorem words32_lt (n : Nat) : n < B32 ^ (words32 n).length := by
  have := val32_lt _ (words32_ok n)
  rwa [val32_words32] at this

theorem words32_last (n : Nat) (h : n ≠ 0) : (words32 n).getLastD 1 ≠ 0 := by
  induction n using Nat.strongRecOn with
  | _ n ih =>
    rw [words32_pos h]
    by_cases h1 : n / B32 = 0
    · rw [h1, words32_zero]
      have : n < B32 := by
        rcases Nat.lt_or_ge n B32 with h' | h'
        · exact h'
        · exact absurd h1 (Nat.pos_iff_ne_zero.1 (Nat.div_pos h' B32_pos))
      simp [Nat.mod_eq_of_lt this, h]
    · have := ih _ (Nat.div_lt_self (by omega) (by unfold B32; omega)) h1
      rw [words32_pos h1] at this ⊢
      simpa [List.getLastD] using this

theorem words32_eq_nil {n : Nat} : words32 n = [] ↔ n = 0 := by
  constructor
  · intro h
    have := val32_words32 n
    rw [h] at this
    exact this.symm
  · rintro rfl; exact words32_zero

theorem words32_single {n : Nat} (h0 : n ≠ 0) (h : n < B32) : words32 n = [n] := by
  rw [words32_pos h0, Nat.mod_eq_of_lt h, Nat.div_eq_of_lt h, words32_zero]

theorem words32_len_zero {n : Nat} : (words32 n).length = 0 ↔ n = 0 := by
  rw [List.length_eq_zero_iff, words32_eq_nil]

theorem words32_len_one {n : Nat} : (words32 n).length = 1 ↔ n ≠ 0 ∧ n < B32 := by
  constructor
  · intro h
    refine ⟨fun h0 => ?_, ?_⟩
    · subst h0; rw [words32_zero] at h; cases h
    · have := words32_lt n
      rw [h] at this
      simpa using this
  · rintro ⟨h0, h⟩
    rw [words32_single h0 h]; rfl

theorem words32_inj {a b : Nat} (h : words32 a = words32 b) : a = b := by
  rw [← val32_words32 a, h, val32_words32]

theorem words32_len_mono {a b : Nat} (h : a ≤ b) : (words32 a).length ≤ (words32 b).length :=
  words32_length_le a _ (Nat.lt_of_le_of_lt h (words32_lt b))

theorem words32_len_gt {a b : Nat} (h : (words32 a).length < (words32 b).length) : a < b := by
  rcases Nat.lt_or_ge a b with h' | h'
  · exact h'
  · have := words32_len_mono h'
    omega

theorem words32_ge (n : Nat) (h : n ≠ 0) : B32 ^ ((words32 n).length - 1) ≤ n := by
  rcases Nat.lt_or_ge n (B32 ^ ((words32 n).length - 1)) with h' | h'
  · have := words32_length_le n _ h'
    have : (words32 n).length ≠ 0 := fun e => h (words32_len_zero.1 e)
    omega
  · exact h'


theorem nth_ok32 {xs : List Nat} (h : AllOk32 xs) (i : Nat) : nth xs i < B32 := by
  rcases Nat.lt_or_ge i xs.length with hi | hi
  · rw [nth_lt hi]; exact h _ (List.getElem_mem hi)
  · rw [nth_ge hi]; exact B32_pos

theorem take_top32 (xs : List Nat) (hok : AllOk32 xs) : xs.take (top xs) = words32 (val32 xs) :=
  take_words32 xs (top xs) hok (top_le xs) (fun j hj _ => top_after xs j hj) (top_last xs)

theorem top_eq_len32 (xs : List Nat) (hok : AllOk32 xs) : top xs = (words32 (val32 xs)).length := by
  rw [← take_top32 xs hok, List.length_take, Nat.min_eq_left (top_le xs)]

theorem top_words32 (n : Nat) : top (words32 n) = (words32 n).length := by
  rw [top_eq_len32 _ (words32_ok n), val32_words32]

theorem val32_take_succ (xs : List Nat) (k : Nat) (h : k < xs.length) : val32 (xs.take (k + 1)) = val32 (xs.take k) + B32 ^ k * nth xs k := by
  rw [List.take_succ_eq_append_getElem h, val32_append, List.length_take, Nat.min_eq_left (by omega), nth_lt h]
  simp [val32_cons, val32_nil]

theorem AllOk32.set {xs : List Nat} (h : AllOk32 xs) {i x : Nat} (hx : x < B32) : AllOk32 (xs.set i x) := by
  intro y hy
  rcases List.mem_or_eq_of_mem_set hy with h' | h'
  · exact h y h'
  · subst h'; exact hx
theorem AllOk32.append {xs ys : List Nat} (h : AllOk32 xs) (h' : AllOk32 ys) : AllOk32 (xs ++ ys) := by
  intro y hy
  rcases List.mem_append.1 hy with g | g
  · exact h y g
  · exact h' y g
theorem AllOk32.take {xs : List Nat} (h : AllOk32 xs) (k : Nat) : AllOk32 (xs.take k) := fun y hy => h y (List.mem_of_mem_take hy)
theorem AllOk32.drop {xs : List Nat} (h : AllOk32 xs) (k : Nat) : AllOk32 (xs.drop k) := fun y hy => h y (List.mem_of_mem_drop hy)
theorem AllOk32.zeros (n : Nat) : AllOk32 (List.replicate n 0) := by
  intro y hy
  rw [List.eq_of_mem_replicate hy]; exact B32_pos
theorem AllOk32.nil : AllOk32 [] := fun _ h => by cases h

/-- The value of the first k + 1 words32 after the word k was written. -/
theorem val32_set_succ (xs : List Nat) (k x : Nat) (h : k < xs.length) : val32 ((xs.set k x).take (k + 1)) = val32 (xs.take k) + B32 ^ k * x := by
  rw [val32_take_succ _ _ (by simpa using h), take_set_le _ _ _ _ (Nat.le_refl k), nth_set, if_pos ⟨rfl, h⟩]

theorem val32_zeros_n (n : Nat) : val32 (List.replicate n 0) = 0 := val32_zeros _ (fun _ h => List.eq_of_mem_replicate h)

end Go.Proofs.YtdpmfenikomfkaaGreat

namespace Go.Proofs.YtdpmfenikomfkaaGreat
open Go.RowKit

theorem b64_b32 (q : Nat) : B64 ^ q = B32 ^ (2 * q) := by
  rw [Nat.pow_mul]; rfl

theorem pack_even {L xs : List Nat} {q t m : Nat} (ht : t = top xs) (hlt : 2 * q < t) (hm : m = (t + 1) / 2) (hok : AllOk32 xs) (hL : AllOk L)
    (hk : L.length = m ∧ val L = val32 (xs.take (2 * q)) ∧ (∀ j, 2 * q ≤ 2 * j → nth L j = 0)) :
    AllOk (L.set q (nth xs (2 * q))) ∧ val (L.set q (nth xs (2 * q))) = val32 (xs.take (2 * q + 1)) ∧ (∀ j, 2 * q + 1 ≤ 2 * j → nth (L.set q (nth xs (2 * q))) j = 0) ∧ nth (L.set q (nth xs (2 * q))) q < B32 := by
  obtain ⟨h1, h2, h3⟩ := hk
  have hx := nth_ok32 hok (2 * q)
  have hxl : 2 * q < xs.length := by have := top_le xs; omega
  have hb : nth xs (2 * q) < B64 := Nat.lt_trans hx (by unfold B32 B64; omega)
  refine ⟨hL.set hb, ?_, fun j hj => ?_, ?_⟩
  · have hv := val_set L q (nth xs (2 * q)) (by omega)
    rw [h3 q (Nat.le_refl _), Nat.mul_zero, Nat.add_zero] at hv
    rw [hv, h2, val32_take_succ _ _ hxl, b64_b32]
  · rw [nth_set, if_neg (by omega)]; exact h3 j (by omega)
  · rw [nth_set, if_pos ⟨rfl, by omega⟩]; exact hx

theorem pack_odd {L xs : List Nat} {q t m : Nat} (ht : t = top xs) (hlt : 2 * q + 1 < t) (hm : m = (t + 1) / 2) (hok : AllOk32 xs) (hL : AllOk L)
    (hk : L.length = m ∧ val L = val32 (xs.take (2 * q + 1)) ∧ (∀ j, 2 * q + 1 ≤ 2 * j → nth L j = 0) ∧ nth L q < B32) :
    AllOk (L.set q (nth L q + nth xs (2 * q + 1) * B32)) ∧ val (L.set q (nth L q + nth xs (2 * q + 1) * B32)) = val32 (xs.take (2 * q + 2)) ∧ (∀ j, 2 * q + 2 ≤ 2 * j → nth (L.set q (nth L q + nth xs (2 * q + 1) * B32)) j = 0) := by
  obtain ⟨h1, h2, h3, h4⟩ := hk
  have hx := nth_ok32 hok (2 * q + 1)
  have hxl : 2 * q + 1 < xs.length := by have := top_le xs; omega
  have hb : nth L q + nth xs (2 * q + 1) * B32 < B64 := by
    unfold B32 B64 at *; omega
  refine ⟨hL.set hb, ?_, fun j hj => ?_⟩
  · have hv := val_set L q (nth L q + nth xs (2 * q + 1) * B32) (by omega)
    rw [Nat.mul_add, b64_b32] at hv
    have e : B32 ^ (2 * q + 1) * nth xs (2 * q + 1) = B32 ^ (2 * q) * (nth xs (2 * q + 1) * B32) := by
      rw [Nat.pow_succ, Nat.mul_assoc, Nat.mul_comm B32]
    rw [val32_take_succ _ _ hxl, e]
    omega
  · rw [nth_set, if_neg (by omega)]; exact h3 j (by omega)

theorem pack_end {L xs : List Nat} {t : Nat} (ht : t = top xs) (hok : AllOk32 xs) (hL : AllOk L) (hl : L.length = (t + 1) / 2) (hv : val L = val32 (xs.take t)) : L = words (val32 xs) := by
  subst ht
  rw [take_top32 xs hok, val32_words32] at hv
  rw [← hv]
  refine (words_of_ge L hL (fun h0 => ?_)).symm
  have hn : val32 xs ≠ 0 := by
    intro h
    have := top_eq_len32 xs hok
    rw [h, words32_zero] at this
    simp at this
    omega
  have hg := words32_ge _ hn
  rw [← top_eq_len32 xs hok] at hg
  rw [hv, b64_b32]
  exact Nat.le_trans (Nat.pow_le_pow_right B32_pos (by omega)) hg

theorem or_high (y x : Nat) (h : y < B32) : y ||| (x * 4294967296) = y + x * B32 := by
  unfold B32 at *
  have := Nat.shiftLeft_add_eq_or_of_lt (b := y) (i := 32) h x
  rw [Nat.shiftLeft_eq] at this
  rw [Nat.or_comm, show x * 4294967296 = x * 2 ^ 32 from rfl, ← this]
  omega

def PackRel (w : World) (t : Nat) (xs : List Nat) (m : Nat) (i : Value) (wr : World) : Prop :=
  ∃ k L, k ≤ t ∧ i = .int .i64 (k : Nat) ∧ Row .u64 wr w.heap.size 65 L ∧ L.length = m ∧ AllOk L ∧ val L = val32 (xs.take k) ∧ (∀ j, k ≤ 2 * j → nth L j = 0) ∧ (k % 2 = 1 → nth L (k / 2) < B32) ∧ Below w.heap.size w wr

set_option maxRecDepth 100000 in
set_option maxHeartbeats 400000 in
theorem pack_any (A : Option Addr) (n c : Nat) (xs : List Nat) (hok : AllOk32 xs) (B : Nat) (w : World) (h : RW .u32 w B (.slice A n c) xs) (hB : B ≤ w.heap.size) (ht : top xs ≤ 65536) :
    Calls Tryz.prog 66 #[.slice A n c] w (RetW w (val32 xs)) := by
  obtain ⟨i0, hi0, hz0, hz1, hz2⟩ := info_parts info64
  have hl := Lib.hid h.len
  have hc := h.cap
  have hm : n ≤ 9223372036854775807 := by have := hc.2; unfold maxLen at this; omega
  have htn : top xs ≤ n := by rw [hl.out]; exact top_le xs
  obtain ⟨t, ht0⟩ : ∃ t, t = top xs := ⟨_, rfl⟩
  have HT := Lib.hid ht0
  rw [← ht0] at ht htn
  have h32 := h.take htn
  clear ht0
  go_enter Tryz.func66, Tryz.ntmps66
  go_wp2_with (first
    | (go_at_call 65; refine (words32_any A n c xs B _ h).mono ?_; rw [← HT.out]; rintro e w' ⟨rfl, rfl⟩)
    | (at_make
       refine wpList_make_full _ rfl (.tmp 13) (.tmp 13) _ rfl w.heap.size 65 i0 _ 1 Tryz.underlying72 hi0 hz0 hz1 .i64 .i64 _ _ ((t + 1) / 2) rfl rfl (by omega) (by omega) (by rw [hz2]; omega) (by unfold maxLen; omega) (Nat.le_refl _) ?_
       intro w1 hown hg1
       have hb1 : Below w.heap.size w w1 := (Below.refl _ _).grown hg1 (Nat.le_refl _) (by simp)
       have hrow := row_of_made hown
       clear hown hg1))
  go_loopw [17] (fun i wr => PackRel w t xs ((t + 1) / 2) i wr) (fun i _ => t - (intOf i).toNat)
  case atStart => 
    refine ⟨0, _, Nat.zero_le _, rfl, hrow, by simp, AllOk.zeros _, ?_, ?_, ?_, hb1⟩
    · rw [val_zeros_n]; rfl
    · intro j _; unfold nth; simp [List.getD_eq_getElem?_getD, List.getElem?_replicate]; split <;> rfl
    · intro h; omega
  case round =>
    obtain ⟨k, L, hk, rfl, hr, hLl, hLok, hLv, hz, hodd, hbr⟩ := hrel
    have HK := Lib.hid (And.intro hLl (And.intro hLv (And.intro hz hodd)))
    have HO := Lib.hid hLok
    clear hLv hz hodd hLok
    by_cases hlt : k < t
    · obtain ⟨q, hq⟩ : ∃ q, k = 2 * q ∨ k = 2 * q + 1 := ⟨k / 2, by omega⟩
      rcases hq with rfl | rfl
      · obtain ⟨b, o, rfl, hb, hcell⟩ := h32.at_ (by omega)
        have hx : wr.cell? ⟨b, o + 2 * q, none⟩ = some (.int .u32 (nth (xs.take t) (2 * q) : Nat)) := by rw [hbr.cell (by show b < _; omega)]; exact hcell _ (by omega)
        have hy : wr.cell? ⟨w.heap.size, q, none⟩ = some (.int .u64 (nth L q : Nat)) := hr.cell (by omega)
        have hf : wr.frozen? ⟨w.heap.size, q, none⟩ = false := hr.frozen _
        clear hcell hLl
        go_wp2
        go_region
        go_wp2
        go_roundw
        case rel =>
          obtain ⟨g1, g2, g3, _⟩ := HK.out
          obtain ⟨p1, p2, p3, p4⟩ := pack_even HT.out hlt rfl hok HO.out ⟨g1, g2, g3⟩
          have e1 : nth (xs.take t) (2 * q) = nth xs (2 * q) := nth_take (by omega)
          have hb : nth xs (2 * q) < B64 := Nat.lt_trans (nth_ok32 hok (2 * q)) (by unfold B32 B64; omega)
          rw [e1, wrap_small _ hb, wrap_small _ hb, g3 q (Nat.le_refl _), u64_or_nat _ _ (by omega) hb, Nat.zero_or]
          exact ⟨2 * q + 1, _, by omega, by go_num, (hr.set q _).drew, by rw [List.length_set]; exact g1, p1, p2, p3, fun _ => by rw [show (2 * q + 1) / 2 = q from by omega]; exact p4, (hbr.setCell (Nat.le_refl _) _).drew⟩
        case measure => simp [intOf]; omega
      · obtain ⟨b, o, rfl, hb, hcell⟩ := h32.at_ (by omega)
        have hx : wr.cell? ⟨b, o + (2 * q + 1), none⟩ = some (.int .u32 (nth (xs.take t) (2 * q + 1) : Nat)) := by rw [hbr.cell (by show b < _; omega)]; exact hcell _ (by omega)
        have hy : wr.cell? ⟨w.heap.size, (2 * q + 1) / 2, none⟩ = some (.int .u64 (nth L q : Nat)) := by rw [show (2 * q + 1) / 2 = q from by omega]; exact hr.cell (by omega)
        have hf : wr.frozen? ⟨w.heap.size, (2 * q + 1) / 2, none⟩ = false := hr.frozen _
        clear hcell hLl
        go_wp2
        go_region
        go_wp2
        go_roundw
        case rel =>
          obtain ⟨g1, g2, g3, g4⟩ := HK.out
          have g5 : nth L q < B32 := by have := g4 (by omega); rwa [show (2 * q + 1) / 2 = q from by omega] at this
          obtain ⟨p1, p2, p3⟩ := pack_odd HT.out hlt rfl hok HO.out ⟨g1, g2, g3, g5⟩
          have e1 : nth (xs.take t) (2 * q + 1) = nth xs (2 * q + 1) := nth_take (by omega)
          have hx32 := nth_ok32 hok (2 * q + 1)
          have hb : nth xs (2 * q + 1) < B64 := Nat.lt_trans hx32 (by unfold B32 B64; omega)
          have hb2 : nth xs (2 * q + 1) * 4294967296 < B64 := by unfold B32 at hx32; unfold B64; omega
          have e2 : bits BinOp.or IntKind.u64 (nth L q : Int) ((nth xs (2 * q + 1) * 4294967296 : Nat) : Int) = ((nth L q + nth xs (2 * q + 1) * B32 : Nat) : Int) := by
            have hy64 : nth L q < B64 := nth_ok HO.out q
            rw [u64_or_nat _ _ hy64 hb2, or_high (nth L q) (nth xs (2 * q + 1)) g5]
          have e3 : (nth xs (2 * q + 1) : Int) * 4294967296 = ((nth xs (2 * q + 1) * 4294967296 : Nat) : Int) := by omega
          rw [e1, wrap_small _ hb, e3, wrap_small _ hb2, e2, show (2 * q + 1) / 2 = q from by omega]
          exact ⟨2 * q + 2, _, by omega, by go_num, (hr.set q _).drew, by rw [List.length_set]; exact g1, p1, p2, p3, fun h => absurd h (by omega), (hbr.setCell (Nat.le_refl _) _).drew⟩
        case measure => simp [intOf]; omega
    · have hkt : k = t := by omega
      have HKT := Lib.hid hkt
      clear hkt hLl
      go_wp2
      go_ret
      have hke := HKT.out
      subst hke
      obtain ⟨g1, g2, _⟩ := HK.out
      have hL := pack_end HT.out hok HO.out g1 g2
      rw [hL] at hr g1
      exact ⟨_, _, _, rfl, RW.of_row0 (post := []) (hr.of_eq (by simp)) g1.symm (Nat.le_refl _) (by unfold maxLen; omega) hr.lt, hbr⟩
end Go.Proofs.YtdpmfenikomfkaaGreat
