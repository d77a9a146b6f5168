/-
  The last step of a statement: behind a call that only makes new memory, the arguments read as before.
  A world behind a draw.
  Plain facts on natural numbers as lists of words of 64 bits: no program, no memory.
-/
import Derived.Test.YtdpmfenikomfkaaGreatRows
import Derived.WalkKit
import Derived.ProofKit
import Derived.OpenShut
import Derived.Below
import Derived.ChangeSame
import Derived.Lib.SmallJoins
import Derived.Deep.Draws
namespace Go.Proofs.YtdpmfenikomfkaaGreat
open Go.RowKit Go.WideShapes Go.ChangeShapes

theorem ownTry : ownKnob Tryz.prog.godebug = none := by kernel_rfl

theorem post_below {H : Type} {enc : TypeId × Value → H} {P : Program} {f : Func} {s : ChangeSpec} {apart fresh handsOn again : Bool} {W W' : World} {args : Array Value} {v : Value} {ds gs : List (DataW H)} {before pa pv : List MemPlace}
    (hW : DataW.Whole enc P f.params.toList s.vars apart W args.toList ds gs before)
    (hres : ∀ (b : Nat) (sp : Nat → Bool) (hd : Bool), DataW.TrodAll enc P W' b sp hd f.resultTypes.toList (v.resultList f.resultTypes.size) (s.fn H (ds ++ gs)).results [])
    (hargs : ∀ sp : Nat → Bool, (∀ p ∈ before, sp p.block = true) → DataW.TrodAll enc P W' 0 sp true f.params.toList args.toList (s.fn H (ds ++ gs)).args pa)
    (hvars : ∀ sp : Nat → Bool, (∀ p ∈ before, sp p.block = true) → DataW.TrodVars enc P W' sp s.vars (s.fn H (ds ++ gs)).vars pv)
    (hps : before = pa ++ pv) (hb : Below W.heap.size W W')
    (hok : ∀ (j : Nat) (t : TypeId) (r : Value), f.resultTypes[j]? = some t → (v.resultList f.resultTypes.size)[j]? = some r → Value.okWide P W' .any 0 t r) :
    s.post enc P f apart fresh handsOn again W args v W' := by
  have hlt : ∀ p ∈ before, p.block < W.heap.size := fun p hp => hW.lt p hp
  have hold : ∀ p ∈ before, (fun b => decide (b < W.heap.size)) p.block = true := fun p hp => by simpa using hlt p hp
  have hmay : ∀ p, p ∈ before → p ∈ pa ∨ p ∈ pv := fun p hp => by rw [hps] at hp; exact List.mem_append.1 hp
  refine ⟨ds, gs, before, [], pa, pv, hW, hres _ _ _, hargs _ hold, hvars _ hold, World.keptBut_mono (fun p hp => ⟨hp, Or.inr (hmay p hp)⟩) (hb.frame (· ∈ before)), fun _ => ?_⟩
  obtain ⟨_, _, _, _, _, hz, hn⟩ := hW
  refine ⟨hok, _, _, ([] ++ pa) ++ pv, ⟨[] ++ pa, pv, trodAll_append (hargs _ (fun _ _ => rfl)) (hres _ _ _), hvars _ (fun _ _ => rfl), rfl, ?_, ?_⟩, ?_⟩
  · intro b off hp
    have hin : MemPlace.cell b off ∈ before := by rw [hps]; simpa using hp
    rw [hb.frozen (hlt _ hin)]
    exact hz b off hin
  · intro ha
    have := hn ha
    rw [hps] at this
    simpa using this
  · intro p hp _
    rw [hps]
    simpa using hp

theorem cellsXY : Tryz.prog.cellsOf 56 = 2 := by kernel_rfl
theorem cellsSpan : Tryz.prog.cellsOf 23 = 2 := by kernel_rfl
end Go.Proofs.YtdpmfenikomfkaaGreat

namespace Go.Proofs.YtdpmfenikomfkaaGreat
open Go Go.RowKit

theorem below_un {B : Nat} {w w' : World} (h : Below B w.drew w') : Below B w w' := ⟨h.os, h.tape, h.output, h.size, h.block⟩
end Go.Proofs.YtdpmfenikomfkaaGreat

namespace Go.Proofs.YtdpmfenikomfkaaGreat
set_option autoImplicit false

def B64 : Nat := 18446744073709551616
theorem B64_pos : 0 < B64 := by unfold B64; omega
theorem B64_eq : B64 = 18446744073709551616 := rfl

def val : List Nat → Nat
  | [] => 0
  | x :: xs => x + B64 * val xs

def AllOk (xs : List Nat) : Prop := ∀ x ∈ xs, x < B64

def words (n : Nat) : List Nat := if _h : n = 0 then [] else (n % B64) :: words (n / B64)
termination_by n
decreasing_by exact Nat.div_lt_self (by omega) (by unfold B64; omega)

theorem words_zero : words 0 = [] := by rw [words]; simp
theorem words_pos {n : Nat} (h : n ≠ 0) : words n = (n % B64) :: words (n / B64) := by rw [words]; simp [h]

theorem val_words (n : Nat) : val (words n) = n := by
  induction n using Nat.strongRecOn with
  | _ n ih =>
    by_cases h : n = 0
    · subst h; rw [words_zero]; rfl
    · rw [words_pos h, val, ih _ (Nat.div_lt_self (by omega) (by unfold B64; omega))]
      exact Nat.mod_add_div n B64

theorem words_ok (n : Nat) : AllOk (words n) := by
  induction n using Nat.strongRecOn with
  | _ n ih =>
    by_cases h : n = 0
    · subst h; rw [words_zero]; intro x hx; cases hx
    · rw [words_pos h]
      intro x hx
      rcases List.mem_cons.1 hx with rfl | hx
      · exact Nat.mod_lt _ B64_pos
      · exact ih _ (Nat.div_lt_self (by omega) (by unfold B64; omega)) x hx

theorem val_nil : val [] = 0 := rfl
theorem val_cons (x : Nat) (xs : List Nat) : val (x :: xs) = x + B64 * val xs := rfl

theorem AllOk.cons {x : Nat} {xs : List Nat} (h : AllOk (x :: xs)) : x < B64 ∧ AllOk xs :=
  ⟨h x (List.mem_cons_self), fun y hy => h y (List.mem_cons_of_mem _ hy)⟩

/-- A list without a most significant word 0 is the words of its value. -/
theorem words_val : ∀ (xs : List Nat), AllOk xs → (xs ≠ [] → xs.getLastD 1 ≠ 0) → words (val xs) = xs
  | [], _, _ => words_zero
  | x :: xs, hok, hl => by
    obtain ⟨hx, hxs⟩ := hok.cons
    have hne : val (x :: xs) ≠ 0 := by
      intro h0
      rw [val_cons] at h0
      have hx0 : x = 0 := by omega
      have hv0 : val xs = 0 := by
        rcases Nat.eq_zero_of_add_eq_zero_left h0 with h
        rcases Nat.mul_eq_zero.1 h with h | h
        · unfold B64 at h; omega
        · exact h
      cases xs with
      | nil => exact hl (by simp) (by simp [hx0])
      | cons y ys =>
        have := words_val (y :: ys) hxs (fun _ => by
          have := hl (by simp)
          simpa [List.getLastD] using this)
        rw [hv0, words_zero] at this
        cases this
    rw [words_pos hne, val_cons, Nat.add_mul_mod_self_left, Nat.mod_eq_of_lt hx, Nat.add_mul_div_left _ _ B64_pos, Nat.div_eq_of_lt hx, Nat.zero_add]
    congr 1
    refine words_val xs hxs (fun hn => ?_)
    have := hl (by simp)
    cases xs with
    | nil => exact absurd rfl hn
    | cons y ys => simpa [List.getLastD] using this

theorem val_append : ∀ (xs ys : List Nat), val (xs ++ ys) = val xs + B64 ^ xs.length * val ys
  | [], ys => by simp [val_nil]
  | x :: xs, ys => by
    rw [List.cons_append, val_cons, val_cons, val_append xs ys, List.length_cons, Nat.pow_succ, Nat.mul_add, Nat.add_assoc]
    congr 2
    rw [← Nat.mul_assoc, Nat.mul_comm B64 (B64 ^ xs.length)]

theorem val_lt : ∀ (xs : List Nat), AllOk xs → val xs < B64 ^ xs.length
  | [], _ => by simp [val_nil]
  | x :: xs, h => by
    obtain ⟨hx, hxs⟩ := h.cons
    have ih := val_lt xs hxs
    rw [val_cons, List.length_cons, Nat.pow_succ]
    have h1 : B64 * (val xs + 1) ≤ B64 * B64 ^ xs.length := Nat.mul_le_mul_left _ ih
    rw [Nat.mul_add, Nat.mul_one] at h1
    rw [Nat.mul_comm (B64 ^ xs.length)]
    omega

theorem val_zeros : ∀ (xs : List Nat), (∀ x ∈ xs, x = 0) → val xs = 0
  | [], _ => rfl
  | x :: xs, h => by
    rw [val_cons, h x (List.mem_cons_self), val_zeros xs (fun y hy => h y (List.mem_cons_of_mem _ hy)), Nat.mul_zero]

/-- What trim leaves. -/
theorem take_words (xs : List Nat) (n : Nat) (hok : AllOk xs) (hn : n ≤ xs.length) (hz : ∀ j, n ≤ j → j < xs.length → xs.getD j 0 = 0) (hl : 0 < n → xs.getD (n - 1) 0 ≠ 0) :
    xs.take n = words (val xs) := by
  have hv : val xs = val (xs.take n) := by
    conv => lhs; rw [← List.take_append_drop n xs]
    rw [val_append, val_zeros (xs.drop n)]
    · simp
    · intro x hx
      obtain ⟨i, hi, rfl⟩ := List.mem_iff_getElem.1 hx
      have hi' : n + i < xs.length := by simp at hi; omega
      have := hz (n + i) (by omega) hi'
      rw [List.getD_eq_getElem?_getD, List.getElem?_eq_getElem hi'] at this
      simpa using this
  rw [hv, words_val _ (fun x hx => hok x (List.mem_of_mem_take hx))]
  intro hne
  have hn0 : 0 < n := by
    rcases Nat.eq_zero_or_pos n with h | h
    · subst h; simp at hne
    · exact h
  have h1 := hl hn0
  have h2 : (xs.take n).getLastD 1 = xs.getD (n - 1) 0 := by
    rw [List.getLastD_eq_getLast?, List.getLast?_eq_getElem?, List.length_take, Nat.min_eq_left hn, List.getElem?_take_of_lt (by omega), List.getD_eq_getElem?_getD]
    rw [List.getElem?_eq_getElem (by omega)]
    rfl
  rw [h2]
  exact h1

theorem words_length_le (n k : Nat) (h : n < B64 ^ k) : (words n).length ≤ k := by
  induction k generalizing n with
  | zero => simp at h; subst h; rw [words_zero]; simp
  | succ k ih =>
    by_cases h0 : n = 0
    · subst h0; rw [words_zero]; simp
    · rw [words_pos h0, List.length_cons]
      have := ih (n / B64) (Nat.div_lt_of_lt_mul (by rw [Nat.pow_succ] at h; rw [Nat.mul_comm]; exact h))
      omega

theorem words_lt (n : Nat) : n < B64 ^ (words n).length := by
  have := val_lt _ (words_ok n)
  rwa [val_words] at this

theorem words_last (n : Nat) (h : n ≠ 0) : (words n).getLastD 1 ≠ 0 := by
  induction n using Nat.strongRecOn with
  | _ n ih =>
    rw [words_pos h]
    by_cases h1 : n / B64 = 0
    · rw [h1, words_zero]
      have : n < B64 := by
        rcases Nat.lt_or_ge n B64 with h' | h'
        · exact h'
        · exact absurd h1 (Nat.pos_iff_ne_zero.1 (Nat.div_pos h' B64_pos))
      simp [Nat.mod_eq_of_lt this, h]
    · have := ih _ (Nat.div_lt_self (by omega) (by unfold B64; omega)) h1
      rw [words_pos h1] at this ⊢
      simpa [List.getLastD] using this

theorem words_eq_nil {n : Nat} : words n = [] ↔ n = 0 := by
  constructor
  · intro h
    have := val_words n
    rw [h] at this
    exact this.symm
  · rintro rfl; exact words_zero

theorem words_single {n : Nat} (h0 : n ≠ 0) (h : n < B64) : words n = [n] := by
  rw [words_pos h0, Nat.mod_eq_of_lt h, Nat.div_eq_of_lt h, words_zero]

theorem words_len_zero {n : Nat} : (words n).length = 0 ↔ n = 0 := by
  rw [List.length_eq_zero_iff, words_eq_nil]

theorem words_len_one {n : Nat} : (words n).length = 1 ↔ n ≠ 0 ∧ n < B64 := by
  constructor
  · intro h
    refine ⟨fun h0 => ?_, ?_⟩
    · subst h0; rw [words_zero] at h; cases h
    · have := words_lt n
      rw [h] at this
      simpa using this
  · rintro ⟨h0, h⟩
    rw [words_single h0 h]; rfl

theorem words_inj {a b : Nat} (h : words a = words b) : a = b := by
  rw [← val_words a, h, val_words]

theorem words_len_mono {a b : Nat} (h : a ≤ b) : (words a).length ≤ (words b).length :=
  words_length_le a _ (Nat.lt_of_le_of_lt h (words_lt b))

theorem words_len_gt {a b : Nat} (h : (words a).length < (words b).length) : a < b := by
  rcases Nat.lt_or_ge a b with h' | h'
  · exact h'
  · have := words_len_mono h'
    omega

theorem words_ge (n : Nat) (h : n ≠ 0) : B64 ^ ((words n).length - 1) ≤ n := by
  rcases Nat.lt_or_ge n (B64 ^ ((words n).length - 1)) with h' | h'
  · have := words_length_le n _ h'
    have : (words n).length ≠ 0 := fun e => h (words_len_zero.1 e)
    omega
  · exact h'


/-- The word with the number i. -/
def nth (xs : List Nat) (i : Nat) : Nat := xs.getD i 0

theorem nth_lt {xs : List Nat} {i : Nat} (h : i < xs.length) : nth xs i = xs[i] := by
  unfold nth
  rw [List.getD_eq_getElem?_getD, List.getElem?_eq_getElem h]
  rfl
theorem nth_ge {xs : List Nat} {i : Nat} (h : xs.length ≤ i) : nth xs i = 0 := by
  unfold nth
  rw [List.getD_eq_getElem?_getD, List.getElem?_eq_none h]
  rfl
theorem nth_ok {xs : List Nat} (h : AllOk xs) (i : Nat) : nth xs i < B64 := by
  rcases Nat.lt_or_ge i xs.length with hi | hi
  · rw [nth_lt hi]; exact h _ (List.getElem_mem hi)
  · rw [nth_ge hi]; exact B64_pos

/-- How many words there are without the most significant words 0. -/
def top : List Nat → Nat
  | [] => 0
  | x :: xs => if top xs = 0 then (if x = 0 then 0 else 1) else top xs + 1

theorem top_le : ∀ xs : List Nat, top xs ≤ xs.length
  | [] => Nat.le_refl _
  | x :: xs => by
    have := top_le xs
    unfold top
    rw [List.length_cons]
    split
    · split <;> omega
    · omega

theorem top_after : ∀ (xs : List Nat) (j : Nat), top xs ≤ j → nth xs j = 0
  | [], j, _ => nth_ge (Nat.zero_le _)
  | x :: xs, 0, h => by
    unfold top at h
    split at h
    · split at h
      · rename_i hx; subst hx; rfl
      · omega
    · omega
  | x :: xs, j + 1, h => by
    have : nth (x :: xs) (j + 1) = nth xs j := by unfold nth; simp
    rw [this]
    refine top_after xs j ?_
    unfold top at h
    split at h
    · omega
    · omega

theorem top_last : ∀ (xs : List Nat), 0 < top xs → nth xs (top xs - 1) ≠ 0
  | [], h => by unfold top at h; omega
  | x :: xs, h => by
    by_cases h0 : top xs = 0
    · have ht : top (x :: xs) = if x = 0 then 0 else 1 := by
        conv => lhs; unfold top
        rw [if_pos h0]
      rw [ht] at h ⊢
      by_cases hx : x = 0
      · rw [if_pos hx] at h; omega
      · rw [if_neg hx]; simpa [nth] using hx
    · have ht : top (x :: xs) = top xs + 1 := by
        conv => lhs; unfold top
        rw [if_neg h0]
      have ih := top_last xs (by omega)
      rw [ht]
      have : nth (x :: xs) (top xs + 1 - 1) = nth xs (top xs - 1) := by
        unfold nth
        obtain ⟨t, e⟩ : ∃ t, top xs = t + 1 := ⟨top xs - 1, by omega⟩
        rw [e]
        simp
      rw [this]
      exact ih

theorem top_unique {xs : List Nat} {m : Nat} (h1 : ∀ j, m ≤ j → j < xs.length → nth xs j = 0) (h2 : 0 < m → nth xs (m - 1) ≠ 0) : top xs = m := by
  rcases Nat.lt_trichotomy (top xs) m with h | h | h
  · exact absurd (top_after xs (m - 1) (by omega)) (h2 (by omega))
  · exact h
  · have := top_last xs (by omega)
    have hl := top_le xs
    exact absurd (h1 (top xs - 1) (by omega) (by omega)) this

theorem take_top (xs : List Nat) (hok : AllOk xs) : xs.take (top xs) = words (val xs) :=
  take_words xs (top xs) hok (top_le xs) (fun j hj _ => top_after xs j hj) (top_last xs)

theorem top_eq_len (xs : List Nat) (hok : AllOk xs) : top xs = (words (val xs)).length := by
  rw [← take_top xs hok, List.length_take, Nat.min_eq_left (top_le xs)]

theorem top_words (n : Nat) : top (words n) = (words n).length := by
  rw [top_eq_len _ (words_ok n), val_words]

/-- A word of a list that is written. -/
theorem nth_set {xs : List Nat} {i j x : Nat} : nth (xs.set i x) j = if i = j ∧ j < xs.length then x else nth xs j := by
  unfold nth
  rw [List.getD_eq_getElem?_getD, List.getD_eq_getElem?_getD, List.getElem?_set]
  by_cases h : i = j
  · subst h
    by_cases hl : i < xs.length
    · simp [hl]
    · simp [hl]
  · simp [h]

theorem nth_append_left {xs ys : List Nat} {i : Nat} (h : i < xs.length) : nth (xs ++ ys) i = nth xs i := by
  unfold nth
  rw [List.getD_eq_getElem?_getD, List.getD_eq_getElem?_getD, List.getElem?_append_left h]
theorem nth_append_right {xs ys : List Nat} {i : Nat} : nth (xs ++ ys) (xs.length + i) = nth ys i := by
  unfold nth
  rw [List.getD_eq_getElem?_getD, List.getD_eq_getElem?_getD, List.getElem?_append_right (Nat.le_add_right _ _), Nat.add_sub_cancel_left]

theorem nth_take {xs : List Nat} {k i : Nat} (h : i < k) : nth (xs.take k) i = nth xs i := by
  unfold nth
  rw [List.getD_eq_getElem?_getD, List.getD_eq_getElem?_getD, List.getElem?_take_of_lt h]

theorem val_take_succ (xs : List Nat) (k : Nat) (h : k < xs.length) : val (xs.take (k + 1)) = val (xs.take k) + B64 ^ k * nth xs k := by
  rw [List.take_succ_eq_append_getElem h, val_append, List.length_take, Nat.min_eq_left (by omega), nth_lt h]
  simp [val_cons, val_nil]

theorem take_set_le (xs : List Nat) (k i x : Nat) (h : k ≤ i) : (xs.set i x).take k = xs.take k := by
  rw [List.take_set, List.set_eq_of_length_le]
  rw [List.length_take]; omega

theorem AllOk.set {xs : List Nat} (h : AllOk xs) {i x : Nat} (hx : x < B64) : AllOk (xs.set i x) := by
  intro y hy
  rcases List.mem_or_eq_of_mem_set hy with h' | h'
  · exact h y h'
  · subst h'; exact hx
theorem AllOk.append {xs ys : List Nat} (h : AllOk xs) (h' : AllOk ys) : AllOk (xs ++ ys) := by
  intro y hy
  rcases List.mem_append.1 hy with g | g
  · exact h y g
  · exact h' y g
theorem AllOk.take {xs : List Nat} (h : AllOk xs) (k : Nat) : AllOk (xs.take k) := fun y hy => h y (List.mem_of_mem_take hy)
theorem AllOk.drop {xs : List Nat} (h : AllOk xs) (k : Nat) : AllOk (xs.drop k) := fun y hy => h y (List.mem_of_mem_drop hy)
theorem AllOk.zeros (n : Nat) : AllOk (List.replicate n 0) := by
  intro y hy
  rw [List.eq_of_mem_replicate hy]; exact B64_pos
theorem AllOk.nil : AllOk [] := fun _ h => by cases h

/-- The value of the first k + 1 words after the word k was written. -/
theorem val_set_succ (xs : List Nat) (k x : Nat) (h : k < xs.length) : val ((xs.set k x).take (k + 1)) = val (xs.take k) + B64 ^ k * x := by
  rw [val_take_succ _ _ (by simpa using h), take_set_le _ _ _ _ (Nat.le_refl k), nth_set, if_pos ⟨rfl, h⟩]

theorem val_zeros_n (n : Nat) : val (List.replicate n 0) = 0 := val_zeros _ (fun _ h => List.eq_of_mem_replicate h)

theorem val_set : ∀ (xs : List Nat) (q y : Nat), q < xs.length → val (xs.set q y) + B64 ^ q * nth xs q = val xs + B64 ^ q * y
  | [], q, y, h => absurd h (by simp)
  | x :: xs, 0, y, _ => by
    have : nth (x :: xs) 0 = x := rfl
    rw [this, List.set_cons_zero, val_cons, val_cons, Nat.pow_zero]
    omega
  | x :: xs, q + 1, y, h => by
    have ih := val_set xs q y (by simpa using h)
    have h1 : nth (x :: xs) (q + 1) = nth xs q := by unfold nth; simp
    have h2 := congrArg (B64 * ·) ih
    simp only [Nat.mul_add] at h2
    rw [h1, List.set_cons_succ, val_cons, val_cons, Nat.pow_succ, Nat.mul_comm (B64 ^ q) B64, Nat.mul_assoc, Nat.mul_assoc]
    omega

theorem words_of_ge (L : List Nat) (hok : AllOk L) (h : L.length ≠ 0 → B64 ^ (L.length - 1) ≤ val L) : words (val L) = L := by
  have ht := take_top L hok
  have hl := top_le L
  rcases Nat.lt_or_ge (top L) L.length with h1 | h1
  · have h2 := h (by omega)
    have h3 : val L < B64 ^ top L := by
      have := val_lt _ (words_ok (val L))
      rwa [val_words, ← ht, List.length_take, Nat.min_eq_left hl] at this
    have h4 : B64 ^ top L ≤ B64 ^ (L.length - 1) := Nat.pow_le_pow_right B64_pos (by omega)
    omega
  · rw [← ht, List.take_of_length_le h1]

end Go.Proofs.YtdpmfenikomfkaaGreat
