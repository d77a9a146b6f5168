/-
  Plain facts on numbers in groups of 7 bits: no program, no memory.
-/
import Derived.Test.YtlginmnmobkbhaaMath
namespace Go.Proofs.Ytlginmnmobkbhaa
set_option autoImplicit false

def AllB (xs : List Nat) : Prop := ∀ x ∈ xs, x < 256
theorem AllB.nth {xs : List Nat} (h : AllB xs) (j : Nat) : nth xs j < 256 := by
  rcases Nat.lt_or_ge j xs.length with c | c
  · rw [nth_lt c]; exact h _ (List.getElem_mem c)
  · rw [nth_ge c]; omega

def val7 : List Nat → Nat
  | [] => 0
  | x :: xs => x % 128 + 128 * val7 xs
theorem val7_append : ∀ (xs ys : List Nat), val7 (xs ++ ys) = val7 xs + 128 ^ xs.length * val7 ys
  | [], ys => by simp [val7]
  | x :: xs, ys => by
    rw [List.cons_append, val7, val7, val7_append xs ys, List.length_cons, Nat.pow_succ]
    grind
theorem val7_lt : ∀ (xs : List Nat), val7 xs < 128 ^ xs.length
  | [] => by simp [val7]
  | x :: xs => by
    have := val7_lt xs
    rw [val7, List.length_cons, Nat.pow_succ]
    have h1 : x % 128 < 128 := Nat.mod_lt _ (by omega)
    omega
theorem val7_take_succ (xs : List Nat) (k : Nat) (h : k < xs.length) : val7 (xs.take (k + 1)) = val7 (xs.take k) + 128 ^ k * (nth xs k % 128) := by
  rw [List.take_succ_eq_append_getElem h, val7_append, List.length_take, Nat.min_eq_left (by omega), nth_lt h]
  simp [val7]
theorem val7_drop (xs : List Nat) (k : Nat) (h : k < xs.length) : val7 (xs.drop k) = nth xs k % 128 + 128 * val7 (xs.drop (k + 1)) := by
  rw [List.drop_eq_getElem_cons h, val7, nth_lt h]

/-- s bytes that go on stand at the beginning. -/
def Lead (L : List Nat) (s : Nat) : Prop := s ≤ L.length ∧ s ≤ 9 ∧ (∀ j, j < s → 128 ≤ nth L j) ∧ (s = 9 ∨ s = L.length ∨ nth L s < 128)
theorem lead_ex (L : List Nat) : ∃ s, Lead L s := by
  have key : ∀ n, n ≤ L.length → n ≤ 9 → (∀ j, j < n → 128 ≤ nth L j) ∨ ∃ s, Lead L s := by
    intro n
    induction n with
    | zero => intro _ _; exact Or.inl (fun j hj => by omega)
    | succ n ih =>
      intro h1 h2
      rcases ih (by omega) (by omega) with h | h
      · by_cases c : nth L n < 128
        · exact Or.inr ⟨n, by omega, by omega, h, Or.inr (Or.inr c)⟩
        · refine Or.inl (fun j hj => ?_)
          by_cases e : j = n
          · subst e; omega
          · exact h j (by omega)
      · exact Or.inr h
  rcases key (min L.length 9) (by omega) (by omega) with h | h
  · exact ⟨min L.length 9, by omega, by omega, h, by omega⟩
  · exact h
theorem lead_unique {L : List Nat} {s t : Nat} (hs : Lead L s) (ht : Lead L t) : s = t := by
  obtain ⟨a1, a2, a3, a4⟩ := hs
  obtain ⟨b1, b2, b3, b4⟩ := ht
  rcases Nat.lt_trichotomy s t with c | c | c
  · have := b3 s c; omega
  · exact c
  · have := a3 t c; omega

/-- What is read: the number, how many bytes it has, the error. -/
def rdV (L : List Nat) (s : Nat) : Nat := val7 (L.take (s + 1))
def RdOk (L : List Nat) (s : Nat) : Prop := s < 9 ∧ s < L.length ∧ (s = 0 ∨ nth L s ≠ 0) ∧ rdV L s ≤ 4611686018427387903
instance (L : List Nat) (s : Nat) : Decidable (RdOk L s) := by unfold RdOk; infer_instance
def rdN (L : List Nat) (s : Nat) : Nat := if RdOk L s then rdV L s else 0
def rdS (L : List Nat) (s : Nat) : Nat := if RdOk L s then s + 1 else 0
def rdE (L : List Nat) (s : Nat) : Nat := if RdOk L s then 0 else if s < 9 ∧ s = L.length then 21 else 4
theorem rd_ok {L : List Nat} {s : Nat} (h : RdOk L s) : rdN L s = rdV L s ∧ rdS L s = s + 1 ∧ rdE L s = 0 := by
  unfold rdN rdS rdE; simp [h]
theorem rd_bad {L : List Nat} {s : Nat} (h : ¬ RdOk L s) (h2 : ¬ (s < 9 ∧ s = L.length)) : rdN L s = 0 ∧ rdS L s = 0 ∧ rdE L s = 4 := by
  unfold rdN rdS rdE; simp [h]; omega
theorem rd_short {L : List Nat} {s : Nat} (h2 : s < 9 ∧ s = L.length) : rdN L s = 0 ∧ rdS L s = 0 ∧ rdE L s = 21 := by
  have h : ¬ RdOk L s := by unfold RdOk; omega
  unfold rdN rdS rdE; simp [h]; omega
theorem rdN_le (L : List Nat) (s : Nat) : rdN L s ≤ 4611686018427387903 := by
  unfold rdN
  split
  · rename_i h; exact h.2.2.2
  · omega
theorem rdS_le (L : List Nat) (s : Nat) : rdS L s ≤ 9 := by
  unfold rdS
  split
  · rename_i h; have := h.1; omega
  · omega
end Go.Proofs.Ytlginmnmobkbhaa
