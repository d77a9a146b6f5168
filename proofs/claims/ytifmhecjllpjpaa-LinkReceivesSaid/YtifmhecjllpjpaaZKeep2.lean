/-
  The document's receiver: a list without one of its deliveries (no program here); a delivery is added.
-/
import Derived.Test.YtifmhecjllpjpaaZKeep1
namespace Go.Proofs.Ytifmhecjllpjpaa
open Go.RowKit Go.Maps

/-- The first k of Ds without number i. -/
def lfD (Ds : List Dl) (i : Nat) : Nat → List Dl
  | 0 => []
  | k + 1 => lfD Ds i k ++ (if k = i then [] else [Ds.getD k (0, [], false)])
theorem getD_dl {Ds : List Dl} {k : Nat} (h : k < Ds.length) : Ds.getD k (0, [], false) = Ds[k] := by simp [List.getD, h]
theorem lfD_mem (Ds : List Dl) (i : Nat) : ∀ k, k ≤ Ds.length → ∀ d ∈ lfD Ds i k, ∃ (j : Nat) (hj : j < Ds.length), j < k ∧ j ≠ i ∧ d = Ds[j]
  | 0, _, d, hd => by simp [lfD] at hd
  | k + 1, h, d, hd => by
    have hk : k < Ds.length := by omega
    simp only [lfD, List.mem_append] at hd
    rcases hd with hd | hd
    · obtain ⟨j, hj, h1, h2, h3⟩ := lfD_mem Ds i k (by omega) d hd
      exact ⟨j, hj, by omega, h2, h3⟩
    · by_cases e : k = i
      · rw [if_pos e] at hd; simp at hd
      · rw [if_neg e, getD_dl hk] at hd
        simp at hd
        exact ⟨k, hk, by omega, e, hd⟩
theorem lfD_has (Ds : List Dl) (i : Nat) : ∀ k, k ≤ Ds.length → ∀ (j : Nat) (hj : j < Ds.length), j < k → j ≠ i → Ds[j] ∈ lfD Ds i k
  | 0, _, j, hj, h, _ => by omega
  | k + 1, h, j, hj, h1, h2 => by
    simp only [lfD, List.mem_append]
    by_cases e : j = k
    · subst e
      right
      rw [if_neg h2, getD_dl hj]
      simp
    · exact .inl (lfD_has Ds i k (by omega) j hj (by omega) h2)
theorem lfD_once {Ds : List Dl} (hp : Ds.Pairwise (fun a b => a.1 ≠ b.1)) (i : Nat) : ∀ k, k ≤ Ds.length → (lfD Ds i k).Pairwise (fun a b => a.1 ≠ b.1)
  | 0, _ => by simp [lfD]
  | k + 1, h => by
    have hk : k < Ds.length := by omega
    simp only [lfD]
    rw [List.pairwise_append]
    refine ⟨lfD_once hp i k (by omega), by split <;> simp, fun a ha b hb => ?_⟩
    by_cases e : k = i
    · rw [if_pos e] at hb; simp at hb
    · rw [if_neg e, getD_dl hk] at hb
      simp at hb
      subst hb
      obtain ⟨j, hj, h1, _, rfl⟩ := lfD_mem Ds i k (by omega) a ha
      exact List.pairwise_iff_getElem.1 hp j k hj hk h1
theorem lfD_len (Ds : List Dl) (i : Nat) : ∀ k, (lfD Ds i k).length + (if i < k then 1 else 0) = k
  | 0 => by simp [lfD]
  | k + 1 => by
    have := lfD_len Ds i k
    simp only [lfD, List.length_append]
    by_cases e : k = i
    · subst e
      simp at this ⊢
      exact this
    · rw [if_neg e]
      simp only [List.length_singleton]
      split at this <;> split <;> omega
/-- Without number i the list holds what is held but that one. -/
theorem dsF_left {Ds : List Dl} {F : Hf} (h : DsF Ds F) {i : Nat} (hi : i < Ds.length) {x : Int} (hx : (Ds[i]'hi).1 = x) : DsF (lfD Ds i Ds.length) (fun k => if k = x then none else F k) := by
  have hne : ∀ (j : Nat) (hj : j < Ds.length), j ≠ i → (Ds[j]'hj).1 ≠ x := fun j hj e => by
    rw [← hx]
    rcases Nat.lt_or_gt_of_ne e with h1 | h1
    · exact List.pairwise_iff_getElem.1 h.once j i hj hi h1
    · exact (List.pairwise_iff_getElem.1 h.once i j hi hj h1).symm
  refine ⟨fun d hd => ?_, fun k y hk => ?_, lfD_once h.once i _ (Nat.le_refl _)⟩
  · obtain ⟨j, hj, _, h2, rfl⟩ := lfD_mem Ds i _ (Nat.le_refl _) d hd
    show (if _ then none else F _) = _
    rw [if_neg (hne j hj h2)]
    exact h.get _ (List.getElem_mem hj)
  · by_cases e : k = x
    · simp [e] at hk
    · simp only [if_neg e] at hk
      obtain ⟨d, hd, rfl⟩ := h.all k y hk
      obtain ⟨j, hj, rfl⟩ := List.mem_iff_getElem.1 hd
      have hji : j ≠ i := fun e2 => by subst e2; exact e hx
      exact ⟨_, lfD_has Ds i _ (Nat.le_refl _) j hj hj hji, rfl⟩
/-- With one more. -/
theorem dsF_put {Ds : List Dl} {F : Hf} (h : DsF Ds F) {sq : Int} {X : List Nat} {l : Bool} (hn : F sq = none) : DsF (Ds ++ [(sq, X, l)]) (putH F sq X l) := by
  have hne : ∀ d ∈ Ds, d.1 ≠ sq := fun d hd e => by
    have := h.get d hd
    rw [e, hn] at this
    cases this
  refine ⟨fun d hd => ?_, fun k y hk => ?_, ?_⟩
  · rcases List.mem_append.1 hd with hd | hd
    · show (if _ then _ else F _) = _
      rw [if_neg (hne d hd)]
      exact h.get d hd
    · simp at hd
      subst hd
      show (if _ then _ else F _) = _
      rw [if_pos rfl]
  · by_cases e : k = sq
    · subst e
      exact ⟨(k, X, l), by simp, rfl⟩
    · have hk' : F k = some y := by
        have : (if k = sq then some (X, l) else F k) = some y := hk
        rwa [if_neg e] at this
      obtain ⟨d, hd, e2⟩ := h.all k y hk'
      exact ⟨d, by simp [hd], e2⟩
  · rw [List.pairwise_append]
    refine ⟨h.once, by simp, fun a ha b hb => ?_⟩
    simp at hb
    subst hb
    exact hne a ha
end Go.Proofs.Ytifmhecjllpjpaa
