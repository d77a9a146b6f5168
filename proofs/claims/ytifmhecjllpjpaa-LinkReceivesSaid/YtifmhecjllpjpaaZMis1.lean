/-
  What is missing: the two ways of counting it (no program here).
-/
import Derived.Test.YtifmhecjllpjpaaZHas
namespace Go.Proofs.Ytifmhecjllpjpaa

/-- The list Ds holds what F holds, each number once. -/
structure DsF (Ds : List Dl) (F : Hf) : Prop where
  get : ∀ d ∈ Ds, F d.1 = some d.2
  all : ∀ k x, F k = some x → ∃ d ∈ Ds, d.1 = k
  once : Ds.Pairwise (fun a b => a.1 ≠ b.1)

def msF (F : Hf) (nx : Int) : Nat → List Int
  | 0 => []
  | j + 1 => msF F nx j ++ (if F (nx + j) = none then [nx + j] else [])
theorem msF_len (F : Hf) (nx : Int) : ∀ j, (msF F nx j).length ≤ j
  | 0 => Nat.le_refl _
  | j + 1 => by
    have := msF_len F nx j
    simp only [msF, List.length_append]
    split <;> simp <;> omega
/-- How many are held from x on. -/
def from_ (Ds : List Dl) (x : Int) : Nat := (Ds.filter (fun d => decide (x ≤ d.1))).length
theorem from_step : ∀ (Ds : List Dl) (x : Int), Ds.Pairwise (fun a b => a.1 ≠ b.1) → from_ Ds x = from_ Ds (x + 1) + (if ∃ d ∈ Ds, d.1 = x then 1 else 0)
  | [], x, _ => by simp [from_]
  | d :: Ds, x, h => by
    have ih := from_step Ds x (List.pairwise_cons.1 h).2
    have hd := (List.pairwise_cons.1 h).1
    unfold from_ at ih ⊢
    by_cases e : d.1 = x
    · have hn : ¬ ∃ d' ∈ Ds, d'.1 = x := fun ⟨d', h1, h2⟩ => hd d' h1 (by rw [e, h2])
      rw [if_neg hn] at ih
      have hy : ∃ d' ∈ d :: Ds, d'.1 = x := ⟨d, by simp, e⟩
      rw [if_pos hy]
      rw [List.filter_cons_of_pos (by simp; omega), List.filter_cons_of_neg (by simp; omega)]
      simp
      omega
    · have hi : (∃ d' ∈ d :: Ds, d'.1 = x) ↔ ∃ d' ∈ Ds, d'.1 = x := by
        constructor
        · rintro ⟨d', h1, h2⟩
          rcases List.mem_cons.1 h1 with rfl | h1
          · exact absurd h2 e
          · exact ⟨d', h1, h2⟩
        · rintro ⟨d', h1, h2⟩
          exact ⟨d', List.mem_cons_of_mem _ h1, h2⟩
      simp only [hi]
      by_cases hx : x ≤ d.1
      · rw [List.filter_cons_of_pos (by simp; omega), List.filter_cons_of_pos (by simp; omega)]
        simp only [List.length_cons]
        omega
      · rw [List.filter_cons_of_neg (by simp; omega), List.filter_cons_of_neg (by simp; omega)]
        exact ih
theorem from_zero {Ds : List Dl} {x : Int} : from_ Ds x = 0 ↔ ∀ d ∈ Ds, d.1 < x := by
  unfold from_
  rw [List.length_eq_zero_iff, List.filter_eq_nil_iff]
  simp
theorem from_all {Ds : List Dl} {x : Int} (h : ∀ d ∈ Ds, x ≤ d.1) : from_ Ds x = Ds.length := by
  unfold from_
  rw [List.filter_eq_self.2 (fun d hd => by simpa using h d hd)]
theorem held_iff {Ds : List Dl} {F : Hf} (h : DsF Ds F) (x : Int) : (∃ d ∈ Ds, d.1 = x) ↔ F x ≠ none := by
  constructor
  · rintro ⟨d, h1, rfl⟩
    rw [h.get d h1]
    simp
  · intro hx
    obtain ⟨y, hy⟩ := Option.ne_none_iff_exists'.1 hx
    exact h.all x y hy
/-- Where the missing end. -/
def Ends (Ds : List Dl) (nx : Int) (J : Nat) : Prop := (∀ d ∈ Ds, d.1 < nx + J) ∧ (J = 0 ∨ ∃ d ∈ Ds, d.1 + 1 = nx + J)
theorem ends_one {Ds : List Dl} {nx : Int} {J J' : Nat} (h : Ends Ds nx J) (h' : Ends Ds nx J') : J = J' := by
  obtain ⟨a, b⟩ := h
  obtain ⟨a', b'⟩ := h'
  rcases b with b | ⟨d, hd, b⟩
  · rcases b' with b' | ⟨d', hd', b'⟩
    · omega
    · have := a d' hd'; omega
  · have := a' d hd
    rcases b' with b' | ⟨d', hd', b'⟩
    · omega
    · have := a d' hd'; omega
/-- The greatest, or -1. -/
def topD : List Dl → Nat → Int
  | Ds, 0 => -1
  | Ds, k + 1 => max (topD Ds k) ((Ds.getD k (0, [], false)).1)
theorem topD_ge (Ds : List Dl) : ∀ k (j : Nat) (hj : j < Ds.length), j < k → (Ds[j]'hj).1 ≤ topD Ds k
  | 0, j, hj, h => by omega
  | k + 1, j, hj, h => by
    simp only [topD]
    by_cases e : j = k
    · subst e
      simp [List.getD, hj]
      omega
    · have := topD_ge Ds k j hj (by omega)
      omega
theorem topD_in (Ds : List Dl) : ∀ k, k ≤ Ds.length → topD Ds k = -1 ∨ ∃ (j : Nat) (hj : j < Ds.length), (Ds[j]'hj).1 = topD Ds k
  | 0, _ => .inl rfl
  | k + 1, h => by
    have hk : k < Ds.length := by omega
    have e : (Ds.getD k (0, [], false)).1 = (Ds[k]'hk).1 := by simp [List.getD, hk]
    simp only [topD]
    rw [e]
    rcases topD_in Ds k (by omega) with h1 | ⟨j, hj, h1⟩
    · by_cases h2 : (Ds[k]'hk).1 ≤ -1
      · left; omega
      · right; exact ⟨k, hk, by omega⟩
    · by_cases h2 : (Ds[k]'hk).1 ≤ topD Ds k
      · right; exact ⟨j, hj, by omega⟩
      · right; exact ⟨k, hk, by omega⟩
theorem top_ends {Ds : List Dl} {nx : Int} (h0 : 0 ≤ nx) (h : ∀ d ∈ Ds, nx ≤ d.1) : Ends Ds nx (topD Ds Ds.length + 1 - nx).toNat := by
  by_cases hn : Ds.length = 0
  · have e : Ds = [] := List.eq_nil_of_length_eq_zero hn
    subst e
    refine ⟨fun d hd => by simp at hd, .inl ?_⟩
    simp [topD]
    omega
  · have h1 := topD_ge Ds Ds.length 0 (by omega) (by omega)
    have h2 := h _ (List.getElem_mem (l := Ds) (n := 0) (by omega))
    have e : (((topD Ds Ds.length + 1 - nx).toNat : Nat) : Int) = topD Ds Ds.length + 1 - nx := by omega
    refine ⟨fun d hd => ?_, .inr ?_⟩
    · obtain ⟨j, hj, rfl⟩ := List.mem_iff_getElem.1 hd
      have := topD_ge Ds Ds.length j hj hj
      omega
    · rcases topD_in Ds Ds.length (Nat.le_refl _) with h3 | ⟨j, hj, h3⟩
      · omega
      · exact ⟨_, List.getElem_mem hj, by omega⟩
end Go.Proofs.Ytifmhecjllpjpaa
