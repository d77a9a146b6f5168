/-
  Samples of steps, in plain words.
-/
import Derived.Test.YtkcagifljelfoaaVDif
namespace Go.Proofs.Ytkcagifljelfoaa
open Go.RowKit

abbrev St := Int × Int
def lastZ (Z : List Int) : Int := ith Z (Z.length - 1)
/-- The samples of one step. -/
def runL (a δ : Int) : Nat → List Int
  | 0 => []
  | j + 1 => runL a δ j ++ [a + δ * ((j : Int) + 1)]
theorem runL_len (a δ : Int) : ∀ j, (runL a δ j).length = j
  | 0 => rfl
  | j + 1 => by simp [runL, runL_len a δ j]
theorem runL_get (a δ : Int) : ∀ {j i : Nat}, i < j → ith (runL a δ j) i = a + δ * ((i : Int) + 1)
  | 0, i, h => absurd h (by omega)
  | j + 1, i, h => by
    have hl := runL_len a δ j
    unfold runL ith
    by_cases hi : i < j
    · rw [List.getD_eq_getElem?_getD, List.getElem?_append_left (by omega), ← List.getD_eq_getElem?_getD]
      exact runL_get a δ hi
    · obtain rfl : i = j := by omega
      rw [List.getD_eq_getElem?_getD, List.getElem?_append_right (by omega), hl]
      simp
/-- Whether a step may follow. -/
def okStep (S : List St) (k : Nat) (Z : List Int) : Prop :=
  (k = 0 ∨ (S.getD k (0, 0)).1 ≠ (S.getD (k - 1) (0, 0)).1) ∧ 1 ≤ (S.getD k (0, 0)).2 ∧ (Z.length : Int) + (S.getD k (0, 0)).2 ≤ 256 ∧
  ∀ j : Nat, 1 ≤ j → (j : Int) ≤ (S.getD k (0, 0)).2 → 0 ≤ lastZ Z + (S.getD k (0, 0)).1 * j ∧ lastZ Z + (S.getD k (0, 0)).1 * j ≤ 1023
open Classical in
noncomputable def rebK (S : List St) : Nat → Option (List Int)
  | 0 => some []
  | k + 1 =>
    match rebK S k with
    | none => none
    | some Z => if okStep S k Z then some (Z ++ runL (lastZ Z) (S.getD k (0, 0)).1 (S.getD k (0, 0)).2.toNat) else none
theorem rebK_yes {S : List St} {k : Nat} {Z : List Int} (h : rebK S k = some Z) (ho : okStep S k Z) : rebK S (k + 1) = some (Z ++ runL (lastZ Z) (S.getD k (0, 0)).1 (S.getD k (0, 0)).2.toNat) := by
  rw [rebK, h]
  simp [ho]
theorem rebK_no {S : List St} {k : Nat} {Z : List Int} (h : rebK S k = some Z) (ho : ¬ okStep S k Z) : ∀ m, k < m → rebK S m = none
  | 0, hm => absurd hm (by omega)
  | m + 1, hm => by
    by_cases e : m = k
    · subst e
      rw [rebK, h]
      simp [ho]
    · have := rebK_no h ho m (by omega)
      rw [rebK, this]
theorem ith_app1 {Z R : List Int} {i : Nat} (h : i < Z.length) : ith (Z ++ R) i = ith Z i := by
  unfold ith
  rw [List.getD_eq_getElem?_getD, List.getD_eq_getElem?_getD, List.getElem?_append_left h]
theorem ith_app2 {Z R : List Int} (i : Nat) : ith (Z ++ R) (Z.length + i) = ith R i := by
  unfold ith
  rw [List.getD_eq_getElem?_getD, List.getD_eq_getElem?_getD, List.getElem?_append_right (by omega)]
  simp
theorem lastZ_run {Z : List Int} {δ : Int} {j : Nat} : lastZ (Z ++ runL (lastZ Z) δ (j + 1)) = lastZ Z + δ * ((j : Int) + 1) := by
  have hl := runL_len (lastZ Z) δ (j + 1)
  have e : (Z ++ runL (lastZ Z) δ (j + 1)).length - 1 = Z.length + j := by simp [hl]
  rw [lastZ, e, ith_app2, runL_get _ _ (by omega)]
/-- What is true of the samples so far. -/
theorem rebK_good {S : List St} : ∀ {k : Nat} {Z : List Int}, rebK S k = some Z → Z.length ≤ 256 ∧ (0 ≤ lastZ Z ∧ lastZ Z ≤ 1023) ∧ ∀ i, i < Z.length → 0 ≤ ith Z i ∧ ith Z i ≤ 1023
  | 0, Z, h => by
    simp [rebK] at h
    subst h
    simp [lastZ, ith]
  | k + 1, Z, h => by
    rw [rebK] at h
    split at h
    · cases h
    · rename_i Y hY
      split at h
      · rename_i ho
        obtain ⟨h1, h2, h3⟩ := rebK_good hY
        injection h with h
        obtain ⟨o1, o2, o3, o4⟩ := ho
        obtain ⟨δ, hδ⟩ : ∃ δ, (S.getD k (0, 0)).1 = δ := ⟨_, rfl⟩
        obtain ⟨c, hc⟩ : ∃ c : Nat, (S.getD k (0, 0)).2 = c := ⟨(S.getD k (0, 0)).2.toNat, by omega⟩
        rw [hδ, hc] at h o4
        rw [hc] at o2 o3
        obtain ⟨c', rfl⟩ : ∃ c', c = c' + 1 := ⟨c - 1, by omega⟩
        rw [Int.toNat_natCast] at h
        have hl := runL_len (lastZ Y) δ (c' + 1)
        subst h
        refine ⟨by simp [hl]; omega, ?_, fun i hi => ?_⟩
        · rw [lastZ_run]
          have := o4 (c' + 1) (by omega) (by omega)
          simpa using this
        · by_cases hi2 : i < Y.length
          · rw [ith_app1 hi2]; exact h3 i hi2
          · obtain ⟨d, rfl⟩ : ∃ d, i = Y.length + d := ⟨i - Y.length, by omega⟩
            have hd : d < c' + 1 := by simp [hl] at hi; omega
            rw [ith_app2, runL_get _ _ hd]
            have := o4 (d + 1) (by omega) (by omega)
            simpa using this
      · cases h

theorem difK_app {Z R : List Int} : ∀ k, k ≤ Z.length → difK (Z ++ R) k = difK Z k
  | 0, _ => rfl
  | k + 1, h => by
    have e1 : ith (Z ++ R) k = ith Z k := ith_app1 (by omega)
    have e2 : ith (Z ++ R) (k - 1) = ith Z (k - 1) := ith_app1 (by omega)
    rw [difK, difK, difK_app k (by omega)]
    unfold dif
    rw [e1, e2]
theorem dif_run {Z : List Int} {δ : Int} {c j : Nat} (hj : j < c) : dif (Z ++ runL (lastZ Z) δ c) (Z.length + j) = δ := by
  unfold dif
  rw [ith_app2, runL_get _ _ hj]
  rcases Nat.eq_zero_or_pos j with h0 | h0
  · subst h0
    rcases Nat.eq_zero_or_pos Z.length with h1 | h1
    · have hz : Z = [] := List.eq_nil_of_length_eq_zero h1
      subst hz
      simp [lastZ, ith]
    · rw [if_neg (by omega), Nat.add_zero, ith_app1 (by omega)]
      unfold lastZ
      simp
      omega
  · obtain ⟨i, rfl⟩ : ∃ i, j = i + 1 := ⟨j - 1, by omega⟩
    rw [if_neg (by omega)]
    have e : Z.length + (i + 1) - 1 = Z.length + i := by omega
    rw [e, ith_app2, runL_get _ _ (by omega)]
    have : ((i + 1 : Nat) : Int) = (i : Int) + 1 := by omega
    rw [this]
    grind
/-- The differences of the samples are the steps. -/
theorem difK_reb {S : List St} : ∀ {k : Nat} {Z : List Int}, k ≤ S.length → rebK S k = some Z → difK Z Z.length = (S.take k).map (fun s => (s.1, s.2.toNat))
  | 0, Z, _, h => by
    simp [rebK] at h
    subst h
    rfl
  | k + 1, Z, hk, h => by
    rw [rebK] at h
    split at h
    · cases h
    · rename_i Y hY
      split at h
      · rename_i ho
        have ih := difK_reb (by omega) hY
        injection h with h
        obtain ⟨o1, o2, o3, o4⟩ := ho
        have hkS : k < S.length := by omega
        have hget : S.getD k (0, 0) = S[k] := by simp [hkS]
        obtain ⟨⟨δ, c0⟩, hs⟩ : ∃ s, S[k] = s := ⟨_, rfl⟩
        rw [hget, hs] at h o2 o3 o4 o1
        simp only at h o1 o2 o3 o4
        obtain ⟨c, rfl⟩ : ∃ c : Nat, c0 = c := ⟨c0.toNat, by omega⟩
        rw [Int.toNat_natCast] at h
        have hl := runL_len (lastZ Y) δ c
        have hP : ∀ p ∈ ((S.take k).map (fun s => (s.1, s.2.toNat)) : List Sp).getLast?, p.1 ≠ δ := by
          intro p hp
          rcases Nat.eq_zero_or_pos k with h0 | h0
          · subst h0; simp at hp
          · have hk1 : k - 1 < S.length := by omega
            have hg1 : S.getD (k - 1) (0, 0) = S[k - 1] := by simp [hk1]
            have e : ((S.take k).map (fun s => ((s.1, s.2.toNat) : Sp))).getLast? = some ((S[k - 1]).1, (S[k - 1]).2.toNat) := by
              rw [List.getLast?_eq_getElem?]
              simp [Nat.min_eq_left (Nat.le_of_lt hkS), hk1]
              rw [List.getElem?_take_of_lt (by omega)]
              simp [hk1]
            rw [e] at hp
            simp at hp
            subst hp
            rcases o1 with o1 | o1
            · omega
            · rw [hg1] at o1
              exact fun h => o1 h.symm
        obtain ⟨P, hPd⟩ : ∃ P, (S.take k).map (fun s => ((s.1, s.2.toNat) : Sp)) = P := ⟨_, rfl⟩
        have key : ∀ j, j ≤ c → difK Z (Y.length + j) = if j = 0 then P else P ++ [(δ, j)] := by
          intro j
          induction j with
          | zero =>
            intro _
            rw [← h, Nat.add_zero, difK_app _ (Nat.le_refl _), ih, if_pos rfl, hPd]
          | succ j ihj =>
            intro hj
            have e : Y.length + (j + 1) = Y.length + j + 1 := by omega
            have r : (if j + 1 = 0 then P else P ++ [(δ, j + 1)]) = P ++ [(δ, j + 1)] := if_neg (by omega)
            rw [e, difK, ihj (by omega), ← h, dif_run (by omega), r]
            by_cases j0 : j = 0
            · subst j0
              rw [if_pos rfl]
              rw [hPd] at hP
              unfold extP
              cases hg : P.getLast? with
              | none => rfl
              | some p =>
                have := hP p (by rw [hg]; rfl)
                simp [this]
            · rw [if_neg j0, extP_same]
        have hZ : Z.length = Y.length + c := by rw [← h]; simp [hl]
        rw [hZ, key c (Nat.le_refl _), if_neg (by omega), List.take_add_one, List.map_append, hPd]
        simp [hkS, hs]
      · cases h
end Go.Proofs.Ytkcagifljelfoaa
