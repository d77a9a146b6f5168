/-
  The echoes of samples that come later, behind others equal to the base.
-/
import Derived.Test.YtkcagifljelfoaaVEch
import Derived.Test.YtkcagifljelfoaaVRefb
namespace Go.Proofs.Ytkcagifljelfoaa
open Go.RowKit

def laZ (zs : List Int) (m : Nat) (b : Int) : List Int := List.replicate m b ++ zs
theorem laZ_len (zs : List Int) (m : Nat) (b : Int) : (laZ zs m b).length = m + zs.length := by simp [laZ]
theorem ith_la (zs : List Int) (m : Nat) (b : Int) (j : Nat) : ith (laZ zs m b) (m + j) = ith zs j := by
  unfold ith laZ
  rw [List.getD_eq_getElem?_getD, List.getD_eq_getElem?_getD, List.getElem?_append_right (by simp)]
  simp
theorem ith_la0 {zs : List Int} {m : Nat} {b : Int} {j : Nat} (h : j < m) : ith (laZ zs m b) j = b := by
  unfold ith laZ
  rw [List.getD_eq_getElem?_getD, List.getElem?_append_left (by simpa using h)]
  simp [h]
theorem cntK_la (zs : List Int) (m : Nat) (b v : Int) : cntK (laZ zs m b) v (laZ zs m b).length = (if b ≤ v then m else 0) + cntK zs v zs.length := by
  unfold cntK
  rw [List.take_length, List.take_length]
  unfold laZ
  rw [List.countP_append, List.countP_replicate]
  simp
theorem med_la {zs : List Int} (hne : zs ≠ []) (m : Nat) : med (laZ zs m (med zs)) = med zs := by
  obtain ⟨b, hb⟩ : ∃ b, med zs = b := ⟨_, rfl⟩
  have hl : 0 < zs.length := List.length_pos_iff.2 hne
  have hne' : laZ zs m b ≠ [] := by
    intro h
    have := laZ_len zs m b
    rw [h] at this
    simp at this
    omega
  have h1 := fun v => cnt_med hne v
  have h2 := fun v => cnt_med hne' v
  rw [hb] at h1 ⊢
  have key : ∀ v, med (laZ zs m b) ≤ v ↔ b ≤ v := fun v => by
    rw [← h2 v, ← h1 v, cntK_la, laZ_len]
    have h3 := h1 v
    by_cases hv : b ≤ v
    · have := h3.2 hv
      rw [if_pos hv]
      constructor
      · intro _; exact this
      · intro _; omega
    · have : ¬ (zs.length - 1) / 2 < cntK zs v zs.length := fun h => hv (h3.1 h)
      rw [if_neg hv]
      constructor
      · intro h; omega
      · intro h; exact absurd h this
  have a1 := (key b).2 (Int.le_refl _)
  have a2 := (key (med (laZ zs m b))).1 (Int.le_refl _)
  omega

def laR (m : Nat) (r : Rn) : Rn := (m + r.1, m + r.2)
theorem runsK_la0 {zs : List Int} {m : Nat} {b T : Int} (hT : b < T) : ∀ k, k ≤ m → runsK (laZ zs m b) T k = []
  | 0, _ => rfl
  | k + 1, h => by rw [runsK_low (by rw [ith_la0 (by omega)]; exact hT)]; exact runsK_la0 hT k (by omega)
theorem runsK_la {zs : List Int} {m : Nat} {b T : Int} (hm : 0 < m) (hT : b < T) : ∀ k, runsK (laZ zs m b) T (m + k) = (runsK zs T k).map (laR m)
  | 0 => by rw [Nat.add_zero, runsK_la0 hT m (Nat.le_refl _)]; rfl
  | k + 1 => by
    have ih := runsK_la (zs := zs) hm hT k
    have e : m + (k + 1) = m + k + 1 := by omega
    rw [e]
    by_cases h1 : ith zs k < T
    · rw [runsK_low h1, runsK_low (by rw [ith_la]; exact h1), ih]
    · by_cases h2 : 0 < k ∧ T ≤ ith zs (k - 1)
      · obtain ⟨R, f, hR⟩ := runsK_last h2.1 h2.2
        rw [runsK_on (by omega) h2.1 h2.2 hR]
        have e2 : m + k - 1 = m + (k - 1) := by omega
        rw [runsK_on (R := R.map (laR m)) (f := m + f) (by rw [ith_la]; omega) (by omega) (by rw [e2, ith_la]; exact h2.2) (by rw [ih, hR]; simp [laR])]
        simp [laR]
        omega
      · rw [runsK_new (zs := zs) (by omega) (by omega), runsK_new (by rw [ith_la]; omega) ?_, ih]
        · simp [laR]; omega
        · rcases Nat.eq_zero_or_pos k with h0 | h0
          · subst h0
            rw [ith_la0 (by omega)]
            exact .inr hT
          · have e2 : m + k - 1 = m + (k - 1) := by omega
            rw [e2, ith_la]
            omega

def laE (m : Nat) (e : Eo) : Eo := ⟨m + e.fr, m + e.to, m + e.pk, e.lv, e.tp⟩
/-- The same state, later. -/
def simL (m : Nat) (S' S : Fs) : Prop :=
  S'.fall = S.fall ∧ S'.e.fr = m + S.e.fr ∧ S'.e.pk = m + S.e.pk ∧ S'.e.lv = S.e.lv ∧ S'.R = S.R.map (laE m) ∧ (S.fall = true → S'.va = m + S.va)
theorem simL_step {zs : List Int} {m : Nat} {b drop : Int} {i : Nat} {S' S : Fs} (h : simL m S' S) : simL m (stF (laZ zs m b) drop S' (m + i)) (stF zs drop S i) := by
  obtain ⟨fall, ⟨fr, to, pk, lv, tp⟩, va, R⟩ := S
  obtain ⟨fall', ⟨fr', to', pk', lv', tp'⟩, va', R'⟩ := S'
  obtain ⟨h1, h2, h3, h4, h5, h8⟩ := h
  simp only at h1 h2 h3 h4 h5 h8
  subst h1 h2 h3 h4 h5
  unfold stF
  cases fall' with
  | true =>
    have h9 := h8 rfl
    subst h9
    simp only [if_true, ith_la]
    by_cases q1 : ith zs i < ith zs va
    · rw [if_pos q1, if_pos q1]
      exact ⟨rfl, rfl, rfl, rfl, rfl, fun _ => rfl⟩
    · rw [if_neg q1, if_neg q1]
      by_cases q2 : ith zs va + drop ≤ ith zs i
      · rw [if_pos q2, if_pos q2]
        exact ⟨rfl, rfl, rfl, rfl, by simp [laE], fun h => by simp at h⟩
      · rw [if_neg q2, if_neg q2]
        exact ⟨rfl, rfl, rfl, rfl, rfl, fun _ => rfl⟩
  | false =>
    simp only [Bool.false_eq_true, if_false, ith_la]
    by_cases q1 : ith zs pk < ith zs i
    · rw [if_pos q1, if_pos q1]
      exact ⟨rfl, rfl, rfl, rfl, rfl, fun h => by simp at h⟩
    · rw [if_neg q1, if_neg q1]
      by_cases q2 : ith zs i ≤ ith zs pk - drop
      · rw [if_pos q2, if_pos q2]
        exact ⟨rfl, rfl, rfl, rfl, rfl, fun _ => rfl⟩
      · rw [if_neg q2, if_neg q2]
        exact ⟨rfl, rfl, rfl, rfl, rfl, fun h => by simp at h⟩
theorem runS_la {zs : List Int} {m : Nat} {b drop T : Int} {x : Nat} {R : List Eo} : ∀ k, simL m (runS (laZ zs m b) drop T (m + x) (R.map (laE m)) k) (runS zs drop T x R k)
  | 0 => ⟨rfl, rfl, rfl, rfl, rfl, fun h => by simp [runS] at h⟩
  | k + 1 => by
    have ih := runS_la (zs := zs) (m := m) (b := b) (drop := drop) (T := T) (x := x) (R := R) k
    have e : m + x + 1 + k = m + (x + 1 + k) := by omega
    rw [runS, runS, e]
    exact simL_step ih
theorem goneR_la {zs : List Int} {m : Nat} {b drop T : Int} {x y : Nat} {R : List Eo} (hxy : x < y) : goneR (laZ zs m b) drop T (m + x) (m + y) (R.map (laE m)) = (goneR zs drop T x y R).map (laE m) := by
  obtain ⟨h1, h2, h3, h4, h5, h8⟩ := runS_la (zs := zs) (m := m) (b := b) (drop := drop) (T := T) (x := x) (R := R) (y - 1 - x)
  have e : m + y - 1 - (m + x) = y - 1 - x := by omega
  unfold goneR
  simp only [e, h2, h3, h4, h5, ith_la, List.map_append, List.map_cons, List.map_nil, laE]
theorem echR_la {zs : List Int} {m : Nat} {b drop T : Int} (L : List Rn) (hL : ∀ r ∈ L, r.1 < r.2) : ∀ j, j ≤ L.length → echR (laZ zs m b) drop T (L.map (laR m)) j = (echR zs drop T L j).map (laE m)
  | 0, _ => by simp [echR]
  | j + 1, h => by
    have hj : j < L.length := by omega
    rw [echR_succ (show j < (L.map (laR m)).length by simpa using hj), echR_succ hj, echR_la L hL j (by omega)]
    simp only [List.getElem_map, laR]
    exact goneR_la (hL _ (List.getElem_mem hj))
theorem echF_la {zs : List Int} (hne : zs ≠ []) {m : Nat} (hm : 0 < m) {d : De} (hd : 1 ≤ d.lv) : echF (laZ zs m (med zs)) d = (echF zs d).map (laE m) := by
  unfold echF
  have hr : ∀ r ∈ runsK zs (med zs + d.lv) zs.length, r.1 < r.2 := fun r hr => by
    obtain ⟨i, hi, rfl⟩ := List.getElem_of_mem hr
    exact (runsK_chain zs _ _ i hi).1
  rw [med_la hne, laZ_len, runsK_la hm (by omega), List.length_map, echR_la _ hr _ (Nat.le_refl _), List.map_take]
end Go.Proofs.Ytkcagifljelfoaa
