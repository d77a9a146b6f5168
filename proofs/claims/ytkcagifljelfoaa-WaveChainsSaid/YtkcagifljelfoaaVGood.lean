/-
  What is true of every echo that Echoes finds.
-/
import Derived.Test.YtkcagifljelfoaaVEch
namespace Go.Proofs.Ytkcagifljelfoaa
open Go.RowKit

/-- An echo begins ahead of its peak, ends behind it, and its level is at most its peak. -/
def goodE (zs : List Int) (n : Nat) (e : Eo) : Prop := e.fr ≤ e.pk ∧ e.pk < e.to ∧ e.to ≤ n ∧ e.lv ≤ ith zs e.pk ∧ e.tp = ith zs e.pk
theorem goodE.more {zs : List Int} {n m : Nat} {e : Eo} (h : goodE zs n e) (hm : n ≤ m) : goodE zs m e := ⟨h.1, h.2.1, Nat.le_trans h.2.2.1 hm, h.2.2.2⟩
/-- The state behind sample i. -/
def goodS (zs : List Int) (i : Nat) (S : Fs) : Prop :=
  S.e.fr ≤ S.e.pk ∧ S.e.pk ≤ i ∧ S.e.lv ≤ ith zs S.e.pk ∧ (S.fall = true → S.e.pk < S.va ∧ S.va ≤ i) ∧ ∀ e ∈ S.R, goodE zs i e
theorem goodS_step {zs : List Int} {drop : Int} (hd : 1 ≤ drop) {S : Fs} {i : Nat} (h : goodS zs i S) : goodS zs (i + 1) (stF zs drop S (i + 1)) := by
  obtain ⟨fall, ⟨fr, to, pk, lv, tp⟩, va, R⟩ := S
  obtain ⟨h1, h2, h3, h4, h5⟩ := h
  simp only at h1 h2 h3 h4 h5
  unfold stF
  cases fall with
  | true =>
    obtain ⟨h6, h7⟩ := h4 rfl
    simp only [if_true]
    by_cases c1 : ith zs (i + 1) < ith zs va
    · rw [if_pos c1]
      exact ⟨h1, by simp only; omega, h3, fun _ => ⟨by simp only; omega, Nat.le_refl _⟩, fun e he => (h5 e he).more (by omega)⟩
    · rw [if_neg c1]
      by_cases c2 : ith zs va + drop ≤ ith zs (i + 1)
      · rw [if_pos c2]
        refine ⟨by simp only; omega, Nat.le_refl _, c2, fun h => by simp at h, fun e he => ?_⟩
        rcases List.mem_append.1 he with he | he
        · exact (h5 e he).more (by omega)
        · simp at he
          subst he
          exact ⟨h1, h6, by simp only; omega, h3, rfl⟩
      · rw [if_neg c2]
        exact ⟨h1, by simp only; omega, h3, fun _ => ⟨h6, by simp only; omega⟩, fun e he => (h5 e he).more (by omega)⟩
  | false =>
    simp only [Bool.false_eq_true, if_false]
    by_cases c1 : ith zs pk < ith zs (i + 1)
    · rw [if_pos c1]
      exact ⟨by simp only; omega, Nat.le_refl _, by simp only; omega, fun h => by simp at h, fun e he => (h5 e he).more (by omega)⟩
    · rw [if_neg c1]
      by_cases c2 : ith zs (i + 1) ≤ ith zs pk - drop
      · rw [if_pos c2]
        exact ⟨h1, by simp only; omega, h3, fun _ => ⟨by simp only; omega, Nat.le_refl _⟩, fun e he => (h5 e he).more (by omega)⟩
      · rw [if_neg c2]
        exact ⟨h1, by simp only; omega, h3, fun h => by simp at h, fun e he => (h5 e he).more (by omega)⟩
theorem runS_good {zs : List Int} {drop lv : Int} (hd : 1 ≤ drop) {x : Nat} {R : List Eo} (hx : lv ≤ ith zs x) (hR : ∀ e ∈ R, goodE zs x e) : ∀ k, goodS zs (x + k) (runS zs drop lv x R k)
  | 0 => ⟨Nat.le_refl _, Nat.le_refl _, hx, fun h => by simp [runS] at h, hR⟩
  | k + 1 => by
    have h := goodS_step hd (runS_good hd hx hR k)
    have e : x + 1 + k = x + k + 1 := by omega
    rw [runS, e]
    exact h
theorem goneR_good {zs : List Int} {drop lv : Int} (hd : 1 ≤ drop) {x y : Nat} {R : List Eo} (hx : lv ≤ ith zs x) (hxy : x < y) (hR : ∀ e ∈ R, goodE zs x e) : ∀ e ∈ goneR zs drop lv x y R, goodE zs y e := by
  have h := runS_good hd hx hR (y - 1 - x)
  have e1 : x + (y - 1 - x) = y - 1 := by omega
  rw [e1] at h
  obtain ⟨h1, h2, h3, h4, h5⟩ := h
  intro e he
  unfold goneR at he
  rcases List.mem_append.1 he with he | he
  · exact (h5 e he).more (by omega)
  · simp at he
    subst he
    exact ⟨h1, by simp only; omega, Nat.le_refl _, h3, rfl⟩
theorem runsK_high (zs : List Int) (level : Int) : ∀ k, ∀ r ∈ runsK zs level k, level ≤ ith zs r.1
  | 0, r, h => by simp [runsK] at h
  | k + 1, r, h => by
    have ih := runsK_high zs level k
    by_cases h1 : ith zs k < level
    · rw [runsK_low h1] at h; exact ih r h
    · by_cases h2 : 0 < k ∧ level ≤ ith zs (k - 1)
      · obtain ⟨R, f, hR⟩ := runsK_last h2.1 h2.2
        rw [runsK_on (by omega) h2.1 h2.2 hR] at h
        rw [hR] at ih
        rcases List.mem_append.1 h with h | h
        · exact ih r (by simp [h])
        · simp at h
          subst h
          exact ih (f, k) (by simp)
      · rw [runsK_new (by omega) (by omega)] at h
        rcases List.mem_append.1 h with h | h
        · exact ih r h
        · simp at h
          subst h
          simp only
          omega
theorem echR_good {zs : List Int} {drop level : Int} (hd : 1 ≤ drop) (n : Nat) : ∀ j (h : j < (runsK zs level n).length), ∀ e ∈ echR zs drop level (runsK zs level n) j, goodE zs ((runsK zs level n)[j]'h).1 e
  | 0, h => by intro e he; simp [echR] at he
  | j + 1, h => by
    have ih := echR_good (zs := zs) (level := level) hd n j (by omega)
    obtain ⟨a, b, c⟩ := runsK_chain zs level n j (by omega)
    have hh := runsK_high zs level n _ (List.getElem_mem (show j < (runsK zs level n).length by omega))
    intro e he
    rw [echR_succ (show j < (runsK zs level n).length by omega)] at he
    exact (goneR_good hd hh a ih e he).more (c h)
theorem echF_good {zs : List Int} {d : De} (hd : 1 ≤ d.dp) : ∀ e ∈ echF zs d, goodE zs zs.length e := by
  intro e he
  unfold echF at he
  have he := List.mem_of_mem_take he
  generalize med zs + d.lv = level at he
  generalize hn : zs.length = n at he ⊢
  by_cases h : (runsK zs level n).length = 0
  · rw [h] at he; simp [echR] at he
  · have h2 : (runsK zs level n).length - 1 < (runsK zs level n).length := by omega
    obtain ⟨a, b, c⟩ := runsK_chain zs level n _ h2
    have hh := runsK_high zs level n _ (List.getElem_mem h2)
    have e1 : (runsK zs level n).length = (runsK zs level n).length - 1 + 1 := by omega
    rw [e1, echR_succ h2] at he
    exact (goneR_good hd hh a (echR_good hd n _ h2) e he).more b
end Go.Proofs.Ytkcagifljelfoaa
