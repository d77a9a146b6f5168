/-
  The echoes of greater samples, all by the same number.
-/
import Derived.Test.YtkcagifljelfoaaVEch
import Derived.Test.YtkcagifljelfoaaVRefb
namespace Go.Proofs.Ytkcagifljelfoaa
open Go.RowKit

def upZ (zs : List Int) (m : Int) : List Int := zs.map (· + m)
theorem upZ_len (zs : List Int) (m : Int) : (upZ zs m).length = zs.length := by simp [upZ]
theorem ith_up {zs : List Int} {m : Int} {j : Nat} (h : j < zs.length) : ith (upZ zs m) j = ith zs j + m := by
  rw [ith_lt h, ith_lt (by rw [upZ_len]; exact h)]
  simp [upZ]
theorem cntK_up (zs : List Int) (m v : Int) : cntK (upZ zs m) (v + m) (upZ zs m).length = cntK zs v zs.length := by
  unfold cntK
  rw [List.take_length, List.take_length]
  unfold upZ
  rw [List.countP_map]
  congr 1
  funext x
  simp only [Function.comp]
  congr 1
  rw [eq_iff_iff]
  omega
theorem med_up {zs : List Int} (hne : zs ≠ []) (m : Int) : med (upZ zs m) = med zs + m := by
  have hne' : upZ zs m ≠ [] := by simpa [upZ] using hne
  have h1 := fun v => cnt_med hne v
  have h2 := fun v => cnt_med hne' v
  have a1 := (h2 (med zs + m)).1 (by rw [cntK_up, upZ_len]; exact (h1 _).2 (Int.le_refl _))
  have a2 := (h1 (med (upZ zs m) - m)).1 (by
    have h3 := (h2 (med (upZ zs m) - m + m)).2 (by omega)
    rw [cntK_up, upZ_len] at h3
    exact h3)
  omega
theorem runsK_up {zs : List Int} {T m : Int} : ∀ k, k ≤ zs.length → runsK (upZ zs m) (T + m) k = runsK zs T k
  | 0, _ => rfl
  | k + 1, h => by
    have ih := runsK_up (zs := zs) (T := T) (m := m) k (by omega)
    have e1 : ith (upZ zs m) k = ith zs k + m := ith_up (zs := zs) (by omega)
    have e2 : ith (upZ zs m) (k - 1) = ith zs (k - 1) + m := ith_up (zs := zs) (by omega)
    rw [runsK, runsK, ih, e1, e2]
    have c1 : (ith zs k + m < T + m) = (ith zs k < T) := by rw [eq_iff_iff]; omega
    have c2 : (T + m ≤ ith zs (k - 1) + m) = (T ≤ ith zs (k - 1)) := by rw [eq_iff_iff]; omega
    simp only [c1, c2]

def upE (m : Int) (e : Eo) : Eo := ⟨e.fr, e.to, e.pk, e.lv + m, e.tp + m⟩
/-- The same state, but for the heights. -/
def simU (m : Int) (n i : Nat) (S' S : Fs) : Prop :=
  S'.fall = S.fall ∧ S'.e.fr = S.e.fr ∧ S'.e.pk = S.e.pk ∧ S'.e.lv = S.e.lv + m ∧ S'.R = S.R.map (upE m) ∧ S.e.pk ≤ i ∧ i < n ∧ (S.fall = true → S'.va = S.va ∧ S.va ≤ i)
theorem simU_step {zs : List Int} {m drop : Int} {i : Nat} {S' S : Fs} (hi : i + 1 < zs.length) (h : simU m zs.length i S' S) : simU m zs.length (i + 1) (stF (upZ zs m) drop S' (i + 1)) (stF zs drop S (i + 1)) := by
  obtain ⟨fall, ⟨fr, to, pk, lv, tp⟩, va, R⟩ := S
  obtain ⟨fall', ⟨fr', to', pk', lv', tp'⟩, va', R'⟩ := S'
  obtain ⟨h1, h2, h3, h4, h5, h6, h7, h8⟩ := h
  simp only at h1 h2 h3 h4 h5 h6 h8
  subst h1 h2 h3 h4 h5
  have e1 : ith (upZ zs m) (i + 1) = ith zs (i + 1) + m := ith_up hi
  have e2 : ith (upZ zs m) pk' = ith zs pk' + m := ith_up (by omega)
  unfold stF
  cases fall' with
  | true =>
    obtain ⟨h9, h10⟩ := h8 rfl
    subst h9
    have e3 : ith (upZ zs m) va' = ith zs va' + m := ith_up (by omega)
    have c1 : (ith zs (i + 1) + m < ith zs va' + m) = (ith zs (i + 1) < ith zs va') := by rw [eq_iff_iff]; omega
    have c2 : (ith zs va' + m + drop ≤ ith zs (i + 1) + m) = (ith zs va' + drop ≤ ith zs (i + 1)) := by rw [eq_iff_iff]; omega
    simp only [if_true, e1, e2, e3, c1, c2]
    by_cases q1 : ith zs (i + 1) < ith zs va'
    · rw [if_pos q1, if_pos q1]
      exact ⟨rfl, rfl, rfl, rfl, rfl, by simp only; omega, hi, fun _ => ⟨rfl, Nat.le_refl _⟩⟩
    · rw [if_neg q1, if_neg q1]
      by_cases q2 : ith zs va' + drop ≤ ith zs (i + 1)
      · rw [if_pos q2, if_pos q2]
        exact ⟨rfl, rfl, rfl, by simp only; omega, by simp [upE], Nat.le_refl _, hi, fun h => by simp at h⟩
      · rw [if_neg q2, if_neg q2]
        exact ⟨rfl, rfl, rfl, rfl, rfl, by simp only; omega, hi, fun _ => ⟨rfl, by simp only; omega⟩⟩
  | false =>
    have c1 : (ith zs pk' + m < ith zs (i + 1) + m) = (ith zs pk' < ith zs (i + 1)) := by rw [eq_iff_iff]; omega
    have c2 : (ith zs (i + 1) + m ≤ ith zs pk' + m - drop) = (ith zs (i + 1) ≤ ith zs pk' - drop) := by rw [eq_iff_iff]; omega
    simp only [Bool.false_eq_true, if_false, e1, e2, c1, c2]
    by_cases q1 : ith zs pk' < ith zs (i + 1)
    · rw [if_pos q1, if_pos q1]
      exact ⟨rfl, rfl, rfl, rfl, rfl, Nat.le_refl _, hi, fun h => by simp at h⟩
    · rw [if_neg q1, if_neg q1]
      by_cases q2 : ith zs (i + 1) ≤ ith zs pk' - drop
      · rw [if_pos q2, if_pos q2]
        exact ⟨rfl, rfl, rfl, rfl, rfl, by simp only; omega, hi, fun _ => ⟨rfl, Nat.le_refl _⟩⟩
      · rw [if_neg q2, if_neg q2]
        exact ⟨rfl, rfl, rfl, rfl, rfl, by simp only; omega, hi, fun h => by simp at h⟩
theorem runS_up {zs : List Int} {m drop T : Int} {x : Nat} {R : List Eo} : ∀ k, x + k < zs.length → simU m zs.length (x + k) (runS (upZ zs m) drop (T + m) x (R.map (upE m)) k) (runS zs drop T x R k)
  | 0, h => ⟨rfl, rfl, rfl, rfl, rfl, Nat.le_refl _, h, fun h => by simp [runS] at h⟩
  | k + 1, h => by
    have ih := runS_up (zs := zs) (m := m) (drop := drop) (T := T) (x := x) (R := R) k (by omega)
    have e : x + 1 + k = x + k + 1 := by omega
    rw [runS, runS, e]
    exact simU_step (by omega) ih
theorem goneR_up {zs : List Int} {m drop T : Int} {x y : Nat} {R : List Eo} (hxy : x < y) (hy : y ≤ zs.length) : goneR (upZ zs m) drop (T + m) x y (R.map (upE m)) = (goneR zs drop T x y R).map (upE m) := by
  obtain ⟨h1, h2, h3, h4, h5, h6, h7, h8⟩ := runS_up (zs := zs) (m := m) (drop := drop) (T := T) (x := x) (R := R) (y - 1 - x) (by omega)
  unfold goneR
  simp only [h2, h3, h4, h5, List.map_append, List.map_cons, List.map_nil, upE]
  rw [ith_up (by omega)]
theorem echR_up {zs : List Int} {m drop T : Int} : ∀ j, j ≤ (runsK zs T zs.length).length → echR (upZ zs m) drop (T + m) (runsK zs T zs.length) j = (echR zs drop T (runsK zs T zs.length) j).map (upE m)
  | 0, _ => by simp [echR]
  | j + 1, h => by
    obtain ⟨a, b, _⟩ := runsK_chain zs T zs.length j (by omega)
    rw [echR_succ (show j < (runsK zs T zs.length).length by omega), echR_succ (show j < (runsK zs T zs.length).length by omega), echR_up j (by omega), goneR_up a b]
theorem echF_up {zs : List Int} (hne : zs ≠ []) (m : Int) (d : De) : echF (upZ zs m) d = (echF zs d).map (upE m) := by
  unfold echF
  have e : med (upZ zs m) + d.lv = med zs + d.lv + m := by rw [med_up hne]; omega
  rw [e, upZ_len, runsK_up _ (Nat.le_refl _), echR_up _ (Nat.le_refl _), List.map_take]
end Go.Proofs.Ytkcagifljelfoaa
