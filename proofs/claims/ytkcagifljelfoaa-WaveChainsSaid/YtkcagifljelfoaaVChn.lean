/-
  The echoes of a signal follow each other.
-/
import Derived.Test.YtkcagifljelfoaaVGood
import Derived.Test.YtkcagifljelfoaaVDif
namespace Go.Proofs.Ytkcagifljelfoaa
open Go.RowKit

def begZ (zs : List Int) (T : Int) (x : Nat) : Prop := x = 0 ∨ ith zs (x - 1) < T
def endZ (zs : List Int) (T : Int) (n y : Nat) : Prop := y = n ∨ ith zs y < T

theorem runsK_facts (zs : List Int) (T : Int) : ∀ k i (h : i < (runsK zs T k).length),
    begZ zs T ((runsK zs T k)[i]'h).1 ∧ (∀ j, ((runsK zs T k)[i]'h).1 ≤ j → j < ((runsK zs T k)[i]'h).2 → T ≤ ith zs j) ∧
    ((((runsK zs T k)[i]'h).2 < k ∧ ith zs ((runsK zs T k)[i]'h).2 < T) ∨ (((runsK zs T k)[i]'h).2 = k ∧ i + 1 = (runsK zs T k).length))
  | 0, i, h => by simp [runsK] at h
  | k + 1, i, h => by
    have ih := runsK_facts zs T k
    by_cases h1 : ith zs k < T
    · have e := runsK_low h1
      simp only [e] at h ⊢
      obtain ⟨a, b, c⟩ := ih i h
      refine ⟨a, b, .inl ?_⟩
      rcases c with ⟨c1, c2⟩ | ⟨c1, c2⟩
      · exact ⟨by omega, c2⟩
      · rw [c1]; exact ⟨by omega, h1⟩
    · by_cases h2 : 0 < k ∧ T ≤ ith zs (k - 1)
      · obtain ⟨R, f, hR⟩ := runsK_last h2.1 h2.2
        have e := runsK_on (by omega) h2.1 h2.2 hR
        simp only [hR] at ih
        simp only [e] at h ⊢
        have hl : (R ++ [(f, k + 1)]).length = R.length + 1 := by simp
        have hl' : (R ++ [(f, k)]).length = R.length + 1 := by simp
        by_cases hi : i < R.length
        · obtain ⟨a, b, c⟩ := ih i (by omega)
          rw [List.getElem_append_left hi] at a b c
          rw [List.getElem_append_left hi]
          refine ⟨a, b, .inl ?_⟩
          rcases c with ⟨c1, c2⟩ | ⟨c1, c2⟩
          · exact ⟨by omega, c2⟩
          · omega
        · have e2 : i = R.length := by rw [hl] at h; omega
          subst e2
          obtain ⟨a, b, c⟩ := ih R.length (by simp)
          simp only [List.getElem_concat_length] at a b c ⊢
          refine ⟨a, fun j h3 h4 => ?_, .inr (by simp)⟩
          by_cases h5 : j < k
          · exact b j h3 h5
          · obtain rfl : j = k := by omega
            omega
      · have e := runsK_new (zs := zs) (level := T) (k := k) (by omega) (by omega)
        simp only [e] at h ⊢
        have hl : (runsK zs T k ++ [(k, k + 1)]).length = (runsK zs T k).length + 1 := by simp
        by_cases hi : i < (runsK zs T k).length
        · obtain ⟨a, b, c⟩ := ih i hi
          obtain ⟨ch, _⟩ := runsK_chain zs T k i hi
          rw [List.getElem_append_left hi]
          refine ⟨a, b, .inl ?_⟩
          rcases c with ⟨c1, c2⟩ | ⟨c1, c2⟩
          · exact ⟨by omega, c2⟩
          · exact absurd ⟨by omega, b (k - 1) (by omega) (by omega)⟩ h2
        · have e2 : i = (runsK zs T k).length := by rw [hl] at h; omega
          subst e2
          simp only [List.getElem_concat_length]
          refine ⟨?_, fun j h3 h4 => ?_, .inr (by simp)⟩
          · unfold begZ; omega
          · obtain rfl : j = k := by omega
            omega

/-- An echo among those of a signal. -/
def chE (zs : List Int) (T : Int) (n : Nat) (e : Eo) : Prop :=
  e.fr ≤ e.pk ∧ e.pk < e.to ∧ e.to ≤ n ∧ e.tp = ith zs e.pk ∧ e.lv ≤ ith zs e.pk ∧ T ≤ e.lv ∧ ((begZ zs T e.fr ∧ e.lv = T) ∨ ith zs e.fr < e.lv) ∧ ∀ k, e.fr ≤ k → k < e.to → ith zs k ≤ ith zs e.pk ∧ (ith zs k = ith zs e.pk → e.pk ≤ k) ∧ T ≤ ith zs k
/-- Two echoes that follow each other. -/
def lnkE (zs : List Int) (T : Int) (n : Nat) (p e : Eo) : Prop := (endZ zs T n p.to ∧ begZ zs T e.fr) ∨ p.to = e.fr
def CH (zs : List Int) (T : Int) (n : Nat) (L : List Eo) : Prop :=
  ∀ i (h : i < L.length), (i = 0 → begZ zs T (L[i]'h).fr) ∧ (0 < i → lnkE zs T n (L[i - 1]'(by omega)) (L[i]'h))
section
variable {zs : List Int} {T : Int} {n : Nat} {L : List Eo} {e e2 : Eo}
theorem CH.nil_ : CH zs T n [] := fun i h => absurd h (by simp)
theorem CH.snoc (h : CH zs T n L) (h0 : L = [] → begZ zs T e.fr) (h1 : ∀ L0 p, L = L0 ++ [p] → lnkE zs T n p e) : CH zs T n (L ++ [e]) := by
  intro i hi
  by_cases hl : i < L.length
  · obtain ⟨a, b⟩ := h i hl
    refine ⟨fun z => ?_, fun z => ?_⟩
    · rw [List.getElem_append_left hl]; exact a z
    · rw [List.getElem_append_left hl, List.getElem_append_left (by omega)]; exact b z
  · have e1 : i = L.length := by simp at hi; omega
    subst e1
    refine ⟨fun z => ?_, fun z => ?_⟩
    · simp only [List.getElem_concat_length]
      exact h0 (List.eq_nil_of_length_eq_zero z)
    · simp only [List.getElem_concat_length]
      rw [List.getElem_append_left (by omega)]
      rcases list_end L with h2 | ⟨L0, p, h2⟩
      · subst h2; simp at z
      · have h3 := h1 L0 p h2
        subst h2
        have e3 : (L0 ++ [p]).length - 1 = L0.length := by simp
        simp only [e3, List.getElem_concat_length]
        exact h3
theorem CH.init (h : CH zs T n (L ++ [e])) : CH zs T n L := fun i hi => by
  obtain ⟨a, b⟩ := h i (by simp; omega)
  refine ⟨fun z => ?_, fun z => ?_⟩
  · have := a z; rwa [List.getElem_append_left hi] at this
  · have := b z; rwa [List.getElem_append_left hi, List.getElem_append_left (by omega)] at this
theorem CH.last0 (h : CH zs T n (L ++ [e])) (hl : L = []) : begZ zs T e.fr := by
  subst hl
  exact (h 0 (by simp)).1 rfl
theorem CH.last1 {L0 : List Eo} {p : Eo} (h : CH zs T n (L0 ++ [p] ++ [e])) : lnkE zs T n p e := by
  have := (h (L0 ++ [p]).length (by simp)).2 (by simp)
  simp only [List.getElem_concat_length] at this
  rw [List.getElem_append_left (by simp)] at this
  have e3 : (L0 ++ [p]).length - 1 = L0.length := by simp
  simp only [e3, List.getElem_concat_length] at this
  exact this
theorem CH.swap (h : CH zs T n (L ++ [e])) (hf : e2.fr = e.fr) : CH zs T n (L ++ [e2]) :=
  h.init.snoc (fun z => by rw [hf]; exact h.last0 z) (fun L0 p z => by
    subst z
    have := h.last1
    unfold lnkE at *
    rw [hf]
    exact this)
end

/-- The echo that has begun, closed behind sample i. -/
def opE (zs : List Int) (i : Nat) (S : Fs) : Eo := ⟨S.e.fr, i + 1, S.e.pk, S.e.lv, ith zs S.e.pk⟩
def chS (zs : List Int) (T : Int) (n : Nat) (drop : Int) (i : Nat) (S : Fs) : Prop :=
  (∀ e ∈ S.R, chE zs T n e) ∧ chE zs T n (opE zs i S) ∧ CH zs T n (S.R ++ [opE zs i S]) ∧
  (S.fall = true → S.e.pk < S.va ∧ S.va ≤ i ∧ ith zs S.va + drop ≤ ith zs S.e.pk ∧ ∀ k, S.va ≤ k → k ≤ i → ith zs S.va ≤ ith zs k ∧ ith zs k < ith zs S.va + drop)

theorem chS_step {zs : List Int} {T : Int} {n : Nat} {drop : Int} (hd : 1 ≤ drop) {S : Fs} {i : Nat} (hn : i + 2 ≤ n) (hT : T ≤ ith zs (i + 1)) (h : chS zs T n drop i S) : chS zs T n drop (i + 1) (stF zs drop S (i + 1)) := by
  obtain ⟨fall, ⟨fr, to, pk, lv, tp⟩, va, R⟩ := S
  obtain ⟨hR, ⟨g1, g2, g3, g4, g5, g6, g8, g7⟩, h2, h3⟩ := h
  simp only [opE] at g1 g2 g3 g4 g5 g6 g7 g8 h2 h3 hR
  unfold stF
  cases fall with
  | true =>
    obtain ⟨k1, k2, k3, k4⟩ := h3 rfl
    simp only [if_true]
    by_cases c1 : ith zs (i + 1) < ith zs va
    · rw [if_pos c1]
      refine ⟨hR, ⟨g1, by simp only [opE]; omega, by simp only [opE]; omega, rfl, g5, g6, g8, fun k q1 q2 => ?_⟩, h2.swap rfl, fun _ => ⟨by simp only; omega, Nat.le_refl _, by simp only; omega, fun k q1 q2 => ?_⟩⟩
      · simp only [opE] at q1 q2 ⊢
        by_cases q3 : k < i + 1
        · exact g7 k q1 q3
        · obtain rfl : k = i + 1 := by omega
          exact ⟨by omega, fun q => by omega, hT⟩
      · simp only at q1 q2 ⊢
        obtain rfl : k = i + 1 := by omega
        omega
    · rw [if_neg c1]
      by_cases c2 : ith zs va + drop ≤ ith zs (i + 1)
      · rw [if_pos c2]
        have gv := g7 va (by omega) (by omega)
        refine ⟨fun e he => ?_, ⟨by simp only [opE]; omega, by simp only [opE]; omega, by simp only [opE]; omega, rfl, c2, by simp only [opE]; omega, .inr (by simp only [opE]; omega), fun k q1 q2 => ?_⟩, ?_, fun h => by simp at h⟩
        · rcases List.mem_append.1 he with he | he
          · exact hR e he
          · simp at he
            subst he
            exact ⟨g1, k1, by simp only; omega, rfl, g5, g6, g8, fun k q1 q2 => g7 k q1 (by simp only at q2; omega)⟩
        · simp only [opE] at q1 q2 ⊢
          by_cases q3 : k < i + 1
          · have := k4 k q1 (by omega)
            exact ⟨by omega, fun q => by omega, (g7 k (by omega) q3).2.2⟩
          · obtain rfl : k = i + 1 := by omega
            exact ⟨by omega, fun q => by omega, hT⟩
        · refine CH.snoc (h2.swap rfl) (fun z => absurd z (by simp)) (fun L0 p z => ?_)
          have z2 := (List.append_inj' z rfl).2
          simp only [List.cons.injEq, and_true] at z2
          subst z2
          exact .inr rfl
      · rw [if_neg c2]
        refine ⟨hR, ⟨g1, by simp only [opE]; omega, by simp only [opE]; omega, rfl, g5, g6, g8, fun k q1 q2 => ?_⟩, h2.swap rfl, fun _ => ⟨k1, by simp only; omega, k3, fun k q1 q2 => ?_⟩⟩
        · simp only [opE] at q1 q2 ⊢
          by_cases q3 : k < i + 1
          · exact g7 k q1 q3
          · obtain rfl : k = i + 1 := by omega
            exact ⟨by omega, fun q => by omega, hT⟩
        · simp only at q1 q2 ⊢
          by_cases q3 : k ≤ i
          · exact k4 k q1 q3
          · obtain rfl : k = i + 1 := by omega
            omega
  | false =>
    simp only [Bool.false_eq_true, if_false]
    by_cases c1 : ith zs pk < ith zs (i + 1)
    · rw [if_pos c1]
      refine ⟨hR, ⟨by simp only [opE]; omega, by simp only [opE]; omega, by simp only [opE]; omega, rfl, by simp only [opE]; omega, g6, g8, fun k q1 q2 => ?_⟩, h2.swap rfl, fun h => by simp at h⟩
      simp only [opE] at q1 q2 ⊢
      by_cases q3 : k < i + 1
      · have := g7 k q1 q3
        exact ⟨by omega, fun q => by omega, this.2.2⟩
      · obtain rfl : k = i + 1 := by omega
        exact ⟨by omega, fun q => by omega, hT⟩
    · rw [if_neg c1]
      have ext : ∀ k, fr ≤ k → k < i + 1 + 1 → ith zs k ≤ ith zs pk ∧ (ith zs k = ith zs pk → pk ≤ k) ∧ T ≤ ith zs k := fun k q1 q2 => by
        by_cases q3 : k < i + 1
        · exact g7 k q1 q3
        · obtain rfl : k = i + 1 := by omega
          exact ⟨by omega, fun q => by omega, hT⟩
      by_cases c2 : ith zs (i + 1) ≤ ith zs pk - drop
      · rw [if_pos c2]
        refine ⟨hR, ⟨g1, by simp only [opE]; omega, by simp only [opE]; omega, rfl, g5, g6, g8, ext⟩, h2.swap rfl, fun _ => ⟨by simp only; omega, Nat.le_refl _, by simp only; omega, fun k q1 q2 => ?_⟩⟩
        simp only at q1 q2 ⊢
        obtain rfl : k = i + 1 := by omega
        omega
      · rw [if_neg c2]
        exact ⟨hR, ⟨g1, by simp only [opE]; omega, by simp only [opE]; omega, rfl, g5, g6, g8, ext⟩, h2.swap rfl, fun h => by simp at h⟩

theorem runS_ch {zs : List Int} {T : Int} {n : Nat} {drop : Int} (hd : 1 ≤ drop) {x y : Nat} {R : List Eo} (hx : begZ zs T x) (hy : y ≤ n) (hT : ∀ j, x ≤ j → j < y → T ≤ ith zs j) (hR : ∀ e ∈ R, chE zs T n e) (hC : CH zs T n R) (hE : ∀ L0 p, R = L0 ++ [p] → endZ zs T n p.to) :
    ∀ k, x + k < y → chS zs T n drop (x + k) (runS zs drop T x R k)
  | 0, h => by
    have h0 := hT x (Nat.le_refl _) (by omega)
    refine ⟨hR, ⟨Nat.le_refl _, by simp only [opE, runS]; omega, by simp only [opE, runS]; omega, rfl, h0, Int.le_refl _, .inl ⟨hx, rfl⟩, fun k q1 q2 => ?_⟩, CH.snoc hC (fun _ => hx) (fun L0 p z => .inl ⟨hE L0 p z, hx⟩), fun h => by simp [runS] at h⟩
    simp only [opE, runS] at q1 q2 ⊢
    obtain rfl : k = x := by omega
    exact ⟨Int.le_refl _, fun _ => Nat.le_refl _, h0⟩
  | k + 1, h => by
    have ih := runS_ch hd hx hy hT hR hC hE k (by omega)
    have e : x + 1 + k = x + k + 1 := by omega
    rw [runS, e]
    exact chS_step (i := x + k) hd (show x + k + 2 ≤ n by omega) (hT (x + k + 1) (by omega) (by omega)) ih

theorem echR_ch {zs : List Int} {drop T : Int} (hd : 1 ≤ drop) (n : Nat) : ∀ j, j ≤ (runsK zs T n).length →
    (∀ e ∈ echR zs drop T (runsK zs T n) j, chE zs T n e) ∧ CH zs T n (echR zs drop T (runsK zs T n) j) ∧ ∀ L0 p, echR zs drop T (runsK zs T n) j = L0 ++ [p] → endZ zs T n p.to
  | 0, _ => ⟨fun e he => by simp [echR] at he, by simp only [echR, List.take_zero, List.foldl_nil]; exact CH.nil_, fun L0 p z => by simp [echR] at z⟩
  | j + 1, h => by
    have hj : j < (runsK zs T n).length := by omega
    obtain ⟨i1, i2, i3⟩ := echR_ch (zs := zs) (T := T) hd n j (by omega)
    obtain ⟨a, b, _⟩ := runsK_chain zs T n j hj
    obtain ⟨c1, c2, c3⟩ := runsK_facts zs T n j hj
    rw [echR_succ hj]
    obtain ⟨⟨x, y⟩, hxy⟩ : ∃ r, (runsK zs T n)[j]'hj = r := ⟨_, rfl⟩
    rw [hxy] at a b c1 c2 c3 ⊢
    simp only at a b c1 c2 c3 ⊢
    obtain ⟨h1, h2, h3, _⟩ := runS_ch hd c1 b c2 i1 i2 i3 (y - 1 - x) (by omega)
    have e1 : x + (y - 1 - x) = y - 1 := by omega
    have e2 : y - 1 + 1 = y := by omega
    rw [e1] at h2 h3
    simp only [opE, e2] at h2 h3
    unfold goneR
    refine ⟨fun e he => ?_, h3, fun L0 p z => ?_⟩
    · rcases List.mem_append.1 he with he | he
      · exact h1 e he
      · simp at he
        subst he
        exact h2
    · have z2 := (List.append_inj' z rfl).2
      simp only [List.cons.injEq, and_true] at z2
      subst z2
      rcases c3 with c3 | c3
      · exact .inr c3.2
      · exact .inl c3.1

theorem take_ch {zs : List Int} {T : Int} {n : Nat} {L : List Eo} (i1 : ∀ e ∈ L, chE zs T n e) (i2 : CH zs T n L) (i3 : ∀ L0 p, L = L0 ++ [p] → endZ zs T n p.to) :
    (L.take 15).length ≤ 15 ∧ ∀ i (h : i < (L.take 15).length), chE zs T n ((L.take 15)[i]'h) ∧
    (begZ zs T ((L.take 15)[i]'h).fr ∨ ∃ h0 : 0 < i, ((L.take 15)[i - 1]'(by omega)).to = ((L.take 15)[i]'h).fr) ∧
    (endZ zs T n ((L.take 15)[i]'h).to ∨ (i + 1 = (L.take 15).length ∧ (L.take 15).length = 15) ∨ ∃ h1 : i + 1 < (L.take 15).length, ((L.take 15)[i + 1]'h1).fr = ((L.take 15)[i]'h).to) := by
  refine ⟨by rw [List.length_take]; omega, fun i h => ?_⟩
  have ht : (L.take 15).length = min 15 L.length := List.length_take
  have hi : i < L.length := by omega
  simp only [List.getElem_take]
  refine ⟨i1 _ (List.getElem_mem hi), ?_, ?_⟩
  · rcases Nat.eq_zero_or_pos i with h0 | h0
    · exact .inl ((i2 i hi).1 h0)
    · rcases (i2 i hi).2 h0 with h1 | h1
      · exact .inl h1.2
      · exact .inr ⟨h0, h1⟩
  · by_cases h1 : i + 1 < (L.take 15).length
    · have h1' : i + 1 < L.length := by omega
      rcases (i2 (i + 1) h1').2 (by omega) with h2 | h2
      · exact .inl h2.1
      · exact .inr (.inr ⟨h1, h2.symm⟩)
    · by_cases h2 : L.length ≤ 15
      · rcases list_end L with h3 | ⟨L0, p, h3⟩
        · subst h3; simp at hi
        · have h4 := i3 L0 p h3
          have hL : L.length = L0.length + 1 := by rw [h3]; simp
          have e : i = L0.length := by omega
          subst h3
          subst e
          simp only [List.getElem_concat_length]
          exact .inl h4
      · refine .inr (.inl ?_)
        omega
/-- What the echoes that are found are to each other. -/
theorem echF_ch {zs : List Int} {d : De} (hd : 1 ≤ d.dp) : (echF zs d).length ≤ 15 ∧ ∀ i (h : i < (echF zs d).length), chE zs (med zs + d.lv) zs.length ((echF zs d)[i]'h) ∧
    (begZ zs (med zs + d.lv) ((echF zs d)[i]'h).fr ∨ ∃ h0 : 0 < i, ((echF zs d)[i - 1]'(by omega)).to = ((echF zs d)[i]'h).fr) ∧
    (endZ zs (med zs + d.lv) zs.length ((echF zs d)[i]'h).to ∨ (i + 1 = (echF zs d).length ∧ (echF zs d).length = 15) ∨ ∃ h1 : i + 1 < (echF zs d).length, ((echF zs d)[i + 1]'h1).fr = ((echF zs d)[i]'h).to) := by
  obtain ⟨i1, i2, i3⟩ := echR_ch (zs := zs) (drop := d.dp) (T := med zs + d.lv) hd zs.length _ (Nat.le_refl _)
  exact take_ch i1 i2 i3
end Go.Proofs.Ytkcagifljelfoaa
