/-
  Gap of valid spans.
  Operations of any two spans: the program's and the document's return the same.
-/
import Derived.Test.YtdpmfenikomfkaaGreatE29
import Derived.WalkLawsBesides
import Derived.Test.YtdpmfenikomfkaaGreatE27
import Derived.Test.YtdpmfenikomfkaaGreatE28
namespace Go.Proofs.YtdpmfenikomfkaaGreat
open Go.RowKit

set_option maxRecDepth 100000 in
set_option maxHeartbeats 2000000 in
theorem gap_ok (al ah bl bh d : Int) (ha : okS al ah) (hb : okS bl bh) (h : (al ≤ bh ∧ bl ≤ ah ∧ d = 0) ∨ (ah < bl ∧ d = bl - ah) ∨ (bh < al ∧ d = al - bh)) (w : World) :
    Calls Tryz.prog 14 #[.agg #[.int .i64 al, .int .i64 ah], .agg #[.int .i64 bl, .int .i64 bh]] w (RetIE w d 0) := by
  obtain ⟨a1, a2, a3⟩ := ha
  obtain ⟨b1, b2, b3⟩ := hb
  rcases h with ⟨h1, h2, rfl⟩ | ⟨h1, rfl⟩ | ⟨h1, rfl⟩
  all_goals
    go_enter Tryz.func14, Tryz.ntmps14
    go_wp2
    all_goals
      go_ret2
      refine ⟨?_, ?_⟩
      · first
        | rfl
        | (congr 3 <;> omega)
        | (congr 4 <;> omega)
      · repeat (refine Below.alloc ?_ (by simp <;> omega) _)
        exact Below.refl _ _
end Go.Proofs.YtdpmfenikomfkaaGreat

namespace Go.Proofs.YtdpmfenikomfkaaGreat
open Go.RowKit

theorem ends4 (a b c d : Int) : Ends [a, b, c, d] 4 (min (min (min a b) c) d) (max (max (max a b) c) d) := by
  have h1 : min (min (min a b) c) d = a ∨ min (min (min a b) c) d = b ∨ min (min (min a b) c) d = c ∨ min (min (min a b) c) d = d := by omega
  have h2 : max (max (max a b) c) d = a ∨ max (max (max a b) c) d = b ∨ max (max (max a b) c) d = c ∨ max (max (max a b) c) d = d := by omega
  refine ⟨?_, ?_, ?_⟩
  · rcases h1 with h | h | h | h
    · exact ⟨0, by simp, by omega, h.symm⟩
    · exact ⟨1, by simp, by omega, h.symm⟩
    · exact ⟨2, by simp, by omega, h.symm⟩
    · exact ⟨3, by simp, by omega, h.symm⟩
  · rcases h2 with h | h | h | h
    · exact ⟨0, by simp, by omega, h.symm⟩
    · exact ⟨1, by simp, by omega, h.symm⟩
    · exact ⟨2, by simp, by omega, h.symm⟩
    · exact ⟨3, by simp, by omega, h.symm⟩
  · intro j h hj
    have : j = 0 ∨ j = 1 ∨ j = 2 ∨ j = 3 := by omega
    rcases this with rfl | rfl | rfl | rfl <;> simp <;> omega
theorem sp_ok {w : World} {lo hi : Int} {e : Ending} {w' : World} (h : RetSp w lo hi e w') (ho : okS lo hi) : RetSE w lo hi 0 e w' := by
  obtain ⟨⟨_, _, rfl⟩ | ⟨hn, _⟩, hb⟩ := h
  · exact ⟨rfl, hb⟩
  · unfold okS at ho; omega
theorem sp_bad {w : World} {lo hi : Int} {e : Ending} {w' : World} (h : RetSp w lo hi e w') (hl : lo ≤ hi) (ho : ¬ okS lo hi) : RetSE w 0 0 3 e w' := by
  obtain ⟨⟨h1, h2, _⟩ | ⟨_, rfl⟩, hb⟩ := h
  · unfold okS at ho; omega
  · exact ⟨rfl, hb⟩
/-- The program's operation and the document's return the same. -/
def Alike (f : FuncId) (op al ah bl bh : Int) : Prop := ∃ lo hi c, (∀ w, Calls Tryz.prog f #[.agg #[.int .i64 al, .int .i64 ah], .agg #[.int .i64 bl, .int .i64 bh]] w (RetSE w lo hi c)) ∧
  (∀ w, Calls Tryz.prog 5 #[.int .i64 op, .agg #[.int .i64 al, .int .i64 ah], .agg #[.int .i64 bl, .int .i64 bh]] w (RetSE w lo hi c))
theorem alike_plus (al ah bl bh : Int) : Alike 4 0 al ah bl bh := by
  by_cases h : okS al ah ∧ okS bl bh
  · obtain ⟨ha, hb⟩ := h
    have he := ends4 (al + bl) (al + bh) (ah + bl) (ah + bh)
    have e1 : min (min (min (al + bl) (al + bh)) (ah + bl)) (ah + bh) = al + bl := by unfold okS at *; omega
    have e2 : max (max (max (al + bl) (al + bh)) (ah + bl)) (ah + bh) = ah + bh := by unfold okS at *; omega
    rw [e1, e2] at he
    have hd := fun w => doperate_ok 0 al ah bl bh (al + bl) (ah + bh) (.inl rfl) ha hb he w
    by_cases ho : okS (al + bl) (ah + bh)
    · exact ⟨_, _, _, fun w => plus_ok al ah bl bh ha hb ho w, fun w => (hd w).mono fun e w' h => sp_ok h ho⟩
    · exact ⟨_, _, _, fun w => plus_bad al ah bl bh ha hb ho w, fun w => (hd w).mono fun e w' h => sp_bad h (by unfold okS at *; omega) ho⟩
  · exact ⟨_, _, _, fun w => plus_arg al ah bl bh h w, fun w => doperate_arg 0 al ah bl bh h w⟩
theorem alike_minus (al ah bl bh : Int) : Alike 6 1 al ah bl bh := by
  by_cases h : okS al ah ∧ okS bl bh
  · obtain ⟨ha, hb⟩ := h
    have he := ends4 (al - bl) (al - bh) (ah - bl) (ah - bh)
    have e1 : min (min (min (al - bl) (al - bh)) (ah - bl)) (ah - bh) = al - bh := by unfold okS at *; omega
    have e2 : max (max (max (al - bl) (al - bh)) (ah - bl)) (ah - bh) = ah - bl := by unfold okS at *; omega
    rw [e1, e2] at he
    have hd := fun w => doperate_ok 1 al ah bl bh (al - bh) (ah - bl) (.inr (.inl rfl)) ha hb he w
    by_cases ho : okS (al - bh) (ah - bl)
    · exact ⟨_, _, _, fun w => minus_ok al ah bl bh ha hb ho w, fun w => (hd w).mono fun e w' h => sp_ok h ho⟩
    · exact ⟨_, _, _, fun w => minus_bad al ah bl bh ha hb ho w, fun w => (hd w).mono fun e w' h => sp_bad h (by unfold okS at *; omega) ho⟩
  · exact ⟨_, _, _, fun w => minus_arg al ah bl bh h w, fun w => doperate_arg 1 al ah bl bh h w⟩
theorem okS_min {a b c d a' b' c' d' : Int} (f1 : (-1152921504606846976 ≤ a' ∧ a' ≤ 1152921504606846976) → a' = a) (f2 : (-1152921504606846976 ≤ b' ∧ b' ≤ 1152921504606846976) → b' = b) (f3 : (-1152921504606846976 ≤ c' ∧ c' ≤ 1152921504606846976) → c' = c) (f4 : (-1152921504606846976 ≤ d' ∧ d' ≤ 1152921504606846976) → d' = d)
    (g1 : -1152921504606846976 ≤ a → a ≤ 1152921504606846976 → a' = a) (g2 : -1152921504606846976 ≤ b → b ≤ 1152921504606846976 → b' = b) (g3 : -1152921504606846976 ≤ c → c ≤ 1152921504606846976 → c' = c) (g4 : -1152921504606846976 ≤ d → d ≤ 1152921504606846976 → d' = d) :
    (okS (min (min (min a' b') c') d') (max (max (max a' b') c') d') → min (min (min a' b') c') d' = min (min (min a b) c) d ∧ max (max (max a' b') c') d' = max (max (max a b) c) d) ∧
    (okS (min (min (min a b) c) d) (max (max (max a b) c) d) → okS (min (min (min a' b') c') d') (max (max (max a' b') c') d')) := by
  constructor
  · intro h
    unfold okS at h
    have e1 := f1 (by omega)
    have e2 := f2 (by omega)
    have e3 := f3 (by omega)
    have e4 := f4 (by omega)
    rw [e1, e2, e3, e4]
    exact ⟨rfl, rfl⟩
  · intro h
    have h' := h
    unfold okS at h'
    rw [g1 (by omega) (by omega), g2 (by omega) (by omega), g3 (by omega) (by omega), g4 (by omega) (by omega)]
    exact h
theorem alike_times (al ah bl bh : Int) : Alike 7 2 al ah bl bh := by
  by_cases h : okS al ah ∧ okS bl bh
  · obtain ⟨ha, hb⟩ := h
    have he := ends4 (al * bl) (al * bh) (ah * bl) (ah * bh)
    obtain ⟨s1, s2⟩ := okS_min (clampP_of_in al bl) (clampP_of_in al bh) (clampP_of_in ah bl) (clampP_of_in ah bh) (clampP_in' al bl) (clampP_in' al bh) (clampP_in' ah bl) (clampP_in' ah bh)
    have hd := fun w => doperate_ok 2 al ah bl bh _ _ (.inr (.inr rfl)) ha hb he w
    by_cases ho : okS (loP al ah bl bh) (hiP al ah bl bh)
    · obtain ⟨e1, e2⟩ := s1 ho
      have e1' : loP al ah bl bh = min (min (min (al * bl) (al * bh)) (ah * bl)) (ah * bh) := e1
      have e2' : hiP al ah bl bh = max (max (max (al * bl) (al * bh)) (ah * bl)) (ah * bh) := e2
      have ht := fun w => times_ok al ah bl bh ha hb ho w
      rw [e1', e2'] at ht ho
      exact ⟨_, _, _, ht, fun w => (hd w).mono fun e w' h => sp_ok h ho⟩
    · have hn : ¬ okS (min (min (min (al * bl) (al * bh)) (ah * bl)) (ah * bh)) (max (max (max (al * bl) (al * bh)) (ah * bl)) (ah * bh)) := fun h => ho (s2 h)
      exact ⟨_, _, _, fun w => times_bad al ah bl bh ha hb ho w, fun w => (hd w).mono fun e w' h => sp_bad h (by omega) hn⟩
  · exact ⟨_, _, _, fun w => times_arg al ah bl bh h w, fun w => doperate_arg 2 al ah bl bh h w⟩
theorem alike_hull (al ah bl bh : Int) : ∃ lo hi c, (∀ w, Calls Tryz.prog 10 #[.agg #[.int .i64 al, .int .i64 ah], .agg #[.int .i64 bl, .int .i64 bh]] w (RetSE w lo hi c)) ∧ (∀ w, Calls Tryz.prog 11 #[.agg #[.int .i64 al, .int .i64 ah], .agg #[.int .i64 bl, .int .i64 bh]] w (RetSE w lo hi c)) := by
  by_cases h : okS al ah ∧ okS bl bh
  · obtain ⟨ha, hb⟩ := h
    have h1 : (al ≤ bl ∧ min al bl = al) ∨ (bl < al ∧ min al bl = bl) := by omega
    have h2 : (bh ≤ ah ∧ max ah bh = ah) ∨ (ah < bh ∧ max ah bh = bh) := by omega
    exact ⟨_, _, _, fun w => hull_ok al ah bl bh _ _ ha hb h1 h2 w, fun w => dhull_ok al ah bl bh _ _ ha hb h1 h2 w⟩
  · exact ⟨_, _, _, fun w => hull_arg al ah bl bh h w, fun w => dhull_arg al ah bl bh h w⟩
theorem alike_meet (al ah bl bh : Int) : ∃ lo hi b c, (∀ w, Calls Tryz.prog 12 #[.agg #[.int .i64 al, .int .i64 ah], .agg #[.int .i64 bl, .int .i64 bh]] w (RetSBE w lo hi b c)) ∧ (∀ w, Calls Tryz.prog 13 #[.agg #[.int .i64 al, .int .i64 ah], .agg #[.int .i64 bl, .int .i64 bh]] w (RetSBE w lo hi b c)) := by
  by_cases h : okS al ah ∧ okS bl bh
  · obtain ⟨ha, hb⟩ := h
    by_cases h3 : max al bl ≤ min ah bh
    · have h1 : (bl ≤ al ∧ max al bl = al) ∨ (al < bl ∧ max al bl = bl) := by omega
      have h2 : (ah ≤ bh ∧ min ah bh = ah) ∨ (bh < ah ∧ min ah bh = bh) := by omega
      exact ⟨_, _, _, _, fun w => meet_yes al ah bl bh _ _ ha hb h1 h2 h3 w, fun w => dmeet_yes al ah bl bh _ _ ha hb h1 h2 h3 w⟩
    · have h4 : ah < bl ∨ bh < al := by unfold okS at *; omega
      exact ⟨_, _, _, _, fun w => meet_no al ah bl bh ha hb h4 w, fun w => dmeet_no al ah bl bh ha hb h4 w⟩
  · exact ⟨_, _, _, _, fun w => meet_arg al ah bl bh h w, fun w => dmeet_arg al ah bl bh h w⟩
theorem alike_gap (al ah bl bh : Int) : ∃ d c, (∀ w, Calls Tryz.prog 14 #[.agg #[.int .i64 al, .int .i64 ah], .agg #[.int .i64 bl, .int .i64 bh]] w (RetIE w d c)) ∧ (∀ w, Calls Tryz.prog 15 #[.agg #[.int .i64 al, .int .i64 ah], .agg #[.int .i64 bl, .int .i64 bh]] w (RetIE w d c)) := by
  by_cases h : okS al ah ∧ okS bl bh
  · obtain ⟨ha, hb⟩ := h
    have hh : ∃ d, (al ≤ bh ∧ bl ≤ ah ∧ d = 0) ∨ (ah < bl ∧ d = bl - ah) ∨ (bh < al ∧ d = al - bh) := by
      by_cases h1 : ah < bl
      · exact ⟨_, .inr (.inl ⟨h1, rfl⟩)⟩
      · by_cases h2 : bh < al
        · exact ⟨_, .inr (.inr ⟨h2, rfl⟩)⟩
        · exact ⟨0, .inl ⟨by omega, by omega, rfl⟩⟩
    obtain ⟨d, hd⟩ := hh
    exact ⟨_, _, fun w => gap_ok al ah bl bh d ha hb hd w, fun w => dgap_ok al ah bl bh d ha hb hd w⟩
  · exact ⟨_, _, fun w => gap_arg al ah bl bh h w, fun w => dgap_arg al ah bl bh h w⟩
end Go.Proofs.YtdpmfenikomfkaaGreat
