/-
  Hull, Meet and Gap of the document, for valid spans.
-/
import Derived.Test.YtdpmfenikomfkaaGreatE24
import Derived.WalkLawsBesides
namespace Go.Proofs.YtdpmfenikomfkaaGreat
open Go.RowKit

set_option maxRecDepth 100000 in
set_option maxHeartbeats 2000000 in
theorem dhull_ok (al ah bl bh lo hi : Int) (ha : okS al ah) (hb : okS bl bh) (h1 : (al ≤ bl ∧ lo = al) ∨ (bl < al ∧ lo = bl)) (h2 : (bh ≤ ah ∧ hi = ah) ∨ (ah < bh ∧ hi = bh)) (w : World) :
    Calls Tryz.prog 11 #[.agg #[.int .i64 al, .int .i64 ah], .agg #[.int .i64 bl, .int .i64 bh]] w (RetSE w lo hi 0) := by
  obtain ⟨a1, a2, a3⟩ := ha
  obtain ⟨b1, b2, b3⟩ := hb
  rcases h1 with ⟨h1, rfl⟩ | ⟨h1, rfl⟩ <;> rcases h2 with ⟨h2, rfl⟩ | ⟨h2, rfl⟩
  all_goals
    go_enter Tryz.func11, Tryz.ntmps11
    go_wp2
    all_goals
      refine bodyPost_ret (v := .tuple #[.agg #[.int .i64 _, .int .i64 _], .int .i64 0]) (by simp [results, Tryz.results11, go_sem] <;> first | rfl | exact ⟨rfl, rfl⟩) rfl ⟨?_, ?_⟩
      · first
        | rfl
        | (congr 4 <;> omega)
        | (congr 5 <;> omega)
      · repeat (refine Below.alloc ?_ (by simp <;> omega) _)
        exact Below.refl _ _

set_option maxRecDepth 100000 in
set_option maxHeartbeats 2000000 in
theorem dmeet_yes (al ah bl bh lo hi : Int) (ha : okS al ah) (hb : okS bl bh) (h1 : (bl ≤ al ∧ lo = al) ∨ (al < bl ∧ lo = bl)) (h2 : (ah ≤ bh ∧ hi = ah) ∨ (bh < ah ∧ hi = bh)) (h3 : lo ≤ hi) (w : World) :
    Calls Tryz.prog 13 #[.agg #[.int .i64 al, .int .i64 ah], .agg #[.int .i64 bl, .int .i64 bh]] w (RetSBE w lo hi true 0) := by
  obtain ⟨a1, a2, a3⟩ := ha
  obtain ⟨b1, b2, b3⟩ := hb
  rcases h1 with ⟨h1, rfl⟩ | ⟨h1, rfl⟩ <;> rcases h2 with ⟨h2, rfl⟩ | ⟨h2, rfl⟩
  all_goals
    go_enter Tryz.func13, Tryz.ntmps13
    go_wp2
    all_goals
      refine bodyPost_ret (v := .tuple #[.agg #[.int .i64 _, .int .i64 _], .bool true, .int .i64 0]) (by simp [results, Tryz.results13, go_sem] <;> first | rfl | exact ⟨rfl, rfl⟩) rfl ⟨?_, ?_⟩
      · first
        | rfl
        | (congr 4 <;> omega)
        | (congr 5 <;> omega)
      · repeat (refine Below.alloc ?_ (by simp <;> omega) _)
        exact Below.refl _ _

set_option maxRecDepth 100000 in
set_option maxHeartbeats 2000000 in
theorem dmeet_no (al ah bl bh : Int) (ha : okS al ah) (hb : okS bl bh) (h3 : ah < bl ∨ bh < al) (w : World) :
    Calls Tryz.prog 13 #[.agg #[.int .i64 al, .int .i64 ah], .agg #[.int .i64 bl, .int .i64 bh]] w (RetSBE w 0 0 false 0) := by
  obtain ⟨a1, a2, a3⟩ := ha
  obtain ⟨b1, b2, b3⟩ := hb
  rcases h3 with h3 | h3
  all_goals
    go_enter Tryz.func13, Tryz.ntmps13
    go_wp2
    all_goals
      refine bodyPost_ret (v := .tuple #[.agg #[.int .i64 _, .int .i64 _], .bool false, .int .i64 0]) (by simp [results, Tryz.results13, go_sem] <;> first | rfl | exact ⟨rfl, rfl⟩) rfl ⟨?_, ?_⟩
      · first
        | rfl
        | (congr 4 <;> omega)
        | (congr 5 <;> omega)
      · repeat (refine Below.alloc ?_ (by simp <;> omega) _)
        exact Below.refl _ _

set_option maxRecDepth 100000 in
set_option maxHeartbeats 2000000 in
theorem dgap_ok (al ah bl bh d : Int) (ha : okS al ah) (hb : okS bl bh) (h : (al ≤ bh ∧ bl ≤ ah ∧ d = 0) ∨ (ah < bl ∧ d = bl - ah) ∨ (bh < al ∧ d = al - bh)) (w : World) :
    Calls Tryz.prog 15 #[.agg #[.int .i64 al, .int .i64 ah], .agg #[.int .i64 bl, .int .i64 bh]] w (RetIE w d 0) := by
  obtain ⟨a1, a2, a3⟩ := ha
  obtain ⟨b1, b2, b3⟩ := hb
  rcases h with ⟨h1, h2, rfl⟩ | ⟨h1, rfl⟩ | ⟨h1, rfl⟩
  all_goals
    go_enter Tryz.func15, Tryz.ntmps15
    go_wp2
    all_goals
      go_ret2
      refine ⟨?_, ?_⟩
      · first
        | rfl
        | (congr 3 <;> omega)
        | (congr 4 <;> omega)
      · repeat (refine Below.alloc ?_ (by simp <;> omega) _)
        exact Below.refl _ _
end Go.Proofs.YtdpmfenikomfkaaGreat
