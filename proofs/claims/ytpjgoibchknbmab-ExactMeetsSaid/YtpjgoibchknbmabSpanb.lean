/-
  Gap of valid spans.
-/
import Derived.Test.YtpjgoibchknbmabSpan
import Derived.WalkLawsBesides
namespace Go.Proofs.Ytpjgoibchknbmab
open Go.RowKit

set_option maxRecDepth 100000 in
set_option maxHeartbeats 2000000 in
theorem gap_ok (al ah bl bh d : Int) (ha : okS al ah) (hb : okS bl bh) (h : (al ≤ bh ∧ bl ≤ ah ∧ d = 0) ∨ (ah < bl ∧ d = bl - ah) ∨ (bh < al ∧ d = al - bh)) (w : World) :
    Calls Try.prog 10 #[.agg #[.int .i64 al, .int .i64 ah], .agg #[.int .i64 bl, .int .i64 bh]] w (RetIE w d 0) := by
  obtain ⟨a1, a2, a3⟩ := ha
  obtain ⟨b1, b2, b3⟩ := hb
  rcases h with ⟨h1, h2, rfl⟩ | ⟨h1, rfl⟩ | ⟨h1, rfl⟩
  all_goals
    go_enter Try.func10, Try.ntmps10
    go_wp2
    all_goals
      go_ret2
      refine ⟨?_, ?_⟩
      · first
        | rfl
        | (congr 3 <;> omega)
        | (congr 4 <;> omega)
      · repeat (refine Below.alloc ?_ (by simp <;> omega) _)
        exact Below.refl _ _
end Go.Proofs.Ytpjgoibchknbmab
