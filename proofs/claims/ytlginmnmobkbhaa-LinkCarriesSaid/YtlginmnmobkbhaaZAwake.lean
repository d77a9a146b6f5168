/-
  The check at the end of every statement of package link.
-/
import Derived.Test.YtlginmnmobkbhaaZNumber
namespace Go.Proofs.Ytlginmnmobkbhaa
open Go.RowKit

theorem enc300 : enc7 300 = [172, 2] := by
  rw [enc7_big (by omega), enc7_small (by omega)]

set_option maxRecDepth 100000 in
theorem awake_any (w : World) : Calls Try.prog 10 #[] w (RetB w true) := by
  have HN := Lib.hid (number_ok [] 300 (by omega) none 0 0 0 (by omega) w RW.nil_ (Nat.zero_le _))
  go_enter Try.func10, Try.ntmps10
  go_wp2_with fail
  refine HN.out.mono ?_
  rintro e w1 ⟨v, rfl, hown, hb1⟩
  rw [List.nil_append, enc300] at hown
  obtain ⟨_, hrw⟩ := rw_of_owns hown
  obtain ⟨A, c, rfl⟩ := hrw.form
  obtain ⟨b, o, rfl, _, hc⟩ := hrw.at_ (by decide)
  have c0 : w1.cell? ⟨b, o, none⟩ = some (.int .u8 172) := hc 0 (by decide)
  have c1 : w1.cell? ⟨b, o + 1, none⟩ = some (.int .u8 2) := hc 1 (by decide)
  have hl : (2 : Nat) ≤ c := hrw.cap.1
  clear hc hrw hown
  go_wp2
  go_ret
  exact ⟨rfl, hb1⟩
end Go.Proofs.Ytlginmnmobkbhaa
