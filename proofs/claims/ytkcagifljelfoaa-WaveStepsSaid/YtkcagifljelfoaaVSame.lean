/-
  Two lists of numbers that are the same.
-/
import Derived.Test.YtkcagifljelfoaaVRow
namespace Go.Proofs.Ytkcagifljelfoaa
open Go.RowKit

set_option maxRecDepth 100000 in
set_option maxHeartbeats 1000000 in
theorem sameInts_any (L : List Int) (A1 A2 : Option Addr) (n c1 c2 B : Nat) (w : World) (h1 : IW w B (.slice A1 n c1) L) (h2 : IW w B (.slice A2 n c2) L) :
    Calls Try.prog 14 #[.slice A1 n c1, .slice A2 n c2] w (RetB w true) := by
  have hcap := h1.cap
  unfold maxLen at hcap
  have H := Lib.hid (And.intro h1 h2)
  clear h1 h2
  go_enter Try.func14, Try.ntmps14
  go_wp2
  go_loopw [5] (fun iv wr => ∃ k : Nat, k ≤ n ∧ iv = .int .i64 (k : Int) ∧ Below w.heap.size w wr ∧ Hid (IW wr B (.slice A1 n c1) L ∧ IW wr B (.slice A2 n c2) L)) (fun iv _ => n - (intOf iv).toNat)
  case atStart => exact ⟨0, Nat.zero_le _, rfl, Below.refl _ _, H⟩
  case round =>
    obtain ⟨k, hk, rfl, hb, HR⟩ := hrel
    have HB := Lib.hid hb
    clear hb
    by_cases hlt : k < n
    · obtain ⟨b1, o1, rfl, hb1, hc1⟩ := HR.out.1.at_ (by omega)
      obtain ⟨b2, o2, rfl, hb2, hc2⟩ := HR.out.2.at_ (by omega)
      have d1 := hc1 k hlt
      have d2 := hc2 k hlt
      obtain ⟨x, hx⟩ : ∃ x, ith L k = x := ⟨_, rfl⟩
      rw [hx] at d1 d2
      have ex : (x == x) = true := by simp
      clear hc1 hc2 hx
      go_wp2
      go_region
      go_wp2
      go_roundw
      case rel => exact ⟨k + 1, by omega, by simp, HB.out.drew, Lib.hid ⟨HR.out.1, HR.out.2⟩⟩
      case measure => simp [intOf]; omega
    · obtain rfl : k = n := by omega
      go_wp2
      go_ret
      exact ⟨rfl, HB.out⟩
end Go.Proofs.Ytkcagifljelfoaa
