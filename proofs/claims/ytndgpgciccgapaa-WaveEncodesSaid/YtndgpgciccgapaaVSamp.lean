/-
  The document's Samples.
-/
import Derived.Test.YtndgpgciccgapaaVMem
namespace Go.Proofs.Ytndgpgciccgapaa
open Go.RowKit

set_option maxRecDepth 100000 in
set_option maxHeartbeats 1000000 in
theorem refSamples_any (zs : List Int) (A : Option Addr) (n c B : Nat) (w : World) (hx : IW w B (.slice A n c) zs) :
    Calls Try.prog 77 #[.slice A n c] w (RetSame w (decide (okZ zs))) := by
  have hl := Lib.hid hx.len
  have hcap := hx.cap
  unfold maxLen at hcap
  have HX := Lib.hid hx
  clear hx
  by_cases h256 : 256 < n
  · go_enter Try.func77, Try.ntmps77
    go_wp2
    go_ret
    have := hl.out
    have h2 : ¬ okZ zs := fun h => by have := h.1; omega
    exact ⟨by rw [decide_eq_false h2]; rfl, rfl⟩
  · go_enter Try.func77, Try.ntmps77
    go_wp2
    go_loopw [3] (fun iv wr => ∃ k : Nat, k ≤ n ∧ iv = .int .i64 (k : Int) ∧ Hid (∀ j, j < k → 0 ≤ ith zs j ∧ ith zs j ≤ 1023) ∧ wr = w) (fun iv _ => n - (intOf iv).toNat)
    case atStart => exact ⟨0, Nat.zero_le _, rfl, Lib.hid (fun j hj => absurd hj (by omega)), rfl⟩
    case round =>
      obtain ⟨k, hk, rfl, hall, rfl⟩ := hrel
      by_cases hlt : k < n
      · obtain ⟨b, o, rfl, hb, hc⟩ := HX.out.at_ (by omega)
        have hck := hc k hlt
        obtain ⟨x, hx⟩ : ∃ x, ith zs k = x := ⟨_, rfl⟩
        rw [hx] at hck
        have HK := Lib.hid hx
        clear hx hc
        by_cases h0 : x < 0
        · go_wp2
          go_ret
          refine ⟨?_, rfl⟩
          have : ¬ okZ zs := fun h => by have := h.ith (j := k) (by have := hl.out; omega); rw [HK.out] at this; omega
          rw [decide_eq_false this]; rfl
        · by_cases h1 : 1023 < x
          · go_wp2
            go_ret
            refine ⟨?_, rfl⟩
            have : ¬ okZ zs := fun h => by have := h.ith (j := k) (by have := hl.out; omega); rw [HK.out] at this; omega
            rw [decide_eq_false this]; rfl
          · go_wp2
            go_roundw
            case rel =>
              refine ⟨k + 1, by omega, by simp, Lib.hid (fun j hj => ?_), by first | rfl | trivial⟩
              by_cases e : j = k
              · subst e; rw [HK.out]; omega
              · exact hall.out j (by omega)
            case measure => simp [intOf]; omega
      · obtain rfl : k = n := by omega
        go_wp2
        go_ret
        refine ⟨?_, rfl⟩
        have : okZ zs := by
          refine ⟨by have := hl.out; omega, fun x hx => ?_⟩
          obtain ⟨j, hj, rfl⟩ := List.getElem_of_mem hx
          rw [← ith_lt hj]
          exact hall.out j (by have := hl.out; omega)
        rw [decide_eq_true this]; rfl

end Go.Proofs.Ytndgpgciccgapaa
