/-
  IndexFunc with Time's test.
-/
import Derived.Test.YtndgpgciccgapaaVMem
import Derived.Test.YtndgpgciccgapaaVRow
namespace Go.Proofs.Ytndgpgciccgapaa
open Go.RowKit

theorem time1_any (s lv : Int) (b : Bool) (hb : b = decide (lv ≤ s)) (eb : Nat) (w : World) (h3 : w.cell? ⟨eb, 3, none⟩ = some (.int .i64 lv)) :
    Calls Try.prog 98 #[.int .i64 s, .pointer (some ⟨eb, 0, none⟩)] w fun e w' => e = .returned (.bool b) ∧ w' = w := by
  subst hb
  go_enter Try.func98, Try.ntmps98
  go_wp2
  go_ret
  exact ⟨rfl, rfl⟩

def RetI (w : World) (r : Int) (e : Ending) (w' : World) : Prop := e = .returned (.int .i64 r) ∧ w' = w

set_option maxRecDepth 100000 in
set_option maxHeartbeats 1000000 in
theorem index_any (ys : List Int) (lv : Int) (A : Option Addr) (n c B eb : Nat) (w : World) (hx : IW w B (.slice A n c) ys) (h3 : w.cell? ⟨eb, 3, none⟩ = some (.int .i64 lv)) (p : Nat) (hp : p ≤ n) (hlow : ∀ j, j < p → ith ys j < lv) (hfnd : p < n → lv ≤ ith ys p) (r : Int) (hr : r = if p < n then (p : Int) else -1) :
    Calls Try.prog 97 #[.slice A n c, .func (.func 98) #[] #[.pointer (some ⟨eb, 0, none⟩)]] w (RetI w r) := by
  have hl := Lib.hid hx.len
  have hcap := hx.cap
  unfold maxLen at hcap
  have HX := Lib.hid hx
  clear hx
  go_enter Try.func97, Try.ntmps97
  go_wp2
  go_loopw [8] (fun iv wr => ∃ k : Nat, k ≤ p ∧ iv = .int .i64 (k : Int) ∧ wr = w) (fun iv _ => n - (intOf iv).toNat)
  case atStart => exact ⟨0, Nat.zero_le _, rfl, rfl⟩
  case round =>
    obtain ⟨k, hk, rfl, rfl⟩ := hrel
    by_cases hlt : k < n
    · obtain ⟨b, o, rfl, hb, hc⟩ := HX.out.at_ (by omega)
      have hck := hc k hlt
      by_cases hkp : k < p
      · have hT := time1_any (ith ys k) lv false (by have := hlow k hkp; simp; omega) eb wr h3
        clear hc hlow hfnd
        go_wp2_with (go_at_call 98; refine hT.mono ?_; rintro e w' ⟨rfl, rfl⟩)
        go_roundw
        case rel => exact ⟨k + 1, by omega, by simp, by first | rfl | trivial⟩
        case measure => simp [intOf]; omega
      · obtain rfl : k = p := by omega
        have hT := time1_any (ith ys k) lv true (by have := hfnd hlt; simp; omega) eb wr h3
        rw [if_pos hlt] at hr
        subst hr
        clear hc hlow hfnd
        go_wp2_with (go_at_call 98; refine hT.mono ?_; rintro e w' ⟨rfl, rfl⟩)
        go_ret
        exact ⟨rfl, rfl⟩
    · rw [if_neg (by omega)] at hr
      subst hr
      obtain rfl : k = n := by omega
      go_wp2
      go_ret
      exact ⟨rfl, rfl⟩
end Go.Proofs.Ytndgpgciccgapaa
