/-
  anyLarge, where no number is large.
-/
import Derived.Test.YtogklhbodaghdaaFrac
namespace Go.Proofs.Ytogklhbodaghdaa
open Go.RowKit

/-- l numbers lie at the head of block g, none of them large. -/
def AllSmall (w : World) (g B l : Nat) : Prop :=
  ∀ k, k < l → ∃ neg A1 n1 c1 A2 n2 c2 xs ys, w.cell? ⟨g, k * 3, none⟩ = some (.bool neg) ∧ w.cell? ⟨g, k * 3 + 1, none⟩ = some (.slice A1 n1 c1) ∧ w.cell? ⟨g, k * 3 + 2, none⟩ = some (.slice A2 n2 c2) ∧
    RW .u32 w B (.slice A1 n1 c1) xs ∧ RW .u32 w B (.slice A2 n2 c2) ys ∧ top xs ≤ 256 ∧ top ys ≤ 256

def RetBool (w : World) (b : Bool) (e : Ending) (w' : World) : Prop := e = .returned (.bool b) ∧ Below w.heap.size w w'

def LargeRel (w : World) (l : Nat) (i : Value) (wr : World) : Prop := ∃ k, k ≤ l ∧ i = .int .i64 (k : Nat) ∧ Below w.heap.size w wr

set_option maxRecDepth 100000 in
set_option maxHeartbeats 1000000 in
theorem anyLarge_no (g B l c : Nat) (w : World) (h : AllSmall w g B l) (hg : g < w.heap.size) (hB : B ≤ w.heap.size) (hl : l ≤ 65536) :
    Calls Try.prog 23 #[.slice (some ⟨g, 0, none⟩) l c] w (RetBool w false) := by
  have H := Lib.hid h
  clear h
  go_enter Try.func23, Try.ntmps23
  go_wp2
  go_loopw [7] (fun i wr => LargeRel w l i wr) (fun i _ => l - (intOf i).toNat)
  case atStart => exact ⟨0, Nat.zero_le _, rfl, Below.refl _ _⟩
  case round =>
    obtain ⟨k, hk, rfl, hbr⟩ := hrel
    by_cases hlt : k < l
    · obtain ⟨neg, A1, n1, c1, A2, n2, c2, xs, ys, k0, k1, k2, hx, hy, t1, t2⟩ := H.out k hlt
      have j0 : wr.cell? ⟨g, k * 3, none⟩ = some (.bool neg) := by rw [hbr.cell hg]; exact k0
      have j1 : wr.cell? ⟨g, k * 3 + 1, none⟩ = some (.slice A1 n1 c1) := by rw [hbr.cell hg]; exact k1
      have j2 : wr.cell? ⟨g, k * 3 + 2, none⟩ = some (.slice A2 n2 c2) := by rw [hbr.cell hg]; exact k2
      have hx1 := (hx.belowM hbr hB).alloc (Nat.le_trans hB hbr.size) (.cells #[.bool neg, .slice A1 n1 c1, .slice A2 n2 c2] 38)
      have hy1 := (hy.belowM hbr hB).alloc (Nat.le_trans hB hbr.size) (.cells #[.bool neg, .slice A1 n1 c1, .slice A2 n2 c2] 38)
      clear k0 k1 k2
      obtain ⟨tx, htx⟩ : ∃ tx, tx = top xs := ⟨_, rfl⟩
      obtain ⟨ty, hty⟩ : ∃ ty, ty = top ys := ⟨_, rfl⟩
      rw [← htx] at t1
      rw [← hty] at t2
      have HTX := Lib.hid htx
      have HTY := Lib.hid hty
      clear htx hty
      go_wp2_with fail
      refine (words32_any A1 n1 c1 xs B _ (by exact hx1)).mono ?_
      rintro e w' ⟨rfl, rfl⟩
      rw [← HTX.out]
      go_wp2_with fail
      refine (words32_any A2 n2 c2 ys B _ (by exact hy1)).mono ?_
      rintro e w' ⟨rfl, rfl⟩
      rw [← HTY.out]
      go_wp2
      go_roundw
      case rel => exact ⟨k + 1, by omega, by go_num, hbr.alloc hbr.size _⟩
      case measure => simp [intOf] <;> omega
    · go_wp2
      go_ret
      exact ⟨rfl, hbr⟩
end Go.Proofs.Ytogklhbodaghdaa
