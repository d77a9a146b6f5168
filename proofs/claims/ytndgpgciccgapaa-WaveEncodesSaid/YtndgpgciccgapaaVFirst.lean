/-
  The check at the end of every statement.
-/
import Derived.Test.YtndgpgciccgapaaVEch
import Derived.Test.YtndgpgciccgapaaVTime
namespace Go.Proofs.Ytndgpgciccgapaa
open Go.RowKit

def zs0 : List Int := [1, 1, 9, 20, 9, 1, 1]
theorem zs0_ok : okZ zs0 := by decide
theorem asc0 : asc zs0 = [1, 1, 1, 1, 9, 9, 20] := by
  unfold asc zs0
  simp [List.mergeSort, List.MergeSort.Internal.splitInTwo]
theorem med0 : med zs0 = 1 := by
  unfold med
  rw [asc0]
  rfl
theorem ech0 : echF zs0 ⟨5, 4, 150, 0⟩ = [⟨2, 5, 3, 6, 20⟩] := by
  unfold echF
  simp only [med0]
  decide +kernel
theorem iw0 (w : World) : IW (w.alloc (.cells #[.int .i64 1, .int .i64 1, .int .i64 9, .int .i64 20, .int .i64 9, .int .i64 1, .int .i64 1] 3)) (w.heap.size + 1) (.slice (some ⟨w.heap.size, 0, none⟩) 7 7) zs0 := by
  refine IW.mk rfl (by omega) (by simp [maxLen]) (fun _ => ⟨w.heap.size, 0, rfl, by omega, fun j hj => ?_⟩)
  rw [Nat.zero_add]
  refine built_cellsV w _ _ j _ ?_
  match j, hj with
  | 0, _ => rfl
  | 1, _ => rfl
  | 2, _ => rfl
  | 3, _ => rfl
  | 4, _ => rfl
  | 5, _ => rfl
  | 6, _ => rfl
theorem iw0' (w W : World) (hW : W = w.alloc (.cells #[.int .i64 1, .int .i64 1, .int .i64 9, .int .i64 20, .int .i64 9, .int .i64 1, .int .i64 1] 3)) : IW W W.heap.size (.slice (some ⟨w.heap.size, 0, none⟩) 7 7) zs0 := by
  have h := iw0 w
  rw [← hW] at h
  have e : W.heap.size = w.heap.size + 1 := by rw [hW]; simp
  rw [e]
  exact h
theorem time0 (w W : World) (hW : W = w.alloc (.cells #[.int .i64 1, .int .i64 1, .int .i64 9, .int .i64 20, .int .i64 9, .int .i64 1, .int .i64 1] 3)) :
    Calls Try.prog 68 #[.slice (some ⟨w.heap.size, 0, none⟩) 7 7, .agg #[.int .i64 2, .int .i64 5, .int .i64 3, .int .i64 6, .int .i64 20]] W (RetSE W 384 416 0) := by
  have h := time_raw zs0 zs0_ok 2 5 2 3 6 20 (some ⟨w.heap.size, 0, none⟩) 7 7 W (iw0' w W hW) (by omega) (by omega) (by omega) (by omega) (by omega) (fun j h1 h2 => by omega) (by decide) (by decide)
  have e1 : ith zs0 2 = 9 := rfl
  have e2 : ith zs0 (2 - 1) = 1 := rfl
  rw [e1, e2] at h
  exact h
theorem echoes0 (w W : World) (hW : W = w.alloc (.cells #[.int .i64 1, .int .i64 1, .int .i64 9, .int .i64 20, .int .i64 9, .int .i64 1, .int .i64 1] 3)) :
    Calls Try.prog 67 #[.slice (some ⟨w.heap.size, 0, none⟩) 7 7, .agg #[.int .i64 5, .int .i64 4, .int .i64 150, .int .i64 0]] W (RetEch W [⟨2, 5, 3, 6, 20⟩] 0) := by
  rw [← ech0]
  exact echoes_ok zs0 zs0_ok (by decide) 5 4 150 0 (by decide) _ 7 7 W (iw0' w W hW)

set_option maxRecDepth 100000 in
set_option maxHeartbeats 1000000 in
theorem first_any (w : World) : Calls Try.prog 38 #[] w (RetB w true) := by
  obtain ⟨W, hW⟩ : ∃ W, W = w.alloc (.cells #[.int .i64 1, .int .i64 1, .int .i64 9, .int .i64 20, .int .i64 9, .int .i64 1, .int .i64 1] 3) := ⟨_, rfl⟩
  have hE := echoes0 w W hW
  have hb0 : Below w.heap.size w W := by rw [hW]; exact (Below.refl _ w).alloc (Nat.le_refl _) _
  have HW := Lib.hid (And.intro hW hb0)
  clear hW hb0
  go_enter Try.func38, Try.ntmps38
  go_wp2_with (go_at_call 67; rw [← HW.out.1]; refine hE.mono ?_; rintro e w1 ⟨v, rfl, ⟨A, c, rfl, hc1, hc2, hc3⟩, hb1⟩; obtain ⟨g, o, rfl, hg, hc⟩ := hc3 (by simp); have c0 : w1.cell? ⟨g, o, none⟩ = some (.int .i64 2) := hc 0 (by simp) 0 (by omega); have c1 : w1.cell? ⟨g, o + 1, none⟩ = some (.int .i64 5) := hc 0 (by simp) 1 (by omega); have c2 : w1.cell? ⟨g, o + 2, none⟩ = some (.int .i64 3) := hc 0 (by simp) 2 (by omega); have c3 : w1.cell? ⟨g, o + 3, none⟩ = some (.int .i64 6) := hc 0 (by simp) 3 (by omega); have c4 : w1.cell? ⟨g, o + 4, none⟩ = some (.int .i64 20) := hc 0 (by simp) 4 (by omega); have HB := Lib.hid hb1; clear hb1 hc hc1 hc2 hc3)
  obtain ⟨W1, hW1⟩ : ∃ W1, W1 = w1.alloc (.cells #[.int .i64 1, .int .i64 1, .int .i64 9, .int .i64 20, .int .i64 9, .int .i64 1, .int .i64 1] 3) := ⟨_, rfl⟩
  have hb1 : Below w1.heap.size w1 W1 := by rw [hW1]; exact (Below.refl _ w1).alloc (Nat.le_refl _) _
  have hT := time0 w1 W1 hW1
  rw [← hW1]
  have HB1 := Lib.hid hb1
  clear hW1 hb1
  refine hT.mono ?_
  rintro e w2 ⟨rfl, hb2⟩
  have HB2 := Lib.hid hb2
  clear hb2 hT hE
  go_wp2
  go_ret
  refine ⟨rfl, ?_⟩
  have hw := HW.out.2
  have h1 := hw.trans (HB.out.mono hw.size)
  have h2 := h1.trans (HB1.out.mono h1.size)
  have h3 := h2.trans (HB2.out.mono h2.size)
  repeat (refine Below.alloc ?_ (by have := h3.size; simp <;> omega) _)
  exact h3
end Go.Proofs.Ytndgpgciccgapaa
