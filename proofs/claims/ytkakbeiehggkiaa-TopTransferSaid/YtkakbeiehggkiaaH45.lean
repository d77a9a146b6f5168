/-
  The check at the end of the law: two records go over a channel without faults.
-/
import Derived.Test.YtkakbeiehggkiaaH43
import Derived.Test.YtkakbeiehggkiaaH38
import Derived.Test.YtkakbeiehggkiaaH07
namespace Go.Proofs.Ytkakbeiehggkiaa
open Go.RowKit Go.Maps
attribute [local go_sem ↓] Go.wp_at_zero Go.wp_at_succ

theorem rounds_two {n : Nat} (h : IsN 1 [[1], [2]] [] n) : n = 2 ∧ (trN 1 [[1], [2]] [] 2).2.2.2 = [(0, [1], false), (1, [2], false)] := by
  have hT : 1 ≤ 1 ∧ 1 ≤ 64 := ⟨Nat.le_refl _, by omega⟩
  have hB : ∀ X ∈ ([[1], [2]] : List (List Nat)), X.length ≤ 1024 ∧ AllB X := by
    intro X hX
    simp at hX
    rcases hX with rfl | rfl <;> exact ⟨by simp, fun x hx => by simp at hx; omega⟩
  have hq : ∀ j, Quiet [] j := fun j => .inl rfl
  have hl : ([[1], [2]] : List (List Nat)).length ≤ 4294967295 := by simp
  have hI : ∀ j, InvT 1 [[1], [2]] [] j := by
    intro j
    induction j with
    | zero => exact invT_zero _ _ _
    | succ j ih => exact (invT_succ hT hB hl ih (quiet_honest hB hl ih (hq j))).1
  have hH : ∀ j, Honest 1 [[1], [2]] [] j := fun j => quiet_honest hB hl (hI j) (hq j)
  have hs : ∀ j, (trN 1 [[1], [2]] [] (j + 1)).1 = min 2 ((trN 1 [[1], [2]] [] j).1 + 1) := fun j => (invT_succ hT hB hl (hI j) (hH j)).2.2 (hq j)
  have a0 : (trN 1 [[1], [2]] [] 0).1 = 0 := rfl
  have a1 : (trN 1 [[1], [2]] [] 1).1 = 1 := by rw [hs 0, a0]; rfl
  have a2 : (trN 1 [[1], [2]] [] 2).1 = 2 := by rw [hs 1, a1]; rfl
  have e0 := (hI 0).1
  have e1 := (hI 1).1
  have e2 := (hI 2).1
  have hL : ((([[1], [2]] : List (List Nat)).length : Nat) : Int) = 2 := rfl
  obtain ⟨h1, h2, h3⟩ := h
  have hn : n = 2 := by
    rcases Nat.lt_trichotomy n 2 with e | e | e
    · have : n = 0 ∨ n = 1 := by omega
      rcases this with rfl | rfl
      · exact absurd (by rw [hL]; omega) (h3.resolve_left (by omega))
      · exact absurd (by rw [hL]; omega) (h3.resolve_left (by omega))
    · exact e
    · have h4 := h2 2 e
      rw [hL] at h4
      omega
  refine ⟨hn, ?_⟩
  obtain ⟨k0, _, _, h4⟩ := (hI 2).2
  obtain ⟨d1, d2⟩ := h4.del
  have hlen : (trN 1 [[1], [2]] [] 2).2.2.2.length = 2 := by omega
  apply List.ext_getElem (by rw [hlen]; rfl)
  intro i i1 i2
  rw [d2 i i1]
  have : i = 0 ∨ i = 1 := by omega
  rcases this with rfl | rfl <;> rfl

def linkX (i : Nat) : List Nat := if i = 0 then [1] else [2]
def linkV (s i : Nat) : Value := if i = 0 then .slice (some ⟨s, 0, none⟩) 1 1 else .slice (some ⟨s + 1, 0, none⟩) 1 1
theorem byF_links (w : World) : ByF (((w.alloc (.cells #[.int .u8 1] 5)).alloc (.cells #[.int .u8 2] 5)).alloc (.cells #[.slice (some ⟨w.heap.size, 0, none⟩) 1 1, .slice (some ⟨w.heap.size + 1, 0, none⟩) 1 1] 33)) (some ⟨w.heap.size + 1 + 1, 0, none⟩) 2 linkX (linkV w.heap.size) := by
  obtain ⟨W1, hW1⟩ : ∃ W1, W1 = w.alloc (.cells #[.int .u8 1] 5) := ⟨_, rfl⟩
  have z1 : W1.heap.size = w.heap.size + 1 := by rw [hW1]; simp
  have r1 : Row .u8 W1 w.heap.size 5 [1] := by rw [hW1]; exact Row.one .u8 w _ 1
  obtain ⟨W2, hW2⟩ : ∃ W2, W2 = W1.alloc (.cells #[.int .u8 2] 5) := ⟨_, rfl⟩
  have z2 : W2.heap.size = w.heap.size + 1 + 1 := by rw [hW2]; simp [z1]
  have r2 : Row .u8 W2 (w.heap.size + 1) 5 [2] := by rw [hW2, ← z1]; exact Row.one .u8 W1 _ 2
  have r1' : Row .u8 W2 w.heap.size 5 [1] := by rw [hW2]; exact r1.alloc _
  rw [← hW1, ← hW2]
  obtain ⟨W3, hW3⟩ : ∃ W3, W3 = W2.alloc (.cells #[.slice (some ⟨w.heap.size, 0, none⟩) 1 1, .slice (some ⟨w.heap.size + 1, 0, none⟩) 1 1] 33) := ⟨_, rfl⟩
  have z3 : W3.heap.size = w.heap.size + 1 + 1 + 1 := by rw [hW3]; simp [z2]
  have h3 := heap_alloc_new W2 (.cells #[.slice (some ⟨w.heap.size, 0, none⟩) 1 1, .slice (some ⟨w.heap.size + 1, 0, none⟩) 1 1] 33)
  rw [← hW3, z2] at h3
  have s1 : Row .u8 W3 w.heap.size 5 [1] := by rw [hW3]; exact r1'.alloc _
  have s2 : Row .u8 W3 (w.heap.size + 1) 5 [2] := by rw [hW3]; exact r2.alloc _
  rw [← hW3]
  intro i hi
  have hi2 : i = 0 ∨ i = 1 := by omega
  rcases hi2 with rfl | rfl
  · refine ⟨w.heap.size + 1 + 1, 0, some ⟨w.heap.size, 0, none⟩, 1, rfl, by omega, ?_, rfl, ?_, ?_, nz_some⟩
    · rw [cell_of_row _ _ _ _ _ _ h3]; rfl
    · intro x hx
      simp [linkX] at hx
      omega
    · exact RW.of_row0 (post := []) s1 rfl (Nat.le_refl _) (by decide) (by omega)
  · refine ⟨w.heap.size + 1 + 1, 0, some ⟨w.heap.size + 1, 0, none⟩, 1, rfl, by omega, ?_, rfl, ?_, ?_, nz_some⟩
    · rw [cell_of_row _ _ _ _ _ _ h3]; rfl
    · intro x hx
      simp [linkX] at hx
      omega
    · exact RW.of_row0 (post := []) s2 rfl (Nat.le_refl _) (by decide) (by omega)

set_option maxRecDepth 100000 in
set_option maxHeartbeats 1000000 in
theorem links_any (w : World) : Calls Try.prog 49 #[] w (RetB w true) := by
  have hb := byF_links w
  obtain ⟨W, hW⟩ : ∃ W, W = (((w.alloc (.cells #[.int .u8 1] 5)).alloc (.cells #[.int .u8 2] 5)).alloc (.cells #[.slice (some ⟨w.heap.size, 0, none⟩) 1 1, .slice (some ⟨w.heap.size + 1, 0, none⟩) 1 1] 33)) := ⟨_, rfl⟩
  rw [← hW] at hb
  have HW := Lib.hid hW
  have HB := Lib.hid (show Below w.heap.size w W by
    rw [hW]
    exact (((Below.refl _ _).alloc (Nat.le_refl _) _).alloc (by simp) _).alloc (by simp; omega) _)
  have HT := Lib.hid (transfer_ok 1 2 2 0 0 (some ⟨w.heap.size + 1 + 1, 0, none⟩) none linkX (linkV w.heap.size) [] W hb (fun i _ => by unfold linkX; split <;> simp) (by omega) (Nat.le_refl _) ⟨by omega, by omega⟩ ⟨rfl, fun i h => absurd h (by simp)⟩ (by omega) (fun i h => absurd h (by simp)))
  clear hW hb
  go_enter Try.func49, Try.ntmps49
  go_wp2_with fail
  rw [← HW.out]
  refine HT.out.mono ?_
  rintro e w1 ⟨dv, n, rfl, hN, hD, b1, hl⟩
  have hN2 : IsN 1 [[1], [2]] [] n := hN
  obtain ⟨rfl, hE⟩ := rounds_two hN2
  have hD2 : DlS w1 W.heap.size dv (trN 1 [[1], [2]] [] 2).2.2.2 := hD
  rw [hE] at hD2
  obtain ⟨A, c, rfl, hc, hel⟩ := dls_cells hD2
  obtain ⟨g, A', n', c', rfl, hg, p0, p1, p2, hr⟩ := hel 1 (by simp)
  obtain ⟨A2, c2, e2⟩ := hr.form
  injection e2 with e3 e4 e5
  have e4' : n' = 1 := e4
  subst e4'
  obtain ⟨b, o, e6, hb2, hcell⟩ := hr.1.at_ (by omega)
  subst e6
  have q0 : w1.cell? ⟨b, o, none⟩ = some (.int .u8 2) := hcell 0 (by omega)
  have u0 : w1.cell? ⟨g, 3, none⟩ = some (.int .i64 1) := p0
  have u1 : w1.cell? ⟨g, 3 + 1, none⟩ = some (.slice (some ⟨b, o, none⟩) 1 c') := p1
  have hc' : (2 : Nat) ≤ c := hc
  have HE := Lib.hid (HB.out.trans (b1.mono HB.out.size))
  clear hN hN2 hD hD2 b1 hl hel hr hcell e3 e4 e5 hE p0 p1 p2 hc
  go_wp2
  go_ret
  exact ⟨rfl, HE.out⟩
end Go.Proofs.Ytkakbeiehggkiaa
