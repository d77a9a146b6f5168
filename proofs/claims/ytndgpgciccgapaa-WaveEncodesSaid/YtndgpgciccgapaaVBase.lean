/-
  Base: the lower median.
-/
import Derived.Test.YtndgpgciccgapaaVMem
import Derived.Test.YtndgpgciccgapaaVIter
import Derived.Deep.DrawnRows
namespace Go.Proofs.Ytndgpgciccgapaa
open Go.RowKit

def asc (zs : List Int) : List Int := zs.mergeSort fun x y => decide (x ≤ y)
theorem asc_len (zs : List Int) : (asc zs).length = zs.length := by simp [asc]
/-- The lower median. -/
def med (zs : List Int) : Int := ith (asc zs) ((zs.length - 1) / 2)
theorem med_mem {zs : List Int} (h : zs ≠ []) : med zs ∈ zs := by
  have hl : 0 < zs.length := List.length_pos_iff.2 h
  have : med zs ∈ asc zs := ith_mem (by rw [asc_len]; omega)
  exact (List.mergeSort_perm zs _).mem_iff.1 this

def RetBase (w : World) (v c : Int) (e : Ending) (w' : World) : Prop := e = .returned (.tuple #[.int .i64 v, .int .i64 c]) ∧ Below w.heap.size w w'

theorem sorted_iw (Bs : Nat) (sv : Value) (zs : List Int) (hreach : zs.length ≤ 1048576) (hne : zs ≠ []) (w : World) (hBs : Bs < w.heap.size)
    (hcs : w.cell? ⟨Bs, 0, none⟩ = some sv) (hI : Ints w.heap.size w sv zs) :
    Calls Try.prog 108 #[.func (.func 118) #[] #[.pointer (some ⟨Bs, 0, none⟩)]] w fun e W' => ∃ (g cap : Nat), e = .returned (.slice (some ⟨g, 0, none⟩) zs.length cap) ∧ w.heap.size ≤ g ∧ (∀ j, j < zs.length → W'.cell? ⟨g, j, none⟩ = some (.int .i64 (ith (asc zs) j))) ∧ Below w.heap.size w W' := by
  refine (sorted_in Bs sv zs hreach hne w hBs hcs hI).mono ?_
  rintro e W' ⟨g, cap, he, hg, hc, hb⟩
  refine ⟨g, cap, he, hg, fun j hj => ?_, hb⟩
  rw [hc j hj]
  simp [ith, asc]

theorem values_any (a : Option Addr) (len cap : Nat) (w : World) :
    Calls Try.prog 109 #[.slice a len cap] w fun e w' => e = .returned (.func (.func 118) #[] #[.pointer (some ⟨w.heap.size, 0, none⟩)]) ∧ w' = w.alloc (.cells #[.slice a len cap] 43) :=
  (callsIn_wide (n := 1)).1 (values_in Fence.wide 1 trivial rfl a len cap w)

theorem iw_ints {w : World} {B n c : Nat} {A : Option Addr} {zs : List Int} (h : IW w B (.slice A n c) zs) (hn : 0 < n) : Ints B w (.slice A n c) zs := by
  obtain ⟨b, o, rfl, hb, hc⟩ := h.at_ hn
  have hl := h.len
  subst hl
  refine Or.inr ⟨b, o, c, rfl, hb, fun j hj => ?_⟩
  rw [hc j hj]
  simp [ith]

set_option maxRecDepth 100000 in
set_option maxHeartbeats 1000000 in
theorem base_bad (zs : List Int) (A : Option Addr) (n c B : Nat) (w : World) (hx : IW w B (.slice A n c) zs) (hbad : zs = [] ∨ ¬ okZ zs) :
    Calls Try.prog 93 #[.slice A n c] w fun e w' => e = .returned (.tuple #[.int .i64 0, .int .i64 2]) ∧ w' = w := by
  have hl := Lib.hid hx.len
  rcases Nat.eq_zero_or_pos n with hn | hn
  · subst hn
    clear hx
    go_enter Try.func93, Try.ntmps93
    go_wp2_with fail
    go_ret2
    exact ⟨rfl, rfl⟩
  · have hV := validSamples_any zs A n c B w hx
    have hne : zs ≠ [] := fun h => by have := hl.out; rw [h] at this; simp at this; omega
    have hno : decide (okZ zs) = false := decide_eq_false (hbad.resolve_left hne)
    rw [hno] at hV
    unfold RetSame at hV
    clear hx
    go_enter Try.func93, Try.ntmps93
    go_wp2_with (go_at_call 76; refine hV.mono ?_; rintro e w' ⟨rfl, rfl⟩)
    go_ret2
    exact ⟨rfl, rfl⟩

set_option maxRecDepth 100000 in
set_option maxHeartbeats 1000000 in
theorem base_ok (zs : List Int) (A : Option Addr) (n c : Nat) (w : World) (hx : IW w w.heap.size (.slice A n c) zs) (hne : zs ≠ []) (hok : okZ zs) :
    Calls Try.prog 93 #[.slice A n c] w (RetBase w (med zs) 0) := by
  have hl := Lib.hid hx.len
  have hn : 0 < n := by have := hl.out; have := List.length_pos_iff.2 hne; omega
  have hV := validSamples_any zs A n c _ w hx
  rw [decide_eq_true hok] at hV
  unfold RetSame at hV
  have hb0 : Below w.heap.size w (w.alloc (.cells #[.slice A n c] 43)) := (Below.refl _ w).alloc (Nat.le_refl _) _
  have hS := sorted_iw w.heap.size (.slice A n c) zs (by have := hok.1; omega) hne (w.alloc (.cells #[.slice A n c] 43)) (by simp) (by simp) ((iw_ints hx hn).below hb0 |> fun h => by
    rcases h with h | ⟨b, off, cap, e, hb, hc⟩
    · exact Or.inl h
    · exact Or.inr ⟨b, off, cap, e, by simp; omega, hc⟩)
  have hVal := values_any A n c w
  rw [← hl.out] at hS
  obtain ⟨m, hm⟩ : ∃ m, med zs = m := ⟨_, rfl⟩
  have hq : (n - 1) / 2 < n := by omega
  have h256 : n ≤ 256 := by have := hok.1; have := hl.out; omega
  have HM := Lib.hid hm
  rw [hm]
  clear hm hx hok hne
  go_enter Try.func93, Try.ntmps93
  go_wp2_with (first
    | (go_at_call 76; refine hV.mono ?_; rintro e w' ⟨rfl, rfl⟩)
    | (go_at_call 109; refine hVal.mono ?_; rintro e w' ⟨rfl, rfl⟩)
    | (go_at_call 108; refine hS.mono ?_; rintro e w2 ⟨g, cap, rfl, hg, hc, hb2⟩))
  go_ret2
  refine ⟨?_, hb0.trans (hb2.mono (by simp))⟩
  have e : ith (asc zs) ((n - 1) / 2) = m := by rw [← HM.out, hl.out]; rfl
  rw [← e]
  rfl
end Go.Proofs.Ytndgpgciccgapaa
