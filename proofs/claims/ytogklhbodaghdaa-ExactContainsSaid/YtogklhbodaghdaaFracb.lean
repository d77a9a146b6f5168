/-
  The methods of fractions that first uses.
-/
import Derived.Test.YtogklhbodaghdaaFrac
import Derived.Deep.RegionHeld3
namespace Go.Proofs.Ytogklhbodaghdaa
open Go.RowKit

/-- A Rat: its sign and two lists of words of 32 bits. -/
def UR (w : World) (B : Nat) (v : Value) (neg : Bool) (n d : Nat) : Prop :=
  ∃ A1 n1 c1 A2 n2 c2, v = .agg #[.bool neg, .slice A1 n1 c1, .slice A2 n2 c2] ∧ RW .u32 w B (.slice A1 n1 c1) (words32 n) ∧ RW .u32 w B (.slice A2 n2 c2) (words32 (dd d))
def RetUR (w : World) (neg : Bool) (n d : Nat) (e : Ending) (w' : World) : Prop :=
  ∃ v, e = .returned v ∧ UR w' w'.heap.size v neg n d ∧ Below w.heap.size w w'

set_option maxRecDepth 100000 in
set_option maxHeartbeats 400000 in
theorem rat_any (neg : Bool) (n d : Nat) (A1 A2 : Option Addr) (n1 n2 c1 c2 : Nat) (B : Nat) (w : World) (hx : RW .u64 w B (.slice A1 n1 c1) (words n)) (hy : RW .u64 w B (.slice A2 n2 c2) (words (dd d))) (hB : B ≤ w.heap.size) (hn : n1 ≤ 65536) (hm : n2 ≤ 65536) :
    Calls Try.prog 46 #[.agg #[.bool neg, .slice A1 n1 c1, .slice A2 n2 c2]] w (RetUR w neg n d) := by
  obtain ⟨W0, hW0⟩ : ∃ W0, W0 = (w.alloc (.cells #[.bool neg, .slice A1 n1 c1, .slice A2 n2 c2] 55)).alloc (.cells #[.bool false, .slice none 0 0, .slice none 0 0] 38) := ⟨_, rfl⟩
  have HW0 := Lib.hid hW0
  clear hW0
  go_enter Try.func46, Try.ntmps46
  go_wp2
  rw [← HW0.out]
  have hx0 : RW .u64 W0 B (.slice A1 n1 c1) (words n) := by rw [HW0.out]; exact (hx.alloc hB _).alloc (by simp; omega) _
  have hy0 : RW .u64 W0 B (.slice A2 n2 c2) (words (dd d)) := by rw [HW0.out]; exact (hy.alloc hB _).alloc (by simp; omega) _
  have hs0 : w.heap.size + 1 < W0.heap.size := by rw [HW0.out]; simp
  have hB0 : B ≤ W0.heap.size := by omega
  have g0 : W0.heap[w.heap.size]? = some (.cells #[.bool neg, .slice A1 n1 c1, .slice A2 n2 c2] 55 (0, 0)) := by rw [HW0.out]; exact heap_alloc2_old _ _ _
  have g1 : W0.heap[w.heap.size + 1]? = some (.cells #[.bool false, .slice none 0 0, .slice none 0 0] 38 (0, 0)) := by rw [HW0.out]; exact heap_alloc2_new _ _ _
  have G1 := Lib.hid g1
  have G0 := Lib.hid g0
  have hw0 : Below w.heap.size w W0 := by rw [HW0.out]; exact ((Below.refl _ _).alloc (Nat.le_refl _) _).alloc (by simp) _
  obtain ⟨k0, k1, k2, _⟩ := fr_cellsG g0 (Below.refl _ _)
  clear g0 g1
  have tok1 : True := trivial
  go_region_held3 (fun w' => w'.cell? ⟨w.heap.size, 0, none⟩ = some (.bool neg) ∧ w'.cell? ⟨w.heap.size, 1, none⟩ = some (.slice A1 n1 c1) ∧ w'.cell? ⟨w.heap.size, 2, none⟩ = some (.slice A2 n2 c2))
    (first | exact ⟨r0, r1, r2⟩ | exact ⟨q0, q1, q2⟩ | exact ⟨k0, k1, k2⟩ | go_keep)
    (first
      | (go_at_call 55
         have _t := tok1
         refine (unpack_any A1 n1 c1 (words n) (words_ok n) B _ (by exact hx0) (by exact hB0) (by omega)).mono ?_
         rintro e w1 ⟨A3, n3, c3, rfl, h3, hb3'⟩
         have hb3 : Below W0.heap.size W0 w1 := by first | exact hb3' | exact below_un hb3' | exact below_unN hb3'
         clear hb3'
         obtain ⟨q0, q1, q2, _⟩ := fr_cellsG G0.out hb3
         have hy1 : RW .u64 w1 B (.slice A2 n2 c2) (words (dd d)) := hy0.belowM hb3 hB0
         have hB1 : B ≤ w1.heap.size := Nat.le_trans hB0 hb3.size
         clear tok1 _t)
      | (go_at_call 55
         refine (unpack_any A2 n2 c2 (words (dd d)) (words_ok _) B _ (by exact hy1) (by exact hB1) (by omega)).mono ?_
         rintro e w2 ⟨A4, n4, c4, rfl, h4, hb4'⟩
         have hb4 : Below w1.heap.size w1 w2 := by first | exact hb4' | exact below_un hb4' | exact below_unN hb4'
         clear hb4'
         have hb5 : Below W0.heap.size W0 w2 := hb3.trans (hb4.mono hb3.size)
         obtain ⟨r0, r1, r2, _⟩ := fr_cellsG G0.out hb5
         obtain ⟨m0, m1, m2, mf⟩ := fr_cellsG G1.out hb5))
  all_goals
    rw [val_words] at h3 h4
    obtain ⟨f1, f2⟩ := fr_storeG G1.out hw0 (Nat.le_succ _) hb5 (.bool neg) (.slice A3 n3 c3) (.slice A4 n4 c4)
    have F := Lib.hid (And.intro f1 f2)
    clear f1 f2
    go_wp2
    obtain ⟨f1, f2⟩ := F.out
    refine bodyPost_ret (v := .agg #[.bool neg, .slice A3 n3 c3, .slice A4 n4 c4]) (by simp [results, Try.results46, go_sem, m0, m1, m2]) rfl ⟨.agg #[.bool neg, .slice A3 n3 c3, .slice A4 n4 c4], rfl, ?_, f1⟩
    exact ⟨_, _, _, _, _, _, rfl, f2 _ _ _ ((h3.below hb4).more hb4.size), f2 _ _ _ h4⟩
end Go.Proofs.Ytogklhbodaghdaa
