/-
  joined: the bytes of lists behind one another.
-/
import Derived.Test.YtlginmnmobkbhaaZApp
namespace Go.Proofs.Ytlginmnmobkbhaa
open Go.RowKit

def flat (X : Nat → List Nat) : Nat → List Nat
  | 0 => []
  | k + 1 => flat X k ++ X k
theorem flat_mono (X : Nat → List Nat) : ∀ (j k : Nat), j ≤ k → (flat X j).length ≤ (flat X k).length
  | j, 0, h => by have : j = 0 := by omega
                  subst this; exact Nat.le_refl _
  | j, k + 1, h => by
    by_cases e : j = k + 1
    · subst e; exact Nat.le_refl _
    · have := flat_mono X j k (by omega)
      simp [flat]; omega

def JoinRel (w : World) (X : Nat → List Nat) (K : Nat) (ov iv : Value) (wr : World) : Prop :=
  ∃ k : Nat, k ≤ K ∧ iv = .int .i64 (k : Int) ∧ wr.ownsRow w.heap.size 5 1 ov (flat X k).length (bys (flat X k)) ∧ Below w.heap.size w wr

theorem ownBlock_ge {w : World} {base n : Nat} {e : TypeId} {v : Value} {xs : List Value} (h : w.ownsRow base e 1 v n xs) : ∀ k, v.ownBlock = some k → base ≤ k := fun k hk => (World.ownsRow.lt h k hk).1

set_option maxRecDepth 100000 in
set_option maxHeartbeats 400000 in
theorem joined_any (K g B c : Nat) (V : Nat → Value) (X : Nat → List Nat) (w : World) (hcell : ∀ j, j < K → w.cell? ⟨g, j, none⟩ = some (V j)) (hx : ∀ j, j < K → RB w B (V j) (X j)) (hB : B ≤ w.heap.size) (hg : g < w.heap.size)
    (hK : K ≤ 1024) (hKc : K ≤ c) (hl : (flat X K).length ≤ 1099511627776) :
    Calls Try.prog 59 #[.slice (some ⟨g, 0, none⟩) K c] w (RetOwn w (flat X K)) := by
  have HC := Lib.hid (And.intro hcell hx)
  have HL := Lib.hid hl
  clear hcell hx hl
  go_enter Try.func59, Try.ntmps59
  go_wp2
  go_loopw [3, 7] (fun ov iv wr => JoinRel w X K ov iv wr) (fun _ iv _ => K - (intOf1 iv).toNat)
  case atStart => exact ⟨0, Nat.zero_le _, rfl, owns_nil _ _ _, Below.refl _ _⟩
  case round =>
    obtain ⟨k, hk, rfl, hown, hbw⟩ := hrel
    have hszw := hbw.size
    by_cases hkK : k < K
    · have hc1 : wr.cell? ⟨g, k, none⟩ = some (V k) := (hbw.cell (p := ⟨g, k, none⟩) hg).trans (HC.out.1 k hkK)
      have hx1 : RB wr B (V k) (X k) := (HC.out.2 k hkK).belowM hbw hB
      have hlen : (flat X k).length + (X k).length ≤ 1099511627776 := by
        have h1 := flat_mono X (k + 1) K hkK
        have h2 := HL.out
        simp [flat] at h1; omega
      have HX1 := Lib.hid hx1
      have HOW := Lib.hid hown
      clear hx1 hown
      go_wp2_with (at_builtin
                   refine wpList_append_bytes rfl (.tmp 10) (.tmp 14) rfl w.heap.size B _ _ (flat X k) rfl HOW.out _ (X k) rfl HX1.out (by omega) hszw ?_)
      intro v' w' ho hg'
      go_wp2
      go_roundw
      case rel => exact ⟨k + 1, by omega, by go_num, by simpa [flat] using ho, grown_below' hbw hg' (ownBlock_ge HOW.out)⟩
      case measure => simp [intOf1]; omega
    · obtain rfl : k = K := by omega
      go_wp2
      go_ret
      exact ⟨_, rfl, hown, hbw⟩

/-- The cells of a list that stands in a new block. -/
theorem built_cells (w : World) (cs : Array Value) (e : TypeId) (j : Nat) (v : Value) (h : cs[j]? = some v) : (w.alloc (.cells cs e)).cell? ⟨w.heap.size, j, none⟩ = some v := by
  rw [cell_of_row _ _ j cs e (0, 0) (heap_alloc_new w _), h]

set_option maxRecDepth 100000 in
set_option maxHeartbeats 400000 in
theorem joined_one (v : Value) (L : List Nat) (B : Nat) (w : World) (hx : RB w B v L) (hB : B ≤ w.heap.size) (hl : L.length ≤ 1099511627776) :
    Calls Try.prog 59 #[.slice (some ⟨w.heap.size, 0, none⟩) 1 1] (w.alloc (.cells #[v] 33)) (RetOwn w L) := by
  refine (joined_any 1 w.heap.size B 1 (fun _ => v) (fun _ => L) (w.alloc (.cells #[v] 33)) (fun j hj => ?_) (fun j hj => hx.alloc hB _) (by simp; omega) (by simp) (by omega) (by omega) (by simpa [flat] using hl)).mono ?_
  · obtain rfl : j = 0 := by omega
    exact built_cells w #[v] _ 0 v rfl
  · rintro e w' ⟨v', rfl, ho, hb⟩
    refine ⟨v', rfl, ?_, ((Below.refl w.heap.size w).alloc (Nat.le_refl _) (.cells #[v] 33)).trans (hb.mono (by simp))⟩
    have e : flat (fun _ => L) 1 = L := by simp [flat]
    rw [e] at ho
    exact owns_base ho (by simp)

theorem rb_one (wr : World) (e : TypeId) (x : Nat) : RB (wr.alloc (.cells #[.int .u8 (x : Int)] e)) (wr.heap.size + 1) (.slice (some ⟨wr.heap.size, 0, none⟩) 1 1) [x] := by
  refine ⟨RW.mk rfl (Nat.le_refl _) (by simp [maxLen]) (fun _ => ⟨wr.heap.size, 0, rfl, by omega, fun j hj => ?_⟩), nz_some⟩
  obtain rfl : j = 0 := by omega
  exact built_cells wr #[.int .u8 (x : Int)] e 0 _ rfl

end Go.Proofs.Ytlginmnmobkbhaa
