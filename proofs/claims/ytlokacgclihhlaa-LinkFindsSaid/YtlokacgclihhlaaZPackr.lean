/-
  Big and Pack, the document's.
-/
import Derived.Test.YtlokacgclihhlaaZPackf
import Derived.Test.YtlokacgclihhlaaZUpr
namespace Go.Proofs.Ytlokacgclihhlaa
open Go.RowKit

theorem bebI_get (N k i j : Nat) (h : j < i) : nth (bebI N k i) j = N / 2 ^ (8 * (k - 1 - j)) % 256 := by
  rw [nth_lt (by rw [bebI_len]; exact h)]
  simp [bebI]
/-- What stands when the last k - j bytes are laid. -/
def bigL (N k j : Nat) : List Nat := List.replicate j 0 ++ (beb N k).drop j
theorem bigL_len (N k j : Nat) (h : j ≤ k) : (bigL N k j).length = k := by
  unfold bigL; rw [List.length_append, List.length_replicate, List.length_drop, beb_len]; omega
theorem bigL_step (N k j : Nat) (h : j < k) : (bigL N k (j + 1)).set j (N / 2 ^ (8 * (k - 1 - j)) % 256) = bigL N k j := by
  unfold bigL
  have e : (beb N k).drop j = nth (beb N k) j :: (beb N k).drop (j + 1) := by
    rw [nth_lt (by rw [beb_len]; exact h), ← List.drop_eq_getElem_cons]
  rw [e, List.set_append_left _ _ (by simp)]
  have e2 : nth (beb N k) j = N / 2 ^ (8 * (k - 1 - j)) % 256 := bebI_get N k k j h
  rw [e2, List.replicate_succ', List.set_append_right _ _ (by simp)]
  simp

def BigRel (w : World) (N k : Nat) (nv iv : Value) (wr : World) : Prop :=
  ∃ j : Nat, j ≤ k ∧ iv = .int .i64 ((j : Int) - 1) ∧ nv = .int .u64 ((N / 2 ^ (8 * (k - j)) : Nat) : Int) ∧ Row .u8 wr w.heap.size 5 (bigL N k j) ∧ Below w.heap.size w wr

set_option maxRecDepth 100000 in
set_option maxHeartbeats 400000 in
theorem bigw_any (N k : Nat) (hk : k ≤ 4) (hN : N < 4294967296) (w : World) :
    Calls Try.prog 53 #[.int .u64 (N : Int), .int .i64 (k : Int)] w (RetOwn w (beb N k)) := by
  obtain ⟨i0, hi0, hz0, hz1, hz2⟩ := info_parts infoB
  go_enter Try.func53, Try.ntmps53
  go_wp2_with (at_make
               refine wpList_make_room _ rfl (.tmp 7) (.tmp 7) _ rfl 5 i0 Try.underlying22 hi0 hz0 hz1 .i64 .i64 _ _ k k rfl rfl (by rfl) (by rfl) (Nat.le_refl _) (by rw [hz2]; omega) (by omega) ?_)
  intro w1 hrow hb1 hs1
  have HR := Lib.hid (And.intro hrow hb1)
  clear hrow hb1 hs1
  go_wp2
  go_loopw [0, 6] (fun nv iv wr => BigRel w N k nv iv wr) (fun _ iv _ => (intOf1 iv + 1).toNat)
  case atStart =>
    refine ⟨k, Nat.le_refl _, rfl, by simp, ?_, HR.out.2⟩
    have e : bigL N k k = List.replicate k 0 := by unfold bigL; rw [List.drop_of_length_le (by rw [beb_len]; exact Nat.le_refl _), List.append_nil]
    rw [e]; exact HR.out.1
  case round =>
    obtain ⟨j, hj, rfl, rfl, hrow, hbw⟩ := hrel
    by_cases hj0 : j = 0
    · subst hj0
      have hneg : ¬ (0 : Int) ≤ ((0 : Nat) : Int) - 1 := by omega
      go_wp2
      go_ret
      have e : bigL N k 0 = beb N k := by unfold bigL; simp
      rw [e] at hrow
      refine ⟨_, rfl, ?_, hbw⟩
      have := owns_of_row (L := beb N k) (post := []) (n := k) (c := k) (base := w.heap.size) (by simpa using hrow) (Nat.le_refl _) (by rw [beb_len]) (by rw [beb_len]; rfl) (by unfold maxLen; omega)
      rw [beb_len]; exact this
    · obtain ⟨t, rfl⟩ : ∃ t, j = t + 1 := ⟨j - 1, by omega⟩
      have et : ((t + 1 : Nat) : Int) - 1 = (t : Int) := by omega
      rw [et]
      obtain ⟨q, hq⟩ : ∃ q, q = N / 2 ^ (8 * (k - (t + 1))) := ⟨_, rfl⟩
      have hqN : q < 4294967296 := by rw [hq]; exact Nat.lt_of_le_of_lt (Nat.div_le_self _ _) hN
      rw [← hq]
      have hfz : wr.frozen? ⟨w.heap.size, t, none⟩ = false := hrow.frozen t
      have hcl : wr.cell? ⟨w.heap.size, t, none⟩ = some (.int .u8 (nth (bigL N k (t + 1)) t : Nat)) := hrow.cell (by rw [bigL_len _ _ _ hj]; omega)
      have htk : t < k := by omega
      have e2 : IntKind.u8.wrap ((q : Int) % 256) = ((q % 256 : Nat) : Int) := by rw [IntKind.wrap_u8]; omega
      have HQ := Lib.hid hq
      have HRR := Lib.hid (And.intro hrow hbw)
      clear hq hrow hbw et hj0
      go_wp2
      go_roundw
      case rel =>
        refine ⟨t, by omega, rfl, ?_, ?_, HRR.out.2.setCell (Nat.le_refl _) _⟩
        · have e : k - t = (k - (t + 1)) + 1 := by omega
          have e3 : N / 2 ^ (8 * (k - t)) = q / 256 := by rw [e, Nat.mul_add, Nat.pow_add, ← Nat.div_div_eq_div_mul, ← HQ.out]
          rw [e3]
          go_num
        · have := HRR.out.1.set t (q % 256)
          have e : (bigL N k (t + 1)).set t (q % 256) = bigL N k t := by
            have := bigL_step N k t htk
            rw [show k - 1 - t = k - (t + 1) from by omega, ← HQ.out] at this
            exact this
          rw [e] at this
          have e4 : ((q % 256 : Nat) : Int) = (q : Int) % 256 := by omega
          first
            | exact this
            | (rw [e4] at this; exact this)
      case measure => simp [intOf1] <;> omega
end Go.Proofs.Ytlokacgclihhlaa
