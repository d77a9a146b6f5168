/-
  Numbers of a fixed size are written; validFrame; Pack, the program's.
-/
import Derived.Test.YtlokacgclihhlaaZSame
import Derived.Test.YtlokacgclihhlaaZJoined
namespace Go.Proofs.Ytlokacgclihhlaa
open Go.RowKit

/-- The first i of the k bytes of N, the most significant one first. -/
def bebI (N k i : Nat) : List Nat := (List.range i).map (fun j => N / 2 ^ (8 * (k - 1 - j)) % 256)
def beb (N k : Nat) : List Nat := bebI N k k
theorem bebI_succ (N k i : Nat) : bebI N k (i + 1) = bebI N k i ++ [N / 2 ^ (8 * (k - 1 - i)) % 256] := by
  unfold bebI; rw [List.range_succ, List.map_append]; rfl
theorem bebI_len (N k i : Nat) : (bebI N k i).length = i := by simp [bebI]
theorem beb_len (N k : Nat) : (beb N k).length = k := bebI_len N k k
theorem allB_beb (N k : Nat) : AllB (beb N k) := by
  intro x hx
  obtain ⟨j, _, rfl⟩ := List.mem_map.1 hx
  omega
theorem be_snoc (L : List Nat) (x : Nat) : be (L ++ [x]) = be L * 256 + x := by unfold be; rw [List.foldl_append]; rfl
theorem be_bebI (N k : Nat) (hN : N < 2 ^ (8 * k)) : ∀ i, i ≤ k → be (bebI N k i) = N / 2 ^ (8 * (k - i))
  | 0, _ => by
    have : N / 2 ^ (8 * (k - 0)) = 0 := Nat.div_eq_of_lt (by simpa using hN)
    rw [this]; rfl
  | i + 1, h => by
    rw [bebI_succ, be_snoc, be_bebI N k hN i (by omega)]
    have e1 : k - i = (k - 1 - i) + 1 := by omega
    have e2 : k - (i + 1) = k - 1 - i := by omega
    rw [e1, e2, Nat.mul_add, Nat.pow_add, ← Nat.div_div_eq_div_mul]
    generalize N / 2 ^ (8 * (k - 1 - i)) = q
    have : (2 : Nat) ^ (8 * 1) = 256 := by decide
    rw [this]; omega
theorem be_beb (N k : Nat) (hN : N < 2 ^ (8 * k)) : be (beb N k) = N := by
  have := be_bebI N k hN k (Nat.le_refl _)
  rw [Nat.sub_self] at this
  unfold beb
  rw [this]; simp

def RetApp (base : Nat) (w : World) (L : List Nat) (e : Ending) (w' : World) : Prop := ∃ v, e = .returned v ∧ w'.ownsRow base 5 1 v L.length (bys L) ∧ Below base w w' ∧ w.heap.size ≤ w'.heap.size
def AppRel (base : Nat) (w : World) (X : List Nat) (N k : Nat) (vv iv : Value) (wr : World) : Prop :=
  ∃ i : Nat, i ≤ k ∧ iv = .int .i64 (i : Int) ∧ wr.ownsRow base 5 1 vv (X.length + i) (bys (X ++ bebI N k i)) ∧ Below base w wr ∧ w.heap.size ≤ wr.heap.size

theorem grown_belowB {base : Nat} {w wr w1 : World} {row : Option Nat} (hb : Below base w wr) (hbs : base ≤ w.heap.size) (hg : wr.grownBy w1 row) (h : ∀ k, row = some k → base ≤ k) : Below base w w1 :=
  hb.trans ⟨hg.os, hg.tape, hg.output, hg.size, fun k hk => hg.block k (Nat.lt_of_lt_of_le hk (Nat.le_trans hbs hb.size)) (fun e => by have := h _ e.symm; omega)⟩

set_option maxRecDepth 100000 in
set_option maxHeartbeats 400000 in
theorem appendFixed_any (N k base : Nat) (hk : k ≤ 4) (hN : N < 4294967296) (X : List Nat) (hX : X.length ≤ 1048576) (v : Value) (w : World) (ho : w.ownsRow base 5 1 v X.length (bys X)) (hbs : base ≤ w.heap.size) :
    Calls Try.prog 52 #[v, .int .i64 (N : Int), .int .i64 (k : Int)] w (RetApp base w (X ++ beb N k)) := by
  have HO := Lib.hid ho
  clear ho
  go_enter Try.func52, Try.ntmps52
  go_wp2
  go_loopw [0, 9] (fun vv iv wr => AppRel base w X N k vv iv wr) (fun _ iv _ => k - (intOf1 iv).toNat)
  case atStart => exact ⟨0, Nat.zero_le _, rfl, by simpa [bebI] using HO.out, Below.refl _ _, Nat.le_refl _⟩
  case round =>
    obtain ⟨i, hi, rfl, hown, hbw, hsz⟩ := hrel
    by_cases hik : i < k
    · obtain ⟨j, hj⟩ : ∃ j, j = k - 1 - i := ⟨_, rfl⟩
      have e1 : (k : Int) - 1 - (i : Int) = (j : Int) := by omega
      have hj3 : j ≤ 3 := by omega
      obtain ⟨x, hx⟩ : ∃ x, x = N / 2 ^ (8 * j) % 256 := ⟨_, rfl⟩
      have e2 : IntKind.u8.wrap ((N : Int) / 2 ^ (8 * j)) = (x : Int) := by
        have : ((N : Int) / 2 ^ (8 * j)) = ((N / 2 ^ (8 * j) : Nat) : Int) := by simp
        rw [this, hx, IntKind.wrap_u8]; omega
      have HJ := Lib.hid (And.intro hj hx)
      clear hj hx
      have OC : RB (wr.alloc (.cells #[.int .u8 (x : Int)] 5)) (wr.heap.size + 1) (.slice (some ⟨wr.heap.size, 0, none⟩) 1 1) [x] := rb_one wr _ x
      have HOW := Lib.hid hown
      clear hown
      have hsb : base ≤ wr.heap.size := Nat.le_trans hbs hsz
      go_wp2_with (at_builtin
                   refine wpList_append_bytes rfl (.tmp 12) (.tmp 21) rfl base (wr.heap.size + 1) _ _ (X ++ bebI N k i) rfl (HOW.out.alloc _) _ [x] rfl OC (by simp; omega) (by simp; omega) ?_)
      intro v3 w3 hown3 hg3
      go_wp2
      go_roundw
      case rel =>
        refine ⟨i + 1, by omega, by go_num, ?_, ?_, ?_⟩
        · rw [bebI_succ, ← HJ.out.1, ← HJ.out.2, ← List.append_assoc]
          simpa [Nat.add_assoc] using hown3
        · exact grown_belowB (hbw.alloc hsb _) hbs hg3 (ownBlock_ge HOW.out)
        · have := hg3.size; simp at this; omega
      case measure => simp [intOf1]; omega
    · obtain rfl : i = k := by omega
      go_wp2
      go_ret
      refine ⟨_, rfl, ?_, hbw, hsz⟩
      rw [List.length_append, beb_len]
      exact hown
end Go.Proofs.Ytlokacgclihhlaa
