/-
  What is read back from an encoding; both ways of Signed.
-/
import Derived.Test.YtfalhfgnobjfgaaZJoined
import Derived.Test.YtfalhfgnobjfgaaZReads
namespace Go.Proofs.Ytfalhfgnobjfgaa
open Go.RowKit

theorem nth_cons_succ (x : Nat) (xs : List Nat) (j : Nat) : nth (x :: xs) (j + 1) = nth xs j := by unfold nth; simp
theorem nth_cons_zero (x : Nat) (xs : List Nat) : nth (x :: xs) 0 = x := by unfold nth; simp

def EncOk (N s : Nat) : Prop := (enc7 N).length = s + 1 ∧ (∀ j, j < s → 128 ≤ nth (enc7 N) j) ∧ nth (enc7 N) s < 128 ∧ (N ≠ 0 → nth (enc7 N) s ≠ 0) ∧ (0 < s → N ≠ 0) ∧ val7 (enc7 N) = N ∧ AllB (enc7 N)
theorem enc_ok : ∀ (N : Nat), ∃ s, EncOk N s := by
  intro N
  induction N using Nat.strongRecOn with
  | _ N ih =>
    by_cases h : N < 128
    · refine ⟨0, ?_⟩
      unfold EncOk
      rw [enc7_small h]
      refine ⟨rfl, fun j hj => by omega, by rw [nth_cons_zero]; exact h, fun h0 => by rw [nth_cons_zero]; exact h0, fun h0 => by omega, by simp [val7]; omega, ?_⟩
      intro x hx
      simp at hx
      omega
    · obtain ⟨s, h1, h2, h3, h4, h5, h6, h7⟩ := ih (N / 128) (by omega)
      refine ⟨s + 1, ?_⟩
      unfold EncOk
      rw [enc7_big h]
      refine ⟨by rw [List.length_cons, h1], fun j hj => ?_, by rw [nth_cons_succ]; exact h3, fun _ => by rw [nth_cons_succ]; exact h4 (by omega), fun _ => by omega, ?_, ?_⟩
      · cases j with
        | zero => rw [nth_cons_zero]; omega
        | succ j => rw [nth_cons_succ]; exact h2 j (by omega)
      · rw [val7, h6]; omega
      · intro x hx
        rcases List.mem_cons.1 hx with rfl | hx
        · omega
        · exact h7 x hx

/-- An encoding with whatever behind it. -/
theorem rd_enc (N : Nat) (hN : N ≤ 4611686018427387903) (T : List Nat) : ∃ s, Lead (enc7 N ++ T) s ∧ rdN (enc7 N ++ T) s = N ∧ rdS (enc7 N ++ T) s = (enc7 N).length ∧ rdE (enc7 N ++ T) s = 0 := by
  obtain ⟨s, h1, h2, h3, h4, h5, h6, h7⟩ := enc_ok N
  have h9 := enc7_len9 hN
  have hl : (enc7 N ++ T).length = s + 1 + T.length := by rw [List.length_append, h1]
  have hL : Lead (enc7 N ++ T) s := ⟨by omega, by omega, fun j hj => by rw [nth_append_left (by omega)]; exact h2 j hj, Or.inr (Or.inr (by rw [nth_append_left (by omega)]; exact h3))⟩
  have hv : rdV (enc7 N ++ T) s = N := by
    unfold rdV
    rw [← h1, List.take_left, h6]
  have ok : RdOk (enc7 N ++ T) s := by
    refine ⟨by omega, by omega, ?_, by rw [hv]; exact hN⟩
    by_cases h0 : s = 0
    · exact Or.inl h0
    · right
      rw [nth_append_left (by omega)]
      exact h4 (h5 (by omega))
  obtain ⟨a, b, c⟩ := rd_ok ok
  exact ⟨s, hL, by rw [a, hv], by rw [b, h1], c⟩

def zig (n : Int) : Nat := if n < 0 then (-2 * n - 1).toNat else (2 * n).toNat
theorem half_zig (n : Int) : half (zig n) = n := by
  unfold zig half
  split <;> split <;> omega
theorem zig_le {n : Int} (h1 : -2305843009213693952 ≤ n) (h2 : n ≤ 2305843009213693951) : zig n ≤ 4611686018427387903 := by
  unfold zig
  split <;> omega

/-- What Number and Signed give, refused or not. -/
def RetNumE (w : World) (c : Nat) (L : List Nat) (e : Ending) (w' : World) : Prop := ∃ v, e = .returned (.tuple #[v, .int .i64 (c : Int)]) ∧ w'.ownsRow w.heap.size 5 1 v L.length (bys L) ∧ Below w.heap.size w w'
theorem numE_of {w : World} {L : List Nat} {e : Ending} {w' : World} (h : RetNum w L e w') : RetNumE w 0 L e w' := h

def numC (n : Int) : Nat := if n < 0 ∨ 4611686018427387903 < n then 2 else 0
def numL (L : List Nat) (n : Int) : List Nat := if n < 0 ∨ 4611686018427387903 < n then [] else L ++ enc7 n.toNat
def sigC (n : Int) : Nat := if n < -2305843009213693952 ∨ 2305843009213693951 < n then 2 else 0
def sigL (L : List Nat) (n : Int) : List Nat := if n < -2305843009213693952 ∨ 2305843009213693951 < n then [] else L ++ enc7 (zig n)

theorem number_any (L : List Nat) (N : Int) (A : Option Addr) (n c B : Nat) (hn64 : n ≤ 1048576) (w : World) (hx : RB w B (.slice A n c) L) (hBw : B ≤ w.heap.size) :
    Calls Try.prog 14 #[.slice A n c, .int .i64 N] w (RetNumE w (numC N) (numL L N)) := by
  by_cases h : N < 0 ∨ 4611686018427387903 < N
  · refine (number_bad N h A n c w).mono ?_
    rintro e w' ⟨rfl, rfl⟩
    unfold numC numL
    rw [if_pos h, if_pos h]
    exact ⟨_, rfl, owns_nil _ _ _, Below.refl _ _⟩
  · unfold numC numL
    rw [if_neg h, if_neg h]
    obtain ⟨x, rfl⟩ := Int.eq_ofNat_of_zero_le (show 0 ≤ N by omega)
    exact number_ok L x (by omega) A n c B hn64 w hx.1 hBw
theorem refNumber_any (L : List Nat) (N : Int) (A : Option Addr) (n c B : Nat) (hn64 : n ≤ 1048576) (w : World) (hx : RB w B (.slice A n c) L) (hBw : B ≤ w.heap.size) :
    Calls Try.prog 29 #[.slice A n c, .int .i64 N] w (RetNumE w (numC N) (numL L N)) := by
  by_cases h : N < 0 ∨ 4611686018427387903 < N
  · refine (refNumber_bad N h A n c w).mono ?_
    rintro e w' ⟨rfl, rfl⟩
    unfold numC numL
    rw [if_pos h, if_pos h]
    exact ⟨_, rfl, owns_nil _ _ _, Below.refl _ _⟩
  · unfold numC numL
    rw [if_neg h, if_neg h]
    obtain ⟨x, rfl⟩ := Int.eq_ofNat_of_zero_le (show 0 ≤ N by omega)
    exact refNumber_ok L x (by omega) _ B (by rw [← hx.1.len]; exact hn64) w hx hBw

set_option maxRecDepth 100000 in
set_option maxHeartbeats 400000 in
theorem signed_any (L : List Nat) (N : Int) (A : Option Addr) (n c B : Nat) (hn64 : n ≤ 1048576) (w : World) (hx : RB w B (.slice A n c) L) (hBw : B ≤ w.heap.size) :
    Calls Try.prog 15 #[.slice A n c, .int .i64 N] w (RetNumE w (sigC N) (sigL L N)) := by
  by_cases h : N < -2305843009213693952 ∨ 2305843009213693951 < N
  · unfold sigC sigL
    rw [if_pos h, if_pos h]
    rcases h with h | h
    · go_enter Try.func15, Try.ntmps15
      go_wp2
      go_ret2
      exact ⟨_, rfl, owns_nil _ _ _, Below.refl _ _⟩
    · have h0 : ¬ N < -2305843009213693952 := by omega
      go_enter Try.func15, Try.ntmps15
      go_wp2
      go_ret2
      exact ⟨_, rfl, owns_nil _ _ _, Below.refl _ _⟩
  · unfold sigC sigL
    rw [if_neg h, if_neg h]
    have h1 : -2305843009213693952 ≤ N := by omega
    have h2 : N ≤ 2305843009213693951 := by omega
    have hz := zig_le h1 h2
    clear h
    by_cases h0 : N < 0
    · have ez : -2 * N - 1 = ((zig N : Nat) : Int) := by unfold zig; rw [if_pos h0]; omega
      have HN := Lib.hid (number_ok L (zig N) hz A n c B hn64 w hx.1 hBw)
      generalize zig N = x at *
      go_enter Try.func15, Try.ntmps15
      go_wp2_with fail
      refine HN.out.mono ?_
      rintro e w1 ⟨v, rfl, ho, hb⟩
      go_wp2
      go_ret2
      exact ⟨_, rfl, ho, hb⟩
    · have ez : 2 * N = ((zig N : Nat) : Int) := by unfold zig; rw [if_neg h0]; omega
      have HN := Lib.hid (number_ok L (zig N) hz A n c B hn64 w hx.1 hBw)
      generalize zig N = x at *
      go_enter Try.func15, Try.ntmps15
      go_wp2_with fail
      refine HN.out.mono ?_
      rintro e w1 ⟨v, rfl, ho, hb⟩
      go_wp2
      go_ret2
      exact ⟨_, rfl, ho, hb⟩

set_option maxRecDepth 100000 in
set_option maxHeartbeats 400000 in
theorem refSigned_any (L : List Nat) (N : Int) (A : Option Addr) (n c B : Nat) (hn64 : n ≤ 1048576) (w : World) (hx : RB w B (.slice A n c) L) (hBw : B ≤ w.heap.size) :
    Calls Try.prog 31 #[.slice A n c, .int .i64 N] w (RetNumE w (sigC N) (sigL L N)) := by
  by_cases h : N < -2305843009213693952 ∨ 2305843009213693951 < N
  · unfold sigC sigL
    rw [if_pos h, if_pos h]
    rcases h with h | h
    · go_enter Try.func31, Try.ntmps31
      go_wp2
      go_ret2
      exact ⟨_, rfl, owns_nil _ _ _, Below.refl _ _⟩
    · have h0 : ¬ N < -2305843009213693952 := by omega
      go_enter Try.func31, Try.ntmps31
      go_wp2
      go_ret2
      exact ⟨_, rfl, owns_nil _ _ _, Below.refl _ _⟩
  · unfold sigC sigL
    rw [if_neg h, if_neg h]
    have h1 : -2305843009213693952 ≤ N := by omega
    have h2 : N ≤ 2305843009213693951 := by omega
    have hz := zig_le h1 h2
    clear h
    by_cases h0 : N < 0
    · have ez : -2 * N - 1 = ((zig N : Nat) : Int) := by unfold zig; rw [if_pos h0]; omega
      have HN := Lib.hid (refNumber_ok L (zig N) hz _ B (by rw [← hx.1.len]; exact hn64) w hx hBw)
      generalize zig N = x at *
      go_enter Try.func31, Try.ntmps31
      go_wp2_with fail
      refine HN.out.mono ?_
      rintro e w1 ⟨v, rfl, ho, hb⟩
      go_wp2
      go_ret2
      exact ⟨_, rfl, ho, hb⟩
    · have ez : 2 * N = ((zig N : Nat) : Int) := by unfold zig; rw [if_neg h0]; omega
      have HN := Lib.hid (refNumber_ok L (zig N) hz _ B (by rw [← hx.1.len]; exact hn64) w hx hBw)
      generalize zig N = x at *
      go_enter Try.func31, Try.ntmps31
      go_wp2_with fail
      refine HN.out.mono ?_
      rintro e w1 ⟨v, rfl, ho, hb⟩
      go_wp2
      go_ret2
      exact ⟨_, rfl, ho, hb⟩

end Go.Proofs.Ytfalhfgnobjfgaa
