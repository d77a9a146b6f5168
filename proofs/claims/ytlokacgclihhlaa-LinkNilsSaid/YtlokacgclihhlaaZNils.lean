/-
  The methods of nil and of zero senders and receivers.
-/
import Derived.Test.YtlokacgclihhlaaZSame
namespace Go.Proofs.Ytlokacgclihhlaa
open Go.RowKit

/-- The pointer is nil, or leads to a struct whose second field is 0. -/
def NoneV (w : World) (p : Value) : Prop := p = .pointer none ∨ ∃ g, p = .pointer (some ⟨g, 0, none⟩) ∧ w.cell? ⟨g, 1, none⟩ = some (.int .i64 0)
theorem NoneV.below {w w' : World} {p : Value} (h : NoneV w p) (hb : Below w.heap.size w w') : NoneV w' p := by
  rcases h with h | ⟨g, h1, h2⟩
  · exact Or.inl h
  · exact Or.inr ⟨g, h1, (hb.cell (p := ⟨g, 1, none⟩) (World.block_lt_of_cell? _ _ h2)).trans h2⟩
theorem NoneV.form {w : World} {p : Value} (h : NoneV w p) : ∃ a, p = .pointer a := by
  rcases h with h | ⟨g, h1, _⟩
  · exact ⟨_, h⟩
  · exact ⟨_, h1⟩

set_option maxRecDepth 100000 in
theorem senderNone_any (p : Value) (w : World) (h : NoneV w p) : Calls Try.prog 43 #[p] w fun e w' => e = .returned (.bool true) ∧ w = w' := by
  rcases h with rfl | ⟨g, rfl, hc⟩
  · go_enter Try.func43, Try.ntmps43
    go_wp2
    go_ret
    exact ⟨rfl, rfl⟩
  · go_enter Try.func43, Try.ntmps43
    go_wp2
    go_ret
    exact ⟨by simp, rfl⟩

set_option maxRecDepth 100000 in
theorem receiverNone_any (p : Value) (w : World) (h : NoneV w p) : Calls Try.prog 47 #[p] w fun e w' => e = .returned (.bool true) ∧ w = w' := by
  rcases h with rfl | ⟨g, rfl, hc⟩
  · go_enter Try.func47, Try.ntmps47
    go_wp2
    go_ret
    exact ⟨rfl, rfl⟩
  · go_enter Try.func47, Try.ntmps47
    go_wp2
    go_ret
    exact ⟨by simp, rfl⟩

set_option maxRecDepth 100000 in
theorem ack_none (a : Option Addr) (n : Int) (w : World) (h : NoneV w (.pointer a)) : Calls Try.prog 23 #[.pointer a, .int .i64 n] w fun e w' => e = .returned (.int .i64 2) ∧ w = w' := by
  have HN := Lib.hid (senderNone_any _ w h)
  clear h
  go_enter Try.func23, Try.ntmps23
  go_wp2_with fail
  refine HN.out.mono ?_
  rintro e w1 ⟨rfl, rfl⟩
  go_wp2
  go_ret
  exact ⟨rfl, rfl⟩

set_option maxRecDepth 100000 in
theorem pending_none (a : Option Addr)  (w : World) (h : NoneV w (.pointer a)) : Calls Try.prog 24 #[.pointer a] w fun e w' => e = .returned (.slice none 0 0) ∧ w = w' := by
  have HN := Lib.hid (senderNone_any _ w h)
  clear h
  go_enter Try.func24, Try.ntmps24
  go_wp2_with fail
  refine HN.out.mono ?_
  rintro e w1 ⟨rfl, rfl⟩
  go_wp2
  go_ret
  exact ⟨rfl, rfl⟩

set_option maxRecDepth 100000 in
theorem again_none (a : Option Addr) (A : Option Addr) (n c : Nat) (w : World) (h : NoneV w (.pointer a)) : Calls Try.prog 25 #[.pointer a, .slice A n c] w fun e w' => e = .returned (.slice none 0 0) ∧ w = w' := by
  have HN := Lib.hid (senderNone_any _ w h)
  clear h
  go_enter Try.func25, Try.ntmps25
  go_wp2_with fail
  refine HN.out.mono ?_
  rintro e w1 ⟨rfl, rfl⟩
  go_wp2
  go_ret
  exact ⟨rfl, rfl⟩

set_option maxRecDepth 100000 in
theorem giveUp_none (a : Option Addr) (n : Int) (w : World) (h : NoneV w (.pointer a)) : Calls Try.prog 27 #[.pointer a, .int .i64 n] w fun e w' => e = .returned (.tuple #[.slice none 0 0, .int .i64 2]) ∧ w = w' := by
  have HN := Lib.hid (receiverNone_any _ w h)
  clear h
  go_enter Try.func27, Try.ntmps27
  go_wp2_with fail
  refine HN.out.mono ?_
  rintro e w1 ⟨rfl, rfl⟩
  go_wp2
  go_ret2
  exact ⟨rfl, rfl⟩

set_option maxRecDepth 100000 in
theorem next_none (a : Option Addr)  (w : World) (h : NoneV w (.pointer a)) : Calls Try.prog 28 #[.pointer a] w fun e w' => e = .returned (.int .i64 0) ∧ w = w' := by
  have HN := Lib.hid (receiverNone_any _ w h)
  clear h
  go_enter Try.func28, Try.ntmps28
  go_wp2_with fail
  refine HN.out.mono ?_
  rintro e w1 ⟨rfl, rfl⟩
  go_wp2
  go_ret
  exact ⟨rfl, rfl⟩

set_option maxRecDepth 100000 in
theorem held_none (a : Option Addr)  (w : World) (h : NoneV w (.pointer a)) : Calls Try.prog 29 #[.pointer a] w fun e w' => e = .returned (.int .i64 0) ∧ w = w' := by
  have HN := Lib.hid (receiverNone_any _ w h)
  clear h
  go_enter Try.func29, Try.ntmps29
  go_wp2_with fail
  refine HN.out.mono ?_
  rintro e w1 ⟨rfl, rfl⟩
  go_wp2
  go_ret
  exact ⟨rfl, rfl⟩

set_option maxRecDepth 100000 in
theorem missing_none (a : Option Addr)  (w : World) (h : NoneV w (.pointer a)) : Calls Try.prog 30 #[.pointer a] w fun e w' => e = .returned (.slice none 0 0) ∧ w = w' := by
  have HN := Lib.hid (receiverNone_any _ w h)
  clear h
  go_enter Try.func30, Try.ntmps30
  go_wp2_with fail
  refine HN.out.mono ?_
  rintro e w1 ⟨rfl, rfl⟩
  go_wp2
  go_ret
  exact ⟨rfl, rfl⟩

set_option maxRecDepth 100000 in
theorem copy_none (a : Option Addr)  (w : World) (h : NoneV w (.pointer a)) : Calls Try.prog 31 #[.pointer a] w fun e w' => e = .returned (.pointer none) ∧ w = w' := by
  have HN := Lib.hid (receiverNone_any _ w h)
  clear h
  go_enter Try.func31, Try.ntmps31
  go_wp2_with fail
  refine HN.out.mono ?_
  rintro e w1 ⟨rfl, rfl⟩
  go_wp2
  go_ret
  exact ⟨rfl, rfl⟩

set_option maxRecDepth 100000 in
theorem take_none (a : Option Addr) (st sq : Int) (v : Value) (w : World) (h : NoneV w (.pointer a)) : Calls Try.prog 26 #[.pointer a, .agg #[.int .i64 st, .int .i64 sq, v]] w fun e w' => e = .returned (.tuple #[.slice none 0 0, .int .i64 2]) ∧ Below w.heap.size w w' := by
  have hb : Below w.heap.size w (w.alloc (.cells #[.int .i64 st, .int .i64 sq, v] 33)) := (Below.refl _ _).alloc (Nat.le_refl _) _
  have HN := Lib.hid (receiverNone_any _ _ (h.below hb))
  clear h
  go_enter Try.func26, Try.ntmps26
  go_wp2_with fail
  refine HN.out.mono ?_
  rintro e w1 ⟨rfl, rfl⟩
  go_wp2
  go_ret2
  exact ⟨rfl, hb⟩

set_option maxRecDepth 100000 in
theorem offer_none (a : Option Addr) (A : Option Addr) (n c : Nat) (w : World) (h : NoneV w (.pointer a)) : Calls Try.prog 21 #[.pointer a, .slice A n c] w fun e w' => e = .returned (.tuple #[.agg #[.int .i64 0, .int .i64 0, .slice none 0 0], .int .i64 2]) ∧ Below w.heap.size w w' := by
  obtain ⟨W0, HW0, hw0, HG, z0⟩ := U0ex w
  have HN := Lib.hid (senderNone_any _ W0 (h.below hw0))
  obtain ⟨k0, k1, k2, kf⟩ := fr_blk HG.out (Below.refl _ _)
  clear h
  go_enter Try.func21, Try.ntmps21
  go_wp2_with fail
  rw [← HW0.out]
  refine HN.out.mono ?_
  rintro e w1 ⟨rfl, rfl⟩
  go_wp2
  refine bodyPost_ret (v := .tuple #[.agg #[.int .i64 0, .int .i64 0, .slice none 0 0], .int .i64 2]) (by simp [results, Try.results21, go_sem, k0, k1, k2]) rfl ⟨rfl, ?_⟩
  exact set3_below hw0 (Nat.le_refl _)
end Go.Proofs.Ytlokacgclihhlaa
