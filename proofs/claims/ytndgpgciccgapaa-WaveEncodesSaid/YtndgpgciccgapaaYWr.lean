/-
  written: the encoding of a number behind bytes of the call's own.
-/
import Derived.Test.YtndgpgciccgapaaZEnc
import Derived.Test.YtndgpgciccgapaaZMap
namespace Go.Proofs.Ytndgpgciccgapaa
open Go.RowKit

/-- Bytes of the call's own, from block base on. -/
def OB (w : World) (base : Nat) (v : Value) (L : List Nat) : Prop := w.ownsRow base 5 1 v L.length (bys L)
def RetOB (w : World) (base : Nat) (v0 : Value) (L : List Nat) (e : Ending) (w' : World) : Prop := ∃ v, e = .returned v ∧ OB w' base v L ∧ Below base w w' ∧ Only (fun k => v0.ownBlock = some k) w w'
theorem OB.below {w w' : World} {base : Nat} {v : Value} {L : List Nat} (h : OB w base v L) (hb : Below w.heap.size w w') : OB w' base v L :=
  h.kept (row := none) ⟨hb.os, hb.tape, hb.output, hb.size, fun k hk _ => hb.block k hk⟩ (by cases v.ownBlock <;> simp)

set_option maxRecDepth 100000 in
set_option maxHeartbeats 1000000 in
theorem written_any1 (c : Nat) (L E : List Nat) (v : Value) (base : Nat) (n : Int) (w : World) (hN : Calls Try.prog 48 #[.slice none 0 0, .int .i64 n] w (RetNumE w c E)) (hv : OB w base v L) (hb : base ≤ w.heap.size) (h1 : L.length ≤ 1048576) (h2 : E.length ≤ 1048576) :
    Calls Try.prog 70 #[v, .func (.func 48) #[] #[], .int .i64 n] w (RetOB w base v (L ++ E)) := by
  have HN := Lib.hid hN
  have HV := Lib.hid hv
  clear hN hv
  go_enter Try.func70, Try.ntmps70
  go_wp2_with fail
  refine HN.out.mono ?_
  rintro e w1 ⟨v1, rfl, o1, b1⟩
  have HV1 := Lib.hid (HV.out.below b1)
  have HR1 := Lib.hid (rb_of_owns o1).2
  have hs1 := b1.size
  have hb1 := b1.mono hb
  have HO1 := Lib.hid (only_below (S := fun k => v.ownBlock = some k) b1)
  clear o1 b1
  go_wp2_with (at_builtin
               refine wpList_append_bytes rfl (.tmp 15) (.tmp 16) rfl base w1.heap.size _ L.length L rfl HV1.out _ E rfl HR1.out (by omega) (by omega) ?_)
  intro v2 w2 o2 g2
  have hO : OB w2 base v2 (L ++ E) := by unfold OB; rw [List.length_append]; exact o2
  have hB : Below base w w2 := hb1.trans ⟨g2.os, g2.tape, g2.output, g2.size, fun k hk => g2.block k (by omega) (fun e => by have := (World.ownsRow.lt HV1.out k e.symm).1; omega)⟩
  have hN := HO1.out.trans (only_grown g2 (fun k e => e))
  clear o2 g2
  go_wp2
  go_ret
  exact ⟨v2, rfl, hO, hB, hN⟩

set_option maxRecDepth 100000 in
set_option maxHeartbeats 1000000 in
theorem written_any2 (c : Nat) (L E : List Nat) (v : Value) (base : Nat) (n : Int) (w : World) (hN : Calls Try.prog 71 #[.slice none 0 0, .int .i64 n] w (RetNumE w c E)) (hv : OB w base v L) (hb : base ≤ w.heap.size) (h1 : L.length ≤ 1048576) (h2 : E.length ≤ 1048576) :
    Calls Try.prog 70 #[v, .func (.func 71) #[] #[], .int .i64 n] w (RetOB w base v (L ++ E)) := by
  have HN := Lib.hid hN
  have HV := Lib.hid hv
  clear hN hv
  go_enter Try.func70, Try.ntmps70
  go_wp2_with fail
  refine HN.out.mono ?_
  rintro e w1 ⟨v1, rfl, o1, b1⟩
  have HV1 := Lib.hid (HV.out.below b1)
  have HR1 := Lib.hid (rb_of_owns o1).2
  have hs1 := b1.size
  have hb1 := b1.mono hb
  have HO1 := Lib.hid (only_below (S := fun k => v.ownBlock = some k) b1)
  clear o1 b1
  go_wp2_with (at_builtin
               refine wpList_append_bytes rfl (.tmp 15) (.tmp 16) rfl base w1.heap.size _ L.length L rfl HV1.out _ E rfl HR1.out (by omega) (by omega) ?_)
  intro v2 w2 o2 g2
  have hO : OB w2 base v2 (L ++ E) := by unfold OB; rw [List.length_append]; exact o2
  have hB : Below base w w2 := hb1.trans ⟨g2.os, g2.tape, g2.output, g2.size, fun k hk => g2.block k (by omega) (fun e => by have := (World.ownsRow.lt HV1.out k e.symm).1; omega)⟩
  have hN := HO1.out.trans (only_grown g2 (fun k e => e))
  clear o2 g2
  go_wp2
  go_ret
  exact ⟨v2, rfl, hO, hB, hN⟩

theorem written_num (L : List Nat) (v : Value) (base n : Nat) (w : World) (hn : n ≤ 4611686018427387903) (hv : OB w base v L) (hb : base ≤ w.heap.size) (h1 : L.length ≤ 1048576) :
    Calls Try.prog 70 #[v, .func (.func 48) #[] #[], .int .i64 (n : Int)] w (RetOB w base v (L ++ enc7 n)) :=
  written_any1 0 L (enc7 n) v base n w (number_ok [] n hn none 0 0 w.heap.size (by omega) w RW.nil_ (Nat.le_refl _)) hv hb h1 (Nat.le_trans (enc7_len9 hn) (by omega))
theorem sigL_nil {n : Int} (h : -2305843009213693952 ≤ n) (h' : n ≤ 2305843009213693951) : sigC n = 0 ∧ sigL [] n = enc7 (zig n) := by
  unfold sigC sigL
  rw [if_neg (by omega), if_neg (by omega)]
  simp
theorem written_sig (L : List Nat) (v : Value) (base : Nat) (n : Int) (w : World) (hn : -2305843009213693952 ≤ n) (hn' : n ≤ 2305843009213693951) (hv : OB w base v L) (hb : base ≤ w.heap.size) (h1 : L.length ≤ 1048576) :
    Calls Try.prog 70 #[v, .func (.func 71) #[] #[], .int .i64 n] w (RetOB w base v (L ++ enc7 (zig n))) := by
  have h := signed_any [] n none 0 0 w.heap.size (by omega) w rb_nil (Nat.le_refl _)
  rw [(sigL_nil hn hn').1, (sigL_nil hn hn').2] at h
  exact written_any2 0 L (enc7 (zig n)) v base n w h hv hb h1 (Nat.le_trans (enc7_len9 (zig_le hn hn')) (by omega))

/-- A block of another kind stays. -/
theorem ob_keep {w w' : World} {base g : Nat} {v : Value} {L : List Nat} {cs : Array Value} {T : TypeId} (h : OB w base v L) (ho : Only (fun k => v.ownBlock = some k) w w') (hG : w.heap[g]? = some (.cells cs T (0, 0))) (hT : T ≠ 5) : w'.heap[g]? = some (.cells cs T (0, 0)) := by
  refine (ho.block g (Array.getElem?_eq_some_iff.1 hG).1 (fun e => ?_)).trans hG
  obtain ⟨_, _, cs', hc⟩ := own_block h e
  rw [hG] at hc
  injection hc with hc
  injection hc with _ hc
  exact hT hc

/-- The encoding of a list of steps. -/
def stL (p : Int × Nat) : List Nat := enc7 (zig p.1) ++ enc7 (p.2 - 1)
def encK (R : List (Int × Nat)) (k : Nat) : List Nat := (R.take k).flatMap stL
theorem encK_succ {R : List (Int × Nat)} {k : Nat} (h : k < R.length) : encK R (k + 1) = encK R k ++ stL R[k] := by
  unfold encK
  rw [List.take_succ_eq_append_getElem h, List.flatMap_append]
  simp
def pulseL (t a b c d : Int) (R : List (Int × Nat)) : List Nat :=
  enc7 t.toNat ++ enc7 (zig a) ++ enc7 (zig b) ++ enc7 (zig c) ++ enc7 (zig d) ++ enc7 R.length ++ encK R R.length
end Go.Proofs.Ytndgpgciccgapaa
