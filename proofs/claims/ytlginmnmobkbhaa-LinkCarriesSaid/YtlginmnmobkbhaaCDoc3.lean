/-
  The document's fault: out of range; drop; none.
-/
import Derived.Test.YtlginmnmobkbhaaCDoc2
namespace Go.Proofs.Ytlginmnmobkbhaa
open Go.RowKit

theorem dcs_lb {w : World} {lb lb' eb : Nat} {v : Value} {ps : List (Value × List Nat)} (h : Dcs w lb eb v ps) (hb : lb' ≤ lb) : Dcs w lb' eb v ps := by
  obtain ⟨⟨h1, h2⟩, h3⟩ := h
  refine ⟨⟨h1, ?_⟩, h3⟩
  rcases h2 with h2 | ⟨g, cap, cur, rfl, hg, r⟩
  · exact .inl h2
  · exact .inr ⟨g, cap, cur, rfl, Nat.le_trans hb hg, r⟩
def RetFd (w : World) (base : Nat) (Ls : List (List Nat)) (e : Ending) (w' : World) : Prop := ∃ qs v', qs.map Prod.snd = Ls ∧ e = .returned v' ∧ Dcs w' base base v' qs ∧ Below base w w'

set_option maxRecDepth 100000 in
set_option maxHeartbeats 1000000 in
theorem fault_out {w : World} {base : Nat} {v : Value} {ps : List (Value × List Nat)} (h : Dcs w base base v ps) (hb : base ≤ w.heap.size) (k fa n : Int) (ho : fa < 0 ∨ (ps.length : Int) ≤ fa) :
    Calls Try.prog 68 #[v, .agg #[.int .i64 k, .int .i64 fa, .int .i64 n]] w (RetFd w base (ps.map Prod.snd)) := by
  obtain ⟨A, c, e⟩ := dcs_form h
  subst e
  have hb0 : Below w.heap.size w (w.alloc (.cells #[.int .i64 k, .int .i64 fa, .int .i64 n] 106)) := (Below.refl _ _).alloc (Nat.le_refl _) _
  have h0 := dcs_below h hb0
  have H0 := Lib.hid (And.intro h0 hb0)
  clear h0 hb0 h
  rcases Int.lt_or_le fa 0 with hneg | hpos
  · clear ho
    go_enter Try.func68, Try.ntmps68
    go_wp2
    go_ret
    exact ⟨ps, _, rfl, rfl, H0.out.1, H0.out.2.mono hb⟩
  · have h2 : (ps.length : Int) ≤ fa := by omega
    have h3 : ¬ fa < 0 := by omega
    clear ho
    go_enter Try.func68, Try.ntmps68
    go_wp2
    go_ret
    exact ⟨ps, _, rfl, rfl, H0.out.1, H0.out.2.mono hb⟩

set_option maxRecDepth 100000 in
set_option maxHeartbeats 1000000 in
theorem fault_drop {w : World} {base : Nat} {v : Value} {ps : List (Value × List Nat)} (h : Dcs w base base v ps) (hb : base ≤ w.heap.size) (hn2 : ps.length ≤ 900) (i : Nat) (hi : i < ps.length) (n : Int) :
    Calls Try.prog 68 #[v, .agg #[.int .i64 1, .int .i64 (i : Int), .int .i64 n]] w (RetFd w base ((ps.eraseIdx i).map Prod.snd)) := by
  have hb0 : Below w.heap.size w (w.alloc (.cells #[.int .i64 1, .int .i64 (i : Int), .int .i64 n] 106)) := (Below.refl _ _).alloc (Nat.le_refl _) _
  have h0 := dcs_below h hb0
  obtain ⟨g, c, e, hgl, hcell⟩ := dcs_at h0 i hi
  subst e
  have H0 := Lib.hid (And.intro h0 hb0)
  have i1 : (i : Int) < (ps.length : Int) := by omega
  have i2 : ¬ (i : Int) < 0 := by omega
  clear h0 hb0 h
  go_enter Try.func68, Try.ntmps68
  go_wp2_with (go_at_call 80
               refine (without_any H0.out.1 (by omega) i).mono ?_
               rintro e w1 ⟨v1, rfl, hd1, hb1⟩
               have H1 := Lib.hid (And.intro hd1 hb1)
               clear hd1 hb1)
  go_ret
  exact ⟨_, _, rfl, rfl, dcs_lb H1.out.1 (Nat.le_trans hb H0.out.2.size), (H0.out.2.mono hb).trans (H1.out.2.mono (Nat.le_trans hb H0.out.2.size))⟩

set_option maxRecDepth 100000 in
set_option maxHeartbeats 1000000 in
theorem fault_other {w : World} {base : Nat} {v : Value} {ps : List (Value × List Nat)} (h : Dcs w base base v ps) (hb : base ≤ w.heap.size) (i : Nat) (hi : i < ps.length) (k n : Int) (h1 : k ≠ 1) (h2 : k ≠ 2) (h3 : k ≠ 3) (h4 : k ≠ 4) (h5 : k ≠ 5) :
    Calls Try.prog 68 #[v, .agg #[.int .i64 k, .int .i64 (i : Int), .int .i64 n]] w (RetFd w base (ps.map Prod.snd)) := by
  have hb0 : Below w.heap.size w (w.alloc (.cells #[.int .i64 k, .int .i64 (i : Int), .int .i64 n] 106)) := (Below.refl _ _).alloc (Nat.le_refl _) _
  have h0 := dcs_below h hb0
  obtain ⟨g, c, e, hgl, hcell⟩ := dcs_at h0 i hi
  subst e
  have H0 := Lib.hid (And.intro h0 hb0)
  have i1 : (i : Int) < (ps.length : Int) := by omega
  have i2 : ¬ (i : Int) < 0 := by omega
  have q1 : (k == 1) = false := by simpa using h1
  have q2 : (k == 2) = false := by simpa using h2
  have q3 : (k == 3) = false := by simpa using h3
  have q4 : (k == 4) = false := by simpa using h4
  have q5 : (k == 5) = false := by simpa using h5
  clear h0 hb0 h
  go_enter Try.func68, Try.ntmps68
  go_wp2
  go_ret
  exact ⟨ps, _, rfl, rfl, H0.out.1, H0.out.2.mono hb⟩
end Go.Proofs.Ytlginmnmobkbhaa
