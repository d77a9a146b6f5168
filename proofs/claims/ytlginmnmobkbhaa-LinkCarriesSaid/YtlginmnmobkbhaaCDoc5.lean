/-
  The document's fault: a flip that lies behind the datagram.
-/
import Derived.Test.YtlginmnmobkbhaaCDoc4
namespace Go.Proofs.Ytlginmnmobkbhaa
open Go.RowKit

set_option maxRecDepth 100000 in
set_option maxHeartbeats 1000000 in
theorem fault_noflip {w : World} {base : Nat} {v : Value} {ps : List (Value × List Nat)} (h : Dcs w base base v ps) (hb : base ≤ w.heap.size) (i : Nat) (hi : i < ps.length) (n : Int) (hn63 : n ≤ 9223372036854775807) (hno : n < 0 ∨ ((ps[i]'hi).2.length : Int) ≤ n / 8) :
    Calls Try.prog 68 #[v, .agg #[.int .i64 4, .int .i64 (i : Int), .int .i64 n]] w (RetFd w base (ps.map Prod.snd)) := by
  have hb0 : Below w.heap.size w (w.alloc (.cells #[.int .i64 4, .int .i64 (i : Int), .int .i64 n] 106)) := (Below.refl _ _).alloc (Nat.le_refl _) _
  have h0 := dcs_below h hb0
  obtain ⟨g, c, e, hgl, hcell⟩ := dcs_at h0 i hi
  subst e
  have hel := h0.els _ (List.getElem_mem hi)
  obtain ⟨_, hrb⟩ := rb_of_owns hel.1
  obtain ⟨A, cp, hform⟩ := hrb.form
  obtain ⟨X, hX⟩ : ∃ X, X = (ps[i]'hi).2 := ⟨_, rfl⟩
  rw [← hX] at hform hno
  rw [hform] at hcell
  have H0 := Lib.hid (And.intro h0 hb0)
  have i1 : (i : Int) < (ps.length : Int) := by omega
  have i2 : ¬ (i : Int) < 0 := by omega
  clear h0 hb0 h hrb hel hform hX
  rcases Int.lt_or_le n 0 with hn | hn
  · clear hno
    go_enter Try.func68, Try.ntmps68
    go_wp2
    go_ret
    exact ⟨ps, _, rfl, rfl, H0.out.1, H0.out.2.mono hb⟩
  · have i3 : n.tdiv 8 = n / 8 := Int.tdiv_eq_ediv_of_nonneg hn
    have i4 : (X.length : Int) ≤ n / 8 := by omega
    have i5 : wrap64 (n / 8) = n / 8 := by unfold wrap64; omega
    have i6 : ¬ n < 0 := by omega
    clear hno
    go_enter Try.func68, Try.ntmps68
    go_wp2
    go_ret
    exact ⟨ps, _, rfl, rfl, H0.out.1, H0.out.2.mono hb⟩
end Go.Proofs.Ytlginmnmobkbhaa
