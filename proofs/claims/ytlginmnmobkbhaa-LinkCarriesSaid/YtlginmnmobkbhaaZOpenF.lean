/-
  A frame that came in, opened.
-/
import Derived.Test.YtlginmnmobkbhaaZApp
namespace Go.Proofs.Ytlginmnmobkbhaa
open Go.RowKit Go.WideShapes Go.ChangeShapes Go.Joins

set_option maxRecDepth 100000 in
theorem cellsFr : Try.prog.cellsOf 35 = 3 := by kernel_rfl

set_option maxRecDepth 100000 in
theorem open_bytesRB_cell {H : Type} {enc : TypeId × Value → H} {W : World} {base fuel : Nat} {v : Value} {x : DataW H × List MemPlace}
    (hf : DataW.trod enc Try.prog W base (fun _ => true) true fuel 33 [v] = some x) :
    ∃ A n c L, v = .slice A n c ∧ AllB L ∧ RB W W.heap.size (.slice A n c) L := by
  have hform : ∃ A n c, v = .slice A n c := by
    rcases open_ints Try.underlying33 Try.underlying5 cellsB hf with ⟨hcs, hx⟩ | ⟨a, len', cap', zs, hcs, _⟩
    · simp only [List.cons.injEq, and_true] at hcs
      exact ⟨_, _, _, hcs⟩
    · simp only [List.cons.injEq, and_true] at hcs
      exact ⟨_, _, _, hcs⟩
  obtain ⟨A, n, c, rfl⟩ := hform
  obtain ⟨L, h1, h2⟩ := open_bytesRB_cs hf
  exact ⟨A, n, c, L, rfl, h1, h2⟩

set_option maxRecDepth 100000 in
theorem open_frame {H : Type} {enc : TypeId × Value → H} {W : World} {b : Nat} {v : Value} {d : DataW H} {ps : List MemPlace}
    (hok : Value.okWide Try.prog W .any b 35 v) (h : DataW.Trod enc Try.prog W 0 (fun _ => true) true 35 v d ps) :
    ∃ st sq A n c L, v = .agg #[.int .i64 st, .int .i64 sq, .slice A n c] ∧ AllB L ∧ RB W W.heap.size (.slice A n c) L := by
  obtain ⟨c0, c1, c2, y0, y1, y3, m, rfl, rfl, rfl, hy0, hy1, hy3⟩ := open_agg3 Try.underlying35 (by kernel_rfl) cellsFr hok h
  obtain ⟨st, e0, rfl, wst⟩ := DataW.trod_int Try.underlying3 hy0
  obtain ⟨sq, e1, rfl, wsq⟩ := DataW.trod_int Try.underlying3 hy1
  simp at e0 e1
  subst e0 e1
  obtain ⟨A0, n0, c0, X0, rfl, hB0, hx0⟩ := open_bytesRB_cell hy3
  exact ⟨st, sq, A0, n0, c0, X0, rfl, hB0, hx0⟩
end Go.Proofs.Ytlginmnmobkbhaa
