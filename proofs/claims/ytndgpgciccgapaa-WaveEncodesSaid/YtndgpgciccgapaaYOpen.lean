/-
  A pulse that came in, opened.
-/
import Derived.Test.YtndgpgciccgapaaVFlat
namespace Go.Proofs.Ytndgpgciccgapaa
open Go.RowKit Go.WideShapes Go.ChangeShapes Go.Joins

set_option maxRecDepth 100000 in
theorem open_pulse {H : Type} {enc : TypeId × Value → H} {W : World} {b : Nat} {v : Value} {d : DataW H} {ps : List MemPlace}
    (hok : Value.okWide Try.prog W .any b 80 v) (h : DataW.Trod enc Try.prog W 0 (fun _ => true) true 80 v d ps) :
    ∃ t a b c d A n cp zs, v = .agg #[.int .i64 t, .int .i64 a, .int .i64 b, .int .i64 c, .int .i64 d, .slice A n cp] ∧ IW W W.heap.size (.slice A n cp) zs := by
  obtain ⟨cs, rfl, hsz⟩ := okWide_struct Try.underlying80 hok
  have h6 : Try.prog.cellsOf 80 = 6 := by kernel_rfl
  rw [h6] at hsz
  obtain ⟨fuel, hf⟩ := h
  have int_at : ∀ j, leaf Try.prog 4 80 j = some 3 → ∃ x, cs[j]? = some (.int .i64 x) := by
    intro j hj
    obtain ⟨fuel', cs', x', h1, h2⟩ := leaf_reads 4 _ j _ fuel _ _ hj hf
    obtain ⟨x, e0, _, _⟩ := DataW.trod_int Try.underlying3 h1
    subst e0
    refine ⟨x, ?_⟩
    have : (Value.agg cs).cells.toList[j]? = some (.int .i64 x) := by simpa using h2.symm
    simpa [Value.cells] using this
  obtain ⟨t, e0⟩ := int_at 0 (by kernel_rfl)
  obtain ⟨a, e1⟩ := int_at 1 (by kernel_rfl)
  obtain ⟨bb, e2⟩ := int_at 2 (by kernel_rfl)
  obtain ⟨c, e3⟩ := int_at 3 (by kernel_rfl)
  obtain ⟨dd, e4⟩ := int_at 4 (by kernel_rfl)
  obtain ⟨fuel', cs', x', h1, h2⟩ := leaf_reads 4 _ 5 43 fuel _ _ (by kernel_rfl) hf
  have hsl : ∃ A n cp, cs' = [.slice A n cp] := by
    rcases open_ints Try.underlying43 Try.underlying3 cellsI h1 with ⟨hcs, _⟩ | ⟨a, len', cap', zs, hcs, _⟩
    · exact ⟨_, _, _, hcs⟩
    · exact ⟨_, _, _, hcs⟩
  obtain ⟨A, n, cp, rfl⟩ := hsl
  obtain ⟨zs, _, hz⟩ := open_numbers_cs h1
  have e5 : cs[5]? = some (.slice A n cp) := by
    have : (Value.agg cs).cells.toList[5]? = some (.slice A n cp) := by simpa using h2.symm
    simpa [Value.cells] using this
  refine ⟨t, a, bb, c, dd, A, n, cp, zs, ?_, hz⟩
  congr 1
  apply Array.ext_getElem?
  intro i
  by_cases hi : i < 6
  · have : i = 0 ∨ i = 1 ∨ i = 2 ∨ i = 3 ∨ i = 4 ∨ i = 5 := by omega
    rcases this with rfl | rfl | rfl | rfl | rfl | rfl <;> simp [e0, e1, e2, e3, e4, e5]
  · rw [Array.getElem?_eq_none (by omega), Array.getElem?_eq_none (by simp; omega)]
end Go.Proofs.Ytndgpgciccgapaa
