/-
  A record of navigation that came in, opened.
-/
import Derived.Test.YtfalhfgnobjfgaaKFlat
namespace Go.Proofs.Ytfalhfgnobjfgaa
open Go.RowKit Go.WideShapes Go.ChangeShapes Go.Joins

theorem ints_of : ∀ (cs : List Value), (∀ j, j < cs.length → ∃ z : Int, cs[j]? = some (.int .i64 z) ∧ -9223372036854775808 ≤ z ∧ z ≤ 9223372036854775807) → ∃ L : List Int, AllI L ∧ L.length = cs.length ∧ cs = L.map (.int .i64)
  | [], _ => ⟨[], AllI.nil_, rfl, rfl⟩
  | c :: cs, h => by
    obtain ⟨z, hz, hb⟩ := h 0 (by simp)
    obtain ⟨L, hA, hL, hcs⟩ := ints_of cs (fun j hj => by
      have := h (j + 1) (by simpa using hj)
      simpa using this)
    simp at hz
    subst hz
    refine ⟨z :: L, ?_, by simp [hL], by rw [hcs]; rfl⟩
    intro y hy
    rcases List.mem_cons.1 hy with rfl | hy
    · exact hb
    · exact hA y hy

theorem leafNav : ∀ j : Nat, 0 < j → j < 14 → leaf Try.prog 8 29 j = some 3
  | 0, h, _ => absurd h (by omega)
  | 1, _, _ => by kernel_rfl
  | 2, _, _ => by kernel_rfl
  | 3, _, _ => by kernel_rfl
  | 4, _, _ => by kernel_rfl
  | 5, _, _ => by kernel_rfl
  | 6, _, _ => by kernel_rfl
  | 7, _, _ => by kernel_rfl
  | 8, _, _ => by kernel_rfl
  | 9, _, _ => by kernel_rfl
  | 10, _, _ => by kernel_rfl
  | 11, _, _ => by kernel_rfl
  | 12, _, _ => by kernel_rfl
  | 13, _, _ => by kernel_rfl
  | k + 14, _, h => absurd h (by omega)

set_option maxRecDepth 100000 in
theorem open_nav {H : Type} {enc : TypeId × Value → H} {W : World} {b : Nat} {v : Value} {d : DataW H} {ps : List MemPlace}
    (hok : Value.okWide Try.prog W .any b 29 v) (h : DataW.Trod enc Try.prog W 0 (fun _ => true) true 29 v d ps) :
    ∃ (s : Bool) (t x y z e q0 q1 q2 q3 tl sc nv er : Int), AllI [t, x, y, z, e, q0, q1, q2, q3, tl, sc, nv, er] ∧ v = .agg #[.bool s, .int .i64 t, .int .i64 x, .int .i64 y, .int .i64 z, .int .i64 e, .int .i64 q0, .int .i64 q1, .int .i64 q2, .int .i64 q3, .int .i64 tl, .int .i64 sc, .int .i64 nv, .int .i64 er] := by
  obtain ⟨cs, rfl, hs⟩ := okWide_struct Try.underlying29 hok
  obtain ⟨fuel, hx⟩ := h
  have hs1 : cs.size = 14 := hs.trans (by kernel_rfl)
  have h0 : ∃ s, cs[0]? = some (.bool s) := by
    obtain ⟨fuel', cs', x', h2, h3⟩ := leaf_reads 8 29 0 4 fuel _ _ (by kernel_rfl) hx
    obtain ⟨s, rfl, _⟩ := DataW.trod_bool Try.underlying4 h2
    exact ⟨s, by simpa [Value.cells] using h3.symm⟩
  have hj : ∀ j, 0 < j → j < 14 → ∃ z : Int, cs[j]? = some (.int .i64 z) ∧ -9223372036854775808 ≤ z ∧ z ≤ 9223372036854775807 := by
    intro j hj0 hj
    obtain ⟨fuel', cs', x', h2, h3⟩ := leaf_reads 8 29 j 3 fuel _ _ (leafNav j hj0 hj) hx
    obtain ⟨z, rfl, _, hw⟩ := DataW.trod_int Try.underlying3 h2
    exact ⟨z, by simpa [Value.cells] using h3.symm, bounds_i64 hw⟩
  obtain ⟨l⟩ := cs
  obtain ⟨s, hs0⟩ := h0
  cases l with
  | nil => simp at hs1
  | cons c0 l' =>
    have hl : l'.length = 13 := by simpa using hs1
    simp at hs0
    subst hs0
    obtain ⟨L, hA, hL, rfl⟩ := ints_of l' (fun j hj' => by
      have := hj (j + 1) (by omega) (by omega)
      simpa using this)
    rw [List.length_map] at hl
    match L, hl, hA with
    | [t, x, y, z, e, q0, q1, q2, q3, tl, sc, nv, er], _, hA => exact ⟨s, t, x, y, z, e, q0, q1, q2, q3, tl, sc, nv, er, hA, rfl⟩
end Go.Proofs.Ytfalhfgnobjfgaa
