/-
  A struct of two spans and four words that came in: opened.
-/
import Derived.Test.YtogklhbodaghdaaZPc
import Derived.Test.YtogklhbodaghdaaCtn
import Derived.Deep.DrawnRows
namespace Go.Proofs.Ytogklhbodaghdaa
open Go.RowKit Go.WideShapes Go.ChangeShapes Go.Joins

/-- The leaf at a cell of a type. -/
def leaf (P : Program) : Nat → TypeId → Nat → Option TypeId
  | 0, _, _ => none
  | F + 1, t, j =>
    match P.underlying t with
    | some (.struct fs) =>
      match fs.toList.find? fun f => decide (f.offset ≤ j) && decide (j < f.offset + P.cellsOf f.type) with
      | some f => leaf P F f.type (j - f.offset)
      | none => none
    | some (.array n e) => if j / P.cellsOf e < n ∧ 0 < P.cellsOf e then leaf P F e (j % P.cellsOf e) else none
    | _ => if j = 0 then some t else none

theorem leaf_reads {H : Type} {enc : TypeId × Value → H} {P : Program} {W : World} {base : Nat} {sp : Nat → Bool} {hd : Bool} :
    ∀ (F : Nat) (t : TypeId) (j : Nat) (u : TypeId) (fuel : Nat) (cs : List Value) (x : DataW H × List MemPlace), leaf P F t j = some u → DataW.trod enc P W base sp hd fuel t cs = some x →
      ∃ (fuel' : Nat) (cs' : List Value) (x' : DataW H × List MemPlace), DataW.trod enc P W base sp hd fuel' u cs' = some x' ∧ cs'[0]? = cs[j]?
  | 0, t, j, u, fuel, cs, x, h, _ => by simp [leaf] at h
  | F + 1, t, j, u, fuel, cs, x, h, hx => by
    unfold leaf at h
    split at h
    · rename_i fs hu
      split at h
      · rename_i f hf
        obtain ⟨xs, n, rfl, rfl, hl, hlen, hfs⟩ := DataW.trod_struct hu hx
        have hmem := List.mem_of_find?_eq_some hf
        have hp := List.find?_some hf
        simp only [Bool.and_eq_true, decide_eq_true_eq] at hp
        obtain ⟨i, hi, rfl⟩ := List.getElem_of_mem hmem
        have hi' : i < fs.size := by simpa using hi
        have h1 := hfs i fs[i] (by simp [hi'])
        rw [List.getElem?_eq_getElem (by omega : i < xs.length)] at h1
        have hp' : fs[i].offset ≤ j ∧ j < fs[i].offset + P.cellsOf fs[i].type := by simpa using hp
        obtain ⟨fuel', cs', x', h2, h3⟩ := leaf_reads F fs[i].type (j - fs[i].offset) u n _ _ (by simpa using h) h1
        refine ⟨fuel', cs', x', h2, h3.trans ?_⟩
        rw [List.getElem?_take, if_pos (by omega), List.getElem?_drop]
        congr 1
        omega
      · cases h
    · rename_i n e hu
      split at h
      · rename_i hn
        obtain ⟨xs, m, rfl, rfl, hl, hlen, hfs⟩ := DataW.trod_array hu hx
        have h1 := hfs (j / P.cellsOf e) hn.1
        rw [List.getElem?_eq_getElem (by omega : j / P.cellsOf e < xs.length)] at h1
        obtain ⟨fuel', cs', x', h2, h3⟩ := leaf_reads F e (j % P.cellsOf e) u m _ _ h h1
        refine ⟨fuel', cs', x', h2, h3.trans ?_⟩
        have := Nat.mod_lt j hn.2
        rw [List.getElem?_take, if_pos (by omega), List.getElem?_drop]
        congr 1
        have := Nat.div_add_mod j (P.cellsOf e)
        rw [Nat.mul_comm] at this
        omega
      · cases h
    · split at h
      · rename_i hj
        subst hj
        injection h with h
        subst h
        exact ⟨fuel, cs, x, hx, rfl⟩
      · cases h

theorem list8 {l : List Value} (h : l.length = 8) : ∃ a b c d e f g i, l = [a, b, c, d, e, f, g, i] := by
  match l, h with
  | [a, b, c, d, e, f, g, i], _ => exact ⟨a, b, c, d, e, f, g, i, rfl⟩
theorem leafParts (j : Nat) (h : j < 4) : leaf Try.prog 8 26 j = some 3 := by
  have h2 : (List.range 4).all (fun j => decide (leaf Try.prog 8 26 j = some 3)) = true := by kernel_rfl
  exact of_decide_eq_true (List.all_eq_true.1 h2 j (List.mem_range.2 h))
theorem leafWords (j : Nat) (h4 : 4 ≤ j) (h : j < 8) : leaf Try.prog 8 26 j = some 24 := by
  have h2 : (List.range 4).all (fun j => decide (leaf Try.prog 8 26 (j + 4) = some 24)) = true := by kernel_rfl
  have := of_decide_eq_true (List.all_eq_true.1 h2 (j - 4) (List.mem_range.2 (by omega)))
  rwa [Nat.sub_add_cancel h4] at this
set_option maxRecDepth 100000 in
theorem open_parts {H : Type} {enc : TypeId × Value → H} {W : World} {b : Nat} {v : Value} {d : DataW H} {ps : List MemPlace}
    (hok : Value.okWide Try.prog W .any b 26 v) (h : DataW.Trod enc Try.prog W 0 (fun _ => true) true 26 v d ps) :
    ∃ al ah bl bh i j k l : Int, (0 ≤ i ∧ i ≤ 4294967295) ∧ (0 ≤ j ∧ j ≤ 4294967295) ∧ (0 ≤ k ∧ k ≤ 4294967295) ∧ (0 ≤ l ∧ l ≤ 4294967295) ∧
      v = .agg #[.int .i64 al, .int .i64 ah, .int .i64 bl, .int .i64 bh, .int .u32 i, .int .u32 j, .int .u32 k, .int .u32 l] := by
  obtain ⟨cs, rfl, hs⟩ := okWide_struct Try.underlying26 hok
  obtain ⟨fuel, hx⟩ := h
  have hs1 : cs.size = 8 := hs.trans (by kernel_rfl)
  have hi : ∀ j, j < 4 → ∃ z : Int, cs[j]? = some (.int .i64 z) := by
    intro j hj
    obtain ⟨fuel', cs', x', h2, h3⟩ := leaf_reads 8 26 j 3 fuel _ _ (leafParts j hj) hx
    obtain ⟨z, rfl, _, hw⟩ := DataW.trod_int Try.underlying3 h2
    exact ⟨z, by simpa [Value.cells] using h3.symm⟩
  have hu : ∀ j, 4 ≤ j → j < 8 → ∃ z : Int, cs[j]? = some (.int .u32 z) ∧ 0 ≤ z ∧ z ≤ 4294967295 := by
    intro j h4 hj
    obtain ⟨fuel', cs', x', h2, h3⟩ := leaf_reads 8 26 j 24 fuel _ _ (leafWords j h4 hj) hx
    obtain ⟨z, rfl, _, hw⟩ := DataW.trod_int Try.underlying24 h2
    exact ⟨z, by simpa [Value.cells] using h3.symm, bounds_u32 hw⟩
  obtain ⟨l⟩ := cs
  obtain ⟨x0, x1, x2, x3, x4, x5, x6, x7, rfl⟩ := list8 (l := l) (by simpa using hs1)
  obtain ⟨al, e0⟩ := hi 0 (by omega)
  obtain ⟨ah, e1⟩ := hi 1 (by omega)
  obtain ⟨bl, e2⟩ := hi 2 (by omega)
  obtain ⟨bh, e3⟩ := hi 3 (by omega)
  obtain ⟨i, e4, b4⟩ := hu 4 (by omega) (by omega)
  obtain ⟨j, e5, b5⟩ := hu 5 (by omega) (by omega)
  obtain ⟨k, e6, b6⟩ := hu 6 (by omega) (by omega)
  obtain ⟨l, e7, b7⟩ := hu 7 (by omega) (by omega)
  simp at e0 e1 e2 e3 e4 e5 e6 e7
  subst e0 e1 e2 e3 e4 e5 e6 e7
  exact ⟨al, ah, bl, bh, i, j, k, l, b4, b5, b6, b7, rfl⟩
end Go.Proofs.Ytogklhbodaghdaa
