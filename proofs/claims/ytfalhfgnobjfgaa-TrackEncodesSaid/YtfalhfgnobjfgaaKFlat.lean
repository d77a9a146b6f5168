/-
  Values that came in and are made of numbers alone, however nested: opened.
-/
import Derived.Test.YtfalhfgnobjfgaaKMem
import Derived.OpenShut
import Derived.Deep.DrawnRows
namespace Go.Proofs.Ytfalhfgnobjfgaa
open Go.RowKit Go.WideShapes Go.ChangeShapes Go.Joins

theorem AllI.nil_ : AllI [] := fun _ h => absurd h (by simp)

/-- The leaf at a cell of a type. -/
def leaf (P : Program) : Nat → TypeId → Nat → Option TypeId
  | 0, _, _ => none
  | F + 1, t, j =>
    match P.underlying t with
    | some (.struct fs) =>
      match fs.toList.find? fun f => decide (f.offset ≤ j) && decide (j < f.offset + P.cellsOf f.type) with
      | some f => leaf P F f.type (j - f.offset)
      | none => none
    | some (.array n e) => if j / P.cellsOf e < n ∧ 0 < P.cellsOf e then leaf P F e (j % P.cellsOf e) else none
    | _ => if j = 0 then some t else none

theorem leaf_reads {H : Type} {enc : TypeId × Value → H} {P : Program} {W : World} {base : Nat} {sp : Nat → Bool} {hd : Bool} :
    ∀ (F : Nat) (t : TypeId) (j : Nat) (u : TypeId) (fuel : Nat) (cs : List Value) (x : DataW H × List MemPlace), leaf P F t j = some u → DataW.trod enc P W base sp hd fuel t cs = some x →
      ∃ (fuel' : Nat) (cs' : List Value) (x' : DataW H × List MemPlace), DataW.trod enc P W base sp hd fuel' u cs' = some x' ∧ cs'[0]? = cs[j]?
  | 0, t, j, u, fuel, cs, x, h, _ => by simp [leaf] at h
  | F + 1, t, j, u, fuel, cs, x, h, hx => by
    unfold leaf at h
    split at h
    · rename_i fs hu
      split at h
      · rename_i f hf
        obtain ⟨xs, n, rfl, rfl, hl, hlen, hfs⟩ := DataW.trod_struct hu hx
        have hmem := List.mem_of_find?_eq_some hf
        have hp := List.find?_some hf
        simp only [Bool.and_eq_true, decide_eq_true_eq] at hp
        obtain ⟨i, hi, rfl⟩ := List.getElem_of_mem hmem
        have hi' : i < fs.size := by simpa using hi
        have h1 := hfs i fs[i] (by simp [hi'])
        rw [List.getElem?_eq_getElem (by omega : i < xs.length)] at h1
        have hp' : fs[i].offset ≤ j ∧ j < fs[i].offset + P.cellsOf fs[i].type := by simpa using hp
        obtain ⟨fuel', cs', x', h2, h3⟩ := leaf_reads F fs[i].type (j - fs[i].offset) u n _ _ (by simpa using h) h1
        refine ⟨fuel', cs', x', h2, h3.trans ?_⟩
        rw [List.getElem?_take, if_pos (by omega), List.getElem?_drop]
        congr 1
        omega
      · cases h
    · rename_i n e hu
      split at h
      · rename_i hn
        obtain ⟨xs, m, rfl, rfl, hl, hlen, hfs⟩ := DataW.trod_array hu hx
        have h1 := hfs (j / P.cellsOf e) hn.1
        rw [List.getElem?_eq_getElem (by omega : j / P.cellsOf e < xs.length)] at h1
        obtain ⟨fuel', cs', x', h2, h3⟩ := leaf_reads F e (j % P.cellsOf e) u m _ _ h h1
        refine ⟨fuel', cs', x', h2, h3.trans ?_⟩
        have := Nat.mod_lt j hn.2
        rw [List.getElem?_take, if_pos (by omega), List.getElem?_drop]
        congr 1
        have := Nat.div_add_mod j (P.cellsOf e)
        rw [Nat.mul_comm] at this
        omega
      · cases h
    · split at h
      · rename_i hj
        subst hj
        injection h with h
        subst h
        exact ⟨fuel, cs, x, hx, rfl⟩
      · cases h

/-- A number. -/
def isI (P : Program) (t : TypeId) : Bool := match P.underlying t with | some (.int .i64) => true | _ => false
theorem isI.eq {P : Program} {t : TypeId} (h : isI P t = true) : P.underlying t = some (.int .i64) := by
  unfold isI at h
  split at h
  · assumption
  · cases h
/-- A type of k numbers. -/
def flatI (P : Program) (t : TypeId) (k : Nat) : Bool :=
  (List.range k).all fun j => match leaf P 8 t j with | some u => isI P u | none => false

theorem flat_cell {H : Type} {enc : TypeId × Value → H} {P : Program} {W : World} {base : Nat} {sp : Nat → Bool} {hd : Bool} {t : TypeId} {k fuel : Nat} {cs : List Value} {x : DataW H × List MemPlace}
    (hf : flatI P t k = true) (hx : DataW.trod enc P W base sp hd fuel t cs = some x) (j : Nat) (hj : j < k) :
    ∃ z : Int, cs[j]? = some (.int .i64 z) ∧ -9223372036854775808 ≤ z ∧ z ≤ 9223372036854775807 := by
  have h := (List.all_eq_true.1 hf) j (List.mem_range.2 hj)
  split at h
  · rename_i u hu
    obtain ⟨fuel', cs', x', h2, h3⟩ := leaf_reads 8 t j u fuel cs x hu hx
    obtain ⟨z, rfl, _, hw⟩ := DataW.trod_int (isI.eq h) h2
    refine ⟨z, by rw [← h3]; rfl, ?_⟩
    exact bounds_i64 hw
  · cases h

theorem flat_ints {H : Type} {enc : TypeId × Value → H} {P : Program} {W : World} {base : Nat} {sp : Nat → Bool} {hd : Bool} {t : TypeId} {k fuel : Nat} {cs : List Value} {x : DataW H × List MemPlace}
    (hf : flatI P t k = true) (hl : cs.length = k) (hx : DataW.trod enc P W base sp hd fuel t cs = some x) :
    ∃ L : List Int, AllI L ∧ L.length = k ∧ cs = L.map (.int .i64) := by
  have h := flat_cell hf hx
  clear hf hx
  subst hl
  induction cs with
  | nil => exact ⟨[], AllI.nil_, rfl, rfl⟩
  | cons c cs ih =>
    obtain ⟨z, hz, hb⟩ := h 0 (by simp)
    obtain ⟨L, hA, hL, rfl⟩ := ih (fun j hj => by
      have := h (j + 1) (by simpa using hj)
      simpa using this)
    simp at hz
    subst hz
    refine ⟨z :: L, ?_, by simp, rfl⟩
    intro y hy
    rcases List.mem_cons.1 hy with rfl | hy
    · exact hb
    · exact hA y hy

theorem okWide_array {P : Program} {w : World} {r : Reach} {base : Nat} {t : TypeId} {v : Value} {n : Nat} {e : TypeId} (ht : P.underlying t = some (.array n e)) (h : Value.okWide P w r base t v) : ∃ cs, v = .agg cs ∧ cs.size = P.cellsOf t := by
  unfold Value.okWide at h
  rw [ht] at h
  obtain ⟨cs, h1, h2, _⟩ := h
  exact ⟨cs, h1, h2⟩

/-- A value of k numbers that came in. -/
theorem open_flat {H : Type} {enc : TypeId × Value → H} {P : Program} {W : World} {t : TypeId} {v : Value} {d : DataW H} {ps : List MemPlace} {k : Nat}
    (hv : ∃ cs, v = .agg cs ∧ cs.size = P.cellsOf t) (hc : P.cellsOf t = k) (hf : flatI P t k = true) (h : DataW.Trod enc P W 0 (fun _ => true) true t v d ps) :
    ∃ L : List Int, AllI L ∧ L.length = k ∧ v = .agg (L.map (.int .i64)).toArray := by
  obtain ⟨cs, rfl, hs⟩ := hv
  obtain ⟨fuel, hx⟩ := h
  obtain ⟨L, hA, hL, he⟩ := flat_ints hf (by simp [Value.cells]; omega) hx
  refine ⟨L, hA, hL, ?_⟩
  simp only [Value.cells] at he
  rw [← he]

theorem list3 {L : List Int} (h : L.length = 3) : ∃ a b c, L = [a, b, c] := by
  match L, h with | [a, b, c], _ => exact ⟨a, b, c, rfl⟩
theorem list4 {L : List Int} (h : L.length = 4) : ∃ a b c d, L = [a, b, c, d] := by
  match L, h with | [a, b, c, d], _ => exact ⟨a, b, c, d, rfl⟩
theorem list6 {L : List Int} (h : L.length = 6) : ∃ a b c d e f, L = [a, b, c, d, e, f] := by
  match L, h with | [a, b, c, d, e, f], _ => exact ⟨a, b, c, d, e, f, rfl⟩
theorem list10 {L : List Int} (h : L.length = 10) : ∃ a b c d e f g i j k, L = [a, b, c, d, e, f, g, i, j, k] := by
  match L, h with | [a, b, c, d, e, f, g, i, j, k], _ => exact ⟨a, b, c, d, e, f, g, i, j, k, rfl⟩
theorem AllI.at_ {L : List Int} (h : AllI L) (j : Nat) : -9223372036854775808 ≤ ith L j ∧ ith L j ≤ 9223372036854775807 := by
  by_cases hj : j < L.length
  · exact h _ (ith_mem hj)
  · simp [ith, hj]

/-- A slice of records of k numbers each. -/
theorem open_records {H : Type} {enc : TypeId × Value → H} {P : Program} {W : World} {b : Nat} {t e : TypeId} {v : Value} {d : DataW H} {ps : List MemPlace} {k : Nat} (hu : P.underlying t = some (.slice e)) (hk : 0 < k)
    (hce : P.cellsOf e = k) (hf : flatI P e k = true) (hok : Value.okWide P W .any b t v) (h : DataW.Trod enc P W 0 (fun _ => true) true t v d ps) :
    ∃ A n c L, v = .slice A n c ∧ AllI L ∧ IR W W.heap.size k (.slice A n c) n L := by
  obtain ⟨a0, n, c, rfl⟩ := WideShapes.okWide_slice hu hok
  obtain ⟨fuel, hf0⟩ := h
  have hf1 : DataW.trod enc P W 0 (fun _ => true) true fuel t [.slice a0 n c] = some (d, ps) := by simpa [Value.cells] using hf0
  rcases Go.Deep.open_slice hu hf1 with ⟨hcs, _⟩ | ⟨a, len, cap, m, k', D, Pl, hcs, hb, hl, hm, hmm, hx, hel⟩
  · simp only [List.cons.injEq, and_true] at hcs
    rw [hcs]
    injection hcs with e1 e2 e3
    subst e2
    exact ⟨_, _, _, [], rfl, AllI.nil_, none, 0, rfl, by simp, Nat.le_refl _, by simp [maxLen], fun h => absurd h (by omega)⟩
  · simp only [List.cons.injEq, and_true] at hcs
    injection hcs with e1 e2 e3
    subst e1 e2 e3
    have hz : ∀ i q, i < n → q < k → ∃ z : Int, W.cell? (a.add (i * k + q)) = some (.int .i64 z) ∧ -9223372036854775808 ≤ z ∧ z ≤ 9223372036854775807 := by
      intro i q hi hq
      obtain ⟨cs', h1, h2⟩ := hel i (by rw [hmm]; split <;> omega)
      rw [hce] at h1
      obtain ⟨_, hlen, hcell⟩ := World.cells?_some h1
      obtain ⟨z, hz, hb⟩ := flat_cell hf h2 q hq
      refine ⟨z, ?_, hb⟩
      rw [← hz, ← hcell q hq, Go.Deep.add_add]
    have hz2 : ∀ j, j < n * k → ∃ z : Int, W.cell? (a.add j) = some (.int .i64 z) ∧ -9223372036854775808 ≤ z ∧ z ≤ 9223372036854775807 := by
      intro j hj
      have h1 := hz (j / k) (j % k) (Nat.div_lt_of_lt_mul (by rw [Nat.mul_comm]; exact hj)) (Nat.mod_lt _ hk)
      rwa [Nat.mul_comm, Nat.div_add_mod] at h1
    obtain ⟨f, hfz⟩ : ∃ f : Nat → Int, ∀ j, j < n * k → W.cell? (a.add j) = some (.int .i64 (f j)) ∧ -9223372036854775808 ≤ f j ∧ f j ≤ 9223372036854775807 :=
      ⟨fun j => if hj : j < n * k then (hz2 j hj).choose else 0, fun j hj => by simp only [dif_pos hj]; exact (hz2 j hj).choose_spec⟩
    refine ⟨_, _, _, (List.range (n * k)).map f, rfl, ?_, some a, c, rfl, by simp, hl, hm, fun hn => ?_⟩
    · intro y hy
      obtain ⟨j, hj, rfl⟩ := List.mem_map.1 hy
      exact (hfz j (List.mem_range.1 hj)).2
    · have h0 : 0 < n * k := Nat.mul_pos hn hk
      have hsp : a.spot = none := by simpa [Addr.add] using World.cell?_spot (hfz 0 h0).1
      obtain ⟨bb, off, spot⟩ := a
      simp only at hsp
      subst hsp
      refine ⟨bb, off, rfl, World.block_lt_of_cell? _ _ (hfz 0 h0).1, fun j hj => ?_⟩
      have := (hfz j hj).1
      rw [Go.WideShapes.add_plain] at this
      rw [this]
      simp [ith, hj]
end Go.Proofs.Ytfalhfgnobjfgaa
