/-
  Lists of records of numbers: slices that a call has made, slices that read as such a list.
-/
import Derived.Test.YtndgpgciccgapaaVMem
import Derived.Laws.AppendOwn
import Derived.Laws.AppendOwnNone
import Derived.Maps.AppendAt
import Derived.Laws.OwnMore
import Derived.Deep.DrawnRows
import Derived.WalkMore
namespace Go.Proofs.Ytndgpgciccgapaa
open Go.RowKit

theorem built_cellsV (w : World) (cs : Array Value) (e : TypeId) (j : Nat) (v : Value) (h : cs[j]? = some v) : (w.alloc (.cells cs e)).cell? ⟨w.heap.size, j, none⟩ = some v := by
  rw [cell_of_row _ _ j cs e (0, 0) (heap_alloc_new w _), h]
theorem add_noneV (b o j : Nat) : (⟨b, o, none⟩ : Addr).add j = ⟨b, o + j, none⟩ := by
  unfold Addr.add
  by_cases h : j = 0
  · subst h; rfl
  · rw [if_neg h]
theorem grown_belowB {base : Nat} {w wr w1 : World} {row : Option Nat} (hb : Below base w wr) (hbs : base ≤ w.heap.size) (hg : wr.grownBy w1 row) (h : ∀ k, row = some k → base ≤ k) : Below base w w1 :=
  hb.trans ⟨hg.os, hg.tape, hg.output, hg.size, fun k hk => hg.block k (Nat.lt_of_lt_of_le hk (Nat.le_trans hbs hb.size)) (fun e => by have := h _ e.symm; omega)⟩
theorem grown_of_below {w w' : World} (h : Below w.heap.size w w') (row : Option Nat) : w.grownBy w' row := ⟨h.os, h.tape, h.output, h.size, fun k hk _ => h.block k hk⟩

/-- The cells of numbers. -/
def ints (l : List Int) : List Value := l.map (Value.int .i64)
theorem ints_append (a b : List Int) : ints (a ++ b) = ints a ++ ints b := by simp [ints]
theorem ints_len (a : List Int) : (ints a).length = a.length := by simp [ints]

theorem fm_len {α : Type} {enc : α → List Int} {k : Nat} (hk : ∀ a, (enc a).length = k) : ∀ R : List α, (R.flatMap enc).length = R.length * k
  | [] => by simp
  | a :: R => by simp only [List.flatMap_cons, List.length_append, List.length_cons]; rw [fm_len hk R, hk, Nat.succ_mul, Nat.add_comm]
theorem fm_get {α : Type} {enc : α → List Int} {k : Nat} (hk : ∀ a, (enc a).length = k) : ∀ (R : List α) (i j : Nat) (hi : i < R.length), j < k → (R.flatMap enc)[i * k + j]? = (enc (R[i]'hi))[j]?
  | [], i, j, hi, _ => by simp at hi
  | a :: R, 0, j, _, hj => by
    simp only [List.flatMap_cons, Nat.zero_mul, Nat.zero_add, List.getElem_cons_zero]
    rw [List.getElem?_append_left (by rw [hk]; exact hj)]
  | a :: R, i + 1, j, hi, hj => by
    simp only [List.flatMap_cons, List.getElem_cons_succ]
    rw [List.getElem?_append_right (by rw [hk, Nat.succ_mul]; omega), hk]
    have e : (i + 1) * k + j - k = i * k + j := by rw [Nat.succ_mul]; omega
    rw [e]
    exact fm_get hk R i j (by simpa using hi) hj

/-- v is a list of records of the call's own, which reads as R. -/
def SL {α : Type} (enc : α → List Int) (k : Nat) (e : TypeId) (w : World) (base : Nat) (v : Value) (R : List α) : Prop := w.ownsRow base e k v R.length (ints (R.flatMap enc))
section
variable {α : Type} {enc : α → List Int} {k : Nat} {e : TypeId} {w w' : World} {base base' : Nat} {v v' : Value} {R : List α}
theorem SL.nil_ (enc : α → List Int) (k : Nat) (e : TypeId) (w : World) (base : Nat) : SL enc k e w base (.slice none 0 0) [] := World.ownsRow_nil _ _ _ _
theorem SL.below (h : SL enc k e w base v R) (hb : Below w.heap.size w w') : SL enc k e w' base v R := World.ownsRow.kept h (grown_of_below hb none) (by cases v.ownBlock <;> simp)
theorem SL.belowN {n : Nat} (h : SL enc k e w base v R) (hb : Below n w w') (hv : ∀ b, v.ownBlock = some b → b < n) : SL enc k e w' base v R := by
  obtain ⟨h1, h2⟩ := h
  refine ⟨h1, ?_⟩
  rcases h2 with h | ⟨g, cap, cur, rfl, b, c, d⟩
  · exact .inl h
  · exact .inr ⟨g, cap, cur, rfl, b, (hb.block g (hv g rfl)).trans c, d⟩
theorem SL.more (h : SL enc k e w base v R) (hb : base' ≤ base) : SL enc k e w base' v R := by
  obtain ⟨h1, h2⟩ := h
  refine ⟨h1, ?_⟩
  rcases h2 with h | ⟨g, cap, cur, a, b, c⟩
  · exact .inl h
  · exact .inr ⟨g, cap, cur, a, by omega, c⟩
theorem SL.drew (h : SL enc k e w base v R) : SL enc k e w.drew base v R := h
theorem SL.lt (h : SL enc k e w base v R) : ∀ b, v.ownBlock = some b → base ≤ b ∧ b < w.heap.size := fun b hb => World.ownsRow.lt h b hb
theorem SL.form (h : SL enc k e w base v R) : (v = .slice none 0 0 ∧ R = []) ∨ ∃ g c, v = .slice (some ⟨g, 0, none⟩) R.length c ∧ base ≤ g ∧ g < w.heap.size ∧ R.length ≤ c ∧ c ≤ maxLen := by
  have hl := h.lt
  rcases h.2 with ⟨h1, h2⟩ | ⟨g, cap, cur, h1, h2, h3, h4, h5, _⟩
  · exact .inl ⟨h1, List.eq_nil_of_length_eq_zero h2⟩
  · exact .inr ⟨g, cap, h1, h2, (hl g (by rw [h1]; rfl)).2, h4, h5⟩
theorem SL.cell (hk : ∀ a, (enc a).length = k) {g n c : Nat} (h : SL enc k e w base (.slice (some ⟨g, 0, none⟩) n c) R) {i j : Nat} (hi : i < R.length) (hj : j < k) : w.cell? ⟨g, i * k + j, none⟩ = (ints (enc (R[i]'hi)))[j]? := by
  have hn : n = R.length := by
    rcases h.2 with ⟨h1, _⟩ | ⟨g, cap, cur, h1, _⟩
    · cases h1
    · injection h1
  subst hn
  have hb : i * k + j < R.length * k := Nat.lt_of_lt_of_le (Nat.add_lt_add_left hj _) (by rw [← Nat.succ_mul]; exact Nat.mul_le_mul_right k hi)
  rw [World.ownsRow.cellAt h _ hb, ints, List.getElem?_map, fm_get hk R i j hi hj, ints, List.getElem?_map]
theorem SL.frozen {g n c : Nat} (h : SL enc k e w base (.slice (some ⟨g, 0, none⟩) n c) R) (j : Nat) : w.frozen? ⟨g, j, none⟩ = false := by
  rcases h.2 with ⟨h', _⟩ | ⟨g', cap', cur, h', _, hg, _⟩
  · cases h'
  · injection h' with h1 h2 h3
    injection h1 with h1
    injection h1 with h1
    subst h1
    exact frozen_of_row w g j cur e hg
/-- Behind an append of one record. -/
theorem SL.appended {a : α} (ho : w'.ownsRow base e k v' (R.length + 1) (ints (R.flatMap enc) ++ ints (enc a))) : SL enc k e w' base v' (R ++ [a]) := by
  unfold SL
  have e1 : (R ++ [a]).length = R.length + 1 := by simp
  have e2 : ints ((R ++ [a]).flatMap enc) = ints (R.flatMap enc) ++ ints (enc a) := by rw [← ints_append]; simp
  rw [e1, e2]
  exact ho
theorem SL.grows {wr w1 : World} {n : Nat} {a : α} (h : SL enc k e wr base v R) (hbw : Below n w wr) (hn : n ≤ w.heap.size) (hnb : n ≤ base) (o : Obj) {L : Nat} {F G : List Value} (hL : R.length = L ∧ ints (R.flatMap enc) = F) (hG : ints (enc a) = G)
    (ho : w1.ownsRow base e k v' (L + 1) (F ++ G)) (hg : (wr.alloc o).grownBy w1 v.ownBlock) : SL enc k e w1 base v' (R ++ [a]) ∧ Below n w w1 := by
  obtain ⟨rfl, rfl⟩ := hL
  subst hG
  exact ⟨SL.appended ho, grown_belowB (hbw.alloc (Nat.le_trans hn hbw.size) o) hn hg (fun k hk => Nat.le_trans hnb (h.lt k hk).1)⟩
end

theorem two_cells (w : World) (e : TypeId) (a b : Int) : ∀ j u, [Value.int .i64 a, .int .i64 b][j]? = some u → (w.alloc (.cells #[.int .i64 a, .int .i64 b] e)).cell? ((⟨w.heap.size, 0, none⟩ : Addr).add j) = some u := by
  intro j u hj
  rw [add_noneV, Nat.zero_add]
  exact built_cellsV w _ e j u (by simpa using hj)
theorem ints_one (l : List Int) : ∀ u ∈ ints l, u.oneCell' = true := by
  intro u hu
  obtain ⟨x, _, rfl⟩ := List.mem_map.1 hu
  rfl
/-- The cells of a record that was just laid. -/
theorem laid_cells (w : World) (e : TypeId) (l : List Int) : ∀ j u, (ints l)[j]? = some u → (w.alloc (.cells (ints l).toArray e)).cell? ((⟨w.heap.size, 0, none⟩ : Addr).add j) = some u := by
  intro j u hj
  rw [add_noneV, Nat.zero_add]
  exact built_cellsV w _ e j u (by simpa using hj)

/-- A slice that reads as a list of records. -/
def SR {α : Type} (enc : α → List Int) (k : Nat) (w : World) (v : Value) (R : List α) : Prop :=
  ∃ A c, v = .slice A R.length c ∧ R.length ≤ c ∧ c ≤ maxLen ∧ (0 < R.length → ∃ g o, A = some ⟨g, o, none⟩ ∧ g < w.heap.size ∧ ∀ i (h : i < R.length) j, j < k → w.cell? ⟨g, o + (i * k + j), none⟩ = (ints (enc (R[i]'h)))[j]?)
theorem SR.below {α : Type} {enc : α → List Int} {k : Nat} {w w' : World} {v : Value} {R : List α} (h : SR enc k w v R) (hb : Below w.heap.size w w') : SR enc k w' v R := by
  obtain ⟨A, c, h1, h2, h3, h4⟩ := h
  refine ⟨A, c, h1, h2, h3, fun h0 => ?_⟩
  obtain ⟨g, o, e, hg, hc⟩ := h4 h0
  exact ⟨g, o, e, Nat.lt_of_lt_of_le hg hb.size, fun i h j hj => (hb.cell (p := ⟨g, o + (i * k + j), none⟩) hg).trans (hc i h j hj)⟩
theorem SL.slice {α : Type} {enc : α → List Int} {k : Nat} {e : TypeId} {w : World} {base : Nat} {v : Value} {R : List α} (h : SL enc k e w base v R) : ∃ A c, v = .slice A R.length c ∧ (0 < R.length → ∃ g, A = some ⟨g, 0, none⟩ ∧ base ≤ g ∧ g < w.heap.size) ∧ R.length ≤ c ∧ c ≤ maxLen := by
  rcases h.form with ⟨rfl, rfl⟩ | ⟨g, c, rfl, h1, h2, h3, h4⟩
  · exact ⟨none, 0, rfl, fun h => absurd h (by simp), Nat.le_refl _, by simp [maxLen]⟩
  · exact ⟨_, c, rfl, fun _ => ⟨g, rfl, h1, h2⟩, h3, h4⟩
/-- The beginning of a list of the call's own. -/
theorem SL.reads {α : Type} {enc : α → List Int} {k : Nat} {e : TypeId} {w : World} {base g n c m : Nat} {R : List α} (hk : ∀ a, (enc a).length = k) (h : SL enc k e w base (.slice (some ⟨g, 0, none⟩) n c) R) (hm : m ≤ R.length) (hg : g < w.heap.size) (hc : R.length ≤ c ∧ c ≤ maxLen) :
    SR enc k w (.slice (some ⟨g, 0, none⟩) m c) (R.take m) := by
  have hl : (R.take m).length = m := by rw [List.length_take]; omega
  refine ⟨some ⟨g, 0, none⟩, c, by rw [hl], by omega, hc.2, fun _ => ⟨g, 0, rfl, hg, fun i hi j hj => ?_⟩⟩
  rw [hl] at hi
  rw [Nat.zero_add, h.cell hk (by omega) hj]
  simp

end Go.Proofs.Ytndgpgciccgapaa
