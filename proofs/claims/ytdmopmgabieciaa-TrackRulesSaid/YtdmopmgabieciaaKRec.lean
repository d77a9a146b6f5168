/-
  Records of ten numbers: fixes.
-/
import Derived.Test.YtdmopmgabieciaaKFix
import Derived.Deep.RegionHeld3
namespace Go.Proofs.Ytdmopmgabieciaa
open Go.RowKit

/-- The number at a place of a record of ten. -/
def fx (L : List Int) (k j : Nat) : Int := ith L (k * 10 + j)
def okF (L : List Int) (k : Nat) : Prop := okFix (fx L k 0) (fx L k 1) (fx L k 2) (fx L k 3) (fx L k 4) (fx L k 5) (fx L k 6) (fx L k 7) (fx L k 8) (fx L k 9)
instance (L : List Int) (k : Nat) : Decidable (okF L k) := by unfold okF; infer_instance
def okStep (L : List Int) (gap : Int) (k : Nat) : Prop := k = 0 ∨ (1 ≤ fx L k 0 - fx L (k - 1) 0 ∧ fx L k 0 - fx L (k - 1) 0 ≤ gap)
instance (L : List Int) (gap : Int) (k : Nat) : Decidable (okStep L gap k) := by unfold okStep; infer_instance
def VP (L : List Int) (n : Nat) (gap : Int) : Prop := 0 < n ∧ ∀ k, k < n → okF L k ∧ okStep L gap k
instance (L : List Int) (n : Nat) (gap : Int) : Decidable (VP L n gap) := by unfold VP; infer_instance

structure R10 (wr : World) (b p : Nat) (L : List Int) (k : Nat) : Prop where
  c0 : wr.cell? ⟨b, p, none⟩ = some (.int .i64 (fx L k 0))
  c1 : wr.cell? ⟨b, p + 1, none⟩ = some (.int .i64 (fx L k 1))
  c2 : wr.cell? ⟨b, p + 2, none⟩ = some (.int .i64 (fx L k 2))
  c3 : wr.cell? ⟨b, p + 3, none⟩ = some (.int .i64 (fx L k 3))
  c4 : wr.cell? ⟨b, p + 4, none⟩ = some (.int .i64 (fx L k 4))
  c5 : wr.cell? ⟨b, p + 5, none⟩ = some (.int .i64 (fx L k 5))
  c6 : wr.cell? ⟨b, p + 6, none⟩ = some (.int .i64 (fx L k 6))
  c7 : wr.cell? ⟨b, p + 7, none⟩ = some (.int .i64 (fx L k 7))
  c8 : wr.cell? ⟨b, p + 8, none⟩ = some (.int .i64 (fx L k 8))
  c9 : wr.cell? ⟨b, p + 9, none⟩ = some (.int .i64 (fx L k 9))
theorem ir_ten {w : World} {B n c : Nat} {A : Option Addr} {L : List Int} (h : IR w B 10 (.slice A n c) n L) (hn : 0 < n) : ∃ b o, A = some ⟨b, o, none⟩ ∧ b < B ∧ ∀ k, k < n → R10 w b (o + k * 10) L k := by
  obtain ⟨A', c', e, h0, h1, h2, h3⟩ := h
  injection e with e1 e2 e3
  subst e1 e3
  obtain ⟨b, o, ha, hb, hc⟩ := h3 hn
  refine ⟨b, o, ha, hb, fun k hk => ⟨?_, ?_, ?_, ?_, ?_, ?_, ?_, ?_, ?_, ?_⟩⟩
  · exact hc (k * 10) (by omega)
  all_goals (rw [Nat.add_assoc]; exact hc _ (by omega))
theorem IR.cap' {w : World} {B n c k : Nat} {A : Option Addr} {L : List Int} (h : IR w B k (.slice A n c) n L) : n ≤ c ∧ c ≤ maxLen := by
  obtain ⟨A', c', e, h0, h1, h2, h3⟩ := h
  injection e with e1 e2 e3
  subst e3
  exact ⟨h1, h2⟩
theorem R10.below {w wr : World} {b p k B : Nat} {L : List Int} (h : R10 w b p L k) (hb : Below B w wr) (hB : b < B) : R10 wr b p L k :=
  ⟨(hb.cell (p := ⟨b, p, none⟩) hB).trans h.c0, (hb.cell (p := ⟨b, p + 1, none⟩) hB).trans h.c1, (hb.cell (p := ⟨b, p + 2, none⟩) hB).trans h.c2, (hb.cell (p := ⟨b, p + 3, none⟩) hB).trans h.c3, (hb.cell (p := ⟨b, p + 4, none⟩) hB).trans h.c4,
   (hb.cell (p := ⟨b, p + 5, none⟩) hB).trans h.c5, (hb.cell (p := ⟨b, p + 6, none⟩) hB).trans h.c6, (hb.cell (p := ⟨b, p + 7, none⟩) hB).trans h.c7, (hb.cell (p := ⟨b, p + 8, none⟩) hB).trans h.c8, (hb.cell (p := ⟨b, p + 9, none⟩) hB).trans h.c9⟩
/-- The cells of a record. -/
def rec10 (L : List Int) (k : Nat) : Array Value := #[.int .i64 (fx L k 0), .int .i64 (fx L k 1), .int .i64 (fx L k 2), .int .i64 (fx L k 3), .int .i64 (fx L k 4), .int .i64 (fx L k 5), .int .i64 (fx L k 6), .int .i64 (fx L k 7), .int .i64 (fx L k 8), .int .i64 (fx L k 9)]
theorem ten_new (w w1 : World) (L : List Int) (k : Nat) (T : TypeId) (h : Below (w.alloc (.cells (rec10 L k) T)).heap.size (w.alloc (.cells (rec10 L k) T)) w1) : R10 w1 w.heap.size 0 L k :=
  have hG := heap_alloc_new w (.cells (rec10 L k) T)
  ⟨blk_cell hG h 0 _ rfl, blk_cell hG h 1 _ rfl, blk_cell hG h 2 _ rfl, blk_cell hG h 3 _ rfl, blk_cell hG h 4 _ rfl, blk_cell hG h 5 _ rfl, blk_cell hG h 6 _ rfl, blk_cell hG h 7 _ rfl, blk_cell hG h 8 _ rfl, blk_cell hG h 9 _ rfl⟩

theorem box10 (w : World) (L : List Int) (k : Nat) (T : TypeId) : ∃ V, Hid (V = w.alloc (.cells #[.int .i64 (fx L k 0), .int .i64 (fx L k 1), .int .i64 (fx L k 2), .int .i64 (fx L k 3), .int .i64 (fx L k 4), .int .i64 (fx L k 5), .int .i64 (fx L k 6), .int .i64 (fx L k 7), .int .i64 (fx L k 8), .int .i64 (fx L k 9)] T)) ∧ Hid (Below w.heap.size w V) ∧ Hid (R10 V w.heap.size 0 L k) ∧ Hid (w.heap.size < V.heap.size) :=
  ⟨_, rfl, (Below.refl _ _).alloc (Nat.le_refl _) _, ten_new w _ L k T (Below.refl _ _), (by show w.heap.size < (w.alloc _).heap.size; simp)⟩
theorem R10.ands {w' : World} {g : Nat} {L : List Int} {k : Nat} (h : R10 w' g 0 L k) : w'.cell? ⟨g, 0, none⟩ = some (.int .i64 (fx L k 0)) ∧ w'.cell? ⟨g, 1, none⟩ = some (.int .i64 (fx L k 1)) ∧ w'.cell? ⟨g, 2, none⟩ = some (.int .i64 (fx L k 2)) ∧ w'.cell? ⟨g, 3, none⟩ = some (.int .i64 (fx L k 3)) ∧ w'.cell? ⟨g, 4, none⟩ = some (.int .i64 (fx L k 4)) ∧ w'.cell? ⟨g, 5, none⟩ = some (.int .i64 (fx L k 5)) ∧ w'.cell? ⟨g, 6, none⟩ = some (.int .i64 (fx L k 6)) ∧ w'.cell? ⟨g, 7, none⟩ = some (.int .i64 (fx L k 7)) ∧ w'.cell? ⟨g, 8, none⟩ = some (.int .i64 (fx L k 8)) ∧ w'.cell? ⟨g, 9, none⟩ = some (.int .i64 (fx L k 9)) := by
  obtain ⟨c0, c1, c2, c3, c4, c5, c6, c7, c8, c9⟩ := h
  simp only [Nat.zero_add] at c1 c2 c3 c4 c5 c6 c7 c8 c9
  exact ⟨c0, c1, c2, c3, c4, c5, c6, c7, c8, c9⟩
theorem validFixR (L : List Int) (k : Nat) (w : World) : Calls Try.prog 32 #[.agg #[.int .i64 (fx L k 0), .int .i64 (fx L k 1), .int .i64 (fx L k 2), .int .i64 (fx L k 3), .int .i64 (fx L k 4), .int .i64 (fx L k 5), .int .i64 (fx L k 6), .int .i64 (fx L k 7), .int .i64 (fx L k 8), .int .i64 (fx L k 9)]] w (RetB w (decide (okF L k))) := by
  have h := validFix_any (fx L k 0) (fx L k 1) (fx L k 2) (fx L k 3) (fx L k 4) (fx L k 5) (fx L k 6) (fx L k 7) (fx L k 8) (fx L k 9) w
  rwa [show decide (okFix (fx L k 0) (fx L k 1) (fx L k 2) (fx L k 3) (fx L k 4) (fx L k 5) (fx L k 6) (fx L k 7) (fx L k 8) (fx L k 9)) = decide (okF L k) from decide_eq_decide.2 Iff.rfl] at h
theorem refValidFixR (L : List Int) (k : Nat) (w : World) : Calls Try.prog 33 #[.agg #[.int .i64 (fx L k 0), .int .i64 (fx L k 1), .int .i64 (fx L k 2), .int .i64 (fx L k 3), .int .i64 (fx L k 4), .int .i64 (fx L k 5), .int .i64 (fx L k 6), .int .i64 (fx L k 7), .int .i64 (fx L k 8), .int .i64 (fx L k 9)]] w (RetB w (decide (okF L k))) := by
  have h := refValidFix_any (fx L k 0) (fx L k 1) (fx L k 2) (fx L k 3) (fx L k 4) (fx L k 5) (fx L k 6) (fx L k 7) (fx L k 8) (fx L k 9) w
  rwa [show decide (okFix (fx L k 0) (fx L k 1) (fx L k 2) (fx L k 3) (fx L k 4) (fx L k 5) (fx L k 6) (fx L k 7) (fx L k 8) (fx L k 9)) = decide (okF L k) from decide_eq_decide.2 Iff.rfl] at h

end Go.Proofs.Ytdmopmgabieciaa
