/-
  Lists that came in, opened: of frames (with what the numbers are), of slices of bytes.
-/
import Derived.Test.YtlginmnmobkbhaaZOpenF
import Derived.Deep.Slices
namespace Go.Proofs.Ytlginmnmobkbhaa
open Go.RowKit Go.WideShapes Go.ChangeShapes Go.Joins

def FrIW (w : World) (A : Option Addr) (i : Nat) : Prop :=
  ∃ b o st sq A' n' c' X, A = some ⟨b, o, none⟩ ∧ b < w.heap.size ∧ w.cell? ⟨b, o + i * 3, none⟩ = some (.int .i64 st) ∧ w.cell? ⟨b, o + i * 3 + 1, none⟩ = some (.int .i64 sq) ∧ w.cell? ⟨b, o + i * 3 + 2, none⟩ = some (.slice A' n' c') ∧
    (Lit.int .i64 st).wf = true ∧ (Lit.int .i64 sq).wf = true ∧ AllB X ∧ RB w w.heap.size (.slice A' n' c') X

set_option maxRecDepth 100000 in
theorem open_framesW {H : Type} {enc : TypeId × Value → H} {W : World} {b : Nat} {v : Value} {d : DataW H} {ps : List MemPlace}
    (hok : Value.okWide Try.prog W .any b 63 v) (h : DataW.Trod enc Try.prog W 0 (fun _ => true) true 63 v d ps) :
    ∃ A n c, v = .slice A n c ∧ ∀ i, i < n → FrIW W A i := by
  obtain ⟨a0, n, c, rfl⟩ := WideShapes.okWide_slice Try.underlying63 hok
  obtain ⟨fuel, hf0⟩ := h
  have hf : DataW.trod enc Try.prog W 0 (fun _ => true) true fuel 63 [.slice a0 n c] = some (d, ps) := by simpa [Value.cells] using hf0
  refine ⟨a0, n, c, rfl, ?_⟩
  rcases Go.Deep.open_slice Try.underlying63 hf with ⟨hcs, _⟩ | ⟨a, len, cap, m, k, D, Pl, hcs, hb, hl, hm, hmm, hx, hel⟩
  · simp only [List.cons.injEq, and_true] at hcs
    injection hcs with e1 e2 e3
    subst e2
    exact fun i hi => absurd hi (by omega)
  · simp only [List.cons.injEq, and_true] at hcs
    injection hcs with e1 e2 e3
    subst e1 e2 e3
    intro i hi
    have hsp : a.spot = none := by
      obtain ⟨cs0, h1, _⟩ := hel 0 (by rw [hmm]; split <;> omega)
      rw [cellsFr] at h1
      obtain ⟨_, hlen, hcell⟩ := World.cells?_some h1
      have h0 := hcell 0 (by omega)
      rw [List.getElem?_eq_getElem (by omega)] at h0
      simpa [Addr.add] using World.cell?_spot h0
    obtain ⟨cs', h1, h2⟩ := hel i (by rw [hmm]; split <;> omega)
    rw [cellsFr] at h1
    obtain ⟨_, hlen, hcell⟩ := World.cells?_some h1
    have ci : Try.prog.cellsOf 3 = 1 := by kernel_rfl
    have cB : Try.prog.cellsOf 33 = 1 := by kernel_rfl
    obtain ⟨y0, y1, y2, k', hx', _, g0, g1, g2⟩ := Go.Deep.trod_struct3 Try.underlying35 h2
    match cs', hlen with
    | [u0, u1, u2], _ =>
      simp only [ci, cB, List.drop_zero, List.drop_succ_cons, List.take_succ_cons, List.take_zero] at g0 g1 g2
      obtain ⟨st, e0, _, wst⟩ := DataW.trod_int Try.underlying3 g0
      obtain ⟨sq, e1, _, wsq⟩ := DataW.trod_int Try.underlying3 g1
      simp at e0 e1
      subst e0 e1
      obtain ⟨A', n', c', X, rfl, hXB, hX⟩ := open_bytesRB_cell g2
      have p0 := hcell 0 (by omega)
      have p1 := hcell 1 (by omega)
      have p2 := hcell 2 (by omega)
      rw [Go.Deep.add_add] at p0 p1 p2
      simp only [List.getElem?_cons_zero, List.getElem?_cons_succ, Nat.add_zero] at p0 p1 p2
      obtain ⟨bb, off, spot⟩ := a
      simp only at hsp
      subst hsp
      rw [Go.WideShapes.add_plain] at p0 p1 p2
      exact ⟨bb, off, st, sq, A', n', c', X, rfl, World.block_lt_of_cell? _ _ p0, p0, by rw [Nat.add_assoc]; exact p1, by rw [Nat.add_assoc]; exact p2, wst, wsq, hXB, hX⟩

/-- Element i of a list of slices of bytes at A. -/
def ByIn (w : World) (A : Option Addr) (i : Nat) : Prop :=
  ∃ b o A' n' c' X, A = some ⟨b, o, none⟩ ∧ b < w.heap.size ∧ w.cell? ⟨b, o + i, none⟩ = some (.slice A' n' c') ∧ AllB X ∧ RB w w.heap.size (.slice A' n' c') X
set_option maxRecDepth 100000 in
theorem open_bodies {H : Type} {enc : TypeId × Value → H} {W : World} {b : Nat} {v : Value} {d : DataW H} {ps : List MemPlace}
    (hok : Value.okWide Try.prog W .any b 74 v) (h : DataW.Trod enc Try.prog W 0 (fun _ => true) true 74 v d ps) :
    ∃ A n c, v = .slice A n c ∧ n ≤ maxLen ∧ ∀ i, i < n → ByIn W A i := by
  obtain ⟨a0, n, c, rfl⟩ := WideShapes.okWide_slice Try.underlying74 hok
  obtain ⟨fuel, hf0⟩ := h
  have hf : DataW.trod enc Try.prog W 0 (fun _ => true) true fuel 74 [.slice a0 n c] = some (d, ps) := by simpa [Value.cells] using hf0
  have cB : Try.prog.cellsOf 33 = 1 := by kernel_rfl
  rcases Go.Deep.open_slice1 Try.underlying74 cB hf with ⟨hcs, _⟩ | ⟨a, len, cap, m, k, V, D, Pl, hcs, hb, hl, hm, hmm, hx, hel⟩
  · simp only [List.cons.injEq, and_true] at hcs
    injection hcs with e1 e2 e3
    subst e2
    exact ⟨a0, 0, c, rfl, Nat.zero_le _, fun i hi => absurd hi (by omega)⟩
  · simp only [List.cons.injEq, and_true] at hcs
    injection hcs with e1 e2 e3
    subst e1 e2 e3
    refine ⟨_, _, _, rfl, Nat.le_trans hl hm, ?_⟩
    intro i hi
    have hsp : a.spot = none := by
      obtain ⟨h0, _⟩ := hel 0 (by rw [hmm]; split <;> omega)
      simpa [Addr.add] using World.cell?_spot h0
    obtain ⟨h1, h2⟩ := hel i (by rw [hmm]; split <;> omega)
    obtain ⟨A', n', c', X, e, hXB, hX⟩ := open_bytesRB_cell h2
    rw [e] at h1
    obtain ⟨bb, off, spot⟩ := a
    simp only at hsp
    subst hsp
    rw [Go.WideShapes.add_plain] at h1
    exact ⟨bb, off, A', n', c', X, rfl, World.block_lt_of_cell? _ _ h1, h1, hXB, hX⟩
end Go.Proofs.Ytlginmnmobkbhaa
