/-
  A list of frames of the call's own whose bodies lie in memory that was there at the call; a list of frames that came in, opened.
-/
import Derived.Test.YtlokacgclihhlaaZFind
import Derived.Test.YtlokacgclihhlaaZOpenF
import Derived.Deep.Slices
namespace Go.Proofs.Ytlokacgclihhlaa
open Go.RowKit Go.WideShapes Go.ChangeShapes Go.Joins

theorem rows_apart {w : World} {b1 b2 e1 e2 s1 s2 n1 n2 : Nat} {v1 v2 : Value} {x1 x2 : List Value} (h1 : w.ownsRow b1 e1 s1 v1 n1 x1) (h2 : w.ownsRow b2 e2 s2 v2 n2 x2) (he : e1 ≠ e2) :
    v1.ownBlock = none ∨ v1.ownBlock ≠ v2.ownBlock := by
  obtain ⟨_, ⟨rfl, _⟩ | ⟨g1, c1, u1, rfl, _, k1, _⟩⟩ := h1
  · exact .inl rfl
  · obtain ⟨_, ⟨rfl, _⟩ | ⟨g2, c2, u2, rfl, _, k2, _⟩⟩ := h2
    · exact .inr (by simp [Value.ownBlock])
    · refine .inr fun h => ?_
      simp [Value.ownBlock] at h
      subst h
      rw [k1] at k2
      simp at k2
      exact he k2.2
theorem types_apart : (5 : Nat) ≠ 33 := by decide

def FrW (w : World) (base : Nat) (v : Value) (Fs : List Fr) : Prop :=
  ∃ vs : List Value, vs.length = Fs.length ∧ w.ownsRow base 33 3 v Fs.length (frC Fs vs) ∧ ∀ i (h : i < Fs.length) (h' : i < vs.length), RB w base (vs[i]'h') (Fs[i]'h).2.2
theorem frw_nil (w : World) (base : Nat) : FrW w base (.slice none 0 0) [] := ⟨[], rfl, World.ownsRow_nil _ _ _ _, fun i h => by simp at h⟩
theorem frw_kept {w w' : World} {base : Nat} {v : Value} {Fs : List Fr} {row : Option Nat} (h : FrW w base v Fs) (hB : base ≤ w.heap.size) (hg : w.grownBy w' row) (hne : v.ownBlock = none ∨ v.ownBlock ≠ row) (hr : ∀ k, row = some k → base ≤ k) : FrW w' base v Fs := by
  obtain ⟨vs, h1, h2, h3⟩ := h
  exact ⟨vs, h1, h2.kept hg hne, fun i hi hi' => (h3 i hi hi').grown hB hg hr⟩
theorem frw_below {w w' : World} {base : Nat} {v : Value} {Fs : List Fr} (h : FrW w base v Fs) (hB : base ≤ w.heap.size) (hb : Below w.heap.size w w') : FrW w' base v Fs :=
  frw_kept h hB (grown_of_below hb none) (by cases v.ownBlock <;> simp) (fun k hk => by simp at hk)
theorem frw_frs {w : World} {base : Nat} {v : Value} {Fs : List Fr} (h : FrW w base v Fs) (hB : base ≤ w.heap.size) : FrS w base v Fs := by
  obtain ⟨vs, h1, h2, h3⟩ := h
  refine ⟨vs, h1, h2, fun i hi hi' => ⟨(h3 i hi hi').more hB, fun b o n c e hn hrow => ?_⟩⟩
  have hb := (h2.lt b hrow.symm).1
  have hu := h3 i hi hi'
  rw [e] at hu
  obtain ⟨b', o', e', hlt, _⟩ := hu.1.at_ hn
  injection e' with e'
  injection e' with e1 e2
  subst e1
  omega
theorem frw_append {w w' : World} {base : Nat} {v v' u : Value} {Fs : List Fr} {vs : List Value} {st sq : Nat} {X : List Nat} (h1 : vs.length = Fs.length) (h3 : ∀ i (h : i < Fs.length) (h' : i < vs.length), RB w base (vs[i]'h') (Fs[i]'h).2.2)
    (ho : w'.ownsRow base 33 3 v' (Fs.length + 1) (frC Fs vs ++ [.int .i64 (st : Int), .int .i64 (sq : Int), u])) (hB : base ≤ w.heap.size) (hg : w.grownBy w' v.ownBlock) (hr : ∀ k, v.ownBlock = some k → base ≤ k)
    (hu : RB w base u X) : FrW w' base v' (Fs ++ [(st, sq, X)]) := by
  refine ⟨vs ++ [u], by simp [h1], ?_, fun i hi hi' => ?_⟩
  · rw [frC_append Fs vs (st, sq, X) u h1, List.length_append]
    exact ho
  · by_cases hlt : i < Fs.length
    · rw [List.getElem_append_left (by omega), List.getElem_append_left hlt]
      exact (h3 i hlt (by omega)).grown hB hg hr
    · have e : i = Fs.length := by simp at hi; omega
      subst e
      have e1 : (vs ++ [u])[Fs.length]'hi' = u := by
        rw [List.getElem_append_right (by omega)]
        simp [h1]
      have e2 : (Fs ++ [(st, sq, X)])[Fs.length]'hi = (st, sq, X) := by
        rw [List.getElem_append_right (by omega)]
        simp
      rw [e1, e2]
      exact hu.grown hB hg hr

/-- Element i of a list of frames at A. -/
def FrIn (w : World) (A : Option Addr) (i : Nat) : Prop :=
  ∃ b o st sq A' n' c' X, A = some ⟨b, o, none⟩ ∧ b < w.heap.size ∧ w.cell? ⟨b, o + i * 3, none⟩ = some (.int .i64 st) ∧ w.cell? ⟨b, o + i * 3 + 1, none⟩ = some (.int .i64 sq) ∧ w.cell? ⟨b, o + i * 3 + 2, none⟩ = some (.slice A' n' c') ∧
    AllB X ∧ RB w w.heap.size (.slice A' n' c') X

theorem open_frames {H : Type} {enc : TypeId × Value → H} {W : World} {b : Nat} {v : Value} {d : DataW H} {ps : List MemPlace}
    (hok : Value.okWide Try.prog W .any b 44 v) (h : DataW.Trod enc Try.prog W 0 (fun _ => true) true 44 v d ps) :
    ∃ A n c, v = .slice A n c ∧ ∀ i, i < n → FrIn W A i := by
  obtain ⟨a0, n, c, rfl⟩ := WideShapes.okWide_slice Try.underlying44 hok
  obtain ⟨fuel, hf0⟩ := h
  have hf : DataW.trod enc Try.prog W 0 (fun _ => true) true fuel 44 [.slice a0 n c] = some (d, ps) := by simpa [Value.cells] using hf0
  refine ⟨a0, n, c, rfl, ?_⟩
  rcases Go.Deep.open_slice Try.underlying44 hf with ⟨hcs, _⟩ | ⟨a, len, cap, m, k, D, Pl, hcs, hb, hl, hm, hmm, hx, hel⟩
  · simp only [List.cons.injEq, and_true] at hcs
    injection hcs with e1 e2 e3
    subst e2
    exact fun i hi => absurd hi (by omega)
  · simp only [List.cons.injEq, and_true] at hcs
    injection hcs with e1 e2 e3
    subst e1 e2 e3
    intro i hi
    have hsp : a.spot = none := by
      obtain ⟨cs0, h1, _⟩ := hel 0 (by rw [hmm]; split <;> omega)
      rw [cellsFr] at h1
      obtain ⟨_, hlen, hcell⟩ := World.cells?_some h1
      have h0 := hcell 0 (by omega)
      rw [List.getElem?_eq_getElem (by omega)] at h0
      simpa [Addr.add] using World.cell?_spot h0
    obtain ⟨cs', h1, h2⟩ := hel i (by rw [hmm]; split <;> omega)
    rw [cellsFr] at h1
    obtain ⟨_, hlen, hcell⟩ := World.cells?_some h1
    have ci : Try.prog.cellsOf 3 = 1 := by kernel_rfl
    have cB : Try.prog.cellsOf 22 = 1 := by kernel_rfl
    obtain ⟨y0, y1, y2, k', hx', _, g0, g1, g2⟩ := Go.Deep.trod_struct3 Try.underlying33 h2
    match cs', hlen with
    | [u0, u1, u2], _ =>
      simp only [ci, cB, List.drop_zero, List.drop_succ_cons, List.take_succ_cons, List.take_zero] at g0 g1 g2
      obtain ⟨st, e0, _, wst⟩ := DataW.trod_int Try.underlying3 g0
      obtain ⟨sq, e1, _, wsq⟩ := DataW.trod_int Try.underlying3 g1
      simp at e0 e1
      subst e0 e1
      obtain ⟨A', n', c', X, rfl, hXB, hX⟩ := open_bytesRB_cell g2
      have p0 := hcell 0 (by omega)
      have p1 := hcell 1 (by omega)
      have p2 := hcell 2 (by omega)
      rw [Go.Deep.add_add] at p0 p1 p2
      simp only [List.getElem?_cons_zero, List.getElem?_cons_succ, Nat.add_zero] at p0 p1 p2
      obtain ⟨bb, off, spot⟩ := a
      simp only at hsp
      subst hsp
      rw [Go.WideShapes.add_plain] at p0 p1 p2
      exact ⟨bb, off, st, sq, A', n', c', X, rfl, World.block_lt_of_cell? _ _ p0, p0, by rw [Nat.add_assoc]; exact p1, by rw [Nat.add_assoc]; exact p2, hXB, hX⟩
end Go.Proofs.Ytlokacgclihhlaa
