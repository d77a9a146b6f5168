/-
  A list of frames that a call has made; what Scan finds.
-/
import Derived.Test.YtlginmnmobkbhaaZStrEq
import Derived.Maps.AppendAt
namespace Go.Proofs.Ytlginmnmobkbhaa
open Go.RowKit

abbrev Fr := Nat × Nat × List Nat
def frC : List Fr → List Value → List Value
  | f :: Fs, v :: vs => .int .i64 (f.1 : Int) :: .int .i64 (f.2.1 : Int) :: v :: frC Fs vs
  | _, _ => []
set_option maxRecDepth 100000 in
theorem frC_append : ∀ (Fs : List Fr) (vs : List Value) (f : Fr) (v : Value), vs.length = Fs.length → frC (Fs ++ [f]) (vs ++ [v]) = frC Fs vs ++ [.int .i64 (f.1 : Int), .int .i64 (f.2.1 : Int), v]
  | [], [], _, _, _ => rfl
  | g :: Fs, u :: vs, f, v, h => by
    simp only [List.cons_append, frC]
    rw [frC_append Fs vs f v (by simpa using h)]
  | [], _ :: _, _, _, h => by simp at h
  | _ :: _, [], _, _, h => by simp at h
set_option maxRecDepth 100000 in
theorem frC_get : ∀ (Fs : List Fr) (vs : List Value) (i : Nat) (hi : i < Fs.length) (hv : vs.length = Fs.length),
    (frC Fs vs)[i * 3]? = some (.int .i64 ((Fs[i]'hi).1 : Int)) ∧ (frC Fs vs)[i * 3 + 1]? = some (.int .i64 ((Fs[i]'hi).2.1 : Int)) ∧ (frC Fs vs)[i * 3 + 2]? = some (vs[i]'(by omega))
  | [], _, i, hi, _ => by simp at hi
  | _ :: _, [], _, _, h => by simp at h
  | f :: Fs, v :: vs, 0, _, _ => by simp [frC]
  | f :: Fs, v :: vs, i + 1, hi, hv => by
    obtain ⟨h1, h2, h3⟩ := frC_get Fs vs i (by simpa using hi) (by simpa using hv)
    have e : (i + 1) * 3 = i * 3 + 1 + 1 + 1 := by omega
    rw [e]
    simp only [frC, List.getElem?_cons_succ, List.getElem_cons_succ]
    exact ⟨h1, h2, h3⟩
set_option maxRecDepth 100000 in
theorem frC_len : ∀ (Fs : List Fr) (vs : List Value), vs.length = Fs.length → (frC Fs vs).length = Fs.length * 3
  | [], [], _ => rfl
  | g :: Fs, u :: vs, h => by simp only [frC, List.length_cons]; rw [frC_len Fs vs (by simpa using h)]; omega
  | [], _ :: _, h => by simp at h
  | _ :: _, [], h => by simp at h

/-- u reads as the bytes X, in a block that is not 'row'. -/
def RBn (w : World) (row : Option Nat) (u : Value) (X : List Nat) : Prop := RB w w.heap.size u X ∧ ∀ b o n c, u = .slice (some ⟨b, o, none⟩) n c → 0 < n → some b ≠ row
set_option maxRecDepth 100000 in
theorem rbn_grown {w w' : World} {row row' : Option Nat} {u : Value} {X : List Nat} (h : RBn w row u X) (hg : w.grownBy w' row) (hr : row' = row ∨ row' = some w.heap.size) : RBn w' row' u X := by
  obtain ⟨hrb, hne⟩ := h
  obtain ⟨A, c, rfl⟩ := hrb.form
  have hcap := hrb.1.cap
  refine ⟨⟨RW.mk rfl hcap.1 hcap.2 (fun h0 => ?_), hrb.2⟩, fun b o n c' e h0 => ?_⟩
  · obtain ⟨b, o, e, hb, hc⟩ := hrb.1.at_ h0
    subst e
    refine ⟨b, o, rfl, Nat.lt_of_lt_of_le hb hg.size, fun j hj => ?_⟩
    have : w'.heap[b]? = w.heap[b]? := hg.block b hb (hne b o _ _ rfl h0)
    rw [← hc j hj]
    simp [World.cell?, this]
  · injection e with e1 e2 e3
    subst e1
    rcases hr with rfl | rfl
    · exact hne b o n c' (by rw [e2, e3]) h0
    · obtain ⟨b', o', e, hb, _⟩ := hrb.1.at_ (by omega)
      injection e with e
      injection e with e4 e5
      subst e4
      intro h
      injection h with h
      omega
set_option maxRecDepth 100000 in
theorem grown_of_below {w w' : World} (h : Below w.heap.size w w') (row : Option Nat) : w.grownBy w' row := ⟨h.os, h.tape, h.output, h.size, fun k hk _ => h.block k hk⟩

/-- v is a list of frames of the call's own, which reads as Fs. -/
def FrS (w : World) (base : Nat) (v : Value) (Fs : List Fr) : Prop :=
  ∃ vs : List Value, vs.length = Fs.length ∧ w.ownsRow base 35 3 v Fs.length (frC Fs vs) ∧ ∀ i (h : i < Fs.length) (h' : i < vs.length), RBn w v.ownBlock (vs[i]'h') (Fs[i]'h).2.2
set_option maxRecDepth 100000 in
theorem frs_nil (w : World) (base : Nat) : FrS w base (.slice none 0 0) [] := ⟨[], rfl, World.ownsRow_nil _ _ _ _, fun i h => by simp at h⟩
set_option maxRecDepth 100000 in
theorem frs_below {w w' : World} {base : Nat} {v : Value} {Fs : List Fr} (h : FrS w base v Fs) (hb : Below w.heap.size w w') : FrS w' base v Fs := by
  obtain ⟨vs, h1, h2, h3⟩ := h
  exact ⟨vs, h1, h2.kept (grown_of_below hb none) (by cases v.ownBlock <;> simp), fun i hi hi' => rbn_grown (h3 i hi hi') (grown_of_below hb _) (Or.inl rfl)⟩
set_option maxRecDepth 100000 in
theorem frs_base {w : World} {base base' : Nat} {v : Value} {Fs : List Fr} (h : FrS w base v Fs) (hb : base' ≤ base) : FrS w base' v Fs := by
  obtain ⟨vs, h1, ⟨h2, h2'⟩, h3⟩ := h
  refine ⟨vs, h1, ⟨h2, ?_⟩, h3⟩
  rcases h2' with h | ⟨g, cap, cur, a, b, c⟩
  · exact .inl h
  · exact .inr ⟨g, cap, cur, a, by omega, c⟩
set_option maxRecDepth 100000 in
theorem frs_append {w w' : World} {base : Nat} {v v' u : Value} {Fs : List Fr} {vs : List Value} {st sq : Nat} {X : List Nat} (h1 : vs.length = Fs.length) (h3 : ∀ i (h : i < Fs.length) (h' : i < vs.length), RBn w v.ownBlock (vs[i]'h') (Fs[i]'h).2.2)
    (ho : w'.ownsRow base 35 3 v' (Fs.length + 1) (frC Fs vs ++ [.int .i64 (st : Int), .int .i64 (sq : Int), u])) (hg : w.grownBy w' v.ownBlock) (hr : v'.ownBlock = v.ownBlock ∨ v'.ownBlock = some w.heap.size)
    (hu : RBn w v.ownBlock u X) : FrS w' base v' (Fs ++ [(st, sq, X)]) := by
  refine ⟨vs ++ [u], by simp [h1], ?_, fun i hi hi' => ?_⟩
  · rw [frC_append Fs vs (st, sq, X) u h1, List.length_append]
    exact ho
  · by_cases hlt : i < Fs.length
    · rw [List.getElem_append_left (by omega), List.getElem_append_left hlt]
      exact rbn_grown (h3 i hlt (by omega)) hg hr
    · have e : i = Fs.length := by simp at hi; omega
      subst e
      have e1 : (vs ++ [u])[Fs.length]'hi' = u := by
        rw [List.getElem_append_right (by omega)]
        simp [h1]
      have e2 : (Fs ++ [(st, sq, X)])[Fs.length]'hi = (st, sq, X) := by
        rw [List.getElem_append_right (by omega)]
        simp
      rw [e1, e2]
      exact rbn_grown hu hg hr

end Go.Proofs.Ytlginmnmobkbhaa
