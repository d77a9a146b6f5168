/-
  What a receiver holds; lists of deliveries of the call's own.
-/
import Derived.Test.YtlginmnmobkbhaaZMap
import Derived.Test.YtlginmnmobkbhaaZFrs
namespace Go.Proofs.Ytlginmnmobkbhaa
open Go.RowKit

/-- Bytes of the call's own. -/
def Bd (w : World) (v : Value) (X : List Nat) : Prop := w.ownsRow 0 5 1 v X.length (bys X)
set_option maxRecDepth 100000 in
theorem bd_rb {w : World} {v : Value} {X : List Nat} (h : Bd w v X) : RB w w.heap.size v X := (rb_of_owns h).2
set_option maxRecDepth 100000 in
theorem bd_owns {w : World} {base n : Nat} {v : Value} {X : List Nat} (h : w.ownsRow base 5 1 v n (bys X)) : Bd w v X := by
  have hn := (rb_of_owns h).1
  subst hn
  exact owns_base h (Nat.zero_le _)
set_option maxRecDepth 100000 in
theorem bd_nil (w : World) : Bd w (.slice none 0 0) [] := World.ownsRow_nil _ _ _ _
/-- The set has no block of bytes. -/
def NoB (w : World) (S : Nat → Prop) : Prop := ∀ k cs fr, w.heap[k]? = some (.cells cs 5 fr) → ¬ S k
set_option maxRecDepth 100000 in
theorem Bd.only {w w' : World} {S : Nat → Prop} {v : Value} {X : List Nat} (h : Bd w v X) (ho : Only S w w') (hS : NoB w S) : Bd w' v X :=
  ho.own h (fun k hk => by obtain ⟨_, _, cs, hc⟩ := own_block h hk; exact hS k cs _ hc)

abbrev Dl := Int × List Nat × Bool
def dlC : List Dl → List Value → List Value
  | d :: Ds, v :: vs => .int .i64 d.1 :: v :: .bool d.2.2 :: dlC Ds vs
  | _, _ => []
set_option maxRecDepth 100000 in
theorem dlC_append : ∀ (Ds : List Dl) (vs : List Value) (d : Dl) (v : Value), vs.length = Ds.length → dlC (Ds ++ [d]) (vs ++ [v]) = dlC Ds vs ++ [.int .i64 d.1, v, .bool d.2.2]
  | [], [], _, _, _ => rfl
  | g :: Fs, u :: vs, f, v, h => by
    simp only [List.cons_append, dlC]
    rw [dlC_append Fs vs f v (by simpa using h)]
  | [], _ :: _, _, _, h => by simp at h
  | _ :: _, [], _, _, h => by simp at h
set_option maxRecDepth 100000 in
theorem dlC_append2 : ∀ (Ds : List Dl) (vs : List Value) (Es : List Dl) (us : List Value), vs.length = Ds.length → dlC (Ds ++ Es) (vs ++ us) = dlC Ds vs ++ dlC Es us
  | [], [], _, _, _ => rfl
  | g :: Fs, u :: vs, Es, us, h => by
    simp only [List.cons_append, dlC]
    rw [dlC_append2 Fs vs Es us (by simpa using h)]
  | [], _ :: _, _, _, h => by simp at h
  | _ :: _, [], _, _, h => by simp at h
set_option maxRecDepth 100000 in
theorem dlC_len : ∀ (Ds : List Dl) (vs : List Value), vs.length = Ds.length → (dlC Ds vs).length = Ds.length * 3
  | [], [], _ => rfl
  | g :: Fs, u :: vs, h => by simp only [dlC, List.length_cons]; rw [dlC_len Fs vs (by simpa using h)]; omega
  | [], _ :: _, h => by simp at h
  | _ :: _, [], h => by simp at h
set_option maxRecDepth 100000 in
theorem dlC_get : ∀ (Ds : List Dl) (vs : List Value) (i : Nat) (hi : i < Ds.length) (hv : vs.length = Ds.length),
    (dlC Ds vs)[i * 3]? = some (.int .i64 (Ds[i]'hi).1) ∧ (dlC Ds vs)[i * 3 + 1]? = some (vs[i]'(by omega)) ∧ (dlC Ds vs)[i * 3 + 2]? = some (.bool (Ds[i]'hi).2.2)
  | [], _, i, hi, _ => by simp at hi
  | _ :: _, [], _, _, h => by simp at h
  | f :: Fs, v :: vs, 0, _, _ => by simp [dlC]
  | f :: Fs, v :: vs, i + 1, hi, hv => by
    obtain ⟨h1, h2, h3⟩ := dlC_get Fs vs i (by simpa using hi) (by simpa using hv)
    have e : (i + 1) * 3 = i * 3 + 1 + 1 + 1 := by omega
    rw [e]
    simp only [dlC, List.getElem?_cons_succ, List.getElem_cons_succ]
    exact ⟨h1, h2, h3⟩

/-- v is a list of deliveries of the call's own, from block 'base' on, which reads as Ds. -/
def DlS (w : World) (base : Nat) (v : Value) (Ds : List Dl) : Prop :=
  ∃ vs : List Value, vs.length = Ds.length ∧ w.ownsRow base 85 3 v Ds.length (dlC Ds vs) ∧ ∀ i (h : i < Ds.length) (h' : i < vs.length), Bd w (vs[i]'h') (Ds[i]'h).2.1
set_option maxRecDepth 100000 in
theorem dls_nil (w : World) (base : Nat) : DlS w base (.slice none 0 0) [] := ⟨[], rfl, World.ownsRow_nil _ _ _ _, fun i h => by simp at h⟩
set_option maxRecDepth 100000 in
theorem types_apart2 : (5 : Nat) ≠ 85 := by decide
set_option maxRecDepth 100000 in
theorem dls_only {w w' : World} {S : Nat → Prop} {base : Nat} {v : Value} {Ds : List Dl} (h : DlS w base v Ds) (ho : Only S w w') (hS : NoB w S) (hn : ∀ k, v.ownBlock = some k → ¬ S k) : DlS w' base v Ds := by
  obtain ⟨vs, h1, h2, h3⟩ := h
  exact ⟨vs, h1, ho.own h2 hn, fun i hi hi' => (h3 i hi hi').only ho hS⟩
set_option maxRecDepth 100000 in
theorem dls_base {w : World} {base base' : Nat} {v : Value} {Ds : List Dl} (h : DlS w base v Ds) (hb : base' ≤ base) : DlS w base' v Ds := by
  obtain ⟨vs, h1, ⟨h2, h2'⟩, h3⟩ := h
  refine ⟨vs, h1, ⟨h2, ?_⟩, h3⟩
  rcases h2' with h | ⟨g, cap, cur, a, b, c⟩
  · exact .inl h
  · exact .inr ⟨g, cap, cur, a, by omega, c⟩
set_option maxRecDepth 100000 in
/-- The row that an append may write holds no bytes. -/
theorem nob_row {w : World} {base e s n : Nat} {v : Value} {xs : List Value} (h : w.ownsRow base e s v n xs) (he : (5 : Nat) ≠ e) : NoB w (fun k => v.ownBlock = some k) := by
  intro k cs fr hk hs
  obtain ⟨_, _, cs', hc⟩ := own_block h hs
  rw [hk] at hc
  simp at hc
  exact he hc.2.1
set_option maxRecDepth 100000 in
theorem dls_append {w w' : World} {base : Nat} {v v' u : Value} {Ds : List Dl} {vs : List Value} {sq : Int} {X : List Nat} {l : Bool} (h1 : vs.length = Ds.length) (h2 : w.ownsRow base 85 3 v Ds.length (dlC Ds vs))
    (h3 : ∀ i (h : i < Ds.length) (h' : i < vs.length), Bd w (vs[i]'h') (Ds[i]'h).2.1)
    (ho : w'.ownsRow base 85 3 v' (Ds.length + 1) (dlC Ds vs ++ [.int .i64 sq, u, .bool l])) (hg : w.grownBy w' v.ownBlock) (hu : Bd w u X) : DlS w' base v' (Ds ++ [(sq, X, l)]) := by
  have hO : Only (fun k => v.ownBlock = some k) w w' := only_grown hg (fun k e => e)
  have hN := nob_row h2 types_apart2
  refine ⟨vs ++ [u], by simp [h1], ?_, fun i hi hi' => ?_⟩
  · rw [dlC_append Ds vs (sq, X, l) u h1, List.length_append]
    exact ho
  · by_cases hlt : i < Ds.length
    · rw [List.getElem_append_left (by omega), List.getElem_append_left hlt]
      exact (h3 i hlt (by omega)).only hO hN
    · have e : i = Ds.length := by simp at hi; omega
      subst e
      have e1 : (vs ++ [u])[Ds.length]'hi' = u := by
        rw [List.getElem_append_right (by omega)]
        simp [h1]
      have e2 : (Ds ++ [(sq, X, l)])[Ds.length]'hi = (sq, X, l) := by
        rw [List.getElem_append_right (by omega)]
        simp
      rw [e1, e2]
      exact hu.only hO hN

/-- What is held: number k has these bytes, or was given up. -/
abbrev Hf := Int → Option (List Nat × Bool)
def FH (w : World) (f : Int → Option Value) (F : Hf) : Prop :=
  ∀ k : Int, match F k with
    | none => f k = none
    | some x => ∃ v, f k = some (.agg #[.int .i64 k, v, .bool x.2]) ∧ Bd w v x.1
set_option maxRecDepth 100000 in
theorem FH.only {w w' : World} {S : Nat → Prop} {f : Int → Option Value} {F : Hf} (h : FH w f F) (ho : Only S w w') (hS : NoB w S) : FH w' f F := by
  intro k
  have hk := h k
  cases e : F k with
  | none => rw [e] at hk; exact hk
  | some x =>
    rw [e] at hk
    obtain ⟨v, h1, h2⟩ := hk
    exact ⟨v, h1, h2.only ho hS⟩
set_option maxRecDepth 100000 in
theorem FH.none_ {w : World} {f : Int → Option Value} {F : Hf} (h : FH w f F) {k : Int} (hk : F k = none) : f k = none := by have := h k; rw [hk] at this; exact this
set_option maxRecDepth 100000 in
theorem FH.some_ {w : World} {f : Int → Option Value} {F : Hf} (h : FH w f F) {k : Int} {x : List Nat × Bool} (hk : F k = some x) : ∃ v, f k = some (.agg #[.int .i64 k, v, .bool x.2]) ∧ Bd w v x.1 := by have := h k; rw [hk] at this; exact this
set_option maxRecDepth 100000 in
theorem FH.put {w : World} {f : Int → Option Value} {F : Hf} (h : FH w f F) {k : Int} {v : Value} {X : List Nat} {l : Bool} (hv : Bd w v X) :
    FH w (fun x => if x = k then some (.agg #[.int .i64 k, v, .bool l]) else f x) (fun x => if x = k then some (X, l) else F x) := by
  intro x
  by_cases e : x = k
  · subst e
    simp only [if_true]
    exact ⟨v, rfl, hv⟩
  · simp only [if_neg e]
    exact h x
set_option maxRecDepth 100000 in
theorem FH.del {w : World} {f : Int → Option Value} {F : Hf} (h : FH w f F) {k : Int} : FH w (fun x => if x = k then none else f x) (fun x => if x = k then none else F x) := by
  intro x
  by_cases e : x = k
  · subst e
    simp only [if_true]
  · simp only [if_neg e]
    exact h x
set_option maxRecDepth 100000 in
theorem FH.congr {w : World} {f : Int → Option Value} {F F' : Hf} (h : FH w f F) (e : ∀ k, F' k = F k) : FH w f F' := by
  have : F' = F := funext e
  rw [this]; exact h

/-- A receiver behind a pointer to block g; its map is block mb. -/
def Rcv (w : World) (g mb N : Nat) (st win nx : Int) (F : Hf) : Prop :=
  w.heap[g]? = some (.cells #[.int .i64 st, .int .i64 win, .int .i64 nx, .map (some mb)] 89 (0, 0)) ∧ ∃ f, MapF Try.prog 3 w mb N f ∧ FH w f F
set_option maxRecDepth 100000 in
theorem rcv_nob {w : World} {g mb N : Nat} {st win nx : Int} {F : Hf} (h : Rcv w g mb N st win nx F) : NoB w (fun k => k = g ∨ k = mb) := by
  intro k cs fr hk hs
  rcases hs with rfl | rfl
  · rw [h.1] at hk
    injection hk with hk
    injection hk with _ hk
    exact absurd hk (by decide)
  · obtain ⟨_, f, hm, _⟩ := h
    obtain ⟨es, c, hb⟩ := hm.block
    rw [hb] at hk
    simp at hk
set_option maxRecDepth 100000 in
theorem rcv_only {w w' : World} {S : Nat → Prop} {g mb N : Nat} {st win nx : Int} {F : Hf} (h : Rcv w g mb N st win nx F) (ho : Only S w w') (hS : NoB w S) (hg : ¬ S g) (hm : ¬ S mb) : Rcv w' g mb N st win nx F := by
  obtain ⟨h1, f, h2, h3⟩ := h
  exact ⟨(ho.block g (Array.getElem?_eq_some_iff.1 h1).1 hg).trans h1, f, h2.only ho hm, h3.only ho hS⟩
set_option maxRecDepth 100000 in
theorem rcv_apart {w : World} {g mb N : Nat} {st win nx : Int} {F : Hf} (h : Rcv w g mb N st win nx F) : g ≠ mb ∧ g < w.heap.size ∧ mb < w.heap.size := by
  obtain ⟨h1, f, h2, h3⟩ := h
  obtain ⟨es, c, hb⟩ := h2.block
  refine ⟨fun e => ?_, (Array.getElem?_eq_some_iff.1 h1).1, h2.lt⟩
  subst e
  rw [h1] at hb
  simp at hb

/-- What is delivered: j numbers from nx on. -/
def dsOf (F : Hf) (nx : Int) : Nat → List Dl
  | 0 => []
  | j + 1 => dsOf F nx j ++ [(nx + j, (F (nx + j)).getD ([], false))]
set_option maxRecDepth 100000 in
theorem dsOf_len (F : Hf) (nx : Int) : ∀ j, (dsOf F nx j).length = j
  | 0 => rfl
  | j + 1 => by simp [dsOf, dsOf_len F nx j]
set_option maxRecDepth 100000 in
theorem dsOf_get (F : Hf) (nx : Int) : ∀ j i (h : i < (dsOf F nx j).length), (dsOf F nx j)[i] = (nx + i, (F (nx + i)).getD ([], false))
  | 0, i, h => by simp [dsOf] at h
  | j + 1, i, h => by
    by_cases hi : i < (dsOf F nx j).length
    · simp only [dsOf]
      rw [List.getElem_append_left hi]
      exact dsOf_get F nx j i hi
    · have e : i = j := by
        have h2 := dsOf_len F nx (j + 1)
        have h3 := dsOf_len F nx j
        omega
      subst e
      simp only [dsOf]
      rw [List.getElem_append_right (by omega)]
      simp
/-- The rest. -/
def cutF (F : Hf) (n : Int) : Hf := fun k => if k < n then none else F k
set_option maxRecDepth 100000 in
theorem cutF_zero {F : Hf} {nx : Int} (h : ∀ k, k < nx → F k = none) : ∀ k, cutF F nx k = F k := fun k => by
  unfold cutF
  by_cases e : k < nx
  · rw [if_pos e, h k e]
  · rw [if_neg e]
set_option maxRecDepth 100000 in
theorem cutF_step (F : Hf) (n : Int) (k : Int) : cutF F (n + 1) k = (if k = n then none else cutF F n k) := by
  unfold cutF
  by_cases e : k = n
  · subst e
    rw [if_pos (by omega), if_pos rfl]
  · rw [if_neg e]
    by_cases e2 : k < n
    · rw [if_pos (by omega), if_pos e2]
    · rw [if_neg (by omega), if_neg e2]
end Go.Proofs.Ytlginmnmobkbhaa
