/-
  Maps of the call's own, keyed by int, whose elements are any values: what they hold, as a function.
-/
import Derived.Maps.OwnSet
import Derived.WalkKit
import Derived.Below
import Derived.Lib.Hide
namespace Go.Proofs.Ytlginmnmobkbhaa
open Go.Maps Go.RowKit Go.ChangeMaps Go.MapKept

def rawR (v : Value) : Option (DataW Value × List MemPlace) := some (.held v, [])
def litI (k : Int) : Lit := .int .i64 k
theorem litI_ne {a b : Int} (h : a ≠ b) : litI a ≠ litI b := fun e => h (by injection e)
theorem litI_key (k : Int) : WideAt.IsKeyLit (litI k) := trivial

/-- Block b is a map of n entries that holds f. -/
def MapF (P : Program) (K : TypeId) (w : World) (b n : Nat) (f : Int → Option Value) : Prop :=
  ∃ D : DataW Value, w.ownsMap P K rawR b n D ∧ Maps.size D = n ∧ ∀ k : Int, match f k with
    | none => Maps.has D (litI k) = false
    | some v => Maps.has D (litI k) = true ∧ ∀ z, D.atKey (litI k) z = .held v

section
variable {P : Program} {K E T : TypeId} {w w' : World} {b n : Nat} {f : Int → Option Value}
theorem mapF_made (w : World) (P : Program) (K : TypeId) : MapF P K (w.alloc (.map #[] 0)) w.heap.size 0 (fun _ => none) :=
  ⟨_, World.ownsMap_made _ _ _ _, rfl, fun k => by simp [Maps.has]⟩
theorem ownsMap_tight {D : DataW Value} (h : w.ownsMap P K rawR b n D) : w.ownsMap P K rawR b (Maps.size D) D := by
  obtain ⟨es, clock, hb, F, _, rfl⟩ := h
  exact ⟨es, clock, hb, F, by simp [Maps.size, length_sorted], rfl⟩
theorem MapF.lt (h : MapF P K w b n f) : b < w.heap.size := by obtain ⟨D, h, _⟩ := h; exact h.lt
theorem MapF.same (h : MapF P K w b n f) (hb : w'.heap[b]? = w.heap[b]?) : MapF P K w' b n f := by
  obtain ⟨D, ⟨es, clock, h1, h2⟩, h3⟩ := h
  exact ⟨D, ⟨es, clock, hb.trans h1, h2⟩, h3⟩
theorem MapF.len (h : MapF P K w b n f) (ht : P.underlying T = some (.map K E)) (ty : TypeId) : (Builtin.len_ #[T] ty #[.map (some b)]).run P w = .ok (.int .i64 n) w := by
  obtain ⟨D, ho, hs, _⟩ := h
  rw [← hs]
  exact ho.len ht ty
theorem MapF.block (h : MapF P K w b n f) : ∃ es clock, w.heap[b]? = some (.map es clock) := by obtain ⟨D, ⟨es, clock, h, _⟩, _⟩ := h; exact ⟨es, clock, h⟩
theorem mapTurned_other {b' k : Nat} (h : w.mapTurned w' b') (hk : k ≠ b') : w'.heap[k]? = w.heap[k]? := by
  obtain ⟨es, clock, es', clock', hb, rfl⟩ := h
  exact heap_setBlock_other hb _ hk
theorem keyI (hK : P.underlying K = some (.int .i64)) {k : Int} (hk : (Lit.int .i64 k).wf = true) : keyOf P K (.int .i64 k) = some (litI k) := keyOf_int_mk hK hk
theorem MapF.look (h : MapF P K w b n f) (hK : P.underlying K = some (.int .i64)) (ht : P.underlying T = some (.map K E)) {z : Value} (hz : (zeroValue E).run P w = .ok z w) {k : Int} (hk : (Lit.int .i64 k).wf = true) :
    (Instr.lookup T (.map (some b)) (.int .i64 k) true).run P w = .ok (.tuple #[(f k).getD z, .bool (f k).isSome]) w := by
  obtain ⟨D, ho, _, hf⟩ := h
  obtain ⟨v, ps, hrun, hv⟩ := ho.look_ok (int_keyed hK) ht hz (R := rawR) rfl (keyI hK hk)
  have hfk := hf k
  rw [hrun]
  cases e : f k with
  | none =>
    rw [e] at hfk
    simp only at hfk
    have h1 := Maps.atKey_of_not_has hfk (.held z)
    rw [h1] at hv
    simp only [rawR, Option.some.injEq, Prod.mk.injEq, DataW.held.injEq] at hv
    rw [hfk, ← hv.1]
    rfl
  | some u =>
    rw [e] at hfk
    simp only at hfk
    rw [hfk.2] at hv
    simp only [rawR, Option.some.injEq, Prod.mk.injEq, DataW.held.injEq] at hv
    rw [hfk.1, ← hv.1]
    rfl
theorem MapF.look1 (h : MapF P K w b n f) (hK : P.underlying K = some (.int .i64)) (ht : P.underlying T = some (.map K E)) {z : Value} (hz : (zeroValue E).run P w = .ok z w) {k : Int} (hk : (Lit.int .i64 k).wf = true) :
    (Instr.lookup T (.map (some b)) (.int .i64 k) false).run P w = .ok ((f k).getD z) w := by
  obtain ⟨D, ho, _, hf⟩ := h
  obtain ⟨v, ps, hrun, hv⟩ := ho.lookup (int_keyed hK) ht hz (R := rawR) rfl (keyI hK hk)
  have hfk := hf k
  rw [hrun]
  cases e : f k with
  | none =>
    rw [e] at hfk
    simp only at hfk
    have h1 := Maps.atKey_of_not_has hfk (.held z)
    rw [h1] at hv
    simp only [rawR, Option.some.injEq, Prod.mk.injEq, DataW.held.injEq] at hv
    rw [← hv.1]
    rfl
  | some u =>
    rw [e] at hfk
    simp only at hfk
    rw [hfk.2] at hv
    simp only [rawR, Option.some.injEq, Prod.mk.injEq, DataW.held.injEq] at hv
    rw [← hv.1]
    rfl
theorem MapF.put (h : MapF P K w b n f) (hK : P.underlying K = some (.int .i64)) (ht : P.underlying T = some (.map K E)) (hn : n < maxLen) {k : Int} (hk : (Lit.int .i64 k).wf = true) (h0 : f k = none) (v : Value) :
    ∃ w', (Instr.mapUpdate T (.map (some b)) (.int .i64 k) v).run P w = .ok () w' ∧ MapF P K w' b (n + 1) (fun x => if x = k then some v else f x) ∧ w.mapTurned w' b := by
  obtain ⟨D, ho, hs, hf⟩ := h
  obtain ⟨w', h1, h2, h3⟩ := ho.store (int_keyed hK) ht hn (R := rawR) (val := v) (keyI hK hk) rfl
  have hfk := hf k
  rw [h0] at hfk
  simp only at hfk
  refine ⟨w', h1, ⟨_, h2, by rw [size_put (ho.tidy (int_keyed hK)), hfk, hs]; simp, fun x => ?_⟩, h3⟩
  by_cases e : x = k
  · subst e
    simp only [if_true]
    exact ⟨has_put_same ho.isMap (litI_key _) _, fun z => atKey_put_same ho.isMap (litI_key _) _ _⟩
  · simp only [if_neg e]
    have hx := hf x
    have hne := litI_ne e
    cases e2 : f x with
    | none =>
      rw [e2] at hx
      simp only at hx ⊢
      rw [has_put_other hne]; exact hx
    | some u =>
      rw [e2] at hx
      simp only at hx ⊢
      exact ⟨by rw [has_put_other hne]; exact hx.1, fun z => by rw [atKey_put_other hne]; exact hx.2 z⟩
theorem MapF.drop (h : MapF P K w b (n + 1) f) (hK : P.underlying K = some (.int .i64)) (ht : P.underlying T = some (.map K E)) {k : Int} (hk : (Lit.int .i64 k).wf = true) {v : Value} (h0 : f k = some v) (ty : TypeId) :
    ∃ w', (Builtin.delete_ #[T, K] ty #[.map (some b), .int .i64 k]).run P w = .ok (.tuple #[]) w' ∧ MapF P K w' b n (fun x => if x = k then none else f x) ∧ w.mapTurned w' b := by
  obtain ⟨D, ho, hs, hf⟩ := h
  obtain ⟨w', h1, h2, h3⟩ := ho.drop (int_keyed hK) ht (keyI hK hk) ty
  have hfk := hf k
  rw [h0] at hfk
  simp only at hfk
  have hsz := size_del (k := litI k) (ho.tidy (int_keyed hK))
  rw [hfk.1, if_pos rfl, hs] at hsz
  have hsz : Maps.size (D.del (litI k)) = n := by omega
  have h4 := ownsMap_tight h2
  rw [hsz] at h4
  refine ⟨w', h1, ⟨_, h4, hsz, fun x => ?_⟩, h3⟩
  by_cases e : x = k
  · subst e
    simp only [if_true]
    exact has_del_same
  · simp only [if_neg e]
    have hx := hf x
    have hne := litI_ne e
    cases e2 : f x with
    | none =>
      rw [e2] at hx
      simp only at hx ⊢
      rw [has_del_other hne]; exact hx
    | some u =>
      rw [e2] at hx
      simp only at hx ⊢
      exact ⟨by rw [has_del_other hne]; exact hx.1, fun z => by rw [atKey_del_other hne]; exact hx.2 z⟩
theorem MapF.pos (h : MapF P K w b n f) (hK : P.underlying K = some (.int .i64)) {k : Int} {v : Value} (h0 : f k = some v) : ∃ m, n = m + 1 := by
  obtain ⟨D, ho, hs, hf⟩ := h
  have hfk := hf k
  rw [h0] at hfk
  simp only at hfk
  have hsz := size_del (k := litI k) (ho.tidy (int_keyed hK))
  rw [hfk.1, if_pos rfl, hs] at hsz
  exact ⟨_, hsz.symm⟩
theorem wfI {k : Int} (h0 : -9223372036854775808 ≤ k) (h1 : k ≤ 9223372036854775807) : (Lit.int .i64 k).wf = true := WalkArith.wf_i64 ⟨h0, h1⟩
end

section
variable {P : Program} {K E T : TypeId} {w : World} {b n : Nat} {f : Int → Option Value} {ops : Array Oper} {rest : List Oper} {o : Oper} {a : Act} {Q : Exit → Act → World → Prop}
theorem wpList_look_raw (hg : o.guard = none) (m x : Operand) (hop : o.op = Op.lookup T m x true) (hK : P.underlying K = some (.int .i64)) (ht : P.underlying T = some (.map K E)) {z : Value} (hz : (zeroValue E).run P w = .ok z w)
    (hm : a.eval m = .map (some b)) (hown : MapF P K w b n f) (k : Int) (hx : a.eval x = .int .i64 k) (hk : (Lit.int .i64 k).wf = true) (v : Value) (c : Bool) (hv : (f k).getD z = v) (hc : (f k).isSome = c)
    (h : wpList P ops Q rest (a.put o.dst (.tuple #[v, .bool c])) w) : wpList P ops Q (o :: rest) a w := by
  refine wpList_plain hg fun K' hK' => ?_
  have hrun := hown.look hK ht hz hk
  rw [hv, hc] at hrun
  unfold Oper.wp
  simp [execOp, hop, hm, hx, hrun, Result.andThen]
  exact hK' _ _ h
theorem wpList_put_raw (hg : o.guard = none) (m x v : Operand) (hop : o.op = Op.mapUpdate T m x v) (hK : P.underlying K = some (.int .i64)) (ht : P.underlying T = some (.map K E))
    (hm : a.eval m = .map (some b)) (hown : MapF P K w b n f) (hn : n < maxLen) (k : Int) (hx : a.eval x = .int .i64 k) (hk : (Lit.int .i64 k).wf = true) (h0 : f k = none) (val : Value) (hv : a.eval v = val)
    (h : ∀ w', MapF P K w' b (n + 1) (fun x => if x = k then some val else f x) → w.mapTurned w' b → wpList P ops Q rest (a.put o.dst undef) w') : wpList P ops Q (o :: rest) a w := by
  refine wpList_plain hg fun K' hK' => ?_
  obtain ⟨w', hrun, r1, r2⟩ := hown.put hK ht hn hk h0 val
  unfold Oper.wp
  simp [execOp, hop, hm, hx, hv, hrun, Result.andThen]
  exact hK' _ _ (h w' r1 r2)
theorem wpList_drop_raw (hg : o.guard = none) (m x : Operand) (hop : o.op = Op.call { callee := Callee.builtin Builtin.delete, args := #[m, x], argTypes := #[T, K] }) (hK : P.underlying K = some (.int .i64)) (ht : P.underlying T = some (.map K E))
    (hm : a.eval m = .map (some b)) (hown : MapF P K w b (n + 1) f) (k : Int) (hx : a.eval x = .int .i64 k) (hk : (Lit.int .i64 k).wf = true) (v : Value) (h0 : f k = some v)
    (h : ∀ w', MapF P K w' b n (fun x => if x = k then none else f x) → w.mapTurned w' b → wpList P ops Q rest (a.put o.dst (.tuple #[])) w') : wpList P ops Q (o :: rest) a w := by
  refine wpList_plain hg fun K' hK' => ?_
  obtain ⟨w', hrun, r1, r2⟩ := hown.drop hK ht hk h0 o.type
  unfold Oper.wp
  simp [execOp, hop, resolve, invoke, builtin, hm, hx, hrun, Result.andThen]
  exact hK' _ _ (h w' r1 r2)
theorem wpList_len_raw (hg : o.guard = none) (m : Operand) (hop : o.op = Op.call { callee := Callee.builtin Builtin.len, args := #[m], argTypes := #[T] }) (ht : P.underlying T = some (.map K E)) (hm : a.eval m = .map (some b)) (hown : MapF P K w b n f)
    (h : wpList P ops Q rest (a.put o.dst (.int .i64 n)) w) : wpList P ops Q (o :: rest) a w := by
  refine wpList_plain hg fun K' hK' => ?_
  unfold Oper.wp
  simp [execOp, hop, resolve, invoke, builtin, hm, hown.len ht o.type, Result.andThen]
  exact hK' _ _ h
end

/-- Only the blocks of S have turned; what is new lies behind. -/
structure Only (S : Nat → Prop) (w w' : World) : Prop where
  os : w'.os = w.os
  tape : w'.tape = w.tape
  output : w'.output = w.output
  size : w.heap.size ≤ w'.heap.size
  block : ∀ k, k < w.heap.size → ¬ S k → w'.heap[k]? = w.heap[k]?
section
variable {S S' : Nat → Prop} {w w' w'' : World}
theorem Only.refl (S : Nat → Prop) (w : World) : Only S w w := ⟨rfl, rfl, rfl, Nat.le_refl _, fun _ _ _ => rfl⟩
theorem Only.trans (h : Only S w w') (k : Only S w' w'') : Only S w w'' :=
  ⟨k.os.trans h.os, k.tape.trans h.tape, k.output.trans h.output, Nat.le_trans h.size k.size, fun i hi hn => (k.block i (Nat.lt_of_lt_of_le hi h.size) hn).trans (h.block i hi hn)⟩
theorem Only.mono (h : Only S w w') (hS : ∀ k, k < w.heap.size → S k → S' k) : Only S' w w' := ⟨h.os, h.tape, h.output, h.size, fun i hi hn => h.block i hi (fun hs => hn (hS i hi hs))⟩
theorem only_below (h : Below w.heap.size w w') : Only S w w' := ⟨h.os, h.tape, h.output, h.size, fun i hi _ => h.block i hi⟩
theorem only_grown {row : Option Nat} (h : w.grownBy w' row) (hS : ∀ k, row = some k → S k) : Only S w w' := ⟨h.os, h.tape, h.output, h.size, fun i hi hn => h.block i hi (fun e => hn (hS i e.symm))⟩
theorem only_turned {b : Nat} (h : w.mapTurned w' b) (hS : S b) : Only S w w' := only_grown h.grown (fun k e => by injection e with e; subst e; exact hS)
theorem only_set {p : Addr} (u : Value) (hS : S p.block) : Only S w (w.setCell p u) := by
  have h : Below p.block w (w.setCell p u) := (Below.refl _ _).setCell (Nat.le_refl _) u
  exact ⟨h.os, h.tape, h.output, h.size, fun i _ hn => Below.heap_setCell _ _ _ _ (fun e => hn (e ▸ hS))⟩
theorem only_alloc (o : Obj) : Only S w (w.alloc o) := only_below ((Below.refl _ _).alloc (Nat.le_refl _) o)
theorem only_drew : Only S w w.drew := only_below (Below.refl _ _).drew
theorem Only.below (h : Only S w w') {B : Nat} (hB : B ≤ w.heap.size) (hS : ∀ k, S k → B ≤ k) : Below B w w' := ⟨h.os, h.tape, h.output, h.size, fun i hi => h.block i (by omega) (fun hs => by have := hS i hs; omega)⟩
theorem Only.cell (h : Only S w w') {p : Addr} (hp : p.block < w.heap.size) (hn : ¬ S p.block) : w'.cell? p = w.cell? p := World.cell?_of_block (h.block _ hp hn)
/-- A row of the call's own stays if its block does. -/
theorem Only.own {base n s : Nat} {e : TypeId} {v : Value} {xs : List Value} (h : Only S w w') (ho : w.ownsRow base e s v n xs) (hn : ∀ k, v.ownBlock = some k → ¬ S k) : w'.ownsRow base e s v n xs := by
  obtain ⟨h1, h2⟩ := ho
  refine ⟨h1, ?_⟩
  rcases h2 with h2 | ⟨g, cap, cur, rfl, hb, hblk, r⟩
  · exact .inl h2
  · exact .inr ⟨g, cap, cur, rfl, hb, (h.block g (Array.getElem?_eq_some_iff.1 hblk).1 (hn g rfl)).trans hblk, r⟩
/-- The block of a row holds cells of its type. -/
theorem own_block {base n s : Nat} {e : TypeId} {v : Value} {xs : List Value} (ho : w.ownsRow base e s v n xs) {k : Nat} (hk : v.ownBlock = some k) : base ≤ k ∧ k < w.heap.size ∧ ∃ cs, w.heap[k]? = some (.cells cs e (0, 0)) := by
  obtain ⟨_, ⟨rfl, _⟩ | ⟨g, cap, cur, rfl, hb, hblk, _⟩⟩ := ho
  · simp [Value.ownBlock] at hk
  · simp [Value.ownBlock] at hk
    subst hk
    exact ⟨hb, (Array.getElem?_eq_some_iff.1 hblk).1, _, hblk⟩
theorem MapF.only {P : Program} {K : TypeId} {b n : Nat} {f : Int → Option Value} (h : MapF P K w b n f) (ho : Only S w w') (hn : ¬ S b) : MapF P K w' b n f := h.same (ho.block b h.lt hn)
end
end Go.Proofs.Ytlginmnmobkbhaa
