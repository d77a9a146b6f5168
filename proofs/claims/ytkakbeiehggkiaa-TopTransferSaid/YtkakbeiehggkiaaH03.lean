/-
  Maps of the call's own, keyed by int, whose elements are any values: what they hold, as a function.
  A slice of bytes that came in, opened.
  append of bytes to a slice that the call has made; strings of bytes; joined, own.
-/
import Derived.Maps.OwnSet
import Derived.WalkKit
import Derived.Below
import Derived.Lib.Hide
import Derived.Test.YtkakbeiehggkiaaH01
import Derived.Test.YtkakbeiehggkiaaH02
import Derived.Laws.BytesArg
namespace Go.Proofs.Ytkakbeiehggkiaa
open Go.Maps Go.RowKit Go.ChangeMaps Go.MapKept

def rawR (v : Value) : Option (DataW Value × List MemPlace) := some (.held v, [])
def litI (k : Int) : Lit := .int .i64 k
theorem litI_ne {a b : Int} (h : a ≠ b) : litI a ≠ litI b := fun e => h (by injection e)
theorem litI_key (k : Int) : WideAt.IsKeyLit (litI k) := trivial

/-- Block b is a map of n entries that holds f. -/
def MapF (P : Program) (K : TypeId) (w : World) (b n : Nat) (f : Int → Option Value) : Prop :=
  ∃ D : DataW Value, w.ownsMap P K rawR b n D ∧ Maps.size D = n ∧ ∀ k : Int, match f k with
    | none => Maps.has D (litI k) = false
    | some v => Maps.has D (litI k) = true ∧ ∀ z, D.atKey (litI k) z = .held v

section
variable {P : Program} {K E T : TypeId} {w w' : World} {b n : Nat} {f : Int → Option Value}
theorem mapF_made (w : World) (P : Program) (K : TypeId) : MapF P K (w.alloc (.map #[] 0)) w.heap.size 0 (fun _ => none) :=
  ⟨_, World.ownsMap_made _ _ _ _, rfl, fun k => by simp [Maps.has]⟩
theorem ownsMap_tight {D : DataW Value} (h : w.ownsMap P K rawR b n D) : w.ownsMap P K rawR b (Maps.size D) D := by
  obtain ⟨es, clock, hb, F, _, rfl⟩ := h
  exact ⟨es, clock, hb, F, by simp [Maps.size, length_sorted], rfl⟩
theorem MapF.lt (h : MapF P K w b n f) : b < w.heap.size := by obtain ⟨D, h, _⟩ := h; exact h.lt
theorem MapF.same (h : MapF P K w b n f) (hb : w'.heap[b]? = w.heap[b]?) : MapF P K w' b n f := by
  obtain ⟨D, ⟨es, clock, h1, h2⟩, h3⟩ := h
  exact ⟨D, ⟨es, clock, hb.trans h1, h2⟩, h3⟩
theorem MapF.len (h : MapF P K w b n f) (ht : P.underlying T = some (.map K E)) (ty : TypeId) : (Builtin.len_ #[T] ty #[.map (some b)]).run P w = .ok (.int .i64 n) w := by
  obtain ⟨D, ho, hs, _⟩ := h
  rw [← hs]
  exact ho.len ht ty
theorem MapF.block (h : MapF P K w b n f) : ∃ es clock, w.heap[b]? = some (.map es clock) := by obtain ⟨D, ⟨es, clock, h, _⟩, _⟩ := h; exact ⟨es, clock, h⟩
theorem mapTurned_other {b' k : Nat} (h : w.mapTurned w' b') (hk : k ≠ b') : w'.heap[k]? = w.heap[k]? := by
  obtain ⟨es, clock, es', clock', hb, rfl⟩ := h
  exact heap_setBlock_other hb _ hk
theorem keyI (hK : P.underlying K = some (.int .i64)) {k : Int} (hk : (Lit.int .i64 k).wf = true) : keyOf P K (.int .i64 k) = some (litI k) := keyOf_int_mk hK hk
theorem MapF.look (h : MapF P K w b n f) (hK : P.underlying K = some (.int .i64)) (ht : P.underlying T = some (.map K E)) {z : Value} (hz : (zeroValue E).run P w = .ok z w) {k : Int} (hk : (Lit.int .i64 k).wf = true) :
    (Instr.lookup T (.map (some b)) (.int .i64 k) true).run P w = .ok (.tuple #[(f k).getD z, .bool (f k).isSome]) w := by
  obtain ⟨D, ho, _, hf⟩ := h
  obtain ⟨v, ps, hrun, hv⟩ := ho.look_ok (int_keyed hK) ht hz (R := rawR) rfl (keyI hK hk)
  have hfk := hf k
  rw [hrun]
  cases e : f k with
  | none =>
    rw [e] at hfk
    simp only at hfk
    have h1 := Maps.atKey_of_not_has hfk (.held z)
    rw [h1] at hv
    simp only [rawR, Option.some.injEq, Prod.mk.injEq, DataW.held.injEq] at hv
    rw [hfk, ← hv.1]
    rfl
  | some u =>
    rw [e] at hfk
    simp only at hfk
    rw [hfk.2] at hv
    simp only [rawR, Option.some.injEq, Prod.mk.injEq, DataW.held.injEq] at hv
    rw [hfk.1, ← hv.1]
    rfl
theorem MapF.look1 (h : MapF P K w b n f) (hK : P.underlying K = some (.int .i64)) (ht : P.underlying T = some (.map K E)) {z : Value} (hz : (zeroValue E).run P w = .ok z w) {k : Int} (hk : (Lit.int .i64 k).wf = true) :
    (Instr.lookup T (.map (some b)) (.int .i64 k) false).run P w = .ok ((f k).getD z) w := by
  obtain ⟨D, ho, _, hf⟩ := h
  obtain ⟨v, ps, hrun, hv⟩ := ho.lookup (int_keyed hK) ht hz (R := rawR) rfl (keyI hK hk)
  have hfk := hf k
  rw [hrun]
  cases e : f k with
  | none =>
    rw [e] at hfk
    simp only at hfk
    have h1 := Maps.atKey_of_not_has hfk (.held z)
    rw [h1] at hv
    simp only [rawR, Option.some.injEq, Prod.mk.injEq, DataW.held.injEq] at hv
    rw [← hv.1]
    rfl
  | some u =>
    rw [e] at hfk
    simp only at hfk
    rw [hfk.2] at hv
    simp only [rawR, Option.some.injEq, Prod.mk.injEq, DataW.held.injEq] at hv
    rw [← hv.1]
    rfl
theorem MapF.put (h : MapF P K w b n f) (hK : P.underlying K = some (.int .i64)) (ht : P.underlying T = some (.map K E)) (hn : n < maxLen) {k : Int} (hk : (Lit.int .i64 k).wf = true) (h0 : f k = none) (v : Value) :
    ∃ w', (Instr.mapUpdate T (.map (some b)) (.int .i64 k) v).run P w = .ok () w' ∧ MapF P K w' b (n + 1) (fun x => if x = k then some v else f x) ∧ w.mapTurned w' b := by
  obtain ⟨D, ho, hs, hf⟩ := h
  obtain ⟨w', h1, h2, h3⟩ := ho.store (int_keyed hK) ht hn (R := rawR) (val := v) (keyI hK hk) rfl
  have hfk := hf k
  rw [h0] at hfk
  simp only at hfk
  refine ⟨w', h1, ⟨_, h2, by rw [size_put (ho.tidy (int_keyed hK)), hfk, hs]; simp, fun x => ?_⟩, h3⟩
  by_cases e : x = k
  · subst e
    simp only [if_true]
    exact ⟨has_put_same ho.isMap (litI_key _) _, fun z => atKey_put_same ho.isMap (litI_key _) _ _⟩
  · simp only [if_neg e]
    have hx := hf x
    have hne := litI_ne e
    cases e2 : f x with
    | none =>
      rw [e2] at hx
      simp only at hx ⊢
      rw [has_put_other hne]; exact hx
    | some u =>
      rw [e2] at hx
      simp only at hx ⊢
      exact ⟨by rw [has_put_other hne]; exact hx.1, fun z => by rw [atKey_put_other hne]; exact hx.2 z⟩
theorem MapF.drop (h : MapF P K w b (n + 1) f) (hK : P.underlying K = some (.int .i64)) (ht : P.underlying T = some (.map K E)) {k : Int} (hk : (Lit.int .i64 k).wf = true) {v : Value} (h0 : f k = some v) (ty : TypeId) :
    ∃ w', (Builtin.delete_ #[T, K] ty #[.map (some b), .int .i64 k]).run P w = .ok (.tuple #[]) w' ∧ MapF P K w' b n (fun x => if x = k then none else f x) ∧ w.mapTurned w' b := by
  obtain ⟨D, ho, hs, hf⟩ := h
  obtain ⟨w', h1, h2, h3⟩ := ho.drop (int_keyed hK) ht (keyI hK hk) ty
  have hfk := hf k
  rw [h0] at hfk
  simp only at hfk
  have hsz := size_del (k := litI k) (ho.tidy (int_keyed hK))
  rw [hfk.1, if_pos rfl, hs] at hsz
  have hsz : Maps.size (D.del (litI k)) = n := by omega
  have h4 := ownsMap_tight h2
  rw [hsz] at h4
  refine ⟨w', h1, ⟨_, h4, hsz, fun x => ?_⟩, h3⟩
  by_cases e : x = k
  · subst e
    simp only [if_true]
    exact has_del_same
  · simp only [if_neg e]
    have hx := hf x
    have hne := litI_ne e
    cases e2 : f x with
    | none =>
      rw [e2] at hx
      simp only at hx ⊢
      rw [has_del_other hne]; exact hx
    | some u =>
      rw [e2] at hx
      simp only at hx ⊢
      exact ⟨by rw [has_del_other hne]; exact hx.1, fun z => by rw [atKey_del_other hne]; exact hx.2 z⟩
theorem MapF.pos (h : MapF P K w b n f) (hK : P.underlying K = some (.int .i64)) {k : Int} {v : Value} (h0 : f k = some v) : ∃ m, n = m + 1 := by
  obtain ⟨D, ho, hs, hf⟩ := h
  have hfk := hf k
  rw [h0] at hfk
  simp only at hfk
  have hsz := size_del (k := litI k) (ho.tidy (int_keyed hK))
  rw [hfk.1, if_pos rfl, hs] at hsz
  exact ⟨_, hsz.symm⟩
theorem wfI {k : Int} (h0 : -9223372036854775808 ≤ k) (h1 : k ≤ 9223372036854775807) : (Lit.int .i64 k).wf = true := WalkArith.wf_i64 ⟨h0, h1⟩
end

section
variable {P : Program} {K E T : TypeId} {w : World} {b n : Nat} {f : Int → Option Value} {ops : Array Oper} {rest : List Oper} {o : Oper} {a : Act} {Q : Exit → Act → World → Prop}
theorem wpList_look_raw (hg : o.guard = none) (m x : Operand) (hop : o.op = Op.lookup T m x true) (hK : P.underlying K = some (.int .i64)) (ht : P.underlying T = some (.map K E)) {z : Value} (hz : (zeroValue E).run P w = .ok z w)
    (hm : a.eval m = .map (some b)) (hown : MapF P K w b n f) (k : Int) (hx : a.eval x = .int .i64 k) (hk : (Lit.int .i64 k).wf = true) (v : Value) (c : Bool) (hv : (f k).getD z = v) (hc : (f k).isSome = c)
    (h : wpList P ops Q rest (a.put o.dst (.tuple #[v, .bool c])) w) : wpList P ops Q (o :: rest) a w := by
  refine wpList_plain hg fun K' hK' => ?_
  have hrun := hown.look hK ht hz hk
  rw [hv, hc] at hrun
  unfold Oper.wp
  simp [execOp, hop, hm, hx, hrun, Result.andThen]
  exact hK' _ _ h
theorem wpList_put_raw (hg : o.guard = none) (m x v : Operand) (hop : o.op = Op.mapUpdate T m x v) (hK : P.underlying K = some (.int .i64)) (ht : P.underlying T = some (.map K E))
    (hm : a.eval m = .map (some b)) (hown : MapF P K w b n f) (hn : n < maxLen) (k : Int) (hx : a.eval x = .int .i64 k) (hk : (Lit.int .i64 k).wf = true) (h0 : f k = none) (val : Value) (hv : a.eval v = val)
    (h : ∀ w', MapF P K w' b (n + 1) (fun x => if x = k then some val else f x) → w.mapTurned w' b → wpList P ops Q rest (a.put o.dst undef) w') : wpList P ops Q (o :: rest) a w := by
  refine wpList_plain hg fun K' hK' => ?_
  obtain ⟨w', hrun, r1, r2⟩ := hown.put hK ht hn hk h0 val
  unfold Oper.wp
  simp [execOp, hop, hm, hx, hv, hrun, Result.andThen]
  exact hK' _ _ (h w' r1 r2)
theorem wpList_drop_raw (hg : o.guard = none) (m x : Operand) (hop : o.op = Op.call { callee := Callee.builtin Builtin.delete, args := #[m, x], argTypes := #[T, K] }) (hK : P.underlying K = some (.int .i64)) (ht : P.underlying T = some (.map K E))
    (hm : a.eval m = .map (some b)) (hown : MapF P K w b (n + 1) f) (k : Int) (hx : a.eval x = .int .i64 k) (hk : (Lit.int .i64 k).wf = true) (v : Value) (h0 : f k = some v)
    (h : ∀ w', MapF P K w' b n (fun x => if x = k then none else f x) → w.mapTurned w' b → wpList P ops Q rest (a.put o.dst (.tuple #[])) w') : wpList P ops Q (o :: rest) a w := by
  refine wpList_plain hg fun K' hK' => ?_
  obtain ⟨w', hrun, r1, r2⟩ := hown.drop hK ht hk h0 o.type
  unfold Oper.wp
  simp [execOp, hop, resolve, invoke, builtin, hm, hx, hrun, Result.andThen]
  exact hK' _ _ (h w' r1 r2)
theorem wpList_len_raw (hg : o.guard = none) (m : Operand) (hop : o.op = Op.call { callee := Callee.builtin Builtin.len, args := #[m], argTypes := #[T] }) (ht : P.underlying T = some (.map K E)) (hm : a.eval m = .map (some b)) (hown : MapF P K w b n f)
    (h : wpList P ops Q rest (a.put o.dst (.int .i64 n)) w) : wpList P ops Q (o :: rest) a w := by
  refine wpList_plain hg fun K' hK' => ?_
  unfold Oper.wp
  simp [execOp, hop, resolve, invoke, builtin, hm, hown.len ht o.type, Result.andThen]
  exact hK' _ _ h
end

/-- Only the blocks of S have turned; what is new lies behind. -/
structure Only (S : Nat → Prop) (w w' : World) : Prop where
  os : w'.os = w.os
  tape : w'.tape = w.tape
  output : w'.output = w.output
  size : w.heap.size ≤ w'.heap.size
  block : ∀ k, k < w.heap.size → ¬ S k → w'.heap[k]? = w.heap[k]?
section
variable {S S' : Nat → Prop} {w w' w'' : World}
theorem Only.refl (S : Nat → Prop) (w : World) : Only S w w := ⟨rfl, rfl, rfl, Nat.le_refl _, fun _ _ _ => rfl⟩
theorem Only.trans (h : Only S w w') (k : Only S w' w'') : Only S w w'' :=
  ⟨k.os.trans h.os, k.tape.trans h.tape, k.output.trans h.output, Nat.le_trans h.size k.size, fun i hi hn => (k.block i (Nat.lt_of_lt_of_le hi h.size) hn).trans (h.block i hi hn)⟩
theorem Only.mono (h : Only S w w') (hS : ∀ k, k < w.heap.size → S k → S' k) : Only S' w w' := ⟨h.os, h.tape, h.output, h.size, fun i hi hn => h.block i hi (fun hs => hn (hS i hi hs))⟩
theorem only_below (h : Below w.heap.size w w') : Only S w w' := ⟨h.os, h.tape, h.output, h.size, fun i hi _ => h.block i hi⟩
theorem only_grown {row : Option Nat} (h : w.grownBy w' row) (hS : ∀ k, row = some k → S k) : Only S w w' := ⟨h.os, h.tape, h.output, h.size, fun i hi hn => h.block i hi (fun e => hn (hS i e.symm))⟩
theorem only_turned {b : Nat} (h : w.mapTurned w' b) (hS : S b) : Only S w w' := only_grown h.grown (fun k e => by injection e with e; subst e; exact hS)
theorem only_set {p : Addr} (u : Value) (hS : S p.block) : Only S w (w.setCell p u) := by
  have h : Below p.block w (w.setCell p u) := (Below.refl _ _).setCell (Nat.le_refl _) u
  exact ⟨h.os, h.tape, h.output, h.size, fun i _ hn => Below.heap_setCell _ _ _ _ (fun e => hn (e ▸ hS))⟩
theorem only_alloc (o : Obj) : Only S w (w.alloc o) := only_below ((Below.refl _ _).alloc (Nat.le_refl _) o)
theorem only_drew : Only S w w.drew := only_below (Below.refl _ _).drew
theorem Only.below (h : Only S w w') {B : Nat} (hB : B ≤ w.heap.size) (hS : ∀ k, S k → B ≤ k) : Below B w w' := ⟨h.os, h.tape, h.output, h.size, fun i hi => h.block i (by omega) (fun hs => by have := hS i hs; omega)⟩
theorem Only.cell (h : Only S w w') {p : Addr} (hp : p.block < w.heap.size) (hn : ¬ S p.block) : w'.cell? p = w.cell? p := World.cell?_of_block (h.block _ hp hn)
/-- A row of the call's own stays if its block does. -/
theorem Only.own {base n s : Nat} {e : TypeId} {v : Value} {xs : List Value} (h : Only S w w') (ho : w.ownsRow base e s v n xs) (hn : ∀ k, v.ownBlock = some k → ¬ S k) : w'.ownsRow base e s v n xs := by
  obtain ⟨h1, h2⟩ := ho
  refine ⟨h1, ?_⟩
  rcases h2 with h2 | ⟨g, cap, cur, rfl, hb, hblk, r⟩
  · exact .inl h2
  · exact .inr ⟨g, cap, cur, rfl, hb, (h.block g (Array.getElem?_eq_some_iff.1 hblk).1 (hn g rfl)).trans hblk, r⟩
/-- The block of a row holds cells of its type. -/
theorem own_block {base n s : Nat} {e : TypeId} {v : Value} {xs : List Value} (ho : w.ownsRow base e s v n xs) {k : Nat} (hk : v.ownBlock = some k) : base ≤ k ∧ k < w.heap.size ∧ ∃ cs, w.heap[k]? = some (.cells cs e (0, 0)) := by
  obtain ⟨_, ⟨rfl, _⟩ | ⟨g, cap, cur, rfl, hb, hblk, _⟩⟩ := ho
  · simp [Value.ownBlock] at hk
  · simp [Value.ownBlock] at hk
    subst hk
    exact ⟨hb, (Array.getElem?_eq_some_iff.1 hblk).1, _, hblk⟩
theorem MapF.only {P : Program} {K : TypeId} {b n : Nat} {f : Int → Option Value} (h : MapF P K w b n f) (ho : Only S w w') (hn : ¬ S b) : MapF P K w' b n f := h.same (ho.block b h.lt hn)
end
end Go.Proofs.Ytkakbeiehggkiaa

namespace Go.Proofs.Ytkakbeiehggkiaa
open Go.RowKit Go.WideShapes Go.ChangeShapes

theorem cellsB : Try.prog.cellsOf 5 = 1 := by kernel_rfl

set_option maxRecDepth 100000 in
theorem open_bytes_cs {H : Type} {enc : TypeId × Value → H} {W : World} {base fuel : Nat} {a0 : Option Addr} {n c : Nat} {x : DataW H × List MemPlace}
    (hf : DataW.trod enc Try.prog W base (fun _ => true) true fuel 33 [.slice a0 n c] = some x) :
    ∃ L, AllB L ∧ RW .u8 W W.heap.size (.slice a0 n c) L := by
  rcases open_ints Try.underlying33 Try.underlying5 cellsB hf with ⟨hcs, hx⟩ | ⟨a, len', cap', zs, hcs, _, hl, hm, hz, hx, hcell, hwz⟩
  · simp only [List.cons.injEq, and_true] at hcs
    rw [hcs]
    exact ⟨[], (by intro x h; cases h), RW.nil_⟩
  · simp only [List.cons.injEq, and_true] at hcs
    injection hcs with e1 e2 e3
    subst e1 e2 e3
    simp only [if_true] at hz
    have hbd : ∀ z ∈ zs, 0 ≤ z ∧ z < 256 := fun z hz => by
      have := bounds_u8 (hwz z hz)
      omega
    refine ⟨(zs.take n).map Int.toNat, ?_, RW.mk (by simp; omega) hl hm (fun h0 => ?_)⟩
    · intro y hy
      obtain ⟨z, hz1, rfl⟩ := List.mem_map.1 hy
      have := hbd z (List.mem_of_mem_take hz1)
      omega
    · obtain ⟨b, off, rfl, hc⟩ := ints_at hcell (by omega)
      refine ⟨b, off, rfl, ?_, fun j hj => ?_⟩
      · have := hc 0 (by omega)
        exact World.block_lt_of_cell? _ _ this
      · rw [hc j (by omega)]
        have hjz : j < zs.length := by omega
        have hj2 : j < ((zs.take n).map Int.toNat).length := by simp; omega
        rw [nth_lt hj2]
        simp only [List.getElem_map, List.getElem_take]
        have := hbd zs[j] (List.getElem_mem hjz)
        simp only [List.getD_eq_getElem?_getD, List.getElem?_eq_getElem hjz, Option.getD_some]
        congr 2
        omega

set_option maxRecDepth 100000 in
theorem open_bytes {H : Type} {enc : TypeId × Value → H} {W : World} {b : Nat} {v : Value} {d : DataW H} {ps : List MemPlace}
    (hok : Value.okWide Try.prog W .any b 33 v) (h : DataW.Trod enc Try.prog W 0 (fun _ => true) true 33 v d ps) :
    ∃ A n c L, v = .slice A n c ∧ AllB L ∧ RW .u8 W W.heap.size (.slice A n c) L := by
  obtain ⟨a0, n, c, rfl⟩ := okWide_slice Try.underlying33 hok
  obtain ⟨fuel, hf⟩ := h
  obtain ⟨L, h1, h2⟩ := open_bytes_cs (by simpa [Value.cells] using hf)
  exact ⟨a0, n, c, L, rfl, h1, h2⟩
end Go.Proofs.Ytkakbeiehggkiaa

namespace Go.Proofs.Ytkakbeiehggkiaa
open Go.RowKit

def NZ (v : Value) : Prop := ∀ n c, v = .slice none n c → n = 0 ∧ c = 0
def RB (w : World) (B : Nat) (v : Value) (X : List Nat) : Prop := RW .u8 w B v X ∧ NZ v
section
variable {w w' : World} {B B' : Nat} {v : Value} {X : List Nat}
set_option maxRecDepth 100000 in
theorem nz_some {a : Addr} {n c : Nat} : NZ (.slice (some a) n c) := fun _ _ h => by injection h with h1; cases h1
set_option maxRecDepth 100000 in
theorem nz_none : NZ (.slice none 0 0) := fun _ _ h => by injection h with _ h1 h2; exact ⟨h1.symm, h2.symm⟩
set_option maxRecDepth 100000 in
theorem RB.below (h : RB w B v X) (hb : Below B w w') : RB w' B v X := ⟨h.1.below hb, h.2⟩
set_option maxRecDepth 100000 in
theorem RB.belowM (h : RB w B v X) (hb : Below B' w w') (hB : B ≤ B') : RB w' B v X := ⟨h.1.belowM hb hB, h.2⟩
set_option maxRecDepth 100000 in
theorem RB.alloc (h : RB w B v X) (hB : B ≤ w.heap.size) (o : Obj) : RB (w.alloc o) B v X := ⟨h.1.alloc hB o, h.2⟩
set_option maxRecDepth 100000 in
theorem RB.more (h : RB w B v X) (hB : B ≤ B') : RB w B' v X := ⟨h.1.more hB, h.2⟩
set_option maxRecDepth 100000 in
theorem rb_nil : RB w B (.slice none 0 0) [] := ⟨RW.nil_, nz_none⟩
set_option maxRecDepth 100000 in
theorem rb_of_owns {base n : Nat} {e : TypeId} (h : w.ownsRow base e 1 v n (bys X)) : n = X.length ∧ RB w w.heap.size v X := by
  obtain ⟨h1, h2⟩ := rw_of_owns h
  refine ⟨h1, h2, ?_⟩
  obtain ⟨_, ⟨rfl, _⟩ | ⟨g, cap, cur, rfl, _⟩⟩ := h
  · exact nz_none
  · exact nz_some
set_option maxRecDepth 100000 in
theorem RB.form (h : RB w B v X) : ∃ A c, v = .slice A X.length c := h.1.form
set_option maxRecDepth 100000 in
theorem RB.grown (h : RB w B v X) {row : Option Nat} (hB : B ≤ w.heap.size) (hg : w.grownBy w' row) (hne : ∀ k, row = some k → B ≤ k) : RB w' B v X :=
  ⟨h.1.keep fun p hp => by
    have : w'.heap[p.block]? = w.heap[p.block]? := hg.block _ (by omega) (fun e => by have := hne _ e.symm; omega)
    simp [World.cell?, this], h.2⟩
end

set_option maxRecDepth 100000 in
theorem wpList_append_bytes {w : World} {ops : Array Oper} {rest : List Oper} {o : Oper} {a : Act} {Q : Exit → Act → World → Prop} (hgd : o.guard = none) (s x : Operand)
    (ho : o.op = .call { callee := .builtin .append, args := #[s, x], argTypes := #[33, 33] })
    (base B : Nat) (v : Value) (n : Nat) (V : List Nat) (hs : a.eval s = v) (hown : w.ownsRow base 5 1 v n (bys V)) (y : Value) (X : List Nat) (hx : a.eval x = y) (hrb : RB w B y X)
    (hsz : n + X.length ≤ 140737488355328) (hbase : base ≤ w.heap.size)
    (h : ∀ v' w', w'.ownsRow base 5 1 v' (n + X.length) (bys (V ++ X)) → w.grownBy w' v.ownBlock → wpList Try.prog ops Q rest (a.put o.dst v') w') : wpList Try.prog ops Q (o :: rest) a w := by
  obtain ⟨i0, hi0, hz0, hz1, hz2⟩ := info_parts infoB
  obtain ⟨A, c, rfl⟩ := hrb.1.form
  cases A with
  | none =>
    obtain ⟨h1, h2⟩ := hrb.2 _ _ rfl
    have hX : X = [] := List.eq_nil_of_length_eq_zero h1
    subst hX
    subst h2
    refine wpList_append_own_none hgd s x _ ho base 5 i0 1 Try.underlying33 hi0 v n _ hs hown hx ?_
    exact h v w (by simpa using hown) ⟨rfl, rfl, rfl, Nat.le_refl _, fun _ _ _ => rfl⟩
  | some ad =>
    refine wpList_append_own w hgd s x _ ho base 5 i0 (.int .u8 0) 1 1 Try.underlying33 hi0 hz0 hz1 hz2 rfl (by decide) v n (bys V) hs hown ad X.length c (bys X) hx (by rw [bys_length, Nat.mul_one]) (fun j u hj => ?_) (bys_one X) (by unfold maxLen; omega) (by omega) hbase ?_
    · obtain ⟨hjl, rfl⟩ := bys_get X j u hj
      obtain ⟨b, o', e, _, hc⟩ := hrb.1.at_ (by omega)
      injection e with e
      subst e
      rw [add_none]
      exact hc j hjl
    · intro v' w' h1 h2 _
      rw [← bys_append] at h1
      exact h v' w' h1 h2

set_option maxRecDepth 100000 in
theorem open_bytesRB_cs {H : Type} {enc : TypeId × Value → H} {W : World} {base fuel : Nat} {a0 : Option Addr} {n c : Nat} {x : DataW H × List MemPlace}
    (hf : DataW.trod enc Try.prog W base (fun _ => true) true fuel 33 [.slice a0 n c] = some x) :
    ∃ L, AllB L ∧ RB W W.heap.size (.slice a0 n c) L := by
  obtain ⟨L, h1, h2⟩ := open_bytes_cs hf
  refine ⟨L, h1, h2, ?_⟩
  rcases ChangeShapes.open_ints Try.underlying33 Try.underlying5 cellsB hf with ⟨hcs, hx⟩ | ⟨a, len', cap', zs, hcs, _⟩
  · simp only [List.cons.injEq, and_true] at hcs
    rw [hcs]
    exact nz_none
  · simp only [List.cons.injEq, and_true] at hcs
    rw [hcs]
    exact nz_some
set_option maxRecDepth 100000 in
theorem open_bytesRB {H : Type} {enc : TypeId × Value → H} {W : World} {b : Nat} {v : Value} {d : DataW H} {ps : List MemPlace}
    (hok : Value.okWide Try.prog W .any b 33 v) (h : DataW.Trod enc Try.prog W 0 (fun _ => true) true 33 v d ps) :
    ∃ A n c L, v = .slice A n c ∧ AllB L ∧ RB W W.heap.size (.slice A n c) L := by
  obtain ⟨a0, n, c, rfl⟩ := WideShapes.okWide_slice Try.underlying33 hok
  obtain ⟨fuel, hf⟩ := h
  obtain ⟨L, h1, h2⟩ := open_bytesRB_cs (by simpa [Value.cells] using hf)
  exact ⟨a0, n, c, L, rfl, h1, h2⟩

def strB (L : List Nat) : ByteArray := strOfNums (L.map fun (x : Nat) => (x : Int))

set_option maxRecDepth 100000 in
theorem run_string_bytes {w : World} {B : Nat} {A : Option Addr} {n c : Nat} {L : List Nat} (h : RW .u8 w B (.slice A n c) L) :
    (convert 33 9 (.slice A n c)).run Try.prog w = .ok (.string (strB L)) w := by
  have hl := h.len
  by_cases h0 : n = 0
  · subst h0
    have hL : L = [] := List.eq_nil_of_length_eq_zero hl.symm
    subst hL
    cases A with
    | none => exact run_convert_bytes_nil w 33 5 Try.underlying33 Try.underlying5 0 c 9 Try.underlying9
    | some a =>
      have hld : (loadCells a 0).run Try.prog w = .ok (([] : List Int).map (Value.int .u8)).toArray w := by
        have := run_loadCells_list (P := Try.prog) w a [] (fun j v hj => by simp at hj)
        simpa using this
      rw [run_convert_bytes_string w 33 9 5 _ 0 c Try.underlying33 Try.underlying5 Try.underlying9, run_bytesToString w _ 0 c [] hld]
      rfl
  · obtain ⟨b, o, rfl, _, hc⟩ := h.at_ (by omega)
    refine run_convert_bytes_arg w 33 5 Try.underlying33 Try.underlying5 b o n c (L.map fun (x : Nat) => (x : Int)) (by rw [List.length_map]; omega) (fun i hi => ?_) 9 Try.underlying9
    rw [hc i hi]
    have hiL : i < L.length := by omega
    simp [nth_lt hiL, List.getD_eq_getElem?_getD, hiL]

def RetOwn (w : World) (L : List Nat) (e : Ending) (w' : World) : Prop := ∃ v, e = .returned v ∧ w'.ownsRow w.heap.size 5 1 v L.length (bys L) ∧ Below w.heap.size w w'

set_option maxRecDepth 100000 in
theorem grown_below' {w wr w1 : World} {row : Option Nat} (hb : Below w.heap.size w wr) (hg : wr.grownBy w1 row) (h : ∀ k, row = some k → w.heap.size ≤ k) : Below w.heap.size w w1 :=
  hb.trans ⟨hg.os, hg.tape, hg.output, hg.size, fun k hk => hg.block k (Nat.lt_of_lt_of_le hk hb.size) (fun e => by have := h _ e.symm; omega)⟩

end Go.Proofs.Ytkakbeiehggkiaa
