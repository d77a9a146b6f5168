/-
  append of bytes to a slice that the call has made; strings of bytes; joined, own.
-/
import Derived.Test.YtlginmnmobkbhaaZNumber
import Derived.Test.YtlginmnmobkbhaaZOpen
import Derived.Laws.BytesArg
namespace Go.Proofs.Ytlginmnmobkbhaa
open Go.RowKit

def NZ (v : Value) : Prop := ∀ n c, v = .slice none n c → n = 0 ∧ c = 0
def RB (w : World) (B : Nat) (v : Value) (X : List Nat) : Prop := RW .u8 w B v X ∧ NZ v
section
variable {w w' : World} {B B' : Nat} {v : Value} {X : List Nat}
set_option maxRecDepth 100000 in
theorem nz_some {a : Addr} {n c : Nat} : NZ (.slice (some a) n c) := fun _ _ h => by injection h with h1; cases h1
set_option maxRecDepth 100000 in
theorem nz_none : NZ (.slice none 0 0) := fun _ _ h => by injection h with _ h1 h2; exact ⟨h1.symm, h2.symm⟩
set_option maxRecDepth 100000 in
theorem RB.below (h : RB w B v X) (hb : Below B w w') : RB w' B v X := ⟨h.1.below hb, h.2⟩
set_option maxRecDepth 100000 in
theorem RB.belowM (h : RB w B v X) (hb : Below B' w w') (hB : B ≤ B') : RB w' B v X := ⟨h.1.belowM hb hB, h.2⟩
set_option maxRecDepth 100000 in
theorem RB.alloc (h : RB w B v X) (hB : B ≤ w.heap.size) (o : Obj) : RB (w.alloc o) B v X := ⟨h.1.alloc hB o, h.2⟩
set_option maxRecDepth 100000 in
theorem RB.more (h : RB w B v X) (hB : B ≤ B') : RB w B' v X := ⟨h.1.more hB, h.2⟩
set_option maxRecDepth 100000 in
theorem rb_nil : RB w B (.slice none 0 0) [] := ⟨RW.nil_, nz_none⟩
set_option maxRecDepth 100000 in
theorem rb_of_owns {base n : Nat} {e : TypeId} (h : w.ownsRow base e 1 v n (bys X)) : n = X.length ∧ RB w w.heap.size v X := by
  obtain ⟨h1, h2⟩ := rw_of_owns h
  refine ⟨h1, h2, ?_⟩
  obtain ⟨_, ⟨rfl, _⟩ | ⟨g, cap, cur, rfl, _⟩⟩ := h
  · exact nz_none
  · exact nz_some
set_option maxRecDepth 100000 in
theorem RB.form (h : RB w B v X) : ∃ A c, v = .slice A X.length c := h.1.form
set_option maxRecDepth 100000 in
theorem RB.grown (h : RB w B v X) {row : Option Nat} (hB : B ≤ w.heap.size) (hg : w.grownBy w' row) (hne : ∀ k, row = some k → B ≤ k) : RB w' B v X :=
  ⟨h.1.keep fun p hp => by
    have : w'.heap[p.block]? = w.heap[p.block]? := hg.block _ (by omega) (fun e => by have := hne _ e.symm; omega)
    simp [World.cell?, this], h.2⟩
end

set_option maxRecDepth 100000 in
theorem wpList_append_bytes {w : World} {ops : Array Oper} {rest : List Oper} {o : Oper} {a : Act} {Q : Exit → Act → World → Prop} (hgd : o.guard = none) (s x : Operand)
    (ho : o.op = .call { callee := .builtin .append, args := #[s, x], argTypes := #[33, 33] })
    (base B : Nat) (v : Value) (n : Nat) (V : List Nat) (hs : a.eval s = v) (hown : w.ownsRow base 5 1 v n (bys V)) (y : Value) (X : List Nat) (hx : a.eval x = y) (hrb : RB w B y X)
    (hsz : n + X.length ≤ 140737488355328) (hbase : base ≤ w.heap.size)
    (h : ∀ v' w', w'.ownsRow base 5 1 v' (n + X.length) (bys (V ++ X)) → w.grownBy w' v.ownBlock → wpList Try.prog ops Q rest (a.put o.dst v') w') : wpList Try.prog ops Q (o :: rest) a w := by
  obtain ⟨i0, hi0, hz0, hz1, hz2⟩ := info_parts infoB
  obtain ⟨A, c, rfl⟩ := hrb.1.form
  cases A with
  | none =>
    obtain ⟨h1, h2⟩ := hrb.2 _ _ rfl
    have hX : X = [] := List.eq_nil_of_length_eq_zero h1
    subst hX
    subst h2
    refine wpList_append_own_none hgd s x _ ho base 5 i0 1 Try.underlying33 hi0 v n _ hs hown hx ?_
    exact h v w (by simpa using hown) ⟨rfl, rfl, rfl, Nat.le_refl _, fun _ _ _ => rfl⟩
  | some ad =>
    refine wpList_append_own w hgd s x _ ho base 5 i0 (.int .u8 0) 1 1 Try.underlying33 hi0 hz0 hz1 hz2 rfl (by decide) v n (bys V) hs hown ad X.length c (bys X) hx (by rw [bys_length, Nat.mul_one]) (fun j u hj => ?_) (bys_one X) (by unfold maxLen; omega) (by omega) hbase ?_
    · obtain ⟨hjl, rfl⟩ := bys_get X j u hj
      obtain ⟨b, o', e, _, hc⟩ := hrb.1.at_ (by omega)
      injection e with e
      subst e
      rw [add_none]
      exact hc j hjl
    · intro v' w' h1 h2 _
      rw [← bys_append] at h1
      exact h v' w' h1 h2

set_option maxRecDepth 100000 in
theorem open_bytesRB_cs {H : Type} {enc : TypeId × Value → H} {W : World} {base fuel : Nat} {a0 : Option Addr} {n c : Nat} {x : DataW H × List MemPlace}
    (hf : DataW.trod enc Try.prog W base (fun _ => true) true fuel 33 [.slice a0 n c] = some x) :
    ∃ L, AllB L ∧ RB W W.heap.size (.slice a0 n c) L := by
  obtain ⟨L, h1, h2⟩ := open_bytes_cs hf
  refine ⟨L, h1, h2, ?_⟩
  rcases ChangeShapes.open_ints Try.underlying33 Try.underlying5 cellsB hf with ⟨hcs, hx⟩ | ⟨a, len', cap', zs, hcs, _⟩
  · simp only [List.cons.injEq, and_true] at hcs
    rw [hcs]
    exact nz_none
  · simp only [List.cons.injEq, and_true] at hcs
    rw [hcs]
    exact nz_some
set_option maxRecDepth 100000 in
theorem open_bytesRB {H : Type} {enc : TypeId × Value → H} {W : World} {b : Nat} {v : Value} {d : DataW H} {ps : List MemPlace}
    (hok : Value.okWide Try.prog W .any b 33 v) (h : DataW.Trod enc Try.prog W 0 (fun _ => true) true 33 v d ps) :
    ∃ A n c L, v = .slice A n c ∧ AllB L ∧ RB W W.heap.size (.slice A n c) L := by
  obtain ⟨a0, n, c, rfl⟩ := WideShapes.okWide_slice Try.underlying33 hok
  obtain ⟨fuel, hf⟩ := h
  obtain ⟨L, h1, h2⟩ := open_bytesRB_cs (by simpa [Value.cells] using hf)
  exact ⟨a0, n, c, L, rfl, h1, h2⟩

def strB (L : List Nat) : ByteArray := strOfNums (L.map fun (x : Nat) => (x : Int))

set_option maxRecDepth 100000 in
theorem run_string_bytes {w : World} {B : Nat} {A : Option Addr} {n c : Nat} {L : List Nat} (h : RW .u8 w B (.slice A n c) L) :
    (convert 33 9 (.slice A n c)).run Try.prog w = .ok (.string (strB L)) w := by
  have hl := h.len
  by_cases h0 : n = 0
  · subst h0
    have hL : L = [] := List.eq_nil_of_length_eq_zero hl.symm
    subst hL
    cases A with
    | none => exact run_convert_bytes_nil w 33 5 Try.underlying33 Try.underlying5 0 c 9 Try.underlying9
    | some a =>
      have hld : (loadCells a 0).run Try.prog w = .ok (([] : List Int).map (Value.int .u8)).toArray w := by
        have := run_loadCells_list (P := Try.prog) w a [] (fun j v hj => by simp at hj)
        simpa using this
      rw [run_convert_bytes_string w 33 9 5 _ 0 c Try.underlying33 Try.underlying5 Try.underlying9, run_bytesToString w _ 0 c [] hld]
      rfl
  · obtain ⟨b, o, rfl, _, hc⟩ := h.at_ (by omega)
    refine run_convert_bytes_arg w 33 5 Try.underlying33 Try.underlying5 b o n c (L.map fun (x : Nat) => (x : Int)) (by rw [List.length_map]; omega) (fun i hi => ?_) 9 Try.underlying9
    rw [hc i hi]
    have hiL : i < L.length := by omega
    simp [nth_lt hiL, List.getD_eq_getElem?_getD, hiL]

def RetOwn (w : World) (L : List Nat) (e : Ending) (w' : World) : Prop := ∃ v, e = .returned v ∧ w'.ownsRow w.heap.size 5 1 v L.length (bys L) ∧ Below w.heap.size w w'

set_option maxRecDepth 100000 in
theorem grown_below' {w wr w1 : World} {row : Option Nat} (hb : Below w.heap.size w wr) (hg : wr.grownBy w1 row) (h : ∀ k, row = some k → w.heap.size ≤ k) : Below w.heap.size w w1 :=
  hb.trans ⟨hg.os, hg.tape, hg.output, hg.size, fun k hk => hg.block k (Nat.lt_of_lt_of_le hk hb.size) (fun e => by have := h _ e.symm; omega)⟩

end Go.Proofs.Ytlginmnmobkbhaa
