/-
  A block of three cells; bytes.Clone.
  Two strings that are the same.
  A list of frames that a call has made; what Scan finds.
  What a receiver holds; lists of deliveries of the call's own.
-/
import Derived.Test.YtkakbeiehggkiaaH03
import Derived.WalkSpells
import Derived.Maps.AppendAt
namespace Go.Proofs.Ytkakbeiehggkiaa
open Go.RowKit

set_option maxRecDepth 100000 in
theorem fr_blk {W0 w1 : World} {g : Nat} {a b c : Value} {T : TypeId} (h : W0.heap[g]? = some (.cells #[a, b, c] T (0, 0))) (hb : Below W0.heap.size W0 w1) :
    w1.cell? ⟨g, 0, none⟩ = some a ∧ w1.cell? ⟨g, 1, none⟩ = some b ∧ w1.cell? ⟨g, 2, none⟩ = some c ∧ ∀ i, w1.frozen? ⟨g, i, none⟩ = false := by
  have hlt : g < W0.heap.size := (Array.getElem?_eq_some_iff.1 h).1
  have h1 : w1.heap[g]? = some (.cells #[a, b, c] T (0, 0)) := (hb.block g hlt).trans h
  exact ⟨cell_of_row _ _ _ _ _ _ h1, cell_of_row _ _ _ _ _ _ h1, cell_of_row _ _ _ _ _ _ h1, fun i => by simp [World.frozen?, h1]⟩
set_option maxRecDepth 100000 in
theorem U0ex (w : World) : ∃ W0, Hid (W0 = w.alloc (.cells #[.int .i64 0, .int .i64 0, .slice none 0 0] 35)) ∧ Below w.heap.size w W0 ∧
    Hid (W0.heap[w.heap.size]? = some (.cells #[.int .i64 0, .int .i64 0, .slice none 0 0] 35 (0, 0))) ∧ w.heap.size < W0.heap.size :=
  ⟨_, rfl, (Below.refl _ _).alloc (Nat.le_refl _) _, heap_alloc_new w _, by simp⟩
set_option maxRecDepth 100000 in
theorem set3_below {w0 w : World} {B g : Nat} {x y z : Value} (h : Below B w0 w) (hg : B ≤ g) : Below B w0 (((w.setCell ⟨g, 0, none⟩ x).setCell ⟨g, 1, none⟩ y).setCell ⟨g, 2, none⟩ z) :=
  ((h.setCell hg x).setCell hg y).setCell hg z

set_option maxRecDepth 100000 in
theorem belW {w W w1 : World} (h0 : Below w.heap.size w W) (h : Below W.heap.size W w1) : Below w.heap.size w w1 := h0.trans (h.mono h0.size)
set_option maxRecDepth 100000 in
theorem stq {f : FuncId} {args : Array Value} {w : World} {v : Value} (h : Calls Try.prog f args w fun e w' => e = .returned v ∧ w = w') : Calls Try.prog f args w (fun e w'' => e = .returned v ∧ w'' = w) :=
  h.mono fun _ _ ⟨a, b⟩ => ⟨a, b.symm⟩
set_option maxRecDepth 100000 in
theorem rb_take {w : World} {B n c m : Nat} {A : Option Addr} {L : List Nat} (h : RB w B (.slice A n c) L) (hm : m ≤ n) (hA : ∃ a, A = some a) : RB w B (.slice A m c) (L.take m) := by
  obtain ⟨a, rfl⟩ := hA
  exact ⟨h.1.take hm, nz_some⟩

set_option maxRecDepth 100000 in
set_option maxHeartbeats 400000 in
theorem clone_some (X : List Nat) (a : Addr) (n c B : Nat) (w : World) (hx : RB w B (.slice (some a) n c) X) (hB : B ≤ w.heap.size) (h64 : X.length ≤ 1048576) :
    Calls Try.prog 60 #[.slice (some a) n c] w (RetOwn w X) := by
  have hown : (w.alloc (.cells #[] 5)).ownsRow w.heap.size 5 1 (.slice (some ⟨w.heap.size, 0, none⟩) 0 0) 0 (bys []) :=
    World.ownsRow_lit w #[] 0 (Nat.le_refl _) (by simp [maxLen]) rfl
  have hx1 := hx.alloc hB (.cells #[] 5)
  have hb1 : Below w.heap.size w (w.alloc (.cells #[] 5)) := (Below.refl _ _).alloc (Nat.le_refl _) _
  have hs1 : w.heap.size ≤ (w.alloc (.cells #[] 5)).heap.size := by simp
  have HO := Lib.hid hown
  have HX := Lib.hid hx1
  clear hown hx1 hx
  have hnil := Lib.run_eql_slice_nil (P := Try.prog) w 33 5 (some a) n c 0 0 Try.underlying33
  simp only [Option.isNone_some] at hnil
  go_enter Try.func60, Try.ntmps60
  go_wp2_with (at_builtin
               refine wpList_append_bytes rfl (.tmp 5) (.tmp 6) rfl w.heap.size B _ 0 [] rfl HO.out _ X rfl HX.out (by omega) hs1 ?_)
  intro v' w' ho hg
  go_wp2
  go_ret
  refine ⟨_, rfl, ?_, grown_below' hb1 hg (fun k hk => by simp [Value.ownBlock] at hk; omega)⟩
  simpa using ho

end Go.Proofs.Ytkakbeiehggkiaa

namespace Go.Proofs.Ytkakbeiehggkiaa
open Go.RowKit

set_option maxRecDepth 100000 in
theorem strEqZ (S : ByteArray) : (S == S) = true := by
  show ByteArray.beq S S = true
  unfold ByteArray.beq
  simp

end Go.Proofs.Ytkakbeiehggkiaa

namespace Go.Proofs.Ytkakbeiehggkiaa
open Go.RowKit

abbrev Fr := Nat × Nat × List Nat
def frC : List Fr → List Value → List Value
  | f :: Fs, v :: vs => .int .i64 (f.1 : Int) :: .int .i64 (f.2.1 : Int) :: v :: frC Fs vs
  | _, _ => []
set_option maxRecDepth 100000 in
theorem frC_append : ∀ (Fs : List Fr) (vs : List Value) (f : Fr) (v : Value), vs.length = Fs.length → frC (Fs ++ [f]) (vs ++ [v]) = frC Fs vs ++ [.int .i64 (f.1 : Int), .int .i64 (f.2.1 : Int), v]
  | [], [], _, _, _ => rfl
  | g :: Fs, u :: vs, f, v, h => by
    simp only [List.cons_append, frC]
    rw [frC_append Fs vs f v (by simpa using h)]
  | [], _ :: _, _, _, h => by simp at h
  | _ :: _, [], _, _, h => by simp at h
set_option maxRecDepth 100000 in
theorem frC_get : ∀ (Fs : List Fr) (vs : List Value) (i : Nat) (hi : i < Fs.length) (hv : vs.length = Fs.length),
    (frC Fs vs)[i * 3]? = some (.int .i64 ((Fs[i]'hi).1 : Int)) ∧ (frC Fs vs)[i * 3 + 1]? = some (.int .i64 ((Fs[i]'hi).2.1 : Int)) ∧ (frC Fs vs)[i * 3 + 2]? = some (vs[i]'(by omega))
  | [], _, i, hi, _ => by simp at hi
  | _ :: _, [], _, _, h => by simp at h
  | f :: Fs, v :: vs, 0, _, _ => by simp [frC]
  | f :: Fs, v :: vs, i + 1, hi, hv => by
    obtain ⟨h1, h2, h3⟩ := frC_get Fs vs i (by simpa using hi) (by simpa using hv)
    have e : (i + 1) * 3 = i * 3 + 1 + 1 + 1 := by omega
    rw [e]
    simp only [frC, List.getElem?_cons_succ, List.getElem_cons_succ]
    exact ⟨h1, h2, h3⟩
set_option maxRecDepth 100000 in
theorem frC_len : ∀ (Fs : List Fr) (vs : List Value), vs.length = Fs.length → (frC Fs vs).length = Fs.length * 3
  | [], [], _ => rfl
  | g :: Fs, u :: vs, h => by simp only [frC, List.length_cons]; rw [frC_len Fs vs (by simpa using h)]; omega
  | [], _ :: _, h => by simp at h
  | _ :: _, [], h => by simp at h

/-- u reads as the bytes X, in a block that is not 'row'. -/
def RBn (w : World) (row : Option Nat) (u : Value) (X : List Nat) : Prop := RB w w.heap.size u X ∧ ∀ b o n c, u = .slice (some ⟨b, o, none⟩) n c → 0 < n → some b ≠ row
set_option maxRecDepth 100000 in
theorem rbn_grown {w w' : World} {row row' : Option Nat} {u : Value} {X : List Nat} (h : RBn w row u X) (hg : w.grownBy w' row) (hr : row' = row ∨ row' = some w.heap.size) : RBn w' row' u X := by
  obtain ⟨hrb, hne⟩ := h
  obtain ⟨A, c, rfl⟩ := hrb.form
  have hcap := hrb.1.cap
  refine ⟨⟨RW.mk rfl hcap.1 hcap.2 (fun h0 => ?_), hrb.2⟩, fun b o n c' e h0 => ?_⟩
  · obtain ⟨b, o, e, hb, hc⟩ := hrb.1.at_ h0
    subst e
    refine ⟨b, o, rfl, Nat.lt_of_lt_of_le hb hg.size, fun j hj => ?_⟩
    have : w'.heap[b]? = w.heap[b]? := hg.block b hb (hne b o _ _ rfl h0)
    rw [← hc j hj]
    simp [World.cell?, this]
  · injection e with e1 e2 e3
    subst e1
    rcases hr with rfl | rfl
    · exact hne b o n c' (by rw [e2, e3]) h0
    · obtain ⟨b', o', e, hb, _⟩ := hrb.1.at_ (by omega)
      injection e with e
      injection e with e4 e5
      subst e4
      intro h
      injection h with h
      omega
set_option maxRecDepth 100000 in
theorem grown_of_below {w w' : World} (h : Below w.heap.size w w') (row : Option Nat) : w.grownBy w' row := ⟨h.os, h.tape, h.output, h.size, fun k hk _ => h.block k hk⟩

/-- v is a list of frames of the call's own, which reads as Fs. -/
def FrS (w : World) (base : Nat) (v : Value) (Fs : List Fr) : Prop :=
  ∃ vs : List Value, vs.length = Fs.length ∧ w.ownsRow base 35 3 v Fs.length (frC Fs vs) ∧ ∀ i (h : i < Fs.length) (h' : i < vs.length), RBn w v.ownBlock (vs[i]'h') (Fs[i]'h).2.2
set_option maxRecDepth 100000 in
theorem frs_nil (w : World) (base : Nat) : FrS w base (.slice none 0 0) [] := ⟨[], rfl, World.ownsRow_nil _ _ _ _, fun i h => by simp at h⟩
set_option maxRecDepth 100000 in
theorem frs_below {w w' : World} {base : Nat} {v : Value} {Fs : List Fr} (h : FrS w base v Fs) (hb : Below w.heap.size w w') : FrS w' base v Fs := by
  obtain ⟨vs, h1, h2, h3⟩ := h
  exact ⟨vs, h1, h2.kept (grown_of_below hb none) (by cases v.ownBlock <;> simp), fun i hi hi' => rbn_grown (h3 i hi hi') (grown_of_below hb _) (Or.inl rfl)⟩
set_option maxRecDepth 100000 in
theorem frs_base {w : World} {base base' : Nat} {v : Value} {Fs : List Fr} (h : FrS w base v Fs) (hb : base' ≤ base) : FrS w base' v Fs := by
  obtain ⟨vs, h1, ⟨h2, h2'⟩, h3⟩ := h
  refine ⟨vs, h1, ⟨h2, ?_⟩, h3⟩
  rcases h2' with h | ⟨g, cap, cur, a, b, c⟩
  · exact .inl h
  · exact .inr ⟨g, cap, cur, a, by omega, c⟩
set_option maxRecDepth 100000 in
theorem frs_append {w w' : World} {base : Nat} {v v' u : Value} {Fs : List Fr} {vs : List Value} {st sq : Nat} {X : List Nat} (h1 : vs.length = Fs.length) (h3 : ∀ i (h : i < Fs.length) (h' : i < vs.length), RBn w v.ownBlock (vs[i]'h') (Fs[i]'h).2.2)
    (ho : w'.ownsRow base 35 3 v' (Fs.length + 1) (frC Fs vs ++ [.int .i64 (st : Int), .int .i64 (sq : Int), u])) (hg : w.grownBy w' v.ownBlock) (hr : v'.ownBlock = v.ownBlock ∨ v'.ownBlock = some w.heap.size)
    (hu : RBn w v.ownBlock u X) : FrS w' base v' (Fs ++ [(st, sq, X)]) := by
  refine ⟨vs ++ [u], by simp [h1], ?_, fun i hi hi' => ?_⟩
  · rw [frC_append Fs vs (st, sq, X) u h1, List.length_append]
    exact ho
  · by_cases hlt : i < Fs.length
    · rw [List.getElem_append_left (by omega), List.getElem_append_left hlt]
      exact rbn_grown (h3 i hlt (by omega)) hg hr
    · have e : i = Fs.length := by simp at hi; omega
      subst e
      have e1 : (vs ++ [u])[Fs.length]'hi' = u := by
        rw [List.getElem_append_right (by omega)]
        simp [h1]
      have e2 : (Fs ++ [(st, sq, X)])[Fs.length]'hi = (st, sq, X) := by
        rw [List.getElem_append_right (by omega)]
        simp
      rw [e1, e2]
      exact rbn_grown hu hg hr

end Go.Proofs.Ytkakbeiehggkiaa

namespace Go.Proofs.Ytkakbeiehggkiaa
open Go.RowKit

/-- Bytes of the call's own. -/
def Bd (w : World) (v : Value) (X : List Nat) : Prop := w.ownsRow 0 5 1 v X.length (bys X)
set_option maxRecDepth 100000 in
theorem bd_rb {w : World} {v : Value} {X : List Nat} (h : Bd w v X) : RB w w.heap.size v X := (rb_of_owns h).2
set_option maxRecDepth 100000 in
theorem bd_owns {w : World} {base n : Nat} {v : Value} {X : List Nat} (h : w.ownsRow base 5 1 v n (bys X)) : Bd w v X := by
  have hn := (rb_of_owns h).1
  subst hn
  exact owns_base h (Nat.zero_le _)
set_option maxRecDepth 100000 in
theorem bd_nil (w : World) : Bd w (.slice none 0 0) [] := World.ownsRow_nil _ _ _ _
/-- The set has no block of bytes. -/
def NoB (w : World) (S : Nat → Prop) : Prop := ∀ k cs fr, w.heap[k]? = some (.cells cs 5 fr) → ¬ S k
set_option maxRecDepth 100000 in
theorem Bd.only {w w' : World} {S : Nat → Prop} {v : Value} {X : List Nat} (h : Bd w v X) (ho : Only S w w') (hS : NoB w S) : Bd w' v X :=
  ho.own h (fun k hk => by obtain ⟨_, _, cs, hc⟩ := own_block h hk; exact hS k cs _ hc)

abbrev Dl := Int × List Nat × Bool
def dlC : List Dl → List Value → List Value
  | d :: Ds, v :: vs => .int .i64 d.1 :: v :: .bool d.2.2 :: dlC Ds vs
  | _, _ => []
set_option maxRecDepth 100000 in
theorem dlC_append : ∀ (Ds : List Dl) (vs : List Value) (d : Dl) (v : Value), vs.length = Ds.length → dlC (Ds ++ [d]) (vs ++ [v]) = dlC Ds vs ++ [.int .i64 d.1, v, .bool d.2.2]
  | [], [], _, _, _ => rfl
  | g :: Fs, u :: vs, f, v, h => by
    simp only [List.cons_append, dlC]
    rw [dlC_append Fs vs f v (by simpa using h)]
  | [], _ :: _, _, _, h => by simp at h
  | _ :: _, [], _, _, h => by simp at h
set_option maxRecDepth 100000 in
theorem dlC_append2 : ∀ (Ds : List Dl) (vs : List Value) (Es : List Dl) (us : List Value), vs.length = Ds.length → dlC (Ds ++ Es) (vs ++ us) = dlC Ds vs ++ dlC Es us
  | [], [], _, _, _ => rfl
  | g :: Fs, u :: vs, Es, us, h => by
    simp only [List.cons_append, dlC]
    rw [dlC_append2 Fs vs Es us (by simpa using h)]
  | [], _ :: _, _, _, h => by simp at h
  | _ :: _, [], _, _, h => by simp at h
set_option maxRecDepth 100000 in
theorem dlC_len : ∀ (Ds : List Dl) (vs : List Value), vs.length = Ds.length → (dlC Ds vs).length = Ds.length * 3
  | [], [], _ => rfl
  | g :: Fs, u :: vs, h => by simp only [dlC, List.length_cons]; rw [dlC_len Fs vs (by simpa using h)]; omega
  | [], _ :: _, h => by simp at h
  | _ :: _, [], h => by simp at h
set_option maxRecDepth 100000 in
theorem dlC_get : ∀ (Ds : List Dl) (vs : List Value) (i : Nat) (hi : i < Ds.length) (hv : vs.length = Ds.length),
    (dlC Ds vs)[i * 3]? = some (.int .i64 (Ds[i]'hi).1) ∧ (dlC Ds vs)[i * 3 + 1]? = some (vs[i]'(by omega)) ∧ (dlC Ds vs)[i * 3 + 2]? = some (.bool (Ds[i]'hi).2.2)
  | [], _, i, hi, _ => by simp at hi
  | _ :: _, [], _, _, h => by simp at h
  | f :: Fs, v :: vs, 0, _, _ => by simp [dlC]
  | f :: Fs, v :: vs, i + 1, hi, hv => by
    obtain ⟨h1, h2, h3⟩ := dlC_get Fs vs i (by simpa using hi) (by simpa using hv)
    have e : (i + 1) * 3 = i * 3 + 1 + 1 + 1 := by omega
    rw [e]
    simp only [dlC, List.getElem?_cons_succ, List.getElem_cons_succ]
    exact ⟨h1, h2, h3⟩

/-- v is a list of deliveries of the call's own, from block 'base' on, which reads as Ds. -/
def DlS (w : World) (base : Nat) (v : Value) (Ds : List Dl) : Prop :=
  ∃ vs : List Value, vs.length = Ds.length ∧ w.ownsRow base 85 3 v Ds.length (dlC Ds vs) ∧ ∀ i (h : i < Ds.length) (h' : i < vs.length), Bd w (vs[i]'h') (Ds[i]'h).2.1
set_option maxRecDepth 100000 in
theorem dls_nil (w : World) (base : Nat) : DlS w base (.slice none 0 0) [] := ⟨[], rfl, World.ownsRow_nil _ _ _ _, fun i h => by simp at h⟩
set_option maxRecDepth 100000 in
theorem types_apart2 : (5 : Nat) ≠ 85 := by decide
set_option maxRecDepth 100000 in
theorem dls_only {w w' : World} {S : Nat → Prop} {base : Nat} {v : Value} {Ds : List Dl} (h : DlS w base v Ds) (ho : Only S w w') (hS : NoB w S) (hn : ∀ k, v.ownBlock = some k → ¬ S k) : DlS w' base v Ds := by
  obtain ⟨vs, h1, h2, h3⟩ := h
  exact ⟨vs, h1, ho.own h2 hn, fun i hi hi' => (h3 i hi hi').only ho hS⟩
set_option maxRecDepth 100000 in
theorem dls_base {w : World} {base base' : Nat} {v : Value} {Ds : List Dl} (h : DlS w base v Ds) (hb : base' ≤ base) : DlS w base' v Ds := by
  obtain ⟨vs, h1, ⟨h2, h2'⟩, h3⟩ := h
  refine ⟨vs, h1, ⟨h2, ?_⟩, h3⟩
  rcases h2' with h | ⟨g, cap, cur, a, b, c⟩
  · exact .inl h
  · exact .inr ⟨g, cap, cur, a, by omega, c⟩
set_option maxRecDepth 100000 in
/-- The row that an append may write holds no bytes. -/
theorem nob_row {w : World} {base e s n : Nat} {v : Value} {xs : List Value} (h : w.ownsRow base e s v n xs) (he : (5 : Nat) ≠ e) : NoB w (fun k => v.ownBlock = some k) := by
  intro k cs fr hk hs
  obtain ⟨_, _, cs', hc⟩ := own_block h hs
  rw [hk] at hc
  simp at hc
  exact he hc.2.1
set_option maxRecDepth 100000 in
theorem dls_append {w w' : World} {base : Nat} {v v' u : Value} {Ds : List Dl} {vs : List Value} {sq : Int} {X : List Nat} {l : Bool} (h1 : vs.length = Ds.length) (h2 : w.ownsRow base 85 3 v Ds.length (dlC Ds vs))
    (h3 : ∀ i (h : i < Ds.length) (h' : i < vs.length), Bd w (vs[i]'h') (Ds[i]'h).2.1)
    (ho : w'.ownsRow base 85 3 v' (Ds.length + 1) (dlC Ds vs ++ [.int .i64 sq, u, .bool l])) (hg : w.grownBy w' v.ownBlock) (hu : Bd w u X) : DlS w' base v' (Ds ++ [(sq, X, l)]) := by
  have hO : Only (fun k => v.ownBlock = some k) w w' := only_grown hg (fun k e => e)
  have hN := nob_row h2 types_apart2
  refine ⟨vs ++ [u], by simp [h1], ?_, fun i hi hi' => ?_⟩
  · rw [dlC_append Ds vs (sq, X, l) u h1, List.length_append]
    exact ho
  · by_cases hlt : i < Ds.length
    · rw [List.getElem_append_left (by omega), List.getElem_append_left hlt]
      exact (h3 i hlt (by omega)).only hO hN
    · have e : i = Ds.length := by simp at hi; omega
      subst e
      have e1 : (vs ++ [u])[Ds.length]'hi' = u := by
        rw [List.getElem_append_right (by omega)]
        simp [h1]
      have e2 : (Ds ++ [(sq, X, l)])[Ds.length]'hi = (sq, X, l) := by
        rw [List.getElem_append_right (by omega)]
        simp
      rw [e1, e2]
      exact hu.only hO hN

/-- What is held: number k has these bytes, or was given up. -/
abbrev Hf := Int → Option (List Nat × Bool)
def FH (w : World) (f : Int → Option Value) (F : Hf) : Prop :=
  ∀ k : Int, match F k with
    | none => f k = none
    | some x => ∃ v, f k = some (.agg #[.int .i64 k, v, .bool x.2]) ∧ Bd w v x.1
set_option maxRecDepth 100000 in
theorem FH.only {w w' : World} {S : Nat → Prop} {f : Int → Option Value} {F : Hf} (h : FH w f F) (ho : Only S w w') (hS : NoB w S) : FH w' f F := by
  intro k
  have hk := h k
  cases e : F k with
  | none => rw [e] at hk; exact hk
  | some x =>
    rw [e] at hk
    obtain ⟨v, h1, h2⟩ := hk
    exact ⟨v, h1, h2.only ho hS⟩
set_option maxRecDepth 100000 in
theorem FH.none_ {w : World} {f : Int → Option Value} {F : Hf} (h : FH w f F) {k : Int} (hk : F k = none) : f k = none := by have := h k; rw [hk] at this; exact this
set_option maxRecDepth 100000 in
theorem FH.some_ {w : World} {f : Int → Option Value} {F : Hf} (h : FH w f F) {k : Int} {x : List Nat × Bool} (hk : F k = some x) : ∃ v, f k = some (.agg #[.int .i64 k, v, .bool x.2]) ∧ Bd w v x.1 := by have := h k; rw [hk] at this; exact this
set_option maxRecDepth 100000 in
theorem FH.put {w : World} {f : Int → Option Value} {F : Hf} (h : FH w f F) {k : Int} {v : Value} {X : List Nat} {l : Bool} (hv : Bd w v X) :
    FH w (fun x => if x = k then some (.agg #[.int .i64 k, v, .bool l]) else f x) (fun x => if x = k then some (X, l) else F x) := by
  intro x
  by_cases e : x = k
  · subst e
    simp only [if_true]
    exact ⟨v, rfl, hv⟩
  · simp only [if_neg e]
    exact h x
set_option maxRecDepth 100000 in
theorem FH.del {w : World} {f : Int → Option Value} {F : Hf} (h : FH w f F) {k : Int} : FH w (fun x => if x = k then none else f x) (fun x => if x = k then none else F x) := by
  intro x
  by_cases e : x = k
  · subst e
    simp only [if_true]
  · simp only [if_neg e]
    exact h x
set_option maxRecDepth 100000 in
theorem FH.congr {w : World} {f : Int → Option Value} {F F' : Hf} (h : FH w f F) (e : ∀ k, F' k = F k) : FH w f F' := by
  have : F' = F := funext e
  rw [this]; exact h

/-- A receiver behind a pointer to block g; its map is block mb. -/
def Rcv (w : World) (g mb N : Nat) (st win nx : Int) (F : Hf) : Prop :=
  w.heap[g]? = some (.cells #[.int .i64 st, .int .i64 win, .int .i64 nx, .map (some mb)] 89 (0, 0)) ∧ ∃ f, MapF Try.prog 3 w mb N f ∧ FH w f F
set_option maxRecDepth 100000 in
theorem rcv_nob {w : World} {g mb N : Nat} {st win nx : Int} {F : Hf} (h : Rcv w g mb N st win nx F) : NoB w (fun k => k = g ∨ k = mb) := by
  intro k cs fr hk hs
  rcases hs with rfl | rfl
  · rw [h.1] at hk
    injection hk with hk
    injection hk with _ hk
    exact absurd hk (by decide)
  · obtain ⟨_, f, hm, _⟩ := h
    obtain ⟨es, c, hb⟩ := hm.block
    rw [hb] at hk
    simp at hk
set_option maxRecDepth 100000 in
theorem rcv_only {w w' : World} {S : Nat → Prop} {g mb N : Nat} {st win nx : Int} {F : Hf} (h : Rcv w g mb N st win nx F) (ho : Only S w w') (hS : NoB w S) (hg : ¬ S g) (hm : ¬ S mb) : Rcv w' g mb N st win nx F := by
  obtain ⟨h1, f, h2, h3⟩ := h
  exact ⟨(ho.block g (Array.getElem?_eq_some_iff.1 h1).1 hg).trans h1, f, h2.only ho hm, h3.only ho hS⟩
set_option maxRecDepth 100000 in
theorem rcv_apart {w : World} {g mb N : Nat} {st win nx : Int} {F : Hf} (h : Rcv w g mb N st win nx F) : g ≠ mb ∧ g < w.heap.size ∧ mb < w.heap.size := by
  obtain ⟨h1, f, h2, h3⟩ := h
  obtain ⟨es, c, hb⟩ := h2.block
  refine ⟨fun e => ?_, (Array.getElem?_eq_some_iff.1 h1).1, h2.lt⟩
  subst e
  rw [h1] at hb
  simp at hb

/-- What is delivered: j numbers from nx on. -/
def dsOf (F : Hf) (nx : Int) : Nat → List Dl
  | 0 => []
  | j + 1 => dsOf F nx j ++ [(nx + j, (F (nx + j)).getD ([], false))]
set_option maxRecDepth 100000 in
theorem dsOf_len (F : Hf) (nx : Int) : ∀ j, (dsOf F nx j).length = j
  | 0 => rfl
  | j + 1 => by simp [dsOf, dsOf_len F nx j]
set_option maxRecDepth 100000 in
theorem dsOf_get (F : Hf) (nx : Int) : ∀ j i (h : i < (dsOf F nx j).length), (dsOf F nx j)[i] = (nx + i, (F (nx + i)).getD ([], false))
  | 0, i, h => by simp [dsOf] at h
  | j + 1, i, h => by
    by_cases hi : i < (dsOf F nx j).length
    · simp only [dsOf]
      rw [List.getElem_append_left hi]
      exact dsOf_get F nx j i hi
    · have e : i = j := by
        have h2 := dsOf_len F nx (j + 1)
        have h3 := dsOf_len F nx j
        omega
      subst e
      simp only [dsOf]
      rw [List.getElem_append_right (by omega)]
      simp
/-- The rest. -/
def cutF (F : Hf) (n : Int) : Hf := fun k => if k < n then none else F k
set_option maxRecDepth 100000 in
theorem cutF_zero {F : Hf} {nx : Int} (h : ∀ k, k < nx → F k = none) : ∀ k, cutF F nx k = F k := fun k => by
  unfold cutF
  by_cases e : k < nx
  · rw [if_pos e, h k e]
  · rw [if_neg e]
set_option maxRecDepth 100000 in
theorem cutF_step (F : Hf) (n : Int) (k : Int) : cutF F (n + 1) k = (if k = n then none else cutF F n k) := by
  unfold cutF
  by_cases e : k = n
  · subst e
    rw [if_pos (by omega), if_pos rfl]
  · rw [if_neg e]
    by_cases e2 : k < n
    · rw [if_pos (by omega), if_pos e2]
    · rw [if_neg (by omega), if_neg e2]
end Go.Proofs.Ytkakbeiehggkiaa
