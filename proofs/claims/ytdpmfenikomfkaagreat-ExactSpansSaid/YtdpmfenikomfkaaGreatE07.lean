/-
  The document's numbers on limbs of 16 bits: division where the divisor is greater, where it has one limb.
  The document's numbers: boxed structs: what stays, what a store leaves.
  The document's numbers: division by one limb, gcd with one limb.
-/
import Derived.Test.YtdpmfenikomfkaaGreatE06
import Derived.Deep.RegionHeld3
import Derived.Handy
namespace Go.Proofs.YtdpmfenikomfkaaGreat
open Go.RowKit

@[go_sem] theorem field_limbs (neg : Bool) (A : Option Addr) (m c : Nat) (w : World) : (Instr.field 39 (.agg #[.bool neg, .slice A m c]) 1).run Tryz.prog w = .ok (.slice A m c) w := by
  simp [Instr.field, part, go_sem, Tryz.underlying39, asAgg]
@[go_sem] theorem field_neg (neg : Bool) (A : Option Addr) (m c : Nat) (w : World) : (Instr.field 39 (.agg #[.bool neg, .slice A m c]) 0).run Tryz.prog w = .ok (.bool neg) w := by
  simp [Instr.field, part, go_sem, Tryz.underlying39, asAgg]
theorem below_drewN {B : Nat} {w : World} (q : Nat) : Below B w (w.drewN q) := ⟨rfl, rfl, rfl, Nat.le_refl _, fun _ _ => rfl⟩
def RetDv (w : World) (q r : Nat) (e : Ending) (w' : World) : Prop := ∃ A m c A' m' c', e = .returned (.tuple #[.slice A m c, .slice A' m' c']) ∧ RW .i64 w' w'.heap.size (.slice A m c) (words16 q) ∧ (A = none → c = 0) ∧ (∀ ad, A = some ad → w.heap.size ≤ ad.block) ∧
  RW .i64 w' w'.heap.size (.slice A' m' c') (words16 r) ∧ (A' = none → c' = 0) ∧ Below w.heap.size w w'

set_option maxRecDepth 100000 in
set_option maxHeartbeats 2000000 in
theorem ddivide_low (a b : Nat) (hab : a < b) (A1 A2 : Option Addr) (n m c1 c2 B : Nat) (w : World) (hx : RW .i64 w B (.slice A1 n c1) (words16 a)) (hz : A1 = none → c1 = 0) (hy : RW .i64 w B (.slice A2 m c2) (words16 b)) (hB : B ≤ w.heap.size) :
    Calls Tryz.prog 53 #[.slice A1 n c1, .slice A2 m c2] w (RetDv w (a / b) (a % b)) := by
  have HX := Lib.hid (And.intro hx (And.intro hy (And.intro hz (And.intro hB hab))))
  clear hx hy hz hab
  go_enter Tryz.func53, Tryz.ntmps53
  go_wp2_with fail
  refine (dcompare_any a b A1 A2 n m c1 c2 B w HX.out.1 HX.out.2.1).mono ?_
  rintro en w2 ⟨rfl, q, rfl⟩
  rw [dcmp_lt HX.out.2.2.2.2]
  go_wp2
  go_ret2
  obtain ⟨hx, hy, hz, hB, hab⟩ := HX.out
  refine ⟨_, _, _, _, _, _, by first | rfl | trivial, ?_, fun _ => rfl, (fun ad h => by cases h), ?_, hz, below_drewN q⟩
  · rw [Nat.div_eq_of_lt hab, words16_zero]
    exact RW.nil_
  · rw [Nat.mod_eq_of_lt hab]
    exact (hx.drewN q).more hB

set_option maxRecDepth 100000 in
set_option maxHeartbeats 2000000 in
theorem ddivide_one (a b : Nat) (hb : 0 < b) (hb2 : b < 65536) (hab : b ≤ a) (A1 A2 : Option Addr) (n m c1 c2 B : Nat) (w : World) (hx : RW .i64 w B (.slice A1 n c1) (words16 a)) (hy : RW .i64 w B (.slice A2 m c2) (words16 b)) (hB : B ≤ w.heap.size) (hn : n ≤ 1000000) :
    Calls Tryz.prog 53 #[.slice A1 n c1, .slice A2 m c2] w (RetDv w (a / b) (a % b)) := by
  have hw : words16 b = [b] := words16_single (by omega) (by rw [B16_eq]; exact hb2)
  obtain rfl : m = 1 := by rw [hy.len, hw]; rfl
  have HX := Lib.hid (And.intro hx (And.intro hy hB))
  have HAB := Lib.hid hab
  obtain ⟨b2, o2, rfl, hb2', hc2⟩ := hy.at_ (by omega)
  have hcb := hc2 0 (by omega)
  rw [hw] at hcb
  have hcb : w.cell? ⟨b2, o2, none⟩ = some (.int .i64 (b : Int)) := hcb
  clear hx hy hc2 hab hw
  obtain ⟨k, hk⟩ : ∃ k : Int, dcmp a b = k := ⟨_, rfl⟩
  have hk0 : 0 ≤ k := by rw [← hk]; unfold dcmp; rw [if_neg (by have := HAB.out; omega)]; split <;> omega
  have HK := Lib.hid hk
  clear hk
  go_enter Tryz.func53, Tryz.ntmps53
  go_wp2_with fail
  refine (dcompare_any a b A1 _ n 1 c1 c2 B w HX.out.1 HX.out.2.1).mono ?_
  rintro en w2 ⟨rfl, q, rfl⟩
  rw [HK.out]
  obtain ⟨w3, hw3⟩ : ∃ w3, w3 = w.drewN q := ⟨_, rfl⟩
  have H3 : Hid (Below w.heap.size w w3 ∧ RW .i64 w3 B (.slice A1 n c1) (words16 a) ∧ B ≤ w3.heap.size) := ⟨by rw [hw3]; exact below_drewN q, by rw [hw3]; exact HX.out.1.drewN q, by rw [hw3]; exact HX.out.2.2⟩
  have hcb3 : w3.cell? ⟨b2, o2, none⟩ = some (.int .i64 (b : Int)) := by rw [hw3]; exact hcb
  rw [← hw3]
  clear hw3 hcb
  go_wp2_with fail
  refine (dshort_any a b hb (by omega) A1 n c1 B w3 H3.out.2.1 H3.out.2.2 hn).mono ?_
  rintro en w4 ⟨Aq, mq, cq, rfl, hq1, hq2, hqf, hq3⟩
  have HQF := Lib.hid hqf
  have H4 := Lib.hid (And.intro hq1 (And.intro hq2 hq3))
  have hrb : a % b < b := Nat.mod_lt _ hb
  clear hq1 hq2 hqf hq3
  revert hrb
  generalize hr : a % b = r
  intro hrb
  have HR := Lib.hid hr
  clear hr
  go_wp2_with fail
  refine (dsmall_any (r : Int) (by omega) (by omega) w4).mono ?_
  rintro en w5 ⟨v, rfl, ⟨Ar, mr, cr, rfl, hr1, hr2⟩, hb5⟩
  have H5 := Lib.hid (And.intro hr1 (And.intro hr2 hb5))
  clear hr1 hr2 hb5
  go_wp2
  go_ret2
  obtain ⟨hq1, hq2, hq3⟩ := H4.out
  obtain ⟨hr1, hr2, hb5⟩ := H5.out
  refine ⟨_, _, _, _, _, _, by first | rfl | trivial, (hq1.below hb5).more hb5.size, hq2, (fun ad h => Nat.le_trans H3.out.1.size (HQF.out ad h)), by rw [HR.out]; exact hr1, hr2, ?_⟩
  exact (H3.out.1.trans (hq3.mono H3.out.1.size)).trans (hb5.mono (Nat.le_trans H3.out.1.size hq3.size))
end Go.Proofs.YtdpmfenikomfkaaGreat

namespace Go.Proofs.YtdpmfenikomfkaaGreat
open Go.RowKit

theorem RW.qne {k : IntKind} {w w' : World} {g B : Nat} {v : Value} {xs : List Nat} (h : RW k w B v xs) (hg : ∀ p : Addr, p.block ≠ g → w'.cell? p = w.cell? p) (hne : ∀ i x, w.cell? ⟨g, i, none⟩ ≠ some (.int k x)) : RW k w' B v xs := by
  obtain ⟨A, c, e, h1, h2, h3⟩ := h
  refine ⟨A, c, e, h1, h2, fun hn => ?_⟩
  obtain ⟨b, o, ha, hb, hc⟩ := h3 hn
  refine ⟨b, o, ha, hb, fun j hj => ?_⟩
  have hcj := hc j hj
  rw [hg _ (fun e => by
    change b = g at e
    subst e
    exact hne _ _ hcj)]
  exact hcj
theorem set_other {w : World} {g i : Nat} {u : Value} {p : Addr} (h : p.block ≠ g) : (w.setCell ⟨g, i, none⟩ u).cell? p = w.cell? p :=
  World.cell?_of_block (Below.heap_setCell _ _ _ _ h)
theorem qnoint2 {w : World} {g : Nat} {k : IntKind} {p : Bool} {A1 : Option Addr} {n1 c1 : Nat} {T : TypeId} (h : w.heap[g]? = some (.cells #[.bool p, .slice A1 n1 c1] T (0, 0))) : ∀ i x, w.cell? ⟨g, i, none⟩ ≠ some (.int k x) := by
  intro i x hx
  rw [cell_of_row w g i _ _ _ h] at hx
  match i, hx with
  | 0, hx => simp at hx
  | 1, hx => simp at hx
  | i + 2, hx => simp at hx
theorem qnoint3 {w : World} {g : Nat} {k : IntKind} {p : Bool} {A1 A2 : Option Addr} {n1 c1 n2 c2 : Nat} {T : TypeId} (h : w.heap[g]? = some (.cells #[.bool p, .slice A1 n1 c1, .slice A2 n2 c2] T (0, 0))) : ∀ i x, w.cell? ⟨g, i, none⟩ ≠ some (.int k x) := by
  intro i x hx
  rw [cell_of_row w g i _ _ _ h] at hx
  match i, hx with
  | 0, hx => simp at hx
  | 1, hx => simp at hx
  | 2, hx => simp at hx
  | i + 3, hx => simp at hx
/-- A store into the block of an Int. -/
theorem qstore2 {w W0 w3 : World} {g : Nat} {T : TypeId} {p : Bool} {A1 : Option Addr} {n1 c1 : Nat} (hblk : W0.heap[g]? = some (.cells #[.bool p, .slice A1 n1 c1] T (0, 0)))
    (h0 : Below w.heap.size w W0) (hg : w.heap.size ≤ g) (h : Below W0.heap.size W0 w3) (u0 u1 : Value) :
    Below w.heap.size w ((w3.setCell ⟨g, 0, none⟩ u0).setCell ⟨g, 1, none⟩ u1) ∧
    ∀ k v xs, RW k w3 w3.heap.size v xs → RW k ((w3.setCell ⟨g, 0, none⟩ u0).setCell ⟨g, 1, none⟩ u1) ((w3.setCell ⟨g, 0, none⟩ u0).setCell ⟨g, 1, none⟩ u1).heap.size v xs := by
  have hlt : g < W0.heap.size := (Array.getElem?_eq_some_iff.1 hblk).1
  have h1 : Below w.heap.size w w3 := h0.trans (h.mono h0.size)
  refine ⟨(h1.setCell hg _).setCell hg _, fun k v xs hr => ?_⟩
  have hb3 := (h.block g hlt).trans hblk
  have hs : ((w3.setCell ⟨g, 0, none⟩ u0).setCell ⟨g, 1, none⟩ u1).heap.size = w3.heap.size := by simp
  rw [hs]
  exact hr.qne (fun p hp => (set_other hp).trans (set_other hp)) (qnoint2 hb3)
/-- A store into the block of a Q. -/
theorem qstore3 {w W0 w3 : World} {g : Nat} {T : TypeId} {p : Bool} {A1 A2 : Option Addr} {n1 c1 n2 c2 : Nat} (hblk : W0.heap[g]? = some (.cells #[.bool p, .slice A1 n1 c1, .slice A2 n2 c2] T (0, 0)))
    (h0 : Below w.heap.size w W0) (hg : w.heap.size ≤ g) (h : Below W0.heap.size W0 w3) (u0 u1 u2 : Value) :
    Below w.heap.size w (((w3.setCell ⟨g, 0, none⟩ u0).setCell ⟨g, 1, none⟩ u1).setCell ⟨g, 2, none⟩ u2) ∧
    ∀ k v xs, RW k w3 w3.heap.size v xs → RW k (((w3.setCell ⟨g, 0, none⟩ u0).setCell ⟨g, 1, none⟩ u1).setCell ⟨g, 2, none⟩ u2) (((w3.setCell ⟨g, 0, none⟩ u0).setCell ⟨g, 1, none⟩ u1).setCell ⟨g, 2, none⟩ u2).heap.size v xs := by
  have hlt : g < W0.heap.size := (Array.getElem?_eq_some_iff.1 hblk).1
  have h1 : Below w.heap.size w w3 := h0.trans (h.mono h0.size)
  refine ⟨((h1.setCell hg _).setCell hg _).setCell hg _, fun k v xs hr => ?_⟩
  have hb3 := (h.block g hlt).trans hblk
  have hs : (((w3.setCell ⟨g, 0, none⟩ u0).setCell ⟨g, 1, none⟩ u1).setCell ⟨g, 2, none⟩ u2).heap.size = w3.heap.size := by simp
  rw [hs]
  exact hr.qne (fun p hp => ((set_other hp).trans (set_other hp)).trans (set_other hp)) (qnoint3 hb3)
/-- The cells of two boxed Ints. -/
theorem qc4 {W0 w1 : World} {g : Nat} {a b a' b' : Value} {T T' : TypeId} (h0 : W0.heap[g]? = some (.cells #[a, b] T (0, 0))) (h1 : W0.heap[g + 1]? = some (.cells #[a', b'] T' (0, 0))) (h : Below W0.heap.size W0 w1) :
    w1.cell? ⟨g, 0, none⟩ = some a ∧ w1.cell? ⟨g, 1, none⟩ = some b ∧ w1.cell? ⟨g + 1, 0, none⟩ = some a' ∧ w1.cell? ⟨g + 1, 1, none⟩ = some b' :=
  ⟨qblk_cell h0 h 0 a rfl, qblk_cell h0 h 1 b rfl, qblk_cell h1 h 0 a' rfl, qblk_cell h1 h 1 b' rfl⟩
theorem qc4_set {w1 : World} {g h : Nat} {a b a' b' : Value} (hh : h ≠ g) (hh1 : h ≠ g + 1) (u0 u1 : Value)
    (K : w1.cell? ⟨g, 0, none⟩ = some a ∧ w1.cell? ⟨g, 1, none⟩ = some b ∧ w1.cell? ⟨g + 1, 0, none⟩ = some a' ∧ w1.cell? ⟨g + 1, 1, none⟩ = some b') :
    ((w1.setCell ⟨h, 0, none⟩ u0).setCell ⟨h, 1, none⟩ u1).cell? ⟨g, 0, none⟩ = some a ∧ ((w1.setCell ⟨h, 0, none⟩ u0).setCell ⟨h, 1, none⟩ u1).cell? ⟨g, 1, none⟩ = some b ∧ ((w1.setCell ⟨h, 0, none⟩ u0).setCell ⟨h, 1, none⟩ u1).cell? ⟨g + 1, 0, none⟩ = some a' ∧ ((w1.setCell ⟨h, 0, none⟩ u0).setCell ⟨h, 1, none⟩ u1).cell? ⟨g + 1, 1, none⟩ = some b' := by
  have e : ∀ q i, h ≠ q → ((w1.setCell ⟨h, 0, none⟩ u0).setCell ⟨h, 1, none⟩ u1).cell? ⟨q, i, none⟩ = w1.cell? ⟨q, i, none⟩ := fun q i hq => (set_other (fun e => hq e.symm)).trans (set_other (fun e => hq e.symm))
  rw [e _ _ hh, e _ _ hh, e _ _ hh1, e _ _ hh1]
  exact K
/-- The cells of two boxed Qs. -/
theorem qc6 {W0 w1 : World} {g : Nat} {a b c a' b' c' : Value} {T T' : TypeId} (h0 : W0.heap[g]? = some (.cells #[a, b, c] T (0, 0))) (h1 : W0.heap[g + 1]? = some (.cells #[a', b', c'] T' (0, 0))) (h : Below W0.heap.size W0 w1) :
    w1.cell? ⟨g, 0, none⟩ = some a ∧ w1.cell? ⟨g, 1, none⟩ = some b ∧ w1.cell? ⟨g, 2, none⟩ = some c ∧ w1.cell? ⟨g + 1, 0, none⟩ = some a' ∧ w1.cell? ⟨g + 1, 1, none⟩ = some b' ∧ w1.cell? ⟨g + 1, 2, none⟩ = some c' :=
  ⟨qblk_cell h0 h 0 a rfl, qblk_cell h0 h 1 b rfl, qblk_cell h0 h 2 c rfl, qblk_cell h1 h 0 a' rfl, qblk_cell h1 h 1 b' rfl, qblk_cell h1 h 2 c' rfl⟩
theorem qc6_set {w1 : World} {g h : Nat} {a b c a' b' c' : Value} (hh : h ≠ g) (hh1 : h ≠ g + 1) (u0 u1 u2 : Value)
    (K : w1.cell? ⟨g, 0, none⟩ = some a ∧ w1.cell? ⟨g, 1, none⟩ = some b ∧ w1.cell? ⟨g, 2, none⟩ = some c ∧ w1.cell? ⟨g + 1, 0, none⟩ = some a' ∧ w1.cell? ⟨g + 1, 1, none⟩ = some b' ∧ w1.cell? ⟨g + 1, 2, none⟩ = some c') :
    (((w1.setCell ⟨h, 0, none⟩ u0).setCell ⟨h, 1, none⟩ u1).setCell ⟨h, 2, none⟩ u2).cell? ⟨g, 0, none⟩ = some a ∧ (((w1.setCell ⟨h, 0, none⟩ u0).setCell ⟨h, 1, none⟩ u1).setCell ⟨h, 2, none⟩ u2).cell? ⟨g, 1, none⟩ = some b ∧ (((w1.setCell ⟨h, 0, none⟩ u0).setCell ⟨h, 1, none⟩ u1).setCell ⟨h, 2, none⟩ u2).cell? ⟨g, 2, none⟩ = some c ∧ (((w1.setCell ⟨h, 0, none⟩ u0).setCell ⟨h, 1, none⟩ u1).setCell ⟨h, 2, none⟩ u2).cell? ⟨g + 1, 0, none⟩ = some a' ∧ (((w1.setCell ⟨h, 0, none⟩ u0).setCell ⟨h, 1, none⟩ u1).setCell ⟨h, 2, none⟩ u2).cell? ⟨g + 1, 1, none⟩ = some b' ∧ (((w1.setCell ⟨h, 0, none⟩ u0).setCell ⟨h, 1, none⟩ u1).setCell ⟨h, 2, none⟩ u2).cell? ⟨g + 1, 2, none⟩ = some c' := by
  have e : ∀ q i, h ≠ q → (((w1.setCell ⟨h, 0, none⟩ u0).setCell ⟨h, 1, none⟩ u1).setCell ⟨h, 2, none⟩ u2).cell? ⟨q, i, none⟩ = w1.cell? ⟨q, i, none⟩ := fun q i hq => ((set_other (fun e => hq e.symm)).trans (set_other (fun e => hq e.symm))).trans (set_other (fun e => hq e.symm))
  rw [e _ _ hh, e _ _ hh, e _ _ hh, e _ _ hh1, e _ _ hh1, e _ _ hh1]
  exact K
theorem qalloc3 (w : World) (A B C : Obj) : (((w.alloc A).alloc B).alloc C).heap[w.heap.size]? = some A ∧ (((w.alloc A).alloc B).alloc C).heap[w.heap.size + 1]? = some B ∧ (((w.alloc A).alloc B).alloc C).heap[w.heap.size + 1 + 1]? = some C := by
  have e1 : (w.alloc A).heap.size = w.heap.size + 1 := by simp
  have e2 : ((w.alloc A).alloc B).heap.size = w.heap.size + 1 + 1 := by simp
  have f0 := heap_alloc_new w A
  have f1 := heap_alloc_new (w.alloc A) B
  have f2 := heap_alloc_new ((w.alloc A).alloc B) C
  rw [e1] at f1
  rw [e2] at f2
  exact ⟨(Below.heap_alloc _ _ _ (by rw [e2]; omega)).trans ((Below.heap_alloc _ _ _ (by rw [e1]; omega)).trans f0), (Below.heap_alloc _ _ _ (by rw [e2]; omega)).trans f1, f2⟩
theorem qalloc2 (w : World) (A B : Obj) : ((w.alloc A).alloc B).heap[w.heap.size]? = some A ∧ ((w.alloc A).alloc B).heap[w.heap.size + 1]? = some B := by
  have e1 : (w.alloc A).heap.size = w.heap.size + 1 := by simp
  have f0 := heap_alloc_new w A
  have f1 := heap_alloc_new (w.alloc A) B
  rw [e1] at f1
  exact ⟨(Below.heap_alloc _ _ _ (by rw [e1]; omega)).trans f0, f1⟩
/-- Three boxes, or two. -/
theorem qbox3 (w : World) (A B C : Obj) : ∃ W0, Hid (W0 = ((w.alloc A).alloc B).alloc C) ∧ Below w.heap.size w W0 ∧ Hid (W0.heap[w.heap.size]? = some A) ∧ Hid (W0.heap[w.heap.size + 1]? = some B) ∧ Hid (W0.heap[w.heap.size + 1 + 1]? = some C) ∧ w.heap.size + 1 + 1 < W0.heap.size := by
  obtain ⟨h1, h2, h3⟩ := qalloc3 w A B C
  exact ⟨_, rfl, (((Below.refl _ _).alloc (Nat.le_refl _) _).alloc (by simp) _).alloc (by simp; omega) _, h1, h2, h3, by simp⟩
theorem qbox2 (w : World) (A B : Obj) : ∃ W0, Hid (W0 = (w.alloc A).alloc B) ∧ Below w.heap.size w W0 ∧ Hid (W0.heap[w.heap.size]? = some A) ∧ Hid (W0.heap[w.heap.size + 1]? = some B) ∧ w.heap.size + 1 < W0.heap.size := by
  obtain ⟨h1, h2⟩ := qalloc2 w A B
  exact ⟨_, rfl, ((Below.refl _ _).alloc (Nat.le_refl _) _).alloc (by simp) _, h1, h2, by simp⟩
theorem words16_len_pos {n : Nat} : (words16 n).length = 0 ↔ n = 0 := words16_len_zero
end Go.Proofs.YtdpmfenikomfkaaGreat

namespace Go.Proofs.YtdpmfenikomfkaaGreat
open Go.RowKit

theorem ddivide_limb (a b : Nat) (hb : 0 < b) (hb2 : b < 65536) (A1 A2 : Option Addr) (n m c1 c2 B : Nat) (w : World) (hx : RW .i64 w B (.slice A1 n c1) (words16 a)) (hz : A1 = none → c1 = 0) (hy : RW .i64 w B (.slice A2 m c2) (words16 b)) (hB : B ≤ w.heap.size) (hn : n ≤ 1000000) :
    Calls Tryz.prog 53 #[.slice A1 n c1, .slice A2 m c2] w (RetDv w (a / b) (a % b)) := by
  by_cases h : a < b
  · exact ddivide_low a b h A1 A2 n m c1 c2 B w hx hz hy hB
  · exact ddivide_one a b hb hb2 (by omega) A1 A2 n m c1 c2 B w hx hy hB hn

/-- A slice that reads as a number. -/
def RetWq (w : World) (n : Nat) (e : Ending) (w' : World) : Prop := ∃ A m c, e = .returned (.slice A m c) ∧ RW .i64 w' w'.heap.size (.slice A m c) (words16 n) ∧ (A = none → c = 0) ∧ Below w.heap.size w w'
def limbV (v : Value) (w : World) : Nat := match v with
  | .slice (some p) (_ + 1) _ => (numQ ((w.cell? p).getD (.bool false))).toNat
  | _ => 0
theorem limbV_zero {w : World} {A : Option Addr} {c : Nat} : limbV (.slice A 0 c) w = 0 := by cases A <;> rfl
theorem limbV_one {w : World} {B y m c : Nat} {A : Option Addr} (h : RW .i64 w B (.slice A m c) (words16 y)) (hy : y < 65536) : limbV (.slice A m c) w = y := by
  by_cases h0 : y = 0
  · have hm : m = 0 := by rw [h.len, h0, words16_zero]; rfl
    subst hm
    rw [limbV_zero, h0]
  · have hw : words16 y = [y] := words16_single h0 (by rw [B16_eq]; exact hy)
    obtain rfl : m = 1 := by rw [h.len, hw]; rfl
    obtain ⟨b, o, rfl, _, hc⟩ := h.at_ (by omega)
    have hc0 := hc 0 (by omega)
    rw [hw] at hc0
    have hc1 : w.cell? ⟨b, o, none⟩ = some (.int .i64 (y : Int)) := hc0
    show (numQ ((w.cell? ⟨b, o, none⟩).getD (.bool false))).toNat = y
    rw [hc1]
    show ((y : Int)).toNat = y
    omega
def GcR (g : Nat) (w : World) (xv yv : Value) (wr : World) : Prop :=
  ∃ x y A1 n1 c1 A2 n2 c2, xv = .slice A1 n1 c1 ∧ yv = .slice A2 n2 c2 ∧ y < 65536 ∧ n1 ≤ 1000000 ∧
    Hid (RW .i64 wr wr.heap.size (.slice A1 n1 c1) (words16 x) ∧ (A1 = none → c1 = 0) ∧ RW .i64 wr wr.heap.size (.slice A2 n2 c2) (words16 y) ∧ (A2 = none → c2 = 0) ∧ Nat.gcd x y = g) ∧ Below w.heap.size w wr

set_option maxRecDepth 100000 in
set_option maxHeartbeats 2000000 in
theorem dgcd_limb (a b : Nat) (hb2 : b < 65536) (A1 A2 : Option Addr) (n m c1 c2 B : Nat) (w : World) (hx : RW .i64 w B (.slice A1 n c1) (words16 a)) (hz : A1 = none → c1 = 0) (hy : RW .i64 w B (.slice A2 m c2) (words16 b)) (hz2 : A2 = none → c2 = 0) (hB : B ≤ w.heap.size) (hn : n ≤ 1000000) :
    Calls Tryz.prog 52 #[.slice A1 n c1, .slice A2 m c2] w (RetWq w (Nat.gcd a b)) := by
  obtain ⟨g, hg⟩ : ∃ g, g = Nat.gcd a b := ⟨_, rfl⟩
  rw [← hg]
  have H0 := Lib.hid (show GcR g w (.slice A1 n c1) (.slice A2 m c2) w from ⟨a, b, A1, n, c1, A2, m, c2, rfl, rfl, hb2, hn, Lib.hid ⟨hx.more hB, hz, hy.more hB, hz2, hg.symm⟩, Below.refl _ _⟩)
  clear hx hz hy hz2 hg
  go_enter Tryz.func52, Tryz.ntmps52
  go_wp2
  go_loopw [0, 1] (fun xv yv wr => GcR g w xv yv wr) (fun _ yv wr => limbV yv wr)
  case atStart => exact H0.out
  case round =>
    obtain ⟨x, y, B1, n1, d1, B2, n2, d2, rfl, rfl, hy65, hn1, HR, hbw⟩ := hrel
    by_cases hy0 : y = 0
    · have hn2 : n2 = 0 := by rw [HR.out.2.2.1.len, hy0, words16_zero]; rfl
      subst hn2
      have HG := Lib.hid (show x = g by have := HR.out.2.2.2.2; rw [hy0, Nat.gcd_zero_right] at this; exact this)
      go_wp2
      go_ret
      exact ⟨_, _, _, rfl, by rw [← HG.out]; exact HR.out.1, HR.out.2.1, hbw⟩
    · have hn2 : n2 ≠ 0 := by rw [HR.out.2.2.1.len]; exact fun h => hy0 (words16_len_zero.1 h)
      have i1 : (0 : Int) < (n2 : Int) := by omega
      have HM := Lib.hid (limbV_one HR.out.2.2.1 hy65)
      have HD := Lib.hid (ddivide_limb x y (by omega) hy65 B1 B2 n1 n2 d1 d2 wr.heap.size wr HR.out.1 HR.out.2.1 HR.out.2.2.1 (Nat.le_refl _) hn1)
      have hn2b : n2 ≤ 1000000 := by
        have h1 : words16 y = [y] := words16_single hy0 (by rw [B16_eq]; exact hy65)
        have h2 : n2 = 1 := by rw [HR.out.2.2.1.len, h1]; rfl
        omega
      have HY0 := Lib.hid hy0
      clear hy0
      go_wp2_with fail
      refine HD.out.mono ?_
      rintro e w3 ⟨Aq, mq, cq, Ar, mr, cr, rfl, hq, hqz, hqf, hr, hrz, hb3⟩
      have hlt : x % y < y := Nat.mod_lt _ (Nat.pos_of_ne_zero HY0.out)
      have H3 := Lib.hid (And.intro hr (And.intro hrz hb3))
      clear hq hqz hqf hr hrz hb3
      go_wp2
      refine ⟨⟨y, x % y, B2, n2, d2, Ar, mr, cr, rfl, rfl, by omega, hn2b, Lib.hid ⟨(HR.out.2.2.1.below H3.out.2.2).more H3.out.2.2.size, HR.out.2.2.2.1, H3.out.1, H3.out.2.1, ?_⟩, ?_⟩, ?_⟩
      · rw [← HR.out.2.2.2.2, Nat.gcd_comm x y, Nat.gcd_comm y (x % y)]; exact (Nat.gcd_rec y x).symm
      · exact hbw.trans (H3.out.2.2.mono hbw.size)
      · rw [limbV_one H3.out.1 (by omega), HM.out]; exact hlt
end Go.Proofs.YtdpmfenikomfkaaGreat
