/-
  Words for memory: a block that holds numbers, a slice that reads as a list of numbers.
  Words for slices of bytes that a call has made.
  Number, the program's; the check at the end of every statement.
  The check at the end of every statement of package link.
-/
import Derived.Test.YtkakbeiehggkiaaH01
import Derived.Below
import Derived.Laws.OwnMore
import Derived.Deep.Draws
import Derived.Laws.Rows
import Derived.Lib.Hide
import Derived.Laws.CopyOwn
import Derived.OwnWalk
import Derived.Laws.AppendOwnNone
import Derived.Laws.Bits128
import Derived.Laws.BitsAllLaws
namespace Go.Proofs.Ytkakbeiehggkiaa
open Go.RowKit

/-- Block g holds the numbers L of kind k (element type e), none of them frozen. -/
def Row (k : IntKind) (w : World) (g : Nat) (e : TypeId) (L : List Nat) : Prop :=
  w.heap[g]? = some (.cells (L.map (fun (x : Nat) => Value.int k (x : Int))).toArray e (0, 0))

section
variable {k : IntKind} {w w' : World} {g : Nat} {e : TypeId} {L : List Nat}
theorem Row.lt (h : Row k w g e L) : g < w.heap.size := by
  rcases Nat.lt_or_ge g w.heap.size with hlt | hge
  · exact hlt
  · unfold Row at h; rw [Array.getElem?_eq_none hge] at h; cases h
theorem Row.cell (h : Row k w g e L) {i : Nat} (hi : i < L.length) : w.cell? ⟨g, i, none⟩ = some (.int k (nth L i : Nat)) := by
  rw [cell_of_row w g i _ e (0, 0) h]
  simp [nth_lt hi, hi]
theorem Row.frozen (h : Row k w g e L) (i : Nat) : w.frozen? ⟨g, i, none⟩ = false := by
  unfold Row at h
  simp [World.frozen?, h]
theorem Row.set (h : Row k w g e L) (i x : Nat) : Row k (w.setCell ⟨g, i, none⟩ (.int k (x : Int))) g e (L.set i x) := by
  unfold Row at h ⊢
  rw [heap_setCell_same w g i _ e _ h]
  congr 2
  apply Array.toList_inj.1
  simp [List.map_set]
theorem Row.drew (h : Row k w g e L) : Row k w.drew g e L := h
theorem Row.drewN (h : Row k w g e L) (n : Nat) : Row k (w.drewN n) g e L := h
theorem Row.alloc (h : Row k w g e L) (o : Obj) : Row k (w.alloc o) g e L := (Below.heap_alloc w o g h.lt).trans h
theorem Row.far (h : Row k w g e L) {p : Addr} (hp : g ≠ p.block) (u : Value) : Row k (w.setCell p u) g e L := (Below.heap_setCell w p u g hp).trans h
theorem Row.below {B : Nat} (h : Row k w g e L) (hb : Below B w w') (hg : g < B) : Row k w' g e L := (hb.block g hg).trans h
theorem Row.grown {row : Option Nat} (h : Row k w g e L) (hb : w.grownBy w' row) (hg : some g ≠ row) : Row k w' g e L := (hb.block g h.lt hg).trans h
theorem Row.of_eq (h : Row k w g e L) {M : List Nat} (hm : L = M) : Row k w g e M := by subst hm; exact h
end

/-- The value is a slice that reads as the numbers xs of kind k, in a block below B. -/
def RW (k : IntKind) (w : World) (B : Nat) (v : Value) (xs : List Nat) : Prop :=
  ∃ A c, v = .slice A xs.length c ∧ xs.length ≤ c ∧ c ≤ maxLen ∧
    (0 < xs.length → ∃ b o, A = some ⟨b, o, none⟩ ∧ b < B ∧ ∀ j, j < xs.length → w.cell? ⟨b, o + j, none⟩ = some (.int k (nth xs j : Nat)))

section
variable {k : IntKind} {w w' : World} {B B' : Nat} {v : Value} {A : Option Addr} {n c : Nat} {xs : List Nat}
theorem RW.len (h : RW k w B (.slice A n c) xs) : n = xs.length := by
  obtain ⟨A', c', e, _⟩ := h
  injection e
theorem RW.cap (h : RW k w B (.slice A n c) xs) : n ≤ c ∧ c ≤ maxLen := by
  obtain ⟨A', c', e, h1, h2, _⟩ := h
  injection e with e1 e2 e3
  subst e2 e3
  exact ⟨h1, h2⟩
theorem RW.at_ (h : RW k w B (.slice A n c) xs) (hn : 0 < n) : ∃ b o, A = some ⟨b, o, none⟩ ∧ b < B ∧ ∀ j, j < n → w.cell? ⟨b, o + j, none⟩ = some (.int k (nth xs j : Nat)) := by
  obtain ⟨A', c', e, h1, h2, h3⟩ := h
  injection e with e1 e2 e3
  subst e1 e2 e3
  exact h3 hn
theorem RW.form (h : RW k w B v xs) : ∃ A c, v = .slice A xs.length c := by
  obtain ⟨A, c, e, _⟩ := h
  exact ⟨A, c, e⟩
theorem RW.mk (hl : n = xs.length) (h1 : n ≤ c) (h2 : c ≤ maxLen)
    (h3 : 0 < n → ∃ b o, A = some ⟨b, o, none⟩ ∧ b < B ∧ ∀ j, j < n → w.cell? ⟨b, o + j, none⟩ = some (.int k (nth xs j : Nat))) : RW k w B (.slice A n c) xs := by
  subst hl
  exact ⟨A, c, rfl, h1, h2, h3⟩
theorem RW.nil_ : RW k w B (.slice none 0 0) [] := RW.mk rfl (Nat.le_refl _) (by simp [maxLen]) (fun h => absurd h (by omega))
theorem RW.keep (h : RW k w B v xs) (hk : ∀ p : Addr, p.block < B → w'.cell? p = w.cell? p) : RW k w' B v xs := by
  obtain ⟨A', c', e, h1, h2, h3⟩ := h
  refine ⟨A', c', e, h1, h2, fun hn => ?_⟩
  obtain ⟨b, o, ha, hb, hc⟩ := h3 hn
  exact ⟨b, o, ha, hb, fun j hj => (hk _ hb).trans (hc j hj)⟩
theorem RW.more (h : RW k w B v xs) (hB : B ≤ B') : RW k w B' v xs := by
  obtain ⟨A', c', e, h1, h2, h3⟩ := h
  refine ⟨A', c', e, h1, h2, fun hn => ?_⟩
  obtain ⟨b, o, ha, hb, hc⟩ := h3 hn
  exact ⟨b, o, ha, by omega, hc⟩
theorem RW.below (h : RW k w B v xs) (hb : Below B w w') : RW k w' B v xs := h.keep fun _ hp => hb.cell hp
theorem RW.belowM (h : RW k w B v xs) (hb : Below B' w w') (hB : B ≤ B') : RW k w' B v xs := h.keep fun _ hp => hb.cell (by omega)
theorem RW.drew (h : RW k w B v xs) : RW k w.drew B v xs := h
theorem RW.drewN (h : RW k w B v xs) (m : Nat) : RW k (w.drewN m) B v xs := h
theorem RW.alloc (h : RW k w B v xs) (hB : B ≤ w.heap.size) (o : Obj) : RW k (w.alloc o) B v xs := h.keep fun p hp => World.cell?_alloc_lt w o p (by omega)
theorem RW.setCell (h : RW k w B v xs) {p : Addr} (hB : B ≤ p.block) (u : Value) : RW k (w.setCell p u) B v xs :=
  h.keep fun q hq => World.cell?_setCell_other w p q u (fun e => by subst e; omega)
/-- The beginning of a slice: x[:m]. -/
theorem RW.take (h : RW k w B (.slice A n c) xs) {m : Nat} (hm : m ≤ n) : RW k w B (.slice A m c) (xs.take m) := by
  have hl := h.len
  have hc := h.cap
  refine RW.mk (by rw [List.length_take]; omega) (by omega) hc.2 (fun h0 => ?_)
  obtain ⟨b, o, ha, hb, hcell⟩ := h.at_ (by omega)
  refine ⟨b, o, ha, hb, fun j hj => ?_⟩
  rw [hcell j (by omega)]
  unfold nth
  rw [List.getD_eq_getElem?_getD, List.getD_eq_getElem?_getD, List.getElem?_take_of_lt hj]
theorem RW.of_eq (h : RW k w B v xs) {ys : List Nat} (e : xs = ys) : RW k w B v ys := by subst e; exact h
/-- A window of a block. -/
theorem RW.of_row {g : Nat} {e : TypeId} {pre post : List Nat} (h : Row k w g e (pre ++ (xs ++ post))) (hn : n = xs.length) (h1 : n ≤ c) (h2 : c ≤ maxLen) (hB : g < B) : RW k w B (.slice (some ⟨g, pre.length, none⟩) n c) xs := by
  refine RW.mk hn h1 h2 (fun _ => ⟨g, pre.length, rfl, hB, fun j hj => ?_⟩)
  rw [h.cell (by rw [List.length_append, List.length_append]; omega), nth_append_right, nth_append_left (by omega)]
theorem RW.of_row0 {g : Nat} {e : TypeId} {post : List Nat} (h : Row k w g e (xs ++ post)) (hn : n = xs.length) (h1 : n ≤ c) (h2 : c ≤ maxLen) (hB : g < B) : RW k w B (.slice (some ⟨g, 0, none⟩) n c) xs :=
  RW.of_row (pre := []) h hn h1 h2 hB
end

theorem Row.one (k : IntKind) (w : World) (e : TypeId) (x : Nat) : Row k (w.alloc (.cells #[.int k (x : Int)] e)) w.heap.size e [x] := heap_alloc_new w _
theorem Row.two (k : IntKind) (w : World) (e : TypeId) (x y : Nat) : Row k (w.alloc (.cells #[.int k (x : Int), .int k (y : Int)] e)) w.heap.size e [x, y] := heap_alloc_new w _

theorem below_unN {B n : Nat} {w w' : World} (h : Below B (w.drewN n) w') : Below B w w' := ⟨h.os, h.tape, h.output, h.size, h.block⟩

/-- What make lays: zeros. -/
theorem row_made {k : IntKind} {w : World} {g : Nat} {e : TypeId} {n : Nat} (h : w.heap[g]? = some (.cells (madeCells #[.int k 0] n) e (0, 0))) : Row k w g e (List.replicate n 0) := by
  unfold Row
  rw [h]
  congr 2
  apply Array.toList_inj.1
  rw [toList_madeCells_one]
  simp

theorem add_none (b o j : Nat) : (⟨b, o, none⟩ : Addr).add j = ⟨b, o + j, none⟩ := by
  unfold Addr.add
  by_cases h : j = 0
  · subst h; rfl
  · rw [if_neg h]

/-- copy of a list of numbers into a new block of zeros that has room for them. -/
theorem run_copy_words {P : Program} {k : IntKind} {w : World} {dT sT ty e : TypeId} {g m n c B : Nat} {A : Option Addr} {xs : List Nat} (hu : P.underlying dT = some (.slice e)) (hs : (P.info? e).map (·.size) = some 1)
    (hrow : Row k w g e (List.replicate m 0)) (h : RW k w B (.slice A n c) xs) (hnm : n ≤ m) :
    ∃ w2, (Builtin.copy_ #[dT, sT] ty #[.slice (some ⟨g, 0, none⟩) m m, .slice A n c]).run P w = .ok (goInt n) w2 ∧ Row k w2 g e (xs ++ List.replicate (m - n) 0) ∧ Below g w w2 := by
  have hl := h.len
  by_cases h0 : n = 0
  · subst h0
    have hx : xs = [] := List.eq_nil_of_length_eq_zero hl.symm
    subst hx
    exact ⟨w, run_copy_none (P := P) w dT sT ty e _ _ _ _ _ _ hu hs (Nat.zero_min _), by simpa using hrow, Below.refl _ _⟩
  · obtain ⟨b, o, rfl, hb, hc⟩ := h.at_ (by omega)
    have hlen : (xs.map (fun (x : Nat) => Value.int k (x : Int))).length = n := by rw [List.length_map, hl]
    have hr := run_copy_row (P := P) w dT sT ty e g 0 m m ⟨b, o, none⟩ n c _ e (xs.map (fun (x : Nat) => Value.int k (x : Int))) hu hs hrow (by rw [hlen]; exact (Nat.min_eq_left hnm).symm)
      (fun j v hj => by
        have hjn : j < n := by
          have := (List.getElem?_eq_some_iff.1 hj).1
          rwa [hlen] at this
        rw [add_none, hc j hjn, ← hj, List.getElem?_map, List.getElem?_eq_getElem (by omega), nth_lt (by omega)]
        rfl)
      (by rw [hlen]; simp; omega)
      (by
        intro v hv
        obtain ⟨y, _, rfl⟩ := List.mem_map.1 hv
        rfl)
    rw [hlen] at hr
    refine ⟨_, hr, ?_, below_setRow (Below.refl _ _) (Nat.le_refl _) _⟩
    unfold Row
    rw [setRow_heap w g _ _ e _ hrow]
    congr 2
    apply Array.toList_inj.1
    simp

theorem ownsRow_heap {w : World} {base : Nat} {e : TypeId} {g n c : Nat} {xs : List Value} (h : w.ownsRow base e 1 (.slice (some ⟨g, 0, none⟩) n c) n xs) (hc : n = c) : w.heap[g]? = some (.cells xs.toArray e (0, 0)) := by
  subst hc
  rcases h.2 with ⟨h1, _⟩ | ⟨g', cap, cur, h1, _, h2, _, _, h3, h4⟩
  · cases h1
  · injection h1 with h1 _ h5
    injection h1 with h1
    injection h1 with h1
    subst h1 h5
    rw [h2, ← h4, List.take_of_length_le (by simp [h3])]

/-- What make(.., n) leaves. -/
theorem row_of_made {k : IntKind} {w : World} {base : Nat} {e : TypeId} {g n : Nat} (h : w.ownsRow base e 1 (.slice (some ⟨g, 0, none⟩) n n) n (madeCells (Value.int k 0).cells (n * 1)).toList) : Row k w g e (List.replicate n 0) := by
  refine row_made ?_
  rw [ownsRow_heap h rfl, Nat.mul_one]
  rfl
end Go.Proofs.Ytkakbeiehggkiaa

namespace Go.Proofs.Ytkakbeiehggkiaa
open Go.RowKit

def bys (L : List Nat) : List Value := L.map (fun (x : Nat) => Value.int .u8 (x : Int))
theorem bys_append (L M : List Nat) : bys (L ++ M) = bys L ++ bys M := by simp [bys]
theorem bys_length (L : List Nat) : (bys L).length = L.length := by simp [bys]
theorem bys_one (L : List Nat) : ∀ u ∈ bys L, u.oneCell' = true := by
  intro v hv
  obtain ⟨y, _, rfl⟩ := List.mem_map.1 hv
  rfl
theorem bys_get (L : List Nat) (j : Nat) (u : Value) (h : (bys L)[j]? = some u) : j < L.length ∧ u = .int .u8 (nth L j : Nat) := by
  have hj : j < (bys L).length := (List.getElem?_eq_some_iff.1 h).1
  rw [bys_length] at hj
  refine ⟨hj, ?_⟩
  unfold bys at h
  rw [List.getElem?_map, List.getElem?_eq_getElem hj] at h
  simp only [Option.map_some, Option.some.injEq] at h
  rw [nth_lt hj]; exact h.symm

section
variable {w w' : World} {base g n c : Nat} {e : TypeId} {v : Value} {L : List Nat}

theorem owns_of_row {post : List Nat} (h : Row .u8 w g e (L ++ post)) (hb : base ≤ g) (hn : n = L.length) (hc : c = L.length + post.length) (hm : c ≤ maxLen) : w.ownsRow base e 1 (.slice (some ⟨g, 0, none⟩) n c) n (bys L) := by
  subst hn hc
  refine ⟨by rw [bys_length, Nat.mul_one], .inr ⟨g, _, _, rfl, hb, h, by omega, hm, by simp, ?_⟩⟩
  simp [bys]
theorem rw_of_owns (h : w.ownsRow base e 1 v n (bys L)) : n = L.length ∧ RW .u8 w w.heap.size v L := by
  have hn : n = L.length := by have := h.1; rw [bys_length] at this; omega
  refine ⟨hn, ?_⟩
  obtain ⟨_, ⟨rfl, h0⟩ | ⟨g, cap, cur, rfl, _, hblk, h1, h2, _, ht⟩⟩ := h
  · have : L = [] := List.eq_nil_of_length_eq_zero (by omega)
    subst this
    exact RW.nil_
  · refine RW.mk hn h1 h2 (fun _ => ⟨g, 0, rfl, (Array.getElem?_eq_some_iff.1 hblk).1, fun j hj => ?_⟩)
    rw [Nat.zero_add, cell_of_row w g j _ e (0, 0) hblk]
    have : (bys L)[j]? = cur[j]? := by
      rw [← ht, List.getElem?_take, if_pos (by omega)]
      simp
    rw [← this]
    unfold bys
    rw [List.getElem?_map, List.getElem?_eq_getElem (by omega), nth_lt (by omega)]
    rfl
theorem owns_nil (w : World) (base : Nat) (e : TypeId) : w.ownsRow base e 1 (.slice none 0 0) 0 (bys []) := World.ownsRow_nil _ _ _ _
theorem owns_base {base' : Nat} (h : w.ownsRow base e 1 v n (bys L)) (hb : base' ≤ base) : w.ownsRow base' e 1 v n (bys L) := by
  obtain ⟨h1, h | ⟨g, cap, cur, h2, h3, h4⟩⟩ := h
  · exact ⟨h1, .inl h⟩
  · exact ⟨h1, .inr ⟨g, cap, cur, h2, by omega, h4⟩⟩
end

/-- make([]byte, n, c), n at most c. -/
theorem wpList_make_room {P : Program} (w : World) {ops : Array Oper} {rest : List Oper} {o : Oper} {a : Act} {Q : Exit → Act → World → Prop}
    (hg : o.guard = none) (l c : Operand) (t : TypeId) (hop : o.op = Op.makeSlice t l c)
    (e : TypeId) (i : TypeInfo) (h1 : P.underlying t = some (.slice e)) (h2 : P.info? e = some i) (h3 : i.zero = some (.int .u8 0)) (h4 : i.size = 1)
    (kl kc : IntKind) (L C : Int) (n m : Nat) (hl : a.eval l = .int kl L) (hc : a.eval c = .int kc C) (hL : L = (n : Int)) (hC : C = (m : Int)) (hnm : n ≤ m) (b2 : i.bytes * m ≤ 281474976710656) (b3 : m ≤ 9223372036854775807)
    (hK : ∀ w', Row .u8 w' w.heap.size e (List.replicate m 0) → Below w.heap.size w w' → w'.heap.size = w.heap.size + 1 → wpList P ops Q rest (a.put o.dst (.slice (some ⟨w.heap.size, 0, none⟩) n m)) w') :
    wpList P ops Q (o :: rest) a w := by
  refine wpList_plain hg fun K hK' => ?_
  subst hL hC
  have hr := run_make (P := P) w t e i (.int .u8 0) h1 h2 h3 kl kc n m (by omega) (by omega) (by rw [← Int.natCast_mul]; omega) (by omega)
  simp only [Int.toNat_natCast] at hr
  unfold Oper.wp
  simp [execOp, hop, hl, hc, hr, Result.andThen]
  refine hK' _ _ (hK _ (row_made ?_) ((Below.refl _ _).alloc (Nat.le_refl _) _) (by simp))
  rw [heap_alloc_new, h4, Nat.mul_one]
  rfl

/-- copy of bytes into a new block of zeros that has room for them. -/
theorem run_copy_room {P : Program} {w : World} {dT sT ty e : TypeId} {g m cap n c B : Nat} {A : Option Addr} {xs : List Nat} (hu : P.underlying dT = some (.slice e)) (hs : (P.info? e).map (·.size) = some 1)
    (hrow : Row .u8 w g e (List.replicate cap 0)) (h : RW .u8 w B (.slice A n c) xs) (hnm : n ≤ m) (hmc : m ≤ cap) :
    ∃ w2, (Builtin.copy_ #[dT, sT] ty #[.slice (some ⟨g, 0, none⟩) m cap, .slice A n c]).run P w = .ok (goInt n) w2 ∧ Row .u8 w2 g e (xs ++ List.replicate (cap - n) 0) ∧ Below g w w2 := by
  have hl := h.len
  by_cases h0 : n = 0
  · subst h0
    have hx : xs = [] := List.eq_nil_of_length_eq_zero hl.symm
    subst hx
    exact ⟨w, run_copy_none (P := P) w dT sT ty e _ _ _ _ _ _ hu hs (Nat.zero_min _), by simpa using hrow, Below.refl _ _⟩
  · obtain ⟨b, o, rfl, hb, hc⟩ := h.at_ (by omega)
    have hlen : (xs.map (fun (x : Nat) => Value.int .u8 (x : Int))).length = n := by rw [List.length_map, hl]
    have hr := run_copy_row (P := P) w dT sT ty e g 0 m cap ⟨b, o, none⟩ n c _ e (xs.map (fun (x : Nat) => Value.int .u8 (x : Int))) hu hs hrow (by rw [hlen]; exact (Nat.min_eq_left hnm).symm)
      (fun j v hj => by
        have hjn : j < n := by
          have := (List.getElem?_eq_some_iff.1 hj).1
          rwa [hlen] at this
        rw [add_none, hc j hjn, ← hj, List.getElem?_map, List.getElem?_eq_getElem (by omega), nth_lt (by omega)]
        rfl)
      (by rw [hlen]; simp; omega)
      (by
        intro v hv
        obtain ⟨y, _, rfl⟩ := List.mem_map.1 hv
        rfl)
    rw [hlen] at hr
    refine ⟨_, hr, ?_, below_setRow (Below.refl _ _) (Nat.le_refl _) _⟩
    unfold Row
    rw [setRow_heap w g _ _ e _ hrow]
    congr 2
    apply Array.toList_inj.1
    simp
end Go.Proofs.Ytkakbeiehggkiaa

namespace Go.Proofs.Ytkakbeiehggkiaa
open Go.RowKit

def intOf1 : Value → Int
  | .int _ n => n
  | _ => 0

def enc7 (n : Nat) : List Nat := if _h : n < 128 then [n] else (n % 128 + 128) :: enc7 (n / 128)
termination_by n
decreasing_by omega
theorem enc7_small {n : Nat} (h : n < 128) : enc7 n = [n] := by rw [enc7]; simp [h]
theorem enc7_big {n : Nat} (h : ¬ n < 128) : enc7 n = (n % 128 + 128) :: enc7 (n / 128) := by rw [enc7]; simp [h]
theorem enc7_pos (n : Nat) : 1 ≤ (enc7 n).length := by
  by_cases h : n < 128
  · rw [enc7_small h]; simp
  · rw [enc7_big h]; simp
theorem enc7_len : ∀ (k n : Nat), n < 128 ^ (k + 1) → (enc7 n).length ≤ k + 1
  | 0, n, h => by rw [enc7_small (by omega)]; simp
  | k + 1, n, h => by
    by_cases hs : n < 128
    · rw [enc7_small hs]; simp
    · rw [enc7_big hs, List.length_cons]
      have := enc7_len k (n / 128) (by rw [Nat.div_lt_iff_lt_mul (by omega), ← Nat.pow_succ]; exact h)
      omega
theorem enc7_len9 {n : Nat} (h : n ≤ 4611686018427387903) : (enc7 n).length ≤ 9 := enc7_len 8 n (by
  have : (128 : Nat) ^ (8 + 1) = 9223372036854775808 := by decide
  omega)

def RetNum (w : World) (L : List Nat) (e : Ending) (w' : World) : Prop := ∃ v, e = .returned (.tuple #[v, .int .i64 0]) ∧ w'.ownsRow w.heap.size 5 1 v L.length (bys L) ∧ Below w.heap.size w w'

def NumRel (w : World) (L : List Nat) (N : Nat) (nv zv : Value) (wr : World) : Prop :=
  ∃ (m : Nat) (E : List Nat), nv = .int .i64 (m : Int) ∧ m ≤ 4611686018427387903 ∧ Hid (enc7 N = E ++ enc7 m) ∧ zv = .slice (some ⟨w.heap.size, 0, none⟩) (L.length + E.length) (L.length + 9) ∧
    wr.ownsRow w.heap.size 5 1 (.slice (some ⟨w.heap.size, 0, none⟩) (L.length + E.length) (L.length + 9)) (L.length + E.length) (bys (L ++ E)) ∧ Below w.heap.size w wr

theorem infoB : (Try.prog.info? 5).map (fun i => (i.zero, i.size, i.bytes)) = some (some (.int .u8 0), 1, 1) := by kernel_rfl
theorem infoS : (Try.prog.info? 5).map (·.size) = some 1 := by kernel_rfl
theorem grown_below {w wr w1 : World} {g : Nat} (hb : Below w.heap.size w wr) (hg : wr.grownBy w1 (some g)) (h : w.heap.size ≤ g) : Below w.heap.size w w1 :=
  hb.trans ⟨hg.os, hg.tape, hg.output, hg.size, fun k hk => hg.block k (Nat.lt_of_lt_of_le hk hb.size) (by simp; omega)⟩

theorem one_cell (wr : World) (e : TypeId) (x : Value) : ∀ j u, [x][j]? = some u → (wr.alloc (.cells #[x] e)).cell? ((⟨wr.heap.size, 0, none⟩ : Addr).add j) = some u := by
  intro j u hj
  match j, hj with
  | 0, hj => simp at hj; subst hj; simp [Addr.add]

set_option maxRecDepth 100000 in
set_option maxHeartbeats 400000 in
theorem number_ok (L : List Nat) (N : Nat) (hN : N ≤ 4611686018427387903) (A : Option Addr) (n c B : Nat) (hn64 : n ≤ 1048576) (w : World) (hx : RW .u8 w B (.slice A n c) L) (hBw : B ≤ w.heap.size) :
    Calls Try.prog 38 #[.slice A n c, .int .i64 (N : Int)] w (RetNum w (L ++ enc7 N)) := by
  obtain ⟨i0, hi0, hz0, hz1, hz2⟩ := info_parts infoB
  have HXL := Lib.hid hx.len
  have HN := Lib.hid hN
  go_enter Try.func38, Try.ntmps38
  go_wp2_with (at_make
               refine wpList_make_room _ rfl (.tmp 14) (.tmp 17) _ rfl 5 i0 Try.underlying33 hi0 hz0 hz1 .i64 .i64 _ _ n (n + 9) rfl rfl (by rfl) (by omega) (by omega) (by rw [hz2]; omega) (by omega) ?_)
  intro w1 hrow hb1 hs1
  obtain ⟨w2, hcp, hrow2, hb2⟩ := run_copy_room (P := Try.prog) (dT := 33) (sT := 33) (ty := 3) (m := n) Try.underlying33 infoS hrow (hx.belowM hb1 hBw) (Nat.le_refl _) (by omega)
  have HB2 := Lib.hid (hb1.trans hb2)
  have HR2 := Lib.hid hrow2
  clear hrow hb1 hs1 hrow2 hb2
  go_wp2
  go_loopw [1, 6] (fun nv zv wr => NumRel w L N nv zv wr) (fun nv _ _ => (intOf1 nv).toNat)
  case atStart =>
    have hl := HXL.out
    refine ⟨N, [], rfl, HN.out, by simp [Hid], by simp [hl], ?_, HB2.out⟩
    have := owns_of_row (n := n) (c := n + 9) (base := w.heap.size) HR2.out (Nat.le_refl _) hl (by simp; omega) (by unfold maxLen; omega)
    simpa [← hl] using this
  case round =>
    obtain ⟨m, E, rfl, hm, HE, rfl, hown, hbw⟩ := hrel
    have hE9 : E.length + 1 ≤ 9 := by
      have h1 := congrArg List.length HE.out
      rw [List.length_append] at h1
      have h2 := enc7_len9 HN.out
      have h3 := enc7_pos m
      omega
    have hfit : L.length + E.length + 1 ≤ L.length + 9 := by omega
    have hszw := hbw.size
    have hln : L.length ≤ 1048576 := by rw [← HXL.out]; exact hn64
    by_cases h128 : m < 128
    · have hmi : IntKind.u8.wrap (m : Int) = (m : Int) := by rw [IntKind.wrap_u8]; omega
      have OC := one_cell wr 5 (.int .u8 (m : Int))
      go_wp2_with (at_builtin
                   refine wpList_append_fits _ rfl (.tmp 33) (.tmp 36) _ rfl w.heap.size 5 i0 1 Try.underlying33 hi0 hz1 w.heap.size (L.length + E.length) (L.length + 9) _ rfl (hown.alloc _) ⟨wr.heap.size, 0, none⟩ 1 1 [.int .u8 (m : Int)] rfl rfl OC (by intro u hu; simp at hu; subst hu; rfl) hfit ?_)
      intro w3 hown3 hg3
      go_wp2
      go_ret2
      refine ⟨_, rfl, ?_, grown_below (hbw.alloc hbw.size _) hg3 (Nat.le_refl _)⟩
      have e : L ++ enc7 N = (L ++ E) ++ [m] := by rw [HE.out, enc7_small h128, List.append_assoc]
      rw [e, List.length_append, List.length_append, bys_append]
      exact hown3
    · have hmi : IntKind.u8.wrap ((m : Int) % 128) = (m : Int) % 128 := by rw [IntKind.wrap_u8]; omega
      have hor : bits .or .u8 ((m : Int) % 128) 128 = ((m % 128 + 128 : Nat) : Int) := by rw [u8_or128_right _ (by omega) (by omega)]; omega
      have OC := one_cell wr 5 (.int .u8 ((m % 128 + 128 : Nat) : Int))
      have h128i : (128 : Int) ≤ (m : Int) := by omega
      go_wp2_with (at_builtin
                   refine wpList_append_fits _ rfl (.tmp 26) (.tmp 31) _ rfl w.heap.size 5 i0 1 Try.underlying33 hi0 hz1 w.heap.size (L.length + E.length) (L.length + 9) _ rfl (hown.alloc _) ⟨wr.heap.size, 0, none⟩ 1 1 [.int .u8 ((m % 128 + 128 : Nat) : Int)] rfl rfl OC (by intro u hu; simp at hu; subst hu; rfl) hfit ?_)
      intro w3 hown3 hg3
      go_wp2
      go_roundw
      case rel =>
        refine ⟨m / 128, E ++ [m % 128 + 128], by go_num, by omega, ?_, ?_, ?_, grown_below (hbw.alloc hbw.size _) hg3 (Nat.le_refl _)⟩
        · show enc7 N = _
          rw [HE.out, enc7_big h128, List.append_assoc]; rfl
        · rw [List.length_append]; rfl
        · rw [List.length_append, ← List.append_assoc, bys_append]
          exact hown3
      case measure => simp [intOf1]; omega

/-- Out of its reach a number is refused. -/
theorem number_bad (N : Int) (hN : N < 0 ∨ 4611686018427387903 < N) (A : Option Addr) (n c : Nat) (w : World) :
    Calls Try.prog 38 #[.slice A n c, .int .i64 N] w fun e w' => e = .returned (.tuple #[.slice none 0 0, .int .i64 2]) ∧ w = w' := by
  rcases hN with h | h
  · go_enter Try.func38, Try.ntmps38
    go_wp2
    go_ret2
    exact ⟨rfl, rfl⟩
  · have h0 : ¬ N < 0 := by omega
    go_enter Try.func38, Try.ntmps38
    go_wp2
    go_ret2
    exact ⟨rfl, rfl⟩

end Go.Proofs.Ytkakbeiehggkiaa

namespace Go.Proofs.Ytkakbeiehggkiaa
open Go.RowKit

theorem enc300 : enc7 300 = [172, 2] := by
  rw [enc7_big (by omega), enc7_small (by omega)]

set_option maxRecDepth 100000 in
theorem awake_any (w : World) : Calls Try.prog 10 #[] w (RetB w true) := by
  have HN := Lib.hid (number_ok [] 300 (by omega) none 0 0 0 (by omega) w RW.nil_ (Nat.zero_le _))
  go_enter Try.func10, Try.ntmps10
  go_wp2_with fail
  refine HN.out.mono ?_
  rintro e w1 ⟨v, rfl, hown, hb1⟩
  rw [List.nil_append, enc300] at hown
  obtain ⟨_, hrw⟩ := rw_of_owns hown
  obtain ⟨A, c, rfl⟩ := hrw.form
  obtain ⟨b, o, rfl, _, hc⟩ := hrw.at_ (by decide)
  have c0 : w1.cell? ⟨b, o, none⟩ = some (.int .u8 172) := hc 0 (by decide)
  have c1 : w1.cell? ⟨b, o + 1, none⟩ = some (.int .u8 2) := hc 1 (by decide)
  have hl : (2 : Nat) ≤ c := hrw.cap.1
  clear hc hrw hown
  go_wp2
  go_ret
  exact ⟨rfl, hb1⟩
end Go.Proofs.Ytkakbeiehggkiaa
