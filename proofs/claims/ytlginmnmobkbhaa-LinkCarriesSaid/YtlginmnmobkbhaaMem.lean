/-
  Words for memory: a block that holds numbers, a slice that reads as a list of numbers.
-/
import Derived.Test.YtlginmnmobkbhaaBel
import Derived.Below
import Derived.Laws.OwnMore
import Derived.Deep.Draws
import Derived.Laws.Rows
import Derived.Lib.Hide
import Derived.Laws.CopyOwn
import Derived.Test.YtlginmnmobkbhaaMath
namespace Go.Proofs.Ytlginmnmobkbhaa
open Go.RowKit

/-- Block g holds the numbers L of kind k (element type e), none of them frozen. -/
def Row (k : IntKind) (w : World) (g : Nat) (e : TypeId) (L : List Nat) : Prop :=
  w.heap[g]? = some (.cells (L.map (fun (x : Nat) => Value.int k (x : Int))).toArray e (0, 0))

section
variable {k : IntKind} {w w' : World} {g : Nat} {e : TypeId} {L : List Nat}
theorem Row.lt (h : Row k w g e L) : g < w.heap.size := by
  rcases Nat.lt_or_ge g w.heap.size with hlt | hge
  · exact hlt
  · unfold Row at h; rw [Array.getElem?_eq_none hge] at h; cases h
theorem Row.cell (h : Row k w g e L) {i : Nat} (hi : i < L.length) : w.cell? ⟨g, i, none⟩ = some (.int k (nth L i : Nat)) := by
  rw [cell_of_row w g i _ e (0, 0) h]
  simp [nth_lt hi, hi]
theorem Row.frozen (h : Row k w g e L) (i : Nat) : w.frozen? ⟨g, i, none⟩ = false := by
  unfold Row at h
  simp [World.frozen?, h]
theorem Row.set (h : Row k w g e L) (i x : Nat) : Row k (w.setCell ⟨g, i, none⟩ (.int k (x : Int))) g e (L.set i x) := by
  unfold Row at h ⊢
  rw [heap_setCell_same w g i _ e _ h]
  congr 2
  apply Array.toList_inj.1
  simp [List.map_set]
theorem Row.drew (h : Row k w g e L) : Row k w.drew g e L := h
theorem Row.drewN (h : Row k w g e L) (n : Nat) : Row k (w.drewN n) g e L := h
theorem Row.alloc (h : Row k w g e L) (o : Obj) : Row k (w.alloc o) g e L := (Below.heap_alloc w o g h.lt).trans h
theorem Row.far (h : Row k w g e L) {p : Addr} (hp : g ≠ p.block) (u : Value) : Row k (w.setCell p u) g e L := (Below.heap_setCell w p u g hp).trans h
theorem Row.below {B : Nat} (h : Row k w g e L) (hb : Below B w w') (hg : g < B) : Row k w' g e L := (hb.block g hg).trans h
theorem Row.grown {row : Option Nat} (h : Row k w g e L) (hb : w.grownBy w' row) (hg : some g ≠ row) : Row k w' g e L := (hb.block g h.lt hg).trans h
theorem Row.of_eq (h : Row k w g e L) {M : List Nat} (hm : L = M) : Row k w g e M := by subst hm; exact h
end

/-- The value is a slice that reads as the numbers xs of kind k, in a block below B. -/
def RW (k : IntKind) (w : World) (B : Nat) (v : Value) (xs : List Nat) : Prop :=
  ∃ A c, v = .slice A xs.length c ∧ xs.length ≤ c ∧ c ≤ maxLen ∧
    (0 < xs.length → ∃ b o, A = some ⟨b, o, none⟩ ∧ b < B ∧ ∀ j, j < xs.length → w.cell? ⟨b, o + j, none⟩ = some (.int k (nth xs j : Nat)))

section
variable {k : IntKind} {w w' : World} {B B' : Nat} {v : Value} {A : Option Addr} {n c : Nat} {xs : List Nat}
theorem RW.len (h : RW k w B (.slice A n c) xs) : n = xs.length := by
  obtain ⟨A', c', e, _⟩ := h
  injection e
theorem RW.cap (h : RW k w B (.slice A n c) xs) : n ≤ c ∧ c ≤ maxLen := by
  obtain ⟨A', c', e, h1, h2, _⟩ := h
  injection e with e1 e2 e3
  subst e2 e3
  exact ⟨h1, h2⟩
theorem RW.at_ (h : RW k w B (.slice A n c) xs) (hn : 0 < n) : ∃ b o, A = some ⟨b, o, none⟩ ∧ b < B ∧ ∀ j, j < n → w.cell? ⟨b, o + j, none⟩ = some (.int k (nth xs j : Nat)) := by
  obtain ⟨A', c', e, h1, h2, h3⟩ := h
  injection e with e1 e2 e3
  subst e1 e2 e3
  exact h3 hn
theorem RW.form (h : RW k w B v xs) : ∃ A c, v = .slice A xs.length c := by
  obtain ⟨A, c, e, _⟩ := h
  exact ⟨A, c, e⟩
theorem RW.mk (hl : n = xs.length) (h1 : n ≤ c) (h2 : c ≤ maxLen)
    (h3 : 0 < n → ∃ b o, A = some ⟨b, o, none⟩ ∧ b < B ∧ ∀ j, j < n → w.cell? ⟨b, o + j, none⟩ = some (.int k (nth xs j : Nat))) : RW k w B (.slice A n c) xs := by
  subst hl
  exact ⟨A, c, rfl, h1, h2, h3⟩
theorem RW.nil_ : RW k w B (.slice none 0 0) [] := RW.mk rfl (Nat.le_refl _) (by simp [maxLen]) (fun h => absurd h (by omega))
theorem RW.keep (h : RW k w B v xs) (hk : ∀ p : Addr, p.block < B → w'.cell? p = w.cell? p) : RW k w' B v xs := by
  obtain ⟨A', c', e, h1, h2, h3⟩ := h
  refine ⟨A', c', e, h1, h2, fun hn => ?_⟩
  obtain ⟨b, o, ha, hb, hc⟩ := h3 hn
  exact ⟨b, o, ha, hb, fun j hj => (hk _ hb).trans (hc j hj)⟩
theorem RW.more (h : RW k w B v xs) (hB : B ≤ B') : RW k w B' v xs := by
  obtain ⟨A', c', e, h1, h2, h3⟩ := h
  refine ⟨A', c', e, h1, h2, fun hn => ?_⟩
  obtain ⟨b, o, ha, hb, hc⟩ := h3 hn
  exact ⟨b, o, ha, by omega, hc⟩
theorem RW.below (h : RW k w B v xs) (hb : Below B w w') : RW k w' B v xs := h.keep fun _ hp => hb.cell hp
theorem RW.belowM (h : RW k w B v xs) (hb : Below B' w w') (hB : B ≤ B') : RW k w' B v xs := h.keep fun _ hp => hb.cell (by omega)
theorem RW.drew (h : RW k w B v xs) : RW k w.drew B v xs := h
theorem RW.drewN (h : RW k w B v xs) (m : Nat) : RW k (w.drewN m) B v xs := h
theorem RW.alloc (h : RW k w B v xs) (hB : B ≤ w.heap.size) (o : Obj) : RW k (w.alloc o) B v xs := h.keep fun p hp => World.cell?_alloc_lt w o p (by omega)
theorem RW.setCell (h : RW k w B v xs) {p : Addr} (hB : B ≤ p.block) (u : Value) : RW k (w.setCell p u) B v xs :=
  h.keep fun q hq => World.cell?_setCell_other w p q u (fun e => by subst e; omega)
/-- The beginning of a slice: x[:m]. -/
theorem RW.take (h : RW k w B (.slice A n c) xs) {m : Nat} (hm : m ≤ n) : RW k w B (.slice A m c) (xs.take m) := by
  have hl := h.len
  have hc := h.cap
  refine RW.mk (by rw [List.length_take]; omega) (by omega) hc.2 (fun h0 => ?_)
  obtain ⟨b, o, ha, hb, hcell⟩ := h.at_ (by omega)
  refine ⟨b, o, ha, hb, fun j hj => ?_⟩
  rw [hcell j (by omega)]
  unfold nth
  rw [List.getD_eq_getElem?_getD, List.getD_eq_getElem?_getD, List.getElem?_take_of_lt hj]
theorem RW.of_eq (h : RW k w B v xs) {ys : List Nat} (e : xs = ys) : RW k w B v ys := by subst e; exact h
/-- A window of a block. -/
theorem RW.of_row {g : Nat} {e : TypeId} {pre post : List Nat} (h : Row k w g e (pre ++ (xs ++ post))) (hn : n = xs.length) (h1 : n ≤ c) (h2 : c ≤ maxLen) (hB : g < B) : RW k w B (.slice (some ⟨g, pre.length, none⟩) n c) xs := by
  refine RW.mk hn h1 h2 (fun _ => ⟨g, pre.length, rfl, hB, fun j hj => ?_⟩)
  rw [h.cell (by rw [List.length_append, List.length_append]; omega), nth_append_right, nth_append_left (by omega)]
theorem RW.of_row0 {g : Nat} {e : TypeId} {post : List Nat} (h : Row k w g e (xs ++ post)) (hn : n = xs.length) (h1 : n ≤ c) (h2 : c ≤ maxLen) (hB : g < B) : RW k w B (.slice (some ⟨g, 0, none⟩) n c) xs :=
  RW.of_row (pre := []) h hn h1 h2 hB
end

theorem Row.one (k : IntKind) (w : World) (e : TypeId) (x : Nat) : Row k (w.alloc (.cells #[.int k (x : Int)] e)) w.heap.size e [x] := heap_alloc_new w _
theorem Row.two (k : IntKind) (w : World) (e : TypeId) (x y : Nat) : Row k (w.alloc (.cells #[.int k (x : Int), .int k (y : Int)] e)) w.heap.size e [x, y] := heap_alloc_new w _

theorem below_unN {B n : Nat} {w w' : World} (h : Below B (w.drewN n) w') : Below B w w' := ⟨h.os, h.tape, h.output, h.size, h.block⟩

/-- What make lays: zeros. -/
theorem row_made {k : IntKind} {w : World} {g : Nat} {e : TypeId} {n : Nat} (h : w.heap[g]? = some (.cells (madeCells #[.int k 0] n) e (0, 0))) : Row k w g e (List.replicate n 0) := by
  unfold Row
  rw [h]
  congr 2
  apply Array.toList_inj.1
  rw [toList_madeCells_one]
  simp

theorem add_none (b o j : Nat) : (⟨b, o, none⟩ : Addr).add j = ⟨b, o + j, none⟩ := by
  unfold Addr.add
  by_cases h : j = 0
  · subst h; rfl
  · rw [if_neg h]

/-- copy of a list of numbers into a new block of zeros that has room for them. -/
theorem run_copy_words {P : Program} {k : IntKind} {w : World} {dT sT ty e : TypeId} {g m n c B : Nat} {A : Option Addr} {xs : List Nat} (hu : P.underlying dT = some (.slice e)) (hs : (P.info? e).map (·.size) = some 1)
    (hrow : Row k w g e (List.replicate m 0)) (h : RW k w B (.slice A n c) xs) (hnm : n ≤ m) :
    ∃ w2, (Builtin.copy_ #[dT, sT] ty #[.slice (some ⟨g, 0, none⟩) m m, .slice A n c]).run P w = .ok (goInt n) w2 ∧ Row k w2 g e (xs ++ List.replicate (m - n) 0) ∧ Below g w w2 := by
  have hl := h.len
  by_cases h0 : n = 0
  · subst h0
    have hx : xs = [] := List.eq_nil_of_length_eq_zero hl.symm
    subst hx
    exact ⟨w, run_copy_none (P := P) w dT sT ty e _ _ _ _ _ _ hu hs (Nat.zero_min _), by simpa using hrow, Below.refl _ _⟩
  · obtain ⟨b, o, rfl, hb, hc⟩ := h.at_ (by omega)
    have hlen : (xs.map (fun (x : Nat) => Value.int k (x : Int))).length = n := by rw [List.length_map, hl]
    have hr := run_copy_row (P := P) w dT sT ty e g 0 m m ⟨b, o, none⟩ n c _ e (xs.map (fun (x : Nat) => Value.int k (x : Int))) hu hs hrow (by rw [hlen]; exact (Nat.min_eq_left hnm).symm)
      (fun j v hj => by
        have hjn : j < n := by
          have := (List.getElem?_eq_some_iff.1 hj).1
          rwa [hlen] at this
        rw [add_none, hc j hjn, ← hj, List.getElem?_map, List.getElem?_eq_getElem (by omega), nth_lt (by omega)]
        rfl)
      (by rw [hlen]; simp; omega)
      (by
        intro v hv
        obtain ⟨y, _, rfl⟩ := List.mem_map.1 hv
        rfl)
    rw [hlen] at hr
    refine ⟨_, hr, ?_, below_setRow (Below.refl _ _) (Nat.le_refl _) _⟩
    unfold Row
    rw [setRow_heap w g _ _ e _ hrow]
    congr 2
    apply Array.toList_inj.1
    simp

theorem ownsRow_heap {w : World} {base : Nat} {e : TypeId} {g n c : Nat} {xs : List Value} (h : w.ownsRow base e 1 (.slice (some ⟨g, 0, none⟩) n c) n xs) (hc : n = c) : w.heap[g]? = some (.cells xs.toArray e (0, 0)) := by
  subst hc
  rcases h.2 with ⟨h1, _⟩ | ⟨g', cap, cur, h1, _, h2, _, _, h3, h4⟩
  · cases h1
  · injection h1 with h1 _ h5
    injection h1 with h1
    injection h1 with h1
    subst h1 h5
    rw [h2, ← h4, List.take_of_length_le (by simp [h3])]

/-- What make(.., n) leaves. -/
theorem row_of_made {k : IntKind} {w : World} {base : Nat} {e : TypeId} {g n : Nat} (h : w.ownsRow base e 1 (.slice (some ⟨g, 0, none⟩) n n) n (madeCells (Value.int k 0).cells (n * 1)).toList) : Row k w g e (List.replicate n 0) := by
  refine row_made ?_
  rw [ownsRow_heap h rfl, Nat.mul_one]
  rfl
end Go.Proofs.Ytlginmnmobkbhaa
