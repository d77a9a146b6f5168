/-
  Words for memory: a block that holds numbers, a slice that reads as a list of numbers.
  Plain facts on natural numbers as lists of words16 of 64 bits: no program, no memory.
-/
import Derived.Test.YtdpmfenikomfkaaGreatE01
import Derived.Below
import Derived.Laws.OwnMore
import Derived.Deep.Draws
import Derived.Laws.Rows
import Derived.Lib.Hide
import Derived.Laws.CopyOwn
namespace Go.Proofs.YtdpmfenikomfkaaGreat
open Go.RowKit

/-- Block g holds the numbers L of kind k (element type e), none of them frozen. -/
def Row (k : IntKind) (w : World) (g : Nat) (e : TypeId) (L : List Nat) : Prop :=
  w.heap[g]? = some (.cells (L.map (fun (x : Nat) => Value.int k (x : Int))).toArray e (0, 0))

section
variable {k : IntKind} {w w' : World} {g : Nat} {e : TypeId} {L : List Nat}
theorem Row.lt (h : Row k w g e L) : g < w.heap.size := by
  rcases Nat.lt_or_ge g w.heap.size with hlt | hge
  · exact hlt
  · unfold Row at h; rw [Array.getElem?_eq_none hge] at h; cases h
theorem Row.cell (h : Row k w g e L) {i : Nat} (hi : i < L.length) : w.cell? ⟨g, i, none⟩ = some (.int k (nth L i : Nat)) := by
  rw [cell_of_row w g i _ e (0, 0) h]
  simp [nth_lt hi, hi]
theorem Row.frozen (h : Row k w g e L) (i : Nat) : w.frozen? ⟨g, i, none⟩ = false := by
  unfold Row at h
  simp [World.frozen?, h]
theorem Row.set (h : Row k w g e L) (i x : Nat) : Row k (w.setCell ⟨g, i, none⟩ (.int k (x : Int))) g e (L.set i x) := by
  unfold Row at h ⊢
  rw [heap_setCell_same w g i _ e _ h]
  congr 2
  apply Array.toList_inj.1
  simp [List.map_set]
theorem Row.drew (h : Row k w g e L) : Row k w.drew g e L := h
theorem Row.drewN (h : Row k w g e L) (n : Nat) : Row k (w.drewN n) g e L := h
theorem Row.alloc (h : Row k w g e L) (o : Obj) : Row k (w.alloc o) g e L := (Below.heap_alloc w o g h.lt).trans h
theorem Row.far (h : Row k w g e L) {p : Addr} (hp : g ≠ p.block) (u : Value) : Row k (w.setCell p u) g e L := (Below.heap_setCell w p u g hp).trans h
theorem Row.below {B : Nat} (h : Row k w g e L) (hb : Below B w w') (hg : g < B) : Row k w' g e L := (hb.block g hg).trans h
theorem Row.grown {row : Option Nat} (h : Row k w g e L) (hb : w.grownBy w' row) (hg : some g ≠ row) : Row k w' g e L := (hb.block g h.lt hg).trans h
theorem Row.of_eq (h : Row k w g e L) {M : List Nat} (hm : L = M) : Row k w g e M := by subst hm; exact h
end

/-- The value is a slice that reads as the numbers xs of kind k, in a block below B. -/
def RW (k : IntKind) (w : World) (B : Nat) (v : Value) (xs : List Nat) : Prop :=
  ∃ A c, v = .slice A xs.length c ∧ xs.length ≤ c ∧ c ≤ maxLen ∧
    (0 < xs.length → ∃ b o, A = some ⟨b, o, none⟩ ∧ b < B ∧ ∀ j, j < xs.length → w.cell? ⟨b, o + j, none⟩ = some (.int k (nth xs j : Nat)))

section
variable {k : IntKind} {w w' : World} {B B' : Nat} {v : Value} {A : Option Addr} {n c : Nat} {xs : List Nat}
theorem RW.len (h : RW k w B (.slice A n c) xs) : n = xs.length := by
  obtain ⟨A', c', e, _⟩ := h
  injection e
theorem RW.cap (h : RW k w B (.slice A n c) xs) : n ≤ c ∧ c ≤ maxLen := by
  obtain ⟨A', c', e, h1, h2, _⟩ := h
  injection e with e1 e2 e3
  subst e2 e3
  exact ⟨h1, h2⟩
theorem RW.at_ (h : RW k w B (.slice A n c) xs) (hn : 0 < n) : ∃ b o, A = some ⟨b, o, none⟩ ∧ b < B ∧ ∀ j, j < n → w.cell? ⟨b, o + j, none⟩ = some (.int k (nth xs j : Nat)) := by
  obtain ⟨A', c', e, h1, h2, h3⟩ := h
  injection e with e1 e2 e3
  subst e1 e2 e3
  exact h3 hn
theorem RW.form (h : RW k w B v xs) : ∃ A c, v = .slice A xs.length c := by
  obtain ⟨A, c, e, _⟩ := h
  exact ⟨A, c, e⟩
theorem RW.mk (hl : n = xs.length) (h1 : n ≤ c) (h2 : c ≤ maxLen)
    (h3 : 0 < n → ∃ b o, A = some ⟨b, o, none⟩ ∧ b < B ∧ ∀ j, j < n → w.cell? ⟨b, o + j, none⟩ = some (.int k (nth xs j : Nat))) : RW k w B (.slice A n c) xs := by
  subst hl
  exact ⟨A, c, rfl, h1, h2, h3⟩
theorem RW.nil_ : RW k w B (.slice none 0 0) [] := RW.mk rfl (Nat.le_refl _) (by simp [maxLen]) (fun h => absurd h (by omega))
theorem RW.keep (h : RW k w B v xs) (hk : ∀ p : Addr, p.block < B → w'.cell? p = w.cell? p) : RW k w' B v xs := by
  obtain ⟨A', c', e, h1, h2, h3⟩ := h
  refine ⟨A', c', e, h1, h2, fun hn => ?_⟩
  obtain ⟨b, o, ha, hb, hc⟩ := h3 hn
  exact ⟨b, o, ha, hb, fun j hj => (hk _ hb).trans (hc j hj)⟩
theorem RW.more (h : RW k w B v xs) (hB : B ≤ B') : RW k w B' v xs := by
  obtain ⟨A', c', e, h1, h2, h3⟩ := h
  refine ⟨A', c', e, h1, h2, fun hn => ?_⟩
  obtain ⟨b, o, ha, hb, hc⟩ := h3 hn
  exact ⟨b, o, ha, by omega, hc⟩
theorem RW.below (h : RW k w B v xs) (hb : Below B w w') : RW k w' B v xs := h.keep fun _ hp => hb.cell hp
theorem RW.belowM (h : RW k w B v xs) (hb : Below B' w w') (hB : B ≤ B') : RW k w' B v xs := h.keep fun _ hp => hb.cell (by omega)
theorem RW.drew (h : RW k w B v xs) : RW k w.drew B v xs := h
theorem RW.drewN (h : RW k w B v xs) (m : Nat) : RW k (w.drewN m) B v xs := h
theorem RW.alloc (h : RW k w B v xs) (hB : B ≤ w.heap.size) (o : Obj) : RW k (w.alloc o) B v xs := h.keep fun p hp => World.cell?_alloc_lt w o p (by omega)
theorem RW.setCell (h : RW k w B v xs) {p : Addr} (hB : B ≤ p.block) (u : Value) : RW k (w.setCell p u) B v xs :=
  h.keep fun q hq => World.cell?_setCell_other w p q u (fun e => by subst e; omega)
/-- The beginning of a slice: x[:m]. -/
theorem RW.take (h : RW k w B (.slice A n c) xs) {m : Nat} (hm : m ≤ n) : RW k w B (.slice A m c) (xs.take m) := by
  have hl := h.len
  have hc := h.cap
  refine RW.mk (by rw [List.length_take]; omega) (by omega) hc.2 (fun h0 => ?_)
  obtain ⟨b, o, ha, hb, hcell⟩ := h.at_ (by omega)
  refine ⟨b, o, ha, hb, fun j hj => ?_⟩
  rw [hcell j (by omega)]
  unfold nth
  rw [List.getD_eq_getElem?_getD, List.getD_eq_getElem?_getD, List.getElem?_take_of_lt hj]
theorem RW.of_eq (h : RW k w B v xs) {ys : List Nat} (e : xs = ys) : RW k w B v ys := by subst e; exact h
/-- A window of a block. -/
theorem RW.of_row {g : Nat} {e : TypeId} {pre post : List Nat} (h : Row k w g e (pre ++ (xs ++ post))) (hn : n = xs.length) (h1 : n ≤ c) (h2 : c ≤ maxLen) (hB : g < B) : RW k w B (.slice (some ⟨g, pre.length, none⟩) n c) xs := by
  refine RW.mk hn h1 h2 (fun _ => ⟨g, pre.length, rfl, hB, fun j hj => ?_⟩)
  rw [h.cell (by rw [List.length_append, List.length_append]; omega), nth_append_right, nth_append_left (by omega)]
theorem RW.of_row0 {g : Nat} {e : TypeId} {post : List Nat} (h : Row k w g e (xs ++ post)) (hn : n = xs.length) (h1 : n ≤ c) (h2 : c ≤ maxLen) (hB : g < B) : RW k w B (.slice (some ⟨g, 0, none⟩) n c) xs :=
  RW.of_row (pre := []) h hn h1 h2 hB
end

theorem Row.one (k : IntKind) (w : World) (e : TypeId) (x : Nat) : Row k (w.alloc (.cells #[.int k (x : Int)] e)) w.heap.size e [x] := heap_alloc_new w _
theorem Row.two (k : IntKind) (w : World) (e : TypeId) (x y : Nat) : Row k (w.alloc (.cells #[.int k (x : Int), .int k (y : Int)] e)) w.heap.size e [x, y] := heap_alloc_new w _

theorem below_unN {B n : Nat} {w w' : World} (h : Below B (w.drewN n) w') : Below B w w' := ⟨h.os, h.tape, h.output, h.size, h.block⟩

/-- What make lays: zeros. -/
theorem row_made {k : IntKind} {w : World} {g : Nat} {e : TypeId} {n : Nat} (h : w.heap[g]? = some (.cells (madeCells #[.int k 0] n) e (0, 0))) : Row k w g e (List.replicate n 0) := by
  unfold Row
  rw [h]
  congr 2
  apply Array.toList_inj.1
  rw [toList_madeCells_one]
  simp

theorem add_none (b o j : Nat) : (⟨b, o, none⟩ : Addr).add j = ⟨b, o + j, none⟩ := by
  unfold Addr.add
  by_cases h : j = 0
  · subst h; rfl
  · rw [if_neg h]

/-- copy of a list of numbers into a new block of zeros that has room for them. -/
theorem run_copy_words {P : Program} {k : IntKind} {w : World} {dT sT ty e : TypeId} {g m n c B : Nat} {A : Option Addr} {xs : List Nat} (hu : P.underlying dT = some (.slice e)) (hs : (P.info? e).map (·.size) = some 1)
    (hrow : Row k w g e (List.replicate m 0)) (h : RW k w B (.slice A n c) xs) (hnm : n ≤ m) :
    ∃ w2, (Builtin.copy_ #[dT, sT] ty #[.slice (some ⟨g, 0, none⟩) m m, .slice A n c]).run P w = .ok (goInt n) w2 ∧ Row k w2 g e (xs ++ List.replicate (m - n) 0) ∧ Below g w w2 := by
  have hl := h.len
  by_cases h0 : n = 0
  · subst h0
    have hx : xs = [] := List.eq_nil_of_length_eq_zero hl.symm
    subst hx
    exact ⟨w, run_copy_none (P := P) w dT sT ty e _ _ _ _ _ _ hu hs (Nat.zero_min _), by simpa using hrow, Below.refl _ _⟩
  · obtain ⟨b, o, rfl, hb, hc⟩ := h.at_ (by omega)
    have hlen : (xs.map (fun (x : Nat) => Value.int k (x : Int))).length = n := by rw [List.length_map, hl]
    have hr := run_copy_row (P := P) w dT sT ty e g 0 m m ⟨b, o, none⟩ n c _ e (xs.map (fun (x : Nat) => Value.int k (x : Int))) hu hs hrow (by rw [hlen]; exact (Nat.min_eq_left hnm).symm)
      (fun j v hj => by
        have hjn : j < n := by
          have := (List.getElem?_eq_some_iff.1 hj).1
          rwa [hlen] at this
        rw [add_none, hc j hjn, ← hj, List.getElem?_map, List.getElem?_eq_getElem (by omega), nth_lt (by omega)]
        rfl)
      (by rw [hlen]; simp; omega)
      (by
        intro v hv
        obtain ⟨y, _, rfl⟩ := List.mem_map.1 hv
        rfl)
    rw [hlen] at hr
    refine ⟨_, hr, ?_, below_setRow (Below.refl _ _) (Nat.le_refl _) _⟩
    unfold Row
    rw [setRow_heap w g _ _ e _ hrow]
    congr 2
    apply Array.toList_inj.1
    simp

theorem ownsRow_heap {w : World} {base : Nat} {e : TypeId} {g n c : Nat} {xs : List Value} (h : w.ownsRow base e 1 (.slice (some ⟨g, 0, none⟩) n c) n xs) (hc : n = c) : w.heap[g]? = some (.cells xs.toArray e (0, 0)) := by
  subst hc
  rcases h.2 with ⟨h1, _⟩ | ⟨g', cap, cur, h1, _, h2, _, _, h3, h4⟩
  · cases h1
  · injection h1 with h1 _ h5
    injection h1 with h1
    injection h1 with h1
    subst h1 h5
    rw [h2, ← h4, List.take_of_length_le (by simp [h3])]

/-- What make(.., n) leaves. -/
theorem row_of_made {k : IntKind} {w : World} {base : Nat} {e : TypeId} {g n : Nat} (h : w.ownsRow base e 1 (.slice (some ⟨g, 0, none⟩) n n) n (madeCells (Value.int k 0).cells (n * 1)).toList) : Row k w g e (List.replicate n 0) := by
  refine row_made ?_
  rw [ownsRow_heap h rfl, Nat.mul_one]
  rfl
end Go.Proofs.YtdpmfenikomfkaaGreat

namespace Go.Proofs.YtdpmfenikomfkaaGreat
set_option autoImplicit false

def B16 : Nat := 65536
theorem B16_pos : 0 < B16 := by unfold B16; omega
theorem B16_eq : B16 = 65536 := rfl

def val16 : List Nat → Nat
  | [] => 0
  | x :: xs => x + B16 * val16 xs

def AllOk16 (xs : List Nat) : Prop := ∀ x ∈ xs, x < B16

def words16 (n : Nat) : List Nat := if _h : n = 0 then [] else (n % B16) :: words16 (n / B16)
termination_by n
decreasing_by exact Nat.div_lt_self (by omega) (by unfold B16; omega)

theorem words16_zero : words16 0 = [] := by rw [words16]; simp
theorem words16_pos {n : Nat} (h : n ≠ 0) : words16 n = (n % B16) :: words16 (n / B16) := by rw [words16]; simp [h]

theorem val16_words16 (n : Nat) : val16 (words16 n) = n := by
  induction n using Nat.strongRecOn with
  | _ n ih =>
    by_cases h : n = 0
    · subst h; rw [words16_zero]; rfl
    · rw [words16_pos h, val16, ih _ (Nat.div_lt_self (by omega) (by unfold B16; omega))]
      exact Nat.mod_add_div n B16

theorem words16_ok (n : Nat) : AllOk16 (words16 n) := by
  induction n using Nat.strongRecOn with
  | _ n ih =>
    by_cases h : n = 0
    · subst h; rw [words16_zero]; intro x hx; cases hx
    · rw [words16_pos h]
      intro x hx
      rcases List.mem_cons.1 hx with rfl | hx
      · exact Nat.mod_lt _ B16_pos
      · exact ih _ (Nat.div_lt_self (by omega) (by unfold B16; omega)) x hx

theorem val16_nil : val16 [] = 0 := rfl
theorem val16_cons (x : Nat) (xs : List Nat) : val16 (x :: xs) = x + B16 * val16 xs := rfl

theorem AllOk16.cons {x : Nat} {xs : List Nat} (h : AllOk16 (x :: xs)) : x < B16 ∧ AllOk16 xs :=
  ⟨h x (List.mem_cons_self), fun y hy => h y (List.mem_cons_of_mem _ hy)⟩

/-- A list without a most significant word 0 is the words16 of its value. -/
theorem words16_val16 : ∀ (xs : List Nat), AllOk16 xs → (xs ≠ [] → xs.getLastD 1 ≠ 0) → words16 (val16 xs) = xs
  | [], _, _ => words16_zero
  | x :: xs, hok, hl => by
    obtain ⟨hx, hxs⟩ := hok.cons
    have hne : val16 (x :: xs) ≠ 0 := by
      intro h0
      rw [val16_cons] at h0
      have hx0 : x = 0 := by omega
      have hv0 : val16 xs = 0 := by
        rcases Nat.eq_zero_of_add_eq_zero_left h0 with h
        rcases Nat.mul_eq_zero.1 h with h | h
        · unfold B16 at h; omega
        · exact h
      cases xs with
      | nil => exact hl (by simp) (by simp [hx0])
      | cons y ys =>
        have := words16_val16 (y :: ys) hxs (fun _ => by
          have := hl (by simp)
          simpa [List.getLastD] using this)
        rw [hv0, words16_zero] at this
        cases this
    rw [words16_pos hne, val16_cons, Nat.add_mul_mod_self_left, Nat.mod_eq_of_lt hx, Nat.add_mul_div_left _ _ B16_pos, Nat.div_eq_of_lt hx, Nat.zero_add]
    congr 1
    refine words16_val16 xs hxs (fun hn => ?_)
    have := hl (by simp)
    cases xs with
    | nil => exact absurd rfl hn
    | cons y ys => simpa [List.getLastD] using this

theorem val16_append : ∀ (xs ys : List Nat), val16 (xs ++ ys) = val16 xs + B16 ^ xs.length * val16 ys
  | [], ys => by simp [val16_nil]
  | x :: xs, ys => by
    rw [List.cons_append, val16_cons, val16_cons, val16_append xs ys, List.length_cons, Nat.pow_succ, Nat.mul_add, Nat.add_assoc]
    congr 2
    rw [← Nat.mul_assoc, Nat.mul_comm B16 (B16 ^ xs.length)]

theorem val16_lt : ∀ (xs : List Nat), AllOk16 xs → val16 xs < B16 ^ xs.length
  | [], _ => by simp [val16_nil]
  | x :: xs, h => by
    obtain ⟨hx, hxs⟩ := h.cons
    have ih := val16_lt xs hxs
    rw [val16_cons, List.length_cons, Nat.pow_succ]
    have h1 : B16 * (val16 xs + 1) ≤ B16 * B16 ^ xs.length := Nat.mul_le_mul_left _ ih
    rw [Nat.mul_add, Nat.mul_one] at h1
    rw [Nat.mul_comm (B16 ^ xs.length)]
    omega

theorem val16_zeros : ∀ (xs : List Nat), (∀ x ∈ xs, x = 0) → val16 xs = 0
  | [], _ => rfl
  | x :: xs, h => by
    rw [val16_cons, h x (List.mem_cons_self), val16_zeros xs (fun y hy => h y (List.mem_cons_of_mem _ hy)), Nat.mul_zero]

/-- What trim leaves. -/
theorem take_words16 (xs : List Nat) (n : Nat) (hok : AllOk16 xs) (hn : n ≤ xs.length) (hz : ∀ j, n ≤ j → j < xs.length → xs.getD j 0 = 0) (hl : 0 < n → xs.getD (n - 1) 0 ≠ 0) :
    xs.take n = words16 (val16 xs) := by
  have hv : val16 xs = val16 (xs.take n) := by
    conv => lhs; rw [← List.take_append_drop n xs]
    rw [val16_append, val16_zeros (xs.drop n)]
    · simp
    · intro x hx
      obtain ⟨i, hi, rfl⟩ := List.mem_iff_getElem.1 hx
      have hi' : n + i < xs.length := by simp at hi; omega
      have := hz (n + i) (by omega) hi'
      rw [List.getD_eq_getElem?_getD, List.getElem?_eq_getElem hi'] at this
      simpa using this
  rw [hv, words16_val16 _ (fun x hx => hok x (List.mem_of_mem_take hx))]
  intro hne
  have hn0 : 0 < n := by
    rcases Nat.eq_zero_or_pos n with h | h
    · subst h; simp at hne
    · exact h
  have h1 := hl hn0
  have h2 : (xs.take n).getLastD 1 = xs.getD (n - 1) 0 := by
    rw [List.getLastD_eq_getLast?, List.getLast?_eq_getElem?, List.length_take, Nat.min_eq_left hn, List.getElem?_take_of_lt (by omega), List.getD_eq_getElem?_getD]
    rw [List.getElem?_eq_getElem (by omega)]
    rfl
  rw [h2]
  exact h1

theorem words16_length_le (n k : Nat) (h : n < B16 ^ k) : (words16 n).length ≤ k := by
  induction k generalizing n with
  | zero => simp at h; subst h; rw [words16_zero]; simp
  | succ k ih =>
    by_cases h0 : n = 0
    · subst h0; rw [words16_zero]; simp
    · rw [words16_pos h0, List.length_cons]
      have := ih (n / B16) (Nat.div_lt_of_lt_mul (by rw [Nat.pow_succ] at h; rw [Nat.mul_comm]; exact h))
      omega

theorem words16_lt (n : Nat) : n < B16 ^ (words16 n).length := by
  have := val16_lt _ (words16_ok n)
  rwa [val16_words16] at this

theorem words16_last (n : Nat) (h : n ≠ 0) : (words16 n).getLastD 1 ≠ 0 := by
  induction n using Nat.strongRecOn with
  | _ n ih =>
    rw [words16_pos h]
    by_cases h1 : n / B16 = 0
    · rw [h1, words16_zero]
      have : n < B16 := by
        rcases Nat.lt_or_ge n B16 with h' | h'
        · exact h'
        · exact absurd h1 (Nat.pos_iff_ne_zero.1 (Nat.div_pos h' B16_pos))
      simp [Nat.mod_eq_of_lt this, h]
    · have := ih _ (Nat.div_lt_self (by omega) (by unfold B16; omega)) h1
      rw [words16_pos h1] at this ⊢
      simpa [List.getLastD] using this

theorem words16_eq_nil {n : Nat} : words16 n = [] ↔ n = 0 := by
  constructor
  · intro h
    have := val16_words16 n
    rw [h] at this
    exact this.symm
  · rintro rfl; exact words16_zero

theorem words16_single {n : Nat} (h0 : n ≠ 0) (h : n < B16) : words16 n = [n] := by
  rw [words16_pos h0, Nat.mod_eq_of_lt h, Nat.div_eq_of_lt h, words16_zero]

theorem words16_len_zero {n : Nat} : (words16 n).length = 0 ↔ n = 0 := by
  rw [List.length_eq_zero_iff, words16_eq_nil]

theorem words16_len_one {n : Nat} : (words16 n).length = 1 ↔ n ≠ 0 ∧ n < B16 := by
  constructor
  · intro h
    refine ⟨fun h0 => ?_, ?_⟩
    · subst h0; rw [words16_zero] at h; cases h
    · have := words16_lt n
      rw [h] at this
      simpa using this
  · rintro ⟨h0, h⟩
    rw [words16_single h0 h]; rfl

theorem words16_inj {a b : Nat} (h : words16 a = words16 b) : a = b := by
  rw [← val16_words16 a, h, val16_words16]

theorem words16_len_mono {a b : Nat} (h : a ≤ b) : (words16 a).length ≤ (words16 b).length :=
  words16_length_le a _ (Nat.lt_of_le_of_lt h (words16_lt b))

theorem words16_len_gt {a b : Nat} (h : (words16 a).length < (words16 b).length) : a < b := by
  rcases Nat.lt_or_ge a b with h' | h'
  · exact h'
  · have := words16_len_mono h'
    omega

theorem words16_ge (n : Nat) (h : n ≠ 0) : B16 ^ ((words16 n).length - 1) ≤ n := by
  rcases Nat.lt_or_ge n (B16 ^ ((words16 n).length - 1)) with h' | h'
  · have := words16_length_le n _ h'
    have : (words16 n).length ≠ 0 := fun e => h (words16_len_zero.1 e)
    omega
  · exact h'


theorem nth_ok16 {xs : List Nat} (h : AllOk16 xs) (i : Nat) : nth xs i < B16 := by
  rcases Nat.lt_or_ge i xs.length with hi | hi
  · rw [nth_lt hi]; exact h _ (List.getElem_mem hi)
  · rw [nth_ge hi]; exact B16_pos

theorem take_top16 (xs : List Nat) (hok : AllOk16 xs) : xs.take (top xs) = words16 (val16 xs) :=
  take_words16 xs (top xs) hok (top_le xs) (fun j hj _ => top_after xs j hj) (top_last xs)

theorem top_eq_len16 (xs : List Nat) (hok : AllOk16 xs) : top xs = (words16 (val16 xs)).length := by
  rw [← take_top16 xs hok, List.length_take, Nat.min_eq_left (top_le xs)]

theorem top_words16 (n : Nat) : top (words16 n) = (words16 n).length := by
  rw [top_eq_len16 _ (words16_ok n), val16_words16]

theorem val16_take_succ (xs : List Nat) (k : Nat) (h : k < xs.length) : val16 (xs.take (k + 1)) = val16 (xs.take k) + B16 ^ k * nth xs k := by
  rw [List.take_succ_eq_append_getElem h, val16_append, List.length_take, Nat.min_eq_left (by omega), nth_lt h]
  simp [val16_cons, val16_nil]

theorem AllOk16.set {xs : List Nat} (h : AllOk16 xs) {i x : Nat} (hx : x < B16) : AllOk16 (xs.set i x) := by
  intro y hy
  rcases List.mem_or_eq_of_mem_set hy with h' | h'
  · exact h y h'
  · subst h'; exact hx
theorem AllOk16.append {xs ys : List Nat} (h : AllOk16 xs) (h' : AllOk16 ys) : AllOk16 (xs ++ ys) := by
  intro y hy
  rcases List.mem_append.1 hy with g | g
  · exact h y g
  · exact h' y g
theorem AllOk16.take {xs : List Nat} (h : AllOk16 xs) (k : Nat) : AllOk16 (xs.take k) := fun y hy => h y (List.mem_of_mem_take hy)
theorem AllOk16.drop {xs : List Nat} (h : AllOk16 xs) (k : Nat) : AllOk16 (xs.drop k) := fun y hy => h y (List.mem_of_mem_drop hy)
theorem AllOk16.zeros (n : Nat) : AllOk16 (List.replicate n 0) := by
  intro y hy
  rw [List.eq_of_mem_replicate hy]; exact B16_pos
theorem AllOk16.nil : AllOk16 [] := fun _ h => by cases h

/-- The value of the first k + 1 words16 after the word k was written. -/
theorem val16_set_succ (xs : List Nat) (k x : Nat) (h : k < xs.length) : val16 ((xs.set k x).take (k + 1)) = val16 (xs.take k) + B16 ^ k * x := by
  rw [val16_take_succ _ _ (by simpa using h), take_set_le _ _ _ _ (Nat.le_refl k), nth_set, if_pos ⟨rfl, h⟩]

theorem val16_zeros_n (n : Nat) : val16 (List.replicate n 0) = 0 := val16_zeros _ (fun _ h => List.eq_of_mem_replicate h)

end Go.Proofs.YtdpmfenikomfkaaGreat
