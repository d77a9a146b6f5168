/-
  Words for slices of bytes that a call has made.
-/
import Derived.Test.YtlginmnmobkbhaaZPost
import Derived.Test.YtlginmnmobkbhaaZNum
import Derived.Test.YtlginmnmobkbhaaMem
import Derived.OwnWalk
import Derived.Laws.AppendOwnNone
import Derived.Laws.Bits128
import Derived.Laws.BitsAllLaws
namespace Go.Proofs.Ytlginmnmobkbhaa
open Go.RowKit

def bys (L : List Nat) : List Value := L.map (fun (x : Nat) => Value.int .u8 (x : Int))
theorem bys_append (L M : List Nat) : bys (L ++ M) = bys L ++ bys M := by simp [bys]
theorem bys_length (L : List Nat) : (bys L).length = L.length := by simp [bys]
theorem bys_one (L : List Nat) : ∀ u ∈ bys L, u.oneCell' = true := by
  intro v hv
  obtain ⟨y, _, rfl⟩ := List.mem_map.1 hv
  rfl
theorem bys_get (L : List Nat) (j : Nat) (u : Value) (h : (bys L)[j]? = some u) : j < L.length ∧ u = .int .u8 (nth L j : Nat) := by
  have hj : j < (bys L).length := (List.getElem?_eq_some_iff.1 h).1
  rw [bys_length] at hj
  refine ⟨hj, ?_⟩
  unfold bys at h
  rw [List.getElem?_map, List.getElem?_eq_getElem hj] at h
  simp only [Option.map_some, Option.some.injEq] at h
  rw [nth_lt hj]; exact h.symm

section
variable {w w' : World} {base g n c : Nat} {e : TypeId} {v : Value} {L : List Nat}

theorem owns_of_row {post : List Nat} (h : Row .u8 w g e (L ++ post)) (hb : base ≤ g) (hn : n = L.length) (hc : c = L.length + post.length) (hm : c ≤ maxLen) : w.ownsRow base e 1 (.slice (some ⟨g, 0, none⟩) n c) n (bys L) := by
  subst hn hc
  refine ⟨by rw [bys_length, Nat.mul_one], .inr ⟨g, _, _, rfl, hb, h, by omega, hm, by simp, ?_⟩⟩
  simp [bys]
theorem rw_of_owns (h : w.ownsRow base e 1 v n (bys L)) : n = L.length ∧ RW .u8 w w.heap.size v L := by
  have hn : n = L.length := by have := h.1; rw [bys_length] at this; omega
  refine ⟨hn, ?_⟩
  obtain ⟨_, ⟨rfl, h0⟩ | ⟨g, cap, cur, rfl, _, hblk, h1, h2, _, ht⟩⟩ := h
  · have : L = [] := List.eq_nil_of_length_eq_zero (by omega)
    subst this
    exact RW.nil_
  · refine RW.mk hn h1 h2 (fun _ => ⟨g, 0, rfl, (Array.getElem?_eq_some_iff.1 hblk).1, fun j hj => ?_⟩)
    rw [Nat.zero_add, cell_of_row w g j _ e (0, 0) hblk]
    have : (bys L)[j]? = cur[j]? := by
      rw [← ht, List.getElem?_take, if_pos (by omega)]
      simp
    rw [← this]
    unfold bys
    rw [List.getElem?_map, List.getElem?_eq_getElem (by omega), nth_lt (by omega)]
    rfl
theorem owns_nil (w : World) (base : Nat) (e : TypeId) : w.ownsRow base e 1 (.slice none 0 0) 0 (bys []) := World.ownsRow_nil _ _ _ _
theorem owns_base {base' : Nat} (h : w.ownsRow base e 1 v n (bys L)) (hb : base' ≤ base) : w.ownsRow base' e 1 v n (bys L) := by
  obtain ⟨h1, h | ⟨g, cap, cur, h2, h3, h4⟩⟩ := h
  · exact ⟨h1, .inl h⟩
  · exact ⟨h1, .inr ⟨g, cap, cur, h2, by omega, h4⟩⟩
end

/-- make([]byte, n, c), n at most c. -/
theorem wpList_make_room {P : Program} (w : World) {ops : Array Oper} {rest : List Oper} {o : Oper} {a : Act} {Q : Exit → Act → World → Prop}
    (hg : o.guard = none) (l c : Operand) (t : TypeId) (hop : o.op = Op.makeSlice t l c)
    (e : TypeId) (i : TypeInfo) (h1 : P.underlying t = some (.slice e)) (h2 : P.info? e = some i) (h3 : i.zero = some (.int .u8 0)) (h4 : i.size = 1)
    (kl kc : IntKind) (L C : Int) (n m : Nat) (hl : a.eval l = .int kl L) (hc : a.eval c = .int kc C) (hL : L = (n : Int)) (hC : C = (m : Int)) (hnm : n ≤ m) (b2 : i.bytes * m ≤ 281474976710656) (b3 : m ≤ 9223372036854775807)
    (hK : ∀ w', Row .u8 w' w.heap.size e (List.replicate m 0) → Below w.heap.size w w' → w'.heap.size = w.heap.size + 1 → wpList P ops Q rest (a.put o.dst (.slice (some ⟨w.heap.size, 0, none⟩) n m)) w') :
    wpList P ops Q (o :: rest) a w := by
  refine wpList_plain hg fun K hK' => ?_
  subst hL hC
  have hr := run_make (P := P) w t e i (.int .u8 0) h1 h2 h3 kl kc n m (by omega) (by omega) (by rw [← Int.natCast_mul]; omega) (by omega)
  simp only [Int.toNat_natCast] at hr
  unfold Oper.wp
  simp [execOp, hop, hl, hc, hr, Result.andThen]
  refine hK' _ _ (hK _ (row_made ?_) ((Below.refl _ _).alloc (Nat.le_refl _) _) (by simp))
  rw [heap_alloc_new, h4, Nat.mul_one]
  rfl

/-- copy of bytes into a new block of zeros that has room for them. -/
theorem run_copy_room {P : Program} {w : World} {dT sT ty e : TypeId} {g m cap n c B : Nat} {A : Option Addr} {xs : List Nat} (hu : P.underlying dT = some (.slice e)) (hs : (P.info? e).map (·.size) = some 1)
    (hrow : Row .u8 w g e (List.replicate cap 0)) (h : RW .u8 w B (.slice A n c) xs) (hnm : n ≤ m) (hmc : m ≤ cap) :
    ∃ w2, (Builtin.copy_ #[dT, sT] ty #[.slice (some ⟨g, 0, none⟩) m cap, .slice A n c]).run P w = .ok (goInt n) w2 ∧ Row .u8 w2 g e (xs ++ List.replicate (cap - n) 0) ∧ Below g w w2 := by
  have hl := h.len
  by_cases h0 : n = 0
  · subst h0
    have hx : xs = [] := List.eq_nil_of_length_eq_zero hl.symm
    subst hx
    exact ⟨w, run_copy_none (P := P) w dT sT ty e _ _ _ _ _ _ hu hs (Nat.zero_min _), by simpa using hrow, Below.refl _ _⟩
  · obtain ⟨b, o, rfl, hb, hc⟩ := h.at_ (by omega)
    have hlen : (xs.map (fun (x : Nat) => Value.int .u8 (x : Int))).length = n := by rw [List.length_map, hl]
    have hr := run_copy_row (P := P) w dT sT ty e g 0 m cap ⟨b, o, none⟩ n c _ e (xs.map (fun (x : Nat) => Value.int .u8 (x : Int))) hu hs hrow (by rw [hlen]; exact (Nat.min_eq_left hnm).symm)
      (fun j v hj => by
        have hjn : j < n := by
          have := (List.getElem?_eq_some_iff.1 hj).1
          rwa [hlen] at this
        rw [add_none, hc j hjn, ← hj, List.getElem?_map, List.getElem?_eq_getElem (by omega), nth_lt (by omega)]
        rfl)
      (by rw [hlen]; simp; omega)
      (by
        intro v hv
        obtain ⟨y, _, rfl⟩ := List.mem_map.1 hv
        rfl)
    rw [hlen] at hr
    refine ⟨_, hr, ?_, below_setRow (Below.refl _ _) (Nat.le_refl _) _⟩
    unfold Row
    rw [setRow_heap w g _ _ e _ hrow]
    congr 2
    apply Array.toList_inj.1
    simp
end Go.Proofs.Ytlginmnmobkbhaa
