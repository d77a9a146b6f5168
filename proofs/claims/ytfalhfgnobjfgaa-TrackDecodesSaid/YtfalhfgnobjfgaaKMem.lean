/-
  Rows of numbers: what they read as.
-/
import Derived.Below
import Derived.Laws.OwnMore
import Derived.Deep.Draws
import Derived.Laws.Rows
import Derived.Lib.Hide
import Derived.WalkKit
import Derived.Test.YtfalhfgnobjfgaaZPost
namespace Go.Proofs.Ytfalhfgnobjfgaa
open Go.RowKit Go.WideShapes Go.ChangeShapes

/-- The number at an index. -/
def ith (zs : List Int) (j : Nat) : Int := zs.getD j 0
theorem ith_lt {zs : List Int} {j : Nat} (h : j < zs.length) : ith zs j = zs[j] := by simp [ith, h]
theorem ith_mem {zs : List Int} {j : Nat} (h : j < zs.length) : ith zs j ∈ zs := by rw [ith_lt h]; exact List.getElem_mem h

/-- The value is a slice that reads as the numbers zs, in a block below B. -/
def IW (w : World) (B : Nat) (v : Value) (zs : List Int) : Prop :=
  ∃ A c, v = .slice A zs.length c ∧ zs.length ≤ c ∧ c ≤ maxLen ∧
    (0 < zs.length → ∃ b o, A = some ⟨b, o, none⟩ ∧ b < B ∧ ∀ j, j < zs.length → w.cell? ⟨b, o + j, none⟩ = some (.int .i64 (ith zs j)))

section
variable {w w' : World} {B B' : Nat} {v : Value} {A : Option Addr} {n c : Nat} {xs : List Int}
theorem IW.len (h : IW w B (.slice A n c) xs) : n = xs.length := by
  obtain ⟨A', c', e, _⟩ := h
  injection e
theorem IW.cap (h : IW w B (.slice A n c) xs) : n ≤ c ∧ c ≤ maxLen := by
  obtain ⟨A', c', e, h1, h2, _⟩ := h
  injection e with e1 e2 e3
  subst e2 e3
  exact ⟨h1, h2⟩
theorem IW.at_ (h : IW w B (.slice A n c) xs) (hn : 0 < n) : ∃ b o, A = some ⟨b, o, none⟩ ∧ b < B ∧ ∀ j, j < n → w.cell? ⟨b, o + j, none⟩ = some (.int .i64 (ith xs j)) := by
  obtain ⟨A', c', e, h1, h2, h3⟩ := h
  injection e with e1 e2 e3
  subst e1 e2 e3
  exact h3 hn
theorem IW.mk (hl : n = xs.length) (h1 : n ≤ c) (h2 : c ≤ maxLen)
    (h3 : 0 < n → ∃ b o, A = some ⟨b, o, none⟩ ∧ b < B ∧ ∀ j, j < n → w.cell? ⟨b, o + j, none⟩ = some (.int .i64 (ith xs j))) : IW w B (.slice A n c) xs := by
  subst hl
  exact ⟨A, c, rfl, h1, h2, h3⟩
theorem IW.nil_ : IW w B (.slice none 0 0) [] := IW.mk rfl (Nat.le_refl _) (by simp [maxLen]) (fun h => absurd h (by omega))
theorem IW.keep (h : IW w B v xs) (hk : ∀ p : Addr, p.block < B → w'.cell? p = w.cell? p) : IW w' B v xs := by
  obtain ⟨A', c', e, h1, h2, h3⟩ := h
  refine ⟨A', c', e, h1, h2, fun hn => ?_⟩
  obtain ⟨b, o, ha, hb, hc⟩ := h3 hn
  exact ⟨b, o, ha, hb, fun j hj => (hk _ hb).trans (hc j hj)⟩
theorem IW.more (h : IW w B v xs) (hB : B ≤ B') : IW w B' v xs := by
  obtain ⟨A', c', e, h1, h2, h3⟩ := h
  refine ⟨A', c', e, h1, h2, fun hn => ?_⟩
  obtain ⟨b, o, ha, hb, hc⟩ := h3 hn
  exact ⟨b, o, ha, by omega, hc⟩
theorem IW.below (h : IW w B v xs) (hb : Below B w w') : IW w' B v xs := h.keep fun _ hp => hb.cell hp
theorem IW.belowM (h : IW w B v xs) (hb : Below B' w w') (hB : B ≤ B') : IW w' B v xs := h.keep fun _ hp => hb.cell (by omega)
theorem IW.drew (h : IW w B v xs) : IW w.drew B v xs := h
theorem IW.alloc (h : IW w B v xs) (hB : B ≤ w.heap.size) (o : Obj) : IW (w.alloc o) B v xs := h.keep fun p hp => World.cell?_alloc_lt w o p (by omega)
end

/-- Every number fits. -/
def AllI (L : List Int) : Prop := ∀ x ∈ L, -9223372036854775808 ≤ x ∧ x ≤ 9223372036854775807

def RetSame (w : World) (b : Bool) (e : Ending) (w' : World) : Prop := e = .returned (.bool b) ∧ w' = w

/-- The value is a slice of n records of k numbers each; L holds them in a row. -/
def IR (w : World) (B k : Nat) (v : Value) (n : Nat) (L : List Int) : Prop :=
  ∃ A c, v = .slice A n c ∧ L.length = n * k ∧ n ≤ c ∧ c ≤ maxLen ∧
    (0 < n → ∃ b o, A = some ⟨b, o, none⟩ ∧ b < B ∧ ∀ j, j < n * k → w.cell? ⟨b, o + j, none⟩ = some (.int .i64 (ith L j)))
section
variable {w w' : World} {B B' k n : Nat} {v : Value} {L : List Int}
theorem IR.keep (h : IR w B k v n L) (hk : ∀ p : Addr, p.block < B → w'.cell? p = w.cell? p) : IR w' B k v n L := by
  obtain ⟨A', c', e, h0, h1, h2, h3⟩ := h
  refine ⟨A', c', e, h0, h1, h2, fun hn => ?_⟩
  obtain ⟨b, o, ha, hb, hc⟩ := h3 hn
  exact ⟨b, o, ha, hb, fun j hj => (hk _ hb).trans (hc j hj)⟩
theorem IR.below (h : IR w B k v n L) (hb : Below B w w') : IR w' B k v n L := h.keep fun _ hp => hb.cell hp
theorem IR.belowM (h : IR w B k v n L) (hb : Below B' w w') (hB : B ≤ B') : IR w' B k v n L := h.keep fun _ hp => hb.cell (by omega)
theorem IR.alloc (h : IR w B k v n L) (hB : B ≤ w.heap.size) (o : Obj) : IR (w.alloc o) B k v n L := h.keep fun p hp => World.cell?_alloc_lt w o p (by omega)
end
theorem lt_row {i n k q : Nat} (hi : i < n) (hq : q < k) : i * k + q < n * k := by
  have : (i + 1) * k ≤ n * k := Nat.mul_le_mul_right k hi
  rw [Nat.add_mul] at this
  omega
end Go.Proofs.Ytfalhfgnobjfgaa
