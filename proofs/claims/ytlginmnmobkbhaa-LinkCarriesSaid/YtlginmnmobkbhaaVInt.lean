/-
  Slices of numbers with a sign: what they read as.
-/
import Derived.Below
import Derived.Laws.OwnMore
import Derived.Deep.Draws
import Derived.Laws.Rows
import Derived.Lib.Hide
import Derived.WalkKit
import Derived.Test.YtlginmnmobkbhaaZPost
namespace Go.Proofs.Ytlginmnmobkbhaa
open Go.RowKit Go.WideShapes Go.ChangeShapes

/-- The number at an index. -/
def ith (zs : List Int) (j : Nat) : Int := zs.getD j 0
theorem ith_lt {zs : List Int} {j : Nat} (h : j < zs.length) : ith zs j = zs[j] := by simp [ith, h]
theorem ith_mem {zs : List Int} {j : Nat} (h : j < zs.length) : ith zs j ∈ zs := by rw [ith_lt h]; exact List.getElem_mem h

/-- The value is a slice that reads as the numbers zs, in a block below B. -/
def IW (w : World) (B : Nat) (v : Value) (zs : List Int) : Prop :=
  ∃ A c, v = .slice A zs.length c ∧ zs.length ≤ c ∧ c ≤ maxLen ∧
    (0 < zs.length → ∃ b o, A = some ⟨b, o, none⟩ ∧ b < B ∧ ∀ j, j < zs.length → w.cell? ⟨b, o + j, none⟩ = some (.int .i64 (ith zs j)))

section
variable {w w' : World} {B B' : Nat} {v : Value} {A : Option Addr} {n c : Nat} {xs : List Int}
theorem IW.len (h : IW w B (.slice A n c) xs) : n = xs.length := by
  obtain ⟨A', c', e, _⟩ := h
  injection e
theorem IW.cap (h : IW w B (.slice A n c) xs) : n ≤ c ∧ c ≤ maxLen := by
  obtain ⟨A', c', e, h1, h2, _⟩ := h
  injection e with e1 e2 e3
  subst e2 e3
  exact ⟨h1, h2⟩
theorem IW.at_ (h : IW w B (.slice A n c) xs) (hn : 0 < n) : ∃ b o, A = some ⟨b, o, none⟩ ∧ b < B ∧ ∀ j, j < n → w.cell? ⟨b, o + j, none⟩ = some (.int .i64 (ith xs j)) := by
  obtain ⟨A', c', e, h1, h2, h3⟩ := h
  injection e with e1 e2 e3
  subst e1 e2 e3
  exact h3 hn
theorem IW.mk (hl : n = xs.length) (h1 : n ≤ c) (h2 : c ≤ maxLen)
    (h3 : 0 < n → ∃ b o, A = some ⟨b, o, none⟩ ∧ b < B ∧ ∀ j, j < n → w.cell? ⟨b, o + j, none⟩ = some (.int .i64 (ith xs j))) : IW w B (.slice A n c) xs := by
  subst hl
  exact ⟨A, c, rfl, h1, h2, h3⟩
theorem IW.nil_ : IW w B (.slice none 0 0) [] := IW.mk rfl (Nat.le_refl _) (by simp [maxLen]) (fun h => absurd h (by omega))
theorem IW.keep (h : IW w B v xs) (hk : ∀ p : Addr, p.block < B → w'.cell? p = w.cell? p) : IW w' B v xs := by
  obtain ⟨A', c', e, h1, h2, h3⟩ := h
  refine ⟨A', c', e, h1, h2, fun hn => ?_⟩
  obtain ⟨b, o, ha, hb, hc⟩ := h3 hn
  exact ⟨b, o, ha, hb, fun j hj => (hk _ hb).trans (hc j hj)⟩
theorem IW.more (h : IW w B v xs) (hB : B ≤ B') : IW w B' v xs := by
  obtain ⟨A', c', e, h1, h2, h3⟩ := h
  refine ⟨A', c', e, h1, h2, fun hn => ?_⟩
  obtain ⟨b, o, ha, hb, hc⟩ := h3 hn
  exact ⟨b, o, ha, by omega, hc⟩
theorem IW.below (h : IW w B v xs) (hb : Below B w w') : IW w' B v xs := h.keep fun _ hp => hb.cell hp
theorem IW.belowM (h : IW w B v xs) (hb : Below B' w w') (hB : B ≤ B') : IW w' B v xs := h.keep fun _ hp => hb.cell (by omega)
theorem IW.drew (h : IW w B v xs) : IW w.drew B v xs := h
theorem IW.alloc (h : IW w B v xs) (hB : B ≤ w.heap.size) (o : Obj) : IW (w.alloc o) B v xs := h.keep fun p hp => World.cell?_alloc_lt w o p (by omega)
end

/-- Every number fits. -/
def AllI (L : List Int) : Prop := ∀ x ∈ L, -9223372036854775808 ≤ x ∧ x ≤ 9223372036854775807

theorem cellsI : Try.prog.cellsOf 3 = 1 := by kernel_rfl

set_option maxRecDepth 100000 in
theorem open_numbers_cs {H : Type} {enc : TypeId × Value → H} {W : World} {base fuel : Nat} {a0 : Option Addr} {n c : Nat} {x : DataW H × List MemPlace}
    (hf : DataW.trod enc Try.prog W base (fun _ => true) true fuel 55 [.slice a0 n c] = some x) :
    ∃ L, AllI L ∧ IW W W.heap.size (.slice a0 n c) L := by
  rcases open_ints Try.underlying55 Try.underlying3 cellsI hf with ⟨hcs, hx⟩ | ⟨a, len', cap', zs, hcs, _, hl, hm, hz, hx, hcell, hwz⟩
  · simp only [List.cons.injEq, and_true] at hcs
    rw [hcs]
    exact ⟨[], (by intro x h; cases h), IW.nil_⟩
  · simp only [List.cons.injEq, and_true] at hcs
    injection hcs with e1 e2 e3
    subst e1 e2 e3
    simp only [if_true] at hz
    refine ⟨zs.take n, ?_, IW.mk (by simp; omega) hl hm (fun h0 => ?_)⟩
    · intro y hy
      have := bounds_i64 (hwz y (List.mem_of_mem_take hy))
      omega
    · obtain ⟨b, off, rfl, hc⟩ := ints_at hcell (by omega)
      refine ⟨b, off, rfl, ?_, fun j hj => ?_⟩
      · have := hc 0 (by omega)
        exact World.block_lt_of_cell? _ _ this
      · rw [hc j (by omega)]
        have hjz : j < zs.length := by omega
        have hj2 : j < (zs.take n).length := by simp; omega
        rw [ith_lt hj2]
        simp [hjz]

set_option maxRecDepth 100000 in
/-- A slice of numbers that came in, opened. -/
theorem open_numbers {H : Type} {enc : TypeId × Value → H} {W : World} {b : Nat} {v : Value} {d : DataW H} {ps : List MemPlace}
    (hok : Value.okWide Try.prog W .any b 55 v) (h : DataW.Trod enc Try.prog W 0 (fun _ => true) true 55 v d ps) :
    ∃ A n c L, v = .slice A n c ∧ AllI L ∧ IW W W.heap.size (.slice A n c) L := by
  obtain ⟨a0, n, c, rfl⟩ := okWide_slice Try.underlying55 hok
  obtain ⟨fuel, hf⟩ := h
  obtain ⟨L, h1, h2⟩ := open_numbers_cs (by simpa [Value.cells] using hf)
  exact ⟨a0, n, c, L, rfl, h1, h2⟩

def RetSame (w : World) (b : Bool) (e : Ending) (w' : World) : Prop := e = .returned (.bool b) ∧ w' = w
end Go.Proofs.Ytlginmnmobkbhaa
