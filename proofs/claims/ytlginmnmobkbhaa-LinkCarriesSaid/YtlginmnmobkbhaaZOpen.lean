/-
  A slice of bytes that came in, opened.
-/
import Derived.Test.YtlginmnmobkbhaaZPost
import Derived.Test.YtlginmnmobkbhaaZNum
import Derived.Test.YtlginmnmobkbhaaMem
namespace Go.Proofs.Ytlginmnmobkbhaa
open Go.RowKit Go.WideShapes Go.ChangeShapes

theorem cellsB : Try.prog.cellsOf 5 = 1 := by kernel_rfl

set_option maxRecDepth 100000 in
theorem open_bytes_cs {H : Type} {enc : TypeId × Value → H} {W : World} {base fuel : Nat} {a0 : Option Addr} {n c : Nat} {x : DataW H × List MemPlace}
    (hf : DataW.trod enc Try.prog W base (fun _ => true) true fuel 33 [.slice a0 n c] = some x) :
    ∃ L, AllB L ∧ RW .u8 W W.heap.size (.slice a0 n c) L := by
  rcases open_ints Try.underlying33 Try.underlying5 cellsB hf with ⟨hcs, hx⟩ | ⟨a, len', cap', zs, hcs, _, hl, hm, hz, hx, hcell, hwz⟩
  · simp only [List.cons.injEq, and_true] at hcs
    rw [hcs]
    exact ⟨[], (by intro x h; cases h), RW.nil_⟩
  · simp only [List.cons.injEq, and_true] at hcs
    injection hcs with e1 e2 e3
    subst e1 e2 e3
    simp only [if_true] at hz
    have hbd : ∀ z ∈ zs, 0 ≤ z ∧ z < 256 := fun z hz => by
      have := bounds_u8 (hwz z hz)
      omega
    refine ⟨(zs.take n).map Int.toNat, ?_, RW.mk (by simp; omega) hl hm (fun h0 => ?_)⟩
    · intro y hy
      obtain ⟨z, hz1, rfl⟩ := List.mem_map.1 hy
      have := hbd z (List.mem_of_mem_take hz1)
      omega
    · obtain ⟨b, off, rfl, hc⟩ := ints_at hcell (by omega)
      refine ⟨b, off, rfl, ?_, fun j hj => ?_⟩
      · have := hc 0 (by omega)
        exact World.block_lt_of_cell? _ _ this
      · rw [hc j (by omega)]
        have hjz : j < zs.length := by omega
        have hj2 : j < ((zs.take n).map Int.toNat).length := by simp; omega
        rw [nth_lt hj2]
        simp only [List.getElem_map, List.getElem_take]
        have := hbd zs[j] (List.getElem_mem hjz)
        simp only [List.getD_eq_getElem?_getD, List.getElem?_eq_getElem hjz, Option.getD_some]
        congr 2
        omega

set_option maxRecDepth 100000 in
theorem open_bytes {H : Type} {enc : TypeId × Value → H} {W : World} {b : Nat} {v : Value} {d : DataW H} {ps : List MemPlace}
    (hok : Value.okWide Try.prog W .any b 33 v) (h : DataW.Trod enc Try.prog W 0 (fun _ => true) true 33 v d ps) :
    ∃ A n c L, v = .slice A n c ∧ AllB L ∧ RW .u8 W W.heap.size (.slice A n c) L := by
  obtain ⟨a0, n, c, rfl⟩ := okWide_slice Try.underlying33 hok
  obtain ⟨fuel, hf⟩ := h
  obtain ⟨L, h1, h2⟩ := open_bytes_cs (by simpa [Value.cells] using hf)
  exact ⟨a0, n, c, L, rfl, h1, h2⟩
end Go.Proofs.Ytlginmnmobkbhaa
