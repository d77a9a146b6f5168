/-
  Sum of returns.
-/
import Derived.Test.YtkcagifljelfoaaVFlat
import Derived.Test.YtkcagifljelfoaaVRow
import Derived.Deep.MidRow
namespace Go.Proofs.Ytkcagifljelfoaa
open Go.RowKit

def tF (L : List Int) : Nat → Nat
  | 0 => 0
  | k + 1 => tF L k + if ith L (k * 6) = 1 then 1 else 0
def tL (L : List Int) : Nat → Nat
  | 0 => 0
  | k + 1 => tL L k + if ith L (k * 6) = ith L (k * 6 + 1) then 1 else 0
def tE (L : List Int) : Nat → Int
  | 0 => 0
  | k + 1 => tE L k + ith L (k * 6 + 5)
theorem tF_le (L : List Int) : ∀ k, tF L k ≤ k
  | 0 => Nat.le_refl _
  | k + 1 => by have := tF_le L k; unfold tF; split <;> omega
theorem tL_le (L : List Int) : ∀ k, tL L k ≤ k
  | 0 => Nat.le_refl _
  | k + 1 => by have := tL_le L k; unfold tL; split <;> omega
def smallE (L : List Int) (n : Nat) : Prop := ∀ j, j < n → -1099511627776 ≤ ith L (j * 6 + 5) ∧ ith L (j * 6 + 5) ≤ 1099511627776
theorem tE_le {L : List Int} : ∀ {k : Nat}, smallE L k → -1099511627776 * (k : Int) ≤ tE L k ∧ tE L k ≤ 1099511627776 * (k : Int)
  | 0, _ => by simp [tE]
  | k + 1, h => by
    have ih := tE_le (L := L) (k := k) (fun j hj => h j (by omega))
    have := h k (by omega)
    unfold tE
    omega

def talC (n a b : Nat) (e : Int) : Array Value := #[.int .i64 (n : Int), .int .i64 (a : Int), .int .i64 (b : Int), .int .i64 e]
theorem tal_cells {w : World} {g n a b : Nat} {e : Int} {T : TypeId} (h : w.heap[g]? = some (.cells (talC n a b e) T (0, 0))) :
    w.cell? ⟨g, 0, none⟩ = some (.int .i64 (n : Int)) ∧ w.cell? ⟨g, 1, none⟩ = some (.int .i64 (a : Int)) ∧ w.cell? ⟨g, 2, none⟩ = some (.int .i64 (b : Int)) ∧ w.cell? ⟨g, 3, none⟩ = some (.int .i64 e) ∧ (∀ j, w.frozen? ⟨g, j, none⟩ = false) ∧ g < w.heap.size := by
  refine ⟨?_, ?_, ?_, ?_, fun j => frozen_of_row _ _ _ _ _ h, (Array.getElem?_eq_some_iff.1 h).1⟩ <;> exact cell_of_row _ _ _ _ _ _ h
/-- The sum's block in the memory of a call that began at w. -/
def TS (w wr : World) (n a b : Nat) (e : Int) : Prop :=
  wr.heap[w.heap.size]? = some (.cells (talC 0 0 0 0) 25 (0, 0)) ∧ wr.heap[w.heap.size + 1]? = some (.cells (talC n a b e) 25 (0, 0)) ∧ Below w.heap.size w wr
section
variable {w wr : World} {n a b : Nat} {e : Int}
theorem TS.lt (h : TS w wr n a b e) : w.heap.size + 1 < wr.heap.size := (Array.getElem?_eq_some_iff.1 h.2.1).1
theorem TS.setE (h : TS w wr n a b e) (e' : Int) : TS w (wr.setCell ⟨w.heap.size + 1, 3, none⟩ (.int .i64 e')) n a b e' :=
  ⟨(heap_setCell_other wr ⟨w.heap.size + 1, 3, none⟩ _ _ (fun h => by simp only at h; omega)).trans h.1, heap_setCell_same wr _ 3 _ _ _ h.2.1, h.2.2.setCell (p := ⟨w.heap.size + 1, 3, none⟩) (by show w.heap.size ≤ w.heap.size + 1; omega) _⟩
theorem TS.setF (h : TS w wr n a b e) : TS w (wr.setCell ⟨w.heap.size + 1, 1, none⟩ (.int .i64 ((a : Int) + 1))) n (a + 1) b e :=
  ⟨(heap_setCell_other wr ⟨w.heap.size + 1, 1, none⟩ _ _ (fun h => by simp only at h; omega)).trans h.1, heap_setCell_same wr _ 1 _ _ _ h.2.1, h.2.2.setCell (p := ⟨w.heap.size + 1, 1, none⟩) (by show w.heap.size ≤ w.heap.size + 1; omega) _⟩
theorem TS.setL (h : TS w wr n a b e) : TS w (wr.setCell ⟨w.heap.size + 1, 2, none⟩ (.int .i64 ((b : Int) + 1))) n a (b + 1) e :=
  ⟨(heap_setCell_other wr ⟨w.heap.size + 1, 2, none⟩ _ _ (fun h => by simp only at h; omega)).trans h.1, heap_setCell_same wr _ 2 _ _ _ h.2.1, h.2.2.setCell (p := ⟨w.heap.size + 1, 2, none⟩) (by show w.heap.size ≤ w.heap.size + 1; omega) _⟩
theorem TS.alloc (h : TS w wr n a b e) (o : Obj) : TS w (wr.alloc o) n a b e :=
  ⟨(Below.heap_alloc wr o _ (Nat.lt_of_succ_lt h.lt)).trans h.1, (Below.heap_alloc wr o _ h.lt).trans h.2.1, h.2.2.alloc (by have := h.lt; omega) o⟩
end
def RetTal (w : World) (n a b : Nat) (e : Int) (en : Ending) (w' : World) : Prop := en = .returned (.agg #[.int .i64 (n : Int), .int .i64 (a : Int), .int .i64 (b : Int), .int .i64 e]) ∧ Below w.heap.size w w'
def SumRel (L : List Int) (n : Nat) (w : World) (iv : Value) (wr : World) : Prop :=
  ∃ k : Nat, iv = .int .i64 (k : Int) ∧ k ≤ n ∧ Hid (TS w wr n (tF L k) (tL L k) (tE L k))

set_option maxRecDepth 100000 in
set_option maxHeartbeats 2000000 in
theorem sum_any (L : List Int) (A : Option Addr) (n c B : Nat) (hn : n ≤ 1000) (hs : smallE L n) (w : World) (hx : IR w B 6 (.slice A n c) n L) (hB : B ≤ w.heap.size) :
    Calls Try.prog 11 #[.slice A n c] w (RetTal w n (tF L n) (tL L n) (tE L n)) := by
  have HX := Lib.hid (And.intro hx hs)
  clear hx hs
  go_enter Try.func11, Try.ntmps11
  go_wp2
  go_loopw [11] (fun iv wr => SumRel L n w iv wr) (fun iv _ => n - (intOf iv).toNat)
  case atStart =>
    exact ⟨0, rfl, Nat.zero_le _, Lib.hid ⟨heap_alloc2_old _ _ _, heap_alloc2_new _ _ _, ((Below.refl _ _).alloc (Nat.le_refl _) _).alloc (by simp) _⟩⟩
  case round =>
    obtain ⟨k, rfl, hk, hH⟩ := hrel
    obtain ⟨z0, z1, z2, z3, zf, zl⟩ := tal_cells hH.out.1
    obtain ⟨s0, s1, s2, s3, sf, sl⟩ := tal_cells hH.out.2.1
    have qF := tF_le L k
    have qL := tL_le L k
    have qE := tE_le (L := L) (k := k) (fun j hj => HX.out.2 j (by omega))
    obtain ⟨F, hF⟩ : ∃ F, tF L k = F := ⟨_, rfl⟩
    obtain ⟨La, hLa⟩ : ∃ F, tL L k = F := ⟨_, rfl⟩
    obtain ⟨E, hE⟩ : ∃ F, tE L k = F := ⟨_, rfl⟩
    rw [hF] at s1 qF
    rw [hLa] at s2 qL
    rw [hE] at s3 qE
    have HN := Lib.hid (And.intro hF (And.intro hLa hE))
    by_cases hlt : k < n
    · obtain ⟨A', c', e, h0, h1, h2, h3⟩ := HX.out.1
      obtain ⟨b, o, rfl, hb, hc⟩ := h3 (by omega)
      injection e with e1 e2 e3
      subst e1 e3
      have hbw := hH.out.2.2
      have f := fun j (hj : j < 6) => (hbw.cell (p := ⟨b, o + (k * 6 + j), none⟩) (by show b < w.heap.size; omega)).trans (hc (k * 6 + j) (lt_row hlt hj))
      have a0 := f 0 (by omega)
      have a1 := f 1 (by omega)
      have a2 := f 2 (by omega)
      have a3 := f 3 (by omega)
      have a4 := f 4 (by omega)
      have a5 := f 5 (by omega)
      have he := HX.out.2 k hlt
      simp only [Nat.add_zero, ← Nat.add_assoc] at a0 a1 a2 a3 a4 a5
      obtain ⟨y0, hy0⟩ : ∃ y, ith L (k * 6) = y := ⟨_, rfl⟩
      obtain ⟨y1, hy1⟩ : ∃ y, ith L (k * 6 + 1) = y := ⟨_, rfl⟩
      obtain ⟨y2, hy2⟩ : ∃ y, ith L (k * 6 + 2) = y := ⟨_, rfl⟩
      obtain ⟨y3, hy3⟩ : ∃ y, ith L (k * 6 + 3) = y := ⟨_, rfl⟩
      obtain ⟨y4, hy4⟩ : ∃ y, ith L (k * 6 + 4) = y := ⟨_, rfl⟩
      obtain ⟨y5, hy5⟩ : ∃ y, ith L (k * 6 + 5) = y := ⟨_, rfl⟩
      rw [hy0] at a0
      rw [hy1] at a1
      rw [hy2] at a2
      rw [hy3] at a3
      rw [hy4] at a4
      rw [hy5] at a5 he
      have HY := Lib.hid (And.intro hy0 (And.intro hy1 hy5))
      have HB := Lib.hid hbw
      clear f hc h3 hbw hF hLa hE hy0 hy1 hy2 hy3 hy4 hy5 z0 z1 z2 z3 zf
      have HE : ∀ W', TS w W' n (tF L (k + 1)) (tL L (k + 1)) (tE L (k + 1)) → SumRel L n w (.int .i64 ((k : Int) + 1)) W' := fun W' h => ⟨k + 1, by simp, by omega, Lib.hid h⟩
      have HT : TS w wr n F La E := by
        obtain ⟨q1, q2, q3⟩ := HN.out
        have := hH.out
        rw [q1, q2, q3] at this
        exact this
      have HU := Lib.hid (And.intro HE HT)
      clear HE HT
      by_cases c1 : y0 = 1
      · by_cases c2 : y0 = y1
        · go_wp2
          go_roundw
          case rel =>
            refine HU.out.1 _ ?_
            rw [tF, tL, tE, HN.out.1, HN.out.2.1, HN.out.2.2, HY.out.1, HY.out.2.1, HY.out.2.2, if_pos c1, if_pos c2]
            exact (((HU.out.2.setE _).setF).setL).alloc _
          case measure => simp [intOf]; omega
        · go_wp2
          go_roundw
          case rel =>
            refine HU.out.1 _ ?_
            rw [tF, tL, tE, HN.out.1, HN.out.2.1, HN.out.2.2, HY.out.1, HY.out.2.1, HY.out.2.2, if_pos c1, if_neg c2]
            exact ((HU.out.2.setE _).setF).alloc _
          case measure => simp [intOf]; omega
      · by_cases c2 : y0 = y1
        · go_wp2
          go_roundw
          case rel =>
            refine HU.out.1 _ ?_
            rw [tF, tL, tE, HN.out.1, HN.out.2.1, HN.out.2.2, HY.out.1, HY.out.2.1, HY.out.2.2, if_neg c1, if_pos c2]
            exact ((HU.out.2.setE _).setL).alloc _
          case measure => simp [intOf]; omega
        · go_wp2
          go_roundw
          case rel =>
            refine HU.out.1 _ ?_
            rw [tF, tL, tE, HN.out.1, HN.out.2.1, HN.out.2.2, HY.out.1, HY.out.2.1, HY.out.2.2, if_neg c1, if_neg c2]
            exact (HU.out.2.setE _).alloc _
          case measure => simp [intOf]; omega
    · obtain rfl : k = n := by omega
      go_wp2
      have hb4 : Below w.heap.size w ((((wr.setCell ⟨w.heap.size, 0, none⟩ (.int .i64 (k : Int))).setCell ⟨w.heap.size, 1, none⟩ (.int .i64 (F : Int))).setCell ⟨w.heap.size, 2, none⟩ (.int .i64 (La : Int))).setCell ⟨w.heap.size, 3, none⟩ (.int .i64 E)) :=
        Below.setCell (p := ⟨w.heap.size, 3, none⟩) (Below.setCell (p := ⟨w.heap.size, 2, none⟩) (Below.setCell (p := ⟨w.heap.size, 1, none⟩) (Below.setCell (p := ⟨w.heap.size, 0, none⟩) hH.out.2.2 (Nat.le_refl _) _) (Nat.le_refl _) _) (Nat.le_refl _) _) (Nat.le_refl _) _
      refine bodyPost_ret (v := .agg #[.int .i64 (k : Int), .int .i64 (F : Int), .int .i64 (La : Int), .int .i64 E]) (by simp [results, Try.results11, go_sem, talC, z0, z1, z2, z3]) rfl ⟨?_, hb4⟩
      rw [hF, hLa, hE]
end Go.Proofs.Ytkcagifljelfoaa
