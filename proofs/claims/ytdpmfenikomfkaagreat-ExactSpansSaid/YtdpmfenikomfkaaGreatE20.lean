/-
  Fractions: their values, and how they are reduced.
  anyLarge, where no number is large.
-/
import Derived.Test.YtdpmfenikomfkaaGreatE19
import Derived.Test.YtdpmfenikomfkaaGreatE18
namespace Go.Proofs.YtdpmfenikomfkaaGreat
open Go.RowKit

def dd (d : Nat) : Nat := if d = 1 then 0 else d

/-- The value is a Fraction: its sign, its numerator, its denominator. -/
def FR (w : World) (B : Nat) (v : Value) (neg : Bool) (n d : Nat) : Prop :=
  ∃ A1 n1 c1 A2 n2 c2, v = .agg #[.bool neg, .slice A1 n1 c1, .slice A2 n2 c2] ∧ RW .u64 w B (.slice A1 n1 c1) (words n) ∧ RW .u64 w B (.slice A2 n2 c2) (words (dd d))

def RetF (w : World) (neg : Bool) (n d : Nat) (e : Ending) (w' : World) : Prop :=
  ∃ v, e = .returned v ∧ FR w' w'.heap.size v neg n d ∧ Below w.heap.size w w'

theorem FR.mk {w : World} {B : Nat} {neg : Bool} {n d n1 c1 n2 c2 : Nat} {A1 A2 : Option Addr} (h1 : RW .u64 w B (.slice A1 n1 c1) (words n)) (h2 : RW .u64 w B (.slice A2 n2 c2) (words (dd d))) :
    FR w B (.agg #[.bool neg, .slice A1 n1 c1, .slice A2 n2 c2]) neg n d := ⟨_, _, _, _, _, _, rfl, h1, h2⟩
theorem rw_one {w : World} {B : Nat} : RW .u64 w B (.slice none 0 0) (words (dd 1)) := by
  unfold dd
  rw [if_pos rfl, words_zero]
  exact RW.nil_
theorem rw_zero {w : World} {B : Nat} : RW .u64 w B (.slice none 0 0) (words 0) := by
  rw [words_zero]
  exact RW.nil_
theorem dd_ne {d : Nat} (h : d ≠ 1) : dd d = d := by unfold dd; rw [if_neg h]

/-- A list of numbers does not lie in a block that holds none. -/
theorem RW.grownNe {k : IntKind} {w w' : World} {g B : Nat} {v : Value} {xs : List Nat} (h : RW k w B v xs) (hg : w.grownBy w' (some g)) (hne : ∀ i x, w.cell? ⟨g, i, none⟩ ≠ some (.int k x)) : RW k w' B v xs := by
  obtain ⟨A, c, e, h1, h2, h3⟩ := h
  refine ⟨A, c, e, h1, h2, fun hn => ?_⟩
  obtain ⟨b, o, ha, hb, hc⟩ := h3 hn
  refine ⟨b, o, ha, hb, fun j hj => ?_⟩
  have hcj := hc j hj
  exact hg.cell hcj (fun e => by
    injection e with e
    change b = g at e
    subst e
    exact hne _ _ hcj)

theorem bcell {W w1 : World} (hb : Below W.heap.size W w1) : (∀ b o, b < W.heap.size → w1.cell? ⟨b, o, none⟩ = W.cell? ⟨b, o, none⟩) ∧ (∀ b o, b < W.heap.size → w1.frozen? ⟨b, o, none⟩ = W.frozen? ⟨b, o, none⟩) :=
  ⟨fun b o h => hb.cell (p := ⟨b, o, none⟩) h, fun b o h => hb.frozen (p := ⟨b, o, none⟩) h⟩

theorem fr_cells {w w3 : World} {a b c : Value} {T : TypeId} (h : Below (w.alloc (.cells #[a, b, c] T)).heap.size (w.alloc (.cells #[a, b, c] T)) w3) :
    w3.cell? ⟨w.heap.size, 0, none⟩ = some a ∧ w3.cell? ⟨w.heap.size, 1, none⟩ = some b ∧ w3.cell? ⟨w.heap.size, 2, none⟩ = some c ∧ ∀ i, w3.frozen? ⟨w.heap.size, i, none⟩ = false := by
  have hlt : ∀ i, (⟨w.heap.size, i, none⟩ : Addr).block < (w.alloc (.cells #[a, b, c] T)).heap.size := fun i => by simp
  refine ⟨?_, ?_, ?_, fun i => ?_⟩
  · rw [h.cell (hlt 0), World.cell?_alloc_at _ _ _ _ rfl]; rfl
  · rw [h.cell (hlt 1), World.cell?_alloc_at _ _ _ _ rfl]; rfl
  · rw [h.cell (hlt 2), World.cell?_alloc_at _ _ _ _ rfl]; rfl
  · rw [h.frozen (hlt i), World.frozen?_alloc_at _ _ _ _ rfl]

theorem agg_noint {w : World} {g : Nat} {k : IntKind} {p : Bool} {A1 A2 : Option Addr} {n1 c1 n2 c2 : Nat} {T : TypeId} (h : w.heap[g]? = some (.cells #[.bool p, .slice A1 n1 c1, .slice A2 n2 c2] T (0, 0))) : ∀ i x, w.cell? ⟨g, i, none⟩ ≠ some (.int k x) := by
  intro i x hx
  rw [cell_of_row w g i _ _ _ h] at hx
  match i, hx with
  | 0, hx => simp at hx
  | 1, hx => simp at hx
  | 2, hx => simp at hx
  | i + 3, hx => simp at hx

/-- What a store of a Fraction into the result's block leaves. -/
theorem fr_store {w w3 : World} {a b c : Value} {T : TypeId} {p : Bool} {A1 A2 : Option Addr} {n1 c1 n2 c2 : Nat} (hab : #[a, b, c] = #[.bool p, .slice A1 n1 c1, .slice A2 n2 c2])
    (h : Below (w.alloc (.cells #[a, b, c] T)).heap.size (w.alloc (.cells #[a, b, c] T)) w3) (u0 u1 u2 : Value) :
    Below w.heap.size w (((w3.setCell ⟨w.heap.size, 0, none⟩ u0).setCell ⟨w.heap.size, 1, none⟩ u1).setCell ⟨w.heap.size, 2, none⟩ u2) ∧
    ∀ k v xs, RW k w3 w3.heap.size v xs → RW k (((w3.setCell ⟨w.heap.size, 0, none⟩ u0).setCell ⟨w.heap.size, 1, none⟩ u1).setCell ⟨w.heap.size, 2, none⟩ u2) (((w3.setCell ⟨w.heap.size, 0, none⟩ u0).setCell ⟨w.heap.size, 1, none⟩ u1).setCell ⟨w.heap.size, 2, none⟩ u2).heap.size v xs := by
  have h0 : Below w.heap.size w w3 := ((Below.refl _ _).alloc (Nat.le_refl _) _).trans (h.mono (by simp))
  refine ⟨((h0.setCell (Nat.le_refl _) _).setCell (Nat.le_refl _) _).setCell (Nat.le_refl _) _, fun k v xs hr => ?_⟩
  have hg : w3.grownBy (((w3.setCell ⟨w.heap.size, 0, none⟩ u0).setCell ⟨w.heap.size, 1, none⟩ u1).setCell ⟨w.heap.size, 2, none⟩ u2) (some w.heap.size) :=
    grown_set (grown_set (grown_set ⟨rfl, rfl, rfl, Nat.le_refl _, fun _ _ _ => rfl⟩ _ _) _ _) _ _
  have hblk : w3.heap[w.heap.size]? = some (.cells #[.bool p, .slice A1 n1 c1, .slice A2 n2 c2] T (0, 0)) := by
    rw [h.block _ (by simp), heap_alloc_new, hab]
  exact (hr.grownNe hg (agg_noint hblk)).more hg.size

/-- The same with the result's block g, wherever it is. -/
theorem fr_cellsG {W0 w3 : World} {g : Nat} {a b c : Value} {T : TypeId} (hblk : W0.heap[g]? = some (.cells #[a, b, c] T (0, 0))) (h : Below W0.heap.size W0 w3) :
    w3.cell? ⟨g, 0, none⟩ = some a ∧ w3.cell? ⟨g, 1, none⟩ = some b ∧ w3.cell? ⟨g, 2, none⟩ = some c ∧ ∀ i, w3.frozen? ⟨g, i, none⟩ = false := by
  have hlt : g < W0.heap.size := (Array.getElem?_eq_some_iff.1 hblk).1
  have hb : w3.heap[g]? = some (.cells #[a, b, c] T (0, 0)) := (h.block g hlt).trans hblk
  exact ⟨cell_of_row _ _ _ _ _ _ hb, cell_of_row _ _ _ _ _ _ hb, cell_of_row _ _ _ _ _ _ hb, fun i => frozen_of_row _ _ _ _ _ hb⟩

theorem fr_storeG {w W0 w3 : World} {g : Nat} {T : TypeId} {p : Bool} {A1 A2 : Option Addr} {n1 c1 n2 c2 : Nat} (hblk : W0.heap[g]? = some (.cells #[.bool p, .slice A1 n1 c1, .slice A2 n2 c2] T (0, 0)))
    (h0 : Below w.heap.size w W0) (hg : w.heap.size ≤ g) (h : Below W0.heap.size W0 w3) (u0 u1 u2 : Value) :
    Below w.heap.size w (((w3.setCell ⟨g, 0, none⟩ u0).setCell ⟨g, 1, none⟩ u1).setCell ⟨g, 2, none⟩ u2) ∧
    ∀ k v xs, RW k w3 w3.heap.size v xs → RW k (((w3.setCell ⟨g, 0, none⟩ u0).setCell ⟨g, 1, none⟩ u1).setCell ⟨g, 2, none⟩ u2) (((w3.setCell ⟨g, 0, none⟩ u0).setCell ⟨g, 1, none⟩ u1).setCell ⟨g, 2, none⟩ u2).heap.size v xs := by
  have hlt : g < W0.heap.size := (Array.getElem?_eq_some_iff.1 hblk).1
  have h1 : Below w.heap.size w w3 := h0.trans (h.mono h0.size)
  refine ⟨((h1.setCell hg _).setCell hg _).setCell hg _, fun k v xs hr => ?_⟩
  have hgr : w3.grownBy (((w3.setCell ⟨g, 0, none⟩ u0).setCell ⟨g, 1, none⟩ u1).setCell ⟨g, 2, none⟩ u2) (some g) :=
    grown_set (grown_set (grown_set ⟨rfl, rfl, rfl, Nat.le_refl _, fun _ _ _ => rfl⟩ _ _) _ _) _ _
  have hb3 : w3.heap[g]? = some (.cells #[.bool p, .slice A1 n1 c1, .slice A2 n2 c2] T (0, 0)) := (h.block g hlt).trans hblk
  exact (hr.grownNe hgr (agg_noint hb3)).more hgr.size

set_option maxRecDepth 100000 in
set_option maxHeartbeats 1000000 in
theorem reduced_any (neg : Bool) (a b : Nat) (A1 A2 : Option Addr) (n m c1 c2 : Nat) (B : Nat) (w : World) (hx : RW .u64 w B (.slice A1 n c1) (words a)) (hy : RW .u64 w B (.slice A2 m c2) (words b)) (hB : B ≤ w.heap.size) (hn : n ≤ 65536) (hm : m ≤ 65536) (hb0 : b ≠ 0)
    (hG : a ≠ 0 → b ≠ 1 → GcdAt a b) (hA : a ≠ 0 → b ≠ 1 → DivideAt a (Nat.gcd a b)) (hBb : a ≠ 0 → b ≠ 1 → DivideAt b (Nat.gcd a b)) :
    Calls Tryz.prog 67 #[.bool neg, .slice A1 n c1, .slice A2 m c2] w (RetF w (neg && decide (a ≠ 0)) (a / Nat.gcd a b) (b / Nat.gcd a b)) := by
  have HXL := Lib.hid hx.len
  have HYL := Lib.hid hy.len
  by_cases ha : a = 0
  · have hn0 : ((n : Int) == 0) = true := by
      have : n = 0 := by rw [HXL.out, ha, words_zero]; rfl
      rw [this]; rfl
    have HA := Lib.hid ha
    clear ha
    go_enter Tryz.func67, Tryz.ntmps67
    go_wp2
    refine bodyPost_ret (v := .agg #[.bool false, .slice none 0 0, .slice none 0 0]) (by simp [results, Tryz.results67, go_sem]) rfl ⟨.agg #[.bool false, .slice none 0 0, .slice none 0 0], rfl, ?_, (Below.refl _ _).alloc (Nat.le_refl _) _⟩
    · rw [HA.out]
      have e1 : b / Nat.gcd 0 b = 1 := by rw [Nat.gcd_zero_left]; exact Nat.div_self (by omega)
      have e2 : (neg && decide ((0 : Nat) ≠ 0)) = false := by simp
      rw [e1, Nat.zero_div, e2]
      exact FR.mk rw_zero rw_one
  · have hn0 : ((n : Int) == 0) = false := by
      have : n ≠ 0 := by rw [HXL.out]; exact fun h => ha (words_len_zero.1 h)
      rw [beq_eq_false_iff_ne]; omega
    have hda : (neg && decide (a ≠ 0)) = neg := by simp [ha]
    rw [hda]
    have hx1 := hx.alloc hB (.cells #[.bool false, .slice none 0 0, .slice none 0 0] 74)
    have hy1 := hy.alloc hB (.cells #[.bool false, .slice none 0 0, .slice none 0 0] 74)
    have hB1 : B ≤ (w.alloc (.cells #[.bool false, .slice none 0 0, .slice none 0 0] 74)).heap.size := by simp; omega
    by_cases hb1 : b = 1
    · have hy2 := hy1
      rw [hb1] at hy2
      have HB1 := Lib.hid hb1
      clear hda hb1
      go_enter Tryz.func67, Tryz.ntmps67
      go_wp2_with (go_at_call 77; refine (isOne_yes _ _ _ _ _ hy2).mono ?_; rintro e w' ⟨rfl, rfl⟩)
      refine bodyPost_ret (v := .agg #[.bool neg, .slice A1 n c1, .slice none 0 0]) (by simp [results, Tryz.results67, go_sem]) rfl ⟨.agg #[.bool neg, .slice A1 n c1, .slice none 0 0], rfl, ?_, (Below.refl _ _).alloc (Nat.le_refl _) _⟩
      rw [HB1.out, Nat.gcd_one_right, Nat.div_one, Nat.div_one]
      exact FR.mk ((hx.alloc hB _).more (by simp; omega)) rw_one
    · have HB1 := Lib.hid hb1
      have hg0 : 0 < Nat.gcd a b := Nat.gcd_pos_of_pos_left _ (by omega)
      clear hda
      go_enter Tryz.func67, Tryz.ntmps67
      go_wp2_with (go_at_call 77; refine (isOne_no b hb1 _ _ _ _ _ hy1).mono ?_; rintro e w' ⟨rfl, rfl⟩)
      refine (hG ha hb1 _ B _ _ _ _ _ _ hx1 hy1 hB1 hn hm).mono ?_
      rintro e w1 ⟨A3, n3, c3, rfl, h1, hb1'⟩
      have hx2 := hx1.belowM hb1' hB1
      have hy2 := hy1.belowM hb1' hB1
      have hB2 := Nat.le_trans hB1 hb1'.size
      go_wp2_with fail
      refine (hA ha hb1 w1 w1.heap.size _ _ _ _ _ _ (hx2.more hB2) h1 (Nat.le_refl _) hn).mono ?_
      rintro e w2 ⟨A4, n4, c4, A5, n5, c5, rfl, h2, _, hb2'⟩
      have hy3 := hy2.belowM hb2' hB2
      have hB3 := Nat.le_trans hB2 hb2'.size
      go_wp2_with fail
      refine (hBb ha hb1 w2 w2.heap.size _ _ _ _ _ _ (hy3.more hB3) ((h1.below hb2').more hb2'.size) (Nat.le_refl _) hm).mono ?_
      rintro e w3 ⟨A6, n6, c6, A7, n7, c7, rfl, h3, _, hb3'⟩
      have hbb := (hb1'.trans (hb2'.mono hb1'.size)).trans (hb3'.mono (Nat.le_trans hb1'.size hb2'.size))
      obtain ⟨k0, k1, k2, kf⟩ := fr_cells hbb
      have h4 := (h2.below hb3').more hb3'.size
      by_cases hq : b / Nat.gcd a b = 1
      · have h5 := h3
        rw [hq] at h5
        have HQ := Lib.hid hq
        obtain ⟨f1, f2⟩ := fr_store rfl hbb (.bool neg) (.slice A4 n4 c4) (.slice none 0 0)
        have F := Lib.hid (And.intro f1 f2)
        clear hq f1 f2
        go_wp2_with (go_at_call 77; refine (isOne_yes _ _ _ _ _ h5).mono ?_; rintro e w' ⟨rfl, rfl⟩)
        obtain ⟨f1, f2⟩ := F.out
        refine bodyPost_ret (v := .agg #[.bool neg, .slice A4 n4 c4, .slice none 0 0]) (by simp [results, Tryz.results67, go_sem, k0, k1, k2]) rfl ⟨.agg #[.bool neg, .slice A4 n4 c4, .slice none 0 0], rfl, ?_, f1⟩
        rw [HQ.out]
        exact FR.mk (f2 _ _ _ h4) rw_one
      · have HQ := Lib.hid hq
        obtain ⟨f1, f2⟩ := fr_store rfl hbb (.bool neg) (.slice A4 n4 c4) (.slice A6 n6 c6)
        have F := Lib.hid (And.intro f1 f2)
        clear f1 f2
        go_wp2_with (go_at_call 77; refine (isOne_no _ hq _ _ _ _ _ h3).mono ?_; rintro e w' ⟨rfl, rfl⟩)
        obtain ⟨f1, f2⟩ := F.out
        refine bodyPost_ret (v := .agg #[.bool neg, .slice A4 n4 c4, .slice A6 n6 c6]) (by simp [results, Tryz.results67, go_sem, k0, k1, k2]) rfl ⟨.agg #[.bool neg, .slice A4 n4 c4, .slice A6 n6 c6], rfl, ?_, f1⟩
        exact FR.mk (f2 _ _ _ h4) (by rw [dd_ne hq]; exact f2 _ _ _ h3)

theorem reduced_sg (sg : Bool) (neg : Bool) (a b : Nat) (hsg : Hid (sg = (neg && decide (a ≠ 0)))) (A1 A2 : Option Addr) (n m c1 c2 : Nat) (B : Nat) (w : World) (hx : RW .u64 w B (.slice A1 n c1) (words a)) (hy : RW .u64 w B (.slice A2 m c2) (words b)) (hB : B ≤ w.heap.size) (hn : n ≤ 65536) (hm : m ≤ 65536) (hb0 : b ≠ 0)
    (hG : a ≠ 0 → b ≠ 1 → GcdAt a b) (hA : a ≠ 0 → b ≠ 1 → DivideAt a (Nat.gcd a b)) (hBb : a ≠ 0 → b ≠ 1 → DivideAt b (Nat.gcd a b)) :
    Calls Tryz.prog 67 #[.bool neg, .slice A1 n c1, .slice A2 m c2] w (RetF w sg (a / Nat.gcd a b) (b / Nat.gcd a b)) := by
  rw [hsg.out]
  exact reduced_any neg a b A1 A2 n m c1 c2 B w hx hy hB hn hm hb0 hG hA hBb
end Go.Proofs.YtdpmfenikomfkaaGreat

namespace Go.Proofs.YtdpmfenikomfkaaGreat
open Go.RowKit

/-- l numbers lie at the head of block g, none of them large. -/
def AllSmall (w : World) (g B l : Nat) : Prop :=
  ∀ k, k < l → ∃ neg A1 n1 c1 A2 n2 c2 xs ys, w.cell? ⟨g, k * 3, none⟩ = some (.bool neg) ∧ w.cell? ⟨g, k * 3 + 1, none⟩ = some (.slice A1 n1 c1) ∧ w.cell? ⟨g, k * 3 + 2, none⟩ = some (.slice A2 n2 c2) ∧
    RW .u32 w B (.slice A1 n1 c1) xs ∧ RW .u32 w B (.slice A2 n2 c2) ys ∧ top xs ≤ 256 ∧ top ys ≤ 256

def RetBool (w : World) (b : Bool) (e : Ending) (w' : World) : Prop := e = .returned (.bool b) ∧ Below w.heap.size w w'

def LargeRel (w : World) (l : Nat) (i : Value) (wr : World) : Prop := ∃ k, k ≤ l ∧ i = .int .i64 (k : Nat) ∧ Below w.heap.size w wr

set_option maxRecDepth 100000 in
set_option maxHeartbeats 1000000 in
theorem anyLarge_no (g B l c : Nat) (w : World) (h : AllSmall w g B l) (hg : g < w.heap.size) (hB : B ≤ w.heap.size) (hl : l ≤ 65536) :
    Calls Tryz.prog 44 #[.slice (some ⟨g, 0, none⟩) l c] w (RetBool w false) := by
  have H := Lib.hid h
  clear h
  go_enter Tryz.func44, Tryz.ntmps44
  go_wp2
  go_loopw [7] (fun i wr => LargeRel w l i wr) (fun i _ => l - (intOf i).toNat)
  case atStart => exact ⟨0, Nat.zero_le _, rfl, Below.refl _ _⟩
  case round =>
    obtain ⟨k, hk, rfl, hbr⟩ := hrel
    by_cases hlt : k < l
    · obtain ⟨neg, A1, n1, c1, A2, n2, c2, xs, ys, k0, k1, k2, hx, hy, t1, t2⟩ := H.out k hlt
      have j0 : wr.cell? ⟨g, k * 3, none⟩ = some (.bool neg) := by rw [hbr.cell hg]; exact k0
      have j1 : wr.cell? ⟨g, k * 3 + 1, none⟩ = some (.slice A1 n1 c1) := by rw [hbr.cell hg]; exact k1
      have j2 : wr.cell? ⟨g, k * 3 + 2, none⟩ = some (.slice A2 n2 c2) := by rw [hbr.cell hg]; exact k2
      have hx1 := (hx.belowM hbr hB).alloc (Nat.le_trans hB hbr.size) (.cells #[.bool neg, .slice A1 n1 c1, .slice A2 n2 c2] 48)
      have hy1 := (hy.belowM hbr hB).alloc (Nat.le_trans hB hbr.size) (.cells #[.bool neg, .slice A1 n1 c1, .slice A2 n2 c2] 48)
      clear k0 k1 k2
      obtain ⟨tx, htx⟩ : ∃ tx, tx = top xs := ⟨_, rfl⟩
      obtain ⟨ty, hty⟩ : ∃ ty, ty = top ys := ⟨_, rfl⟩
      rw [← htx] at t1
      rw [← hty] at t2
      have HTX := Lib.hid htx
      have HTY := Lib.hid hty
      clear htx hty
      go_wp2_with fail
      refine (words32_any A1 n1 c1 xs B _ (by exact hx1)).mono ?_
      rintro e w' ⟨rfl, rfl⟩
      rw [← HTX.out]
      go_wp2_with fail
      refine (words32_any A2 n2 c2 ys B _ (by exact hy1)).mono ?_
      rintro e w' ⟨rfl, rfl⟩
      rw [← HTY.out]
      go_wp2
      go_roundw
      case rel => exact ⟨k + 1, by omega, by go_num, hbr.alloc hbr.size _⟩
      case measure => simp [intOf] <;> omega
    · go_wp2
      go_ret
      exact ⟨rfl, hbr⟩
end Go.Proofs.YtdpmfenikomfkaaGreat
