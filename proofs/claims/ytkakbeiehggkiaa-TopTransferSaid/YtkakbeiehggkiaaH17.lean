/-
  Unpack: what is read; the program's.
-/
import Derived.Test.YtkakbeiehggkiaaH04
import Derived.Test.YtkakbeiehggkiaaH16
import Derived.StillTailTactics
import Derived.Deep.RegionHeld3
import Derived.Lib.SliceRun
namespace Go.Proofs.Ytkakbeiehggkiaa
open Go.RowKit

def sl (L : List Nat) (i k : Nat) : List Nat := (L.drop i).take k
theorem sl_len {L : List Nat} {i k : Nat} (h : i + k ≤ L.length) : (sl L i k).length = k := by
  unfold sl; rw [List.length_take, List.length_drop]; omega
theorem AllB.sl {L : List Nat} (h : AllB L) (i k : Nat) : AllB (sl L i k) := fun x hx => h x (List.mem_of_mem_drop (List.mem_of_mem_take hx))
theorem AllB.take {L : List Nat} (h : AllB L) (k : Nat) : AllB (L.take k) := fun x hx => h x (List.mem_of_mem_take hx)
theorem nth_sl {L : List Nat} {i k j : Nat} (h : j < k) : nth (sl L i k) j = nth L (i + j) := by
  unfold sl nth
  rw [List.getD_eq_getElem?_getD, List.getD_eq_getElem?_getD, List.getElem?_take_of_lt h, List.getElem?_drop]
/-- A window of a slice. -/
theorem rb_sl {w : World} {B b o n c i k : Nat} {L : List Nat} (h : RB w B (.slice (some ⟨b, o, none⟩) n c) L) (hik : i + k ≤ n) : RB w B (.slice (some ⟨b, o + i, none⟩) k (c - i)) (sl L i k) := by
  have hl := h.1.len
  have hc := h.1.cap
  refine ⟨RW.mk (sl_len (by omega)).symm (by omega) (by omega) (fun h0 => ?_), nz_some⟩
  obtain ⟨b', o', e, hb, hcell⟩ := h.1.at_ (by omega)
  injection e with e
  injection e with e1 e2
  subst e1 e2
  refine ⟨b, o + i, rfl, hb, fun j hj => ?_⟩
  rw [nth_sl hj, Nat.add_assoc]
  exact hcell (i + j) (by omega)

/-- The length that stands in a head. -/
def upL (L : List Nat) : Nat := be (sl L 6 2)
def upE (L : List Nat) : Nat :=
  if L.length = 0 then 21 else if nth L 0 ≠ 165 then 22 else if L.length < 8 then 21 else if 1024 < upL L then 23 else if L.length < 8 + upL L + 4 then 21
  else if crc (L.take (8 + upL L)) ≠ be (sl L (8 + upL L) 4) then 24 else 0
def upSt (L : List Nat) : Nat := if upE L = 0 then nth L 1 else 0
def upSq (L : List Nat) : Nat := if upE L = 0 then be (sl L 2 4) else 0
def upX (L : List Nat) : List Nat := if upE L = 0 then sl L 8 (upL L) else []
def upN (L : List Nat) : Nat := if upE L = 0 then 8 + upL L + 4 else 0

def RetUp (w : World) (st sq : Nat) (X : List Nat) (size err : Nat) (e : Ending) (w' : World) : Prop :=
  ∃ v, e = .returned (.tuple #[.agg #[.int .i64 (st : Int), .int .i64 (sq : Int), v], .int .i64 (size : Int), .int .i64 (err : Int)]) ∧ RB w' w'.heap.size v X ∧ Below w.heap.size w w'
def RetUpL (w : World) (L : List Nat) : Ending → World → Prop := RetUp w (upSt L) (upSq L) (upX L) (upN L) (upE L)
/-- The same, and that the bytes lie in new memory. -/
def Fresh (w : World) (v : Value) : Prop := ∀ b o n c, v = .slice (some ⟨b, o, none⟩) n c → w.heap.size ≤ b
def RetUpS (w : World) (st sq : Nat) (X : List Nat) (size err : Nat) (e : Ending) (w' : World) : Prop :=
  ∃ v, e = .returned (.tuple #[.agg #[.int .i64 (st : Int), .int .i64 (sq : Int), v], .int .i64 (size : Int), .int .i64 (err : Int)]) ∧ RB w' w'.heap.size v X ∧ Below w.heap.size w w' ∧ Fresh w v
def RetUpSL (w : World) (L : List Nat) : Ending → World → Prop := RetUpS w (upSt L) (upSq L) (upX L) (upN L) (upE L)
theorem RetUpSL.weak {w : World} {L : List Nat} {e : Ending} {w' : World} (h : RetUpSL w L e w') : RetUpL w L e w' := by
  obtain ⟨v, h1, h2, h3, _⟩ := h
  exact ⟨v, h1, h2, h3⟩
theorem up_bad {L : List Nat} {e : Nat} (h : upE L = e) (h0 : e ≠ 0) : upSt L = 0 ∧ upSq L = 0 ∧ upX L = [] ∧ upN L = 0 ∧ upE L = e := by
  unfold upSt upSq upX upN
  rw [h]
  simp [h0]

theorem retUp_bad {w W : World} {L : List Nat} {e : Nat} (U : upSt L = 0 ∧ upSq L = 0 ∧ upX L = [] ∧ upN L = 0 ∧ upE L = e) (hb : Below w.heap.size w W) {x : Int} (hx : x = (e : Int)) :
    RetUpSL w L (.returned (.tuple #[.agg #[.int .i64 0, .int .i64 0, .slice none 0 0], .int .i64 0, .int .i64 x])) W := by
  obtain ⟨h1, h2, h3, h4, h5⟩ := U
  subst hx
  unfold RetUpSL
  rw [h1, h2, h3, h4, h5]
  exact ⟨_, rfl, rb_nil, hb, fun b o n c h => by injection h with h; cases h⟩
theorem upE_mark {L : List Nat} (h0 : ¬ L.length = 0) (h : nth L 0 ≠ 165) : upE L = 22 := by unfold upE; rw [if_neg h0, if_pos h]
theorem upE_short {L : List Nat} (h0 : ¬ L.length = 0) (h : ¬ nth L 0 ≠ 165) (h8 : L.length < 8) : upE L = 21 := by unfold upE; rw [if_neg h0, if_neg h, if_pos h8]
theorem upE_long {L : List Nat} (h0 : ¬ L.length = 0) (h : ¬ nth L 0 ≠ 165) (h8 : ¬ L.length < 8) (hl : 1024 < upL L) : upE L = 23 := by unfold upE; rw [if_neg h0, if_neg h, if_neg h8, if_pos hl]
theorem upE_cut {L : List Nat} (h0 : ¬ L.length = 0) (h : ¬ nth L 0 ≠ 165) (h8 : ¬ L.length < 8) (hl : ¬ 1024 < upL L) (hc : L.length < 8 + upL L + 4) : upE L = 21 := by unfold upE; rw [if_neg h0, if_neg h, if_neg h8, if_neg hl, if_pos hc]
theorem upE_sum {L : List Nat} (h0 : ¬ L.length = 0) (h : ¬ nth L 0 ≠ 165) (h8 : ¬ L.length < 8) (hl : ¬ 1024 < upL L) (hc : ¬ L.length < 8 + upL L + 4) (hs : crc (L.take (8 + upL L)) ≠ be (sl L (8 + upL L) 4)) : upE L = 24 := by unfold upE; rw [if_neg h0, if_neg h, if_neg h8, if_neg hl, if_neg hc, if_pos hs]
theorem upE_ok {L : List Nat} (h0 : ¬ L.length = 0) (h : ¬ nth L 0 ≠ 165) (h8 : ¬ L.length < 8) (hl : ¬ 1024 < upL L) (hc : ¬ L.length < 8 + upL L + 4) (hs : ¬ crc (L.take (8 + upL L)) ≠ be (sl L (8 + upL L) 4)) : upE L = 0 := by unfold upE; rw [if_neg h0, if_neg h, if_neg h8, if_neg hl, if_neg hc, if_neg hs]
theorem up_good {L : List Nat} (h : upE L = 0) : upSt L = nth L 1 ∧ upSq L = be (sl L 2 4) ∧ upX L = sl L 8 (upL L) ∧ upN L = 8 + upL L + 4 ∧ upE L = 0 := by
  unfold upSt upSq upX upN
  rw [h]
  simp
theorem below_drewZ {B : Nat} {w w' : World} (h : Below B w w') : Below B w w'.drew := ⟨h.os, h.tape, h.output, h.size, h.block⟩
theorem set3_cell (w : World) (g : Nat) (x y z : Value) (p : Addr) (h : p.block ≠ g) : (((w.setCell ⟨g, 0, none⟩ x).setCell ⟨g, 1, none⟩ y).setCell ⟨g, 2, none⟩ z).cell? p = w.cell? p := by
  rw [World.cell?_setCell_other _ _ _ _ (fun e => h (by rw [← e])), World.cell?_setCell_other _ _ _ _ (fun e => h (by rw [← e])), World.cell?_setCell_other _ _ _ _ (fun e => h (by rw [← e]))]
theorem owns_set3 {w : World} {base g n : Nat} {e : TypeId} {v : Value} {X : List Nat} (h : w.ownsRow base e 1 v n (bys X)) (hg : g < base) (x y z : Value) :
    (((w.setCell ⟨g, 0, none⟩ x).setCell ⟨g, 1, none⟩ y).setCell ⟨g, 2, none⟩ z).ownsRow base e 1 v n (bys X) := by
  obtain ⟨h1, h | ⟨g', cap, cur, h2, h3, h4, h5⟩⟩ := h
  · exact ⟨h1, .inl h⟩
  · refine ⟨h1, .inr ⟨g', cap, cur, h2, h3, ?_, h5⟩⟩
    have hne : ∀ k : Nat, g' ≠ (⟨g, k, none⟩ : Addr).block := fun k => by show g' ≠ g; omega
    rw [Below.heap_setCell _ _ _ _ (hne 2), Below.heap_setCell _ _ _ _ (hne 1), Below.heap_setCell _ _ _ _ (hne 0)]
    exact h4
theorem retUp_good {w W : World} {L : List Nat} {v m4 st q base : Nat} {u : Value} (G : upSt L = nth L 1 ∧ upSq L = be (sl L 2 4) ∧ upX L = sl L 8 (upL L) ∧ upN L = 8 + upL L + 4 ∧ upE L = 0) (hv : v = upL L) (hm : 8 + v + 4 = m4) (hst : st = nth L 1) (hq : q = be (sl L 2 4))
    (ho : W.ownsRow base 5 1 u (sl L 8 v).length (bys (sl L 8 v))) (hb : Below w.heap.size w W) (hbase : w.heap.size ≤ base) :
    RetUpSL w L (.returned (.tuple #[.agg #[.int .i64 (st : Int), .int .i64 (q : Int), u], .int .i64 (m4 : Int), .int .i64 0])) W := by
  obtain ⟨h1, h2, h3, h4, h5⟩ := G
  subst hv hm hst hq
  unfold RetUpSL
  rw [h1, h2, h3, h4, h5]
  refine ⟨_, rfl, (rb_of_owns ho).2, hb, fun b o n c h => ?_⟩
  subst h
  exact Nat.le_trans hbase (World.ownsRow.lt ho b rfl).1
set_option maxRecDepth 100000 in
set_option maxHeartbeats 1000000 in
theorem unpack_strong (L : List Nat) (hb : AllB L) (A : Option Addr) (n c B : Nat) (w : World) (hx : RB w B (.slice A n c) L) (hB : B ≤ w.heap.size) :
    Calls Try.prog 91 #[.slice A n c] w (RetUpSL w L) := by
  have HXL := Lib.hid hx.1.len
  have hcap := hx.1.cap
  unfold maxLen at hcap
  have HB := Lib.hid hb
  obtain ⟨W0, HW0, hw0, HG, z0⟩ := U0ex w
  have hx0 := hx.belowM (B' := w.heap.size) hw0 hB
  obtain ⟨k0, k1, k2, kf⟩ := fr_blk HG.out (Below.refl _ _)
  by_cases hn0 : n = 0
  · have U := Lib.hid (up_bad (L := L) (e := 21) (by unfold upE; rw [if_pos (by rw [← HXL.out]; exact hn0)]) (by omega))
    subst hn0
    go_enter Try.func91, Try.ntmps91
    go_wp2_with fail
    rw [← HW0.out]
    go_wp2
    refine bodyPost_ret (v := .tuple #[.agg #[.int .i64 0, .int .i64 0, .slice none 0 0], .int .i64 0, .int .i64 21]) (by simp [results, Try.results91, go_sem, k0, k1, k2]) rfl (retUp_bad U.out hw0 rfl)
  · have h0 := Lib.hid (show ¬ L.length = 0 by rw [← HXL.out]; exact hn0)
    obtain ⟨b, o, rfl, hbB, hcell⟩ := hx0.1.at_ (by omega)
    have hc0 : W0.cell? ⟨b, o, none⟩ = some (.int .u8 (nth L 0 : Nat)) := hcell 0 (by omega)
    have hc1 : 1 < n → W0.cell? ⟨b, o + 1, none⟩ = some (.int .u8 (nth L 1 : Nat)) := fun h => hcell 1 h
    clear hcell
    have hpos : (0 : Int) < (n : Int) := by omega
    have hc0w := hc0
    rw [HW0.out] at hc0w
    by_cases hm : nth L 0 ≠ 165
    · have U := Lib.hid (up_bad (upE_mark h0.out hm) (by omega))
      have hne : ((nth L 0 : Int) != 165) = true := by rw [bne_iff_ne]; omega
      go_enter Try.func91, Try.ntmps91
      go_wp2_with fail
      rw [← HW0.out]
      go_wp2
      refine bodyPost_ret (v := .tuple #[.agg #[.int .i64 0, .int .i64 0, .slice none 0 0], .int .i64 0, .int .i64 22]) (by simp [results, Try.results91, go_sem, k0, k1, k2]) rfl (retUp_bad U.out hw0 rfl)
    · have hx165 : nth L 0 = 165 := by omega
      rw [hx165] at hc0 hc0w
      have HM := Lib.hid hm
      clear hm hx165
      by_cases h8 : n < 8
      · have U := Lib.hid (up_bad (upE_short h0.out HM.out (by rw [← HXL.out]; exact h8)) (by omega))
        go_enter Try.func91, Try.ntmps91
        go_wp2_with fail
        rw [← HW0.out]
        go_wp2
        refine bodyPost_ret (v := .tuple #[.agg #[.int .i64 0, .int .i64 0, .slice none 0 0], .int .i64 0, .int .i64 21]) (by simp [results, Try.results91, go_sem, k0, k1, k2]) rfl (retUp_bad U.out hw0 rfl)
      · have H8 := Lib.hid (show ¬ L.length < 8 by rw [← HXL.out]; exact h8)
        have F1 := Lib.hid (fixed_any (sl L 6 2) (HB.out.sl 6 2) _ 2 _ B (by omega) W0 (rb_sl (i := 6) (k := 2) hx0 (by omega)).1)
        obtain ⟨v, hv⟩ : ∃ v, v = upL L := ⟨_, rfl⟩
        have F1' : Hid (Calls Try.prog 94 #[.slice (some ⟨b, o + 6, none⟩) 2 (c - 6)] W0 fun e w' => e = .returned (.int .i64 (v : Int)) ∧ W0 = w') := by rw [hv]; exact F1.out
        have HV := Lib.hid hv
        clear F1 hv
        by_cases hl : 1024 < v
        · have U := Lib.hid (up_bad (upE_long h0.out HM.out H8.out (by rw [← HV.out]; exact hl)) (by omega))
          go_enter Try.func91, Try.ntmps91
          go_wp2_with fail
          rw [← HW0.out]
          go_wp2_with fail
          refine F1'.out.mono ?_
          rintro e w1 ⟨rfl, rfl⟩
          go_wp2
          refine bodyPost_ret (v := .tuple #[.agg #[.int .i64 0, .int .i64 0, .slice none 0 0], .int .i64 0, .int .i64 23]) (by simp [results, Try.results91, go_sem, k0, k1, k2]) rfl (retUp_bad U.out (set3_below hw0 (Nat.le_refl _)) rfl)
        · have HL := Lib.hid (show ¬ 1024 < upL L by rw [← HV.out]; exact hl)
          by_cases hcut : n < 8 + v + 4
          · have U := Lib.hid (up_bad (upE_cut h0.out HM.out H8.out HL.out (by rw [← HV.out, ← HXL.out]; exact hcut)) (by omega))
            go_enter Try.func91, Try.ntmps91
            go_wp2_with fail
            rw [← HW0.out]
            go_wp2_with fail
            refine F1'.out.mono ?_
            rintro e w1 ⟨rfl, rfl⟩
            go_wp2
            refine bodyPost_ret (v := .tuple #[.agg #[.int .i64 0, .int .i64 0, .slice none 0 0], .int .i64 0, .int .i64 21]) (by simp [results, Try.results91, go_sem, k0, k1, k2]) rfl (retUp_bad U.out (set3_below hw0 (Nat.le_refl _)) rfl)
          · have HC := Lib.hid (show ¬ L.length < 8 + upL L + 4 by rw [← HV.out, ← HXL.out]; exact hcut)
            obtain ⟨s1, hs1⟩ : ∃ s, s = crc (L.take (8 + upL L)) := ⟨_, rfl⟩
            obtain ⟨s2, hs2⟩ : ∃ s, s = be (sl L (8 + upL L) 4) := ⟨_, rfl⟩
            have F2 : Hid (Calls Try.prog 90 #[.slice (some ⟨b, o, none⟩) (8 + v) c] W0.drew fun e w' => e = .returned (.int .u32 (s1 : Int)) ∧ W0.drew = w') := by
              rw [hs1, ← HV.out]
              exact checksum_any (L.take (8 + v)) (HB.out.take _) _ (8 + v) _ B W0.drew (rb_take hx0 (by omega) ⟨_, rfl⟩).1
            have F3 : Hid (Calls Try.prog 94 #[.slice (some ⟨b, o + (8 + v), none⟩) 4 (c - (8 + v))] W0.drew fun e w' => e = .returned (.int .i64 (s2 : Int)) ∧ W0.drew = w') := by
              rw [hs2, ← HV.out]
              exact fixed_any (sl L (8 + v) 4) (HB.out.sl _ _) _ 4 _ B (by omega) W0.drew (rb_sl (i := 8 + v) (k := 4) hx0 (by omega)).1
            have HS := Lib.hid (And.intro hs1 hs2)
            have hs1b : s1 < 4294967296 := by rw [hs1]; exact crc_lt _
            clear hs1 hs2
            have hWs : IntKind.i64.wrap (s1 : Int) = (s1 : Int) := by rw [IntKind.wrap_i64]; omega
            obtain ⟨m, hm8⟩ : ∃ m : Nat, 8 + v = m := ⟨_, rfl⟩
            obtain ⟨m4, hm4⟩ : ∃ m4 : Nat, m + 4 = m4 := ⟨_, rfl⟩
            rw [hm8] at F2 F3
            have e8 : (8 : Int) + (v : Int) = (m : Int) := by omega
            have e4 : (m : Int) + 4 = (m4 : Int) := by omega
            have hmn : m4 ≤ n := by omega
            have hWm : IntKind.i64.wrap (m : Int) = (m : Int) := by rw [IntKind.wrap_i64]; omega
            have hW4 : IntKind.i64.wrap (m4 : Int) = (m4 : Int) := by rw [IntKind.wrap_i64]; omega
            have hmax : max (m4 : Int) 0 = (m4 : Int) := by omega
            have hmaxm : max (m : Int) 0 = (m : Int) := by omega
            have hcm : ¬ c = m := by omega
            have hsub : m4 - m = 4 := by omega
            have i1 : (0 : Int) ≤ (m : Int) := by omega
            have i2 : (m : Int) ≤ (c : Int) := by omega
            have i3 : (0 : Int) ≤ (m4 : Int) := by omega
            have i4 : (m4 : Int) ≤ (c : Int) := by omega
            have i5 : (m : Int) ≤ (m4 : Int) := by omega
            have i6 : ¬ (n : Int) < (m4 : Int) := by omega
            have HMM := Lib.hid (And.intro hm8 hm4)
            clear hm8 hm4
            go_enter Try.func91, Try.ntmps91
            go_wp2_with fail
            rw [← HW0.out]
            go_wp2_with fail
            refine F1'.out.mono ?_
            rintro e w1 ⟨rfl, rfl⟩
            go_wp2_with fail
            refine wp_region_still_lit (by kernel_rfl) (by kernel_rfl) ?_
            repeat still_step
            still_call (stq F2.out)
            repeat still_step
            still_call (stq F3.out)
            repeat still_step
            refine wpStill_nil ?_
            change Exit.then _ _ _ _ W0.drew
            have hd : Below W0.heap.size W0 W0.drew := below_drewZ (Below.refl _ _)
            have hxd : RB W0.drew B (.slice (some ⟨b, o, none⟩) n c) L := ⟨hx0.1.drew, hx0.2⟩
            have hcd1 : W0.drew.cell? ⟨b, o + 1, none⟩ = some (.int .u8 (nth L 1 : Nat)) := hc1 (by omega)
            have hd0 := belW hw0 hd
            obtain ⟨W1, hW1⟩ : ∃ W1, W1 = W0.drew := ⟨_, rfl⟩
            rw [← hW1] at hd hxd hcd1 hd0
            rw [← hW1]
            have HW1 := Lib.hid (And.intro hd (And.intro hxd hd0))
            clear hW1 k0 k1 k2 kf hc0 hc0w hc1 hd hxd hd0 F2 F3
            obtain ⟨k0, k1, k2, kf⟩ := fr_blk HG.out HW1.out.1
            by_cases hsum : s1 = s2
            · subst hsum
              have G := Lib.hid (up_good (upE_ok h0.out HM.out H8.out HL.out HC.out (by rw [← HS.out.1, ← HS.out.2]; omega)))
              have heq : ((s1 : Int) != (s1 : Int)) = false := by simp
              obtain ⟨q, hq⟩ : ∃ q, q = be (sl L 2 4) := ⟨_, rfl⟩
              obtain ⟨st, hst⟩ : ∃ st, st = nth L 1 := ⟨_, rfl⟩
              rw [← hst] at hcd1
              have hst256 : st < 256 := by rw [hst]; exact HB.out.nth 1
              have hWst : IntKind.i64.wrap (st : Int) = (st : Int) := by rw [IntKind.wrap_i64]; omega
              have hbne : (⟨b, o + 1, none⟩ : Addr).block ≠ w.heap.size := by show b ≠ _; omega
              have HQ := Lib.hid (And.intro hq hst)
              clear hq hst
              have j1 : (1 : Int) < (n : Int) := by omega
              have j2 : (6 : Int) ≤ (c : Int) := by omega
              have j3 : (8 : Int) ≤ (m : Int) := by omega
              have j4 : ¬ c = 2 := by omega
              have j5 : ¬ c = 8 := by omega
              have j6 : m - 8 = v := by omega
              have hxd := HW1.out.2.1
              have hBW : B ≤ W1.heap.size := Nat.le_trans (Nat.le_trans hB hw0.size) HW1.out.1.size
              have hv64 : (sl L 8 v).length ≤ 1048576 := by rw [sl_len (by rw [← HXL.out]; omega)]; omega
              have R1 := rb_sl (i := 2) (k := 4) hxd (by omega)
              have R2 := rb_sl (i := 8) (k := v) hxd (by omega)
              have HRR := Lib.hid (And.intro R1 (And.intro R2 (And.intro hBW hv64)))
              clear R1 R2 hBW hv64 hxd
              go_wp2
              go_region_held3 (fun w' => w'.cell? ⟨b, o + 1, none⟩ = some (.int .u8 (st : Nat))) (first | exact hcd1 | exact hcd2 | exact (set3_cell _ _ _ _ _ _ hbne).trans hcd2 | go_keep)
                (first
                  | (go_at_call 94
                     refine (fixed_any (sl L 2 4) (HB.out.sl 2 4) _ 4 _ B (by omega) _ (by exact HRR.out.1.1)).mono ?_
                     rintro e w2 ⟨rfl, rfl⟩
                     rw [← HQ.out.1])
                  | (go_at_call 60
                     refine (clone_some (sl L 8 v) _ v _ B _ (by exact ⟨HRR.out.2.1.1, HRR.out.2.1.2⟩) (by exact HRR.out.2.2.1) (by exact HRR.out.2.2.2)).mono ?_
                     rintro e w2 ⟨v2, rfl, o2, hb2⟩
                     obtain ⟨_, r2⟩ := rb_of_owns o2
                     obtain ⟨A2, c2, rfl⟩ := r2.form
                     have O2 := Lib.hid o2
                     clear o2
                     have hbu : Below W1.heap.size W1 w2 := by first | exact hb2 | exact below_un hb2
                     have f2 : Below W0.heap.size W0 w2 := belW HW1.out.1 hbu
                     obtain ⟨k0, k1, k2, kf⟩ := fr_blk HG.out f2
                     have tk := hbu.size
                     have hcd2 : w2.cell? ⟨b, o + 1, none⟩ = some (.int .u8 (st : Nat)) := (hb2.cell (p := ⟨b, o + 1, none⟩) (by exact Nat.lt_of_lt_of_le hbB HRR.out.2.2.1)).trans hcd1))
              go_wp2
              refine bodyPost_ret (v := .tuple #[.agg #[.int .i64 (st : Nat), .int .i64 (q : Nat), .slice A2 (sl L 8 v).length c2], .int .i64 (m4 : Nat), .int .i64 0]) (by simp [results, Try.results91, go_sem, k0, k1, k2]) rfl
                (retUp_good G.out HV.out (by have := HMM.out; omega) HQ.out.2 HQ.out.1 (owns_set3 O2.out (Nat.lt_of_lt_of_le z0 HW1.out.1.size) _ _ _) (set3_below (belW HW1.out.2.2 hbu) (Nat.le_refl _)) (Nat.le_trans hw0.size HW1.out.1.size))
            · have U := Lib.hid (up_bad (upE_sum h0.out HM.out H8.out HL.out HC.out (by rw [← HS.out.1, ← HS.out.2]; exact hsum)) (by omega))
              have hne : ((s1 : Int) != (s2 : Int)) = true := by rw [bne_iff_ne]; omega
              go_wp2
              refine bodyPost_ret (v := .tuple #[.agg #[.int .i64 0, .int .i64 0, .slice none 0 0], .int .i64 0, .int .i64 24]) (by simp [results, Try.results91, go_sem, k0, k1, k2]) rfl (retUp_bad U.out (set3_below HW1.out.2.2 (Nat.le_refl _)) rfl)

theorem unpack_any (L : List Nat) (hb : AllB L) (A : Option Addr) (n c B : Nat) (w : World) (hx : RB w B (.slice A n c) L) (hB : B ≤ w.heap.size) :
    Calls Try.prog 91 #[.slice A n c] w (RetUpL w L) :=
  (unpack_strong L hb A n c B w hx hB).mono fun _ _ h => h.weak
end Go.Proofs.Ytkakbeiehggkiaa
