/-
  Valid of a pulse: the program's, the document's.
-/
import Derived.Test.YtndgpgciccgapaaYVal
namespace Go.Proofs.Ytndgpgciccgapaa
open Go.RowKit

def okP (t a b c d : Int) (zs : List Int) : Prop := (0 ≤ t ∧ t ≤ 1125899906842624) ∧ okSc a b c d ∧ okZ zs
instance (t a b c d : Int) (zs : List Int) : Decidable (okP t a b c d zs) := by unfold okP; infer_instance
theorem blk6 {W0 w1 : World} {g : Nat} {a b c d e f : Value} {T : TypeId} (h : W0.heap[g]? = some (.cells #[a, b, c, d, e, f] T (0, 0))) (hb : Below W0.heap.size W0 w1) :
    w1.cell? ⟨g, 0, none⟩ = some a ∧ w1.cell? ⟨g, 1, none⟩ = some b ∧ w1.cell? ⟨g, 2, none⟩ = some c ∧ w1.cell? ⟨g, 3, none⟩ = some d ∧ w1.cell? ⟨g, 4, none⟩ = some e ∧ w1.cell? ⟨g, 5, none⟩ = some f := by
  have h1 := (hb.block g (Array.getElem?_eq_some_iff.1 h).1).trans h
  exact ⟨cell_of_row _ _ _ _ _ _ h1, cell_of_row _ _ _ _ _ _ h1, cell_of_row _ _ _ _ _ _ h1, cell_of_row _ _ _ _ _ _ h1, cell_of_row _ _ _ _ _ _ h1, cell_of_row _ _ _ _ _ _ h1⟩
theorem P0ex (w : World) (t a b c d : Int) (v : Value) : ∃ W0, Hid (W0 = w.alloc (.cells #[.int .i64 t, .int .i64 a, .int .i64 b, .int .i64 c, .int .i64 d, v] 80)) ∧ Below w.heap.size w W0 ∧
    Hid (W0.heap[w.heap.size]? = some (.cells #[.int .i64 t, .int .i64 a, .int .i64 b, .int .i64 c, .int .i64 d, v] 80 (0, 0))) ∧ w.heap.size < W0.heap.size :=
  ⟨_, rfl, (Below.refl _ _).alloc (Nat.le_refl _) _, heap_alloc_new w _, by simp⟩

set_option maxRecDepth 100000 in
set_option maxHeartbeats 4000000 in
theorem valid_any (t a b c d : Int) (zs : List Int) (A : Option Addr) (n cp B : Nat) (w : World) (hx : IW w B (.slice A n cp) zs) (hB : B ≤ w.heap.size) :
    Calls Try.prog 41 #[.agg #[.int .i64 t, .int .i64 a, .int .i64 b, .int .i64 c, .int .i64 d, .slice A n cp]] w (RetB w (decide (okP t a b c d zs))) := by
  obtain ⟨r, hr⟩ : ∃ r, decide (okP t a b c d zs) = r := ⟨_, rfl⟩
  have HR := Lib.hid hr
  rw [hr]
  clear hr
  obtain ⟨W0, hW0, hb0, hG, z0⟩ := P0ex w t a b c d (.slice A n cp)
  obtain ⟨k0, k1, k2, k3, k4, k5⟩ := blk6 hG.out (Below.refl _ _)
  have HX := Lib.hid (And.intro hx hB)
  clear hx hB
  by_cases h1 : 0 ≤ t
  · by_cases h2 : t ≤ 1125899906842624
    · obtain ⟨s, hs⟩ : ∃ s, decide (okSc a b c d) = s := ⟨_, rfl⟩
      have HS := Lib.hid hs
      have HSC := Lib.hid (validScan_any a b c d W0)
      rw [hs] at HSC
      clear hs
      cases s with
      | false =>
        go_enter Try.func41, Try.ntmps41
        go_wp2_with fail
        rw [← hW0.out]
        refine HSC.out.mono ?_
        rintro e w1 ⟨rfl, b1⟩
        have hb1 := hb0.trans (b1.mono hb0.size)
        clear b1
        go_wp2
        go_ret
        have e1 : r = false := by rw [← HR.out]; exact decide_eq_false (fun h => (of_decide_eq_false HS.out) h.2.1)
        exact ⟨by rw [e1]; rfl, hb1⟩
      | true =>
        have HV := fun (w1 : World) (hb : Below W0.heap.size W0 w1) => validSamples_any zs A n cp B w1 (HX.out.1.belowM (hb0.trans (hb.mono hb0.size)) HX.out.2)
        obtain ⟨z, hz⟩ : ∃ z, decide (okZ zs) = z := ⟨_, rfl⟩
        rw [hz] at HV
        have HZ := Lib.hid hz
        have HV := Lib.hid HV
        clear hz
        go_enter Try.func41, Try.ntmps41
        go_wp2_with fail
        rw [← hW0.out]
        refine HSC.out.mono ?_
        rintro e w1 ⟨rfl, b1⟩
        obtain ⟨k0', k1', k2', k3', k4', k5'⟩ := blk6 hG.out b1
        have HB1 := Lib.hid (hb0.trans (b1.mono hb0.size))
        have HV1 := Lib.hid (HV.out w1 b1)
        clear b1 k0 k1 k2 k3 k4 k5
        go_wp2_with fail
        refine HV1.out.mono ?_
        rintro e w2 ⟨rfl, rfl⟩
        go_wp2
        go_ret
        have e1 : r = z := by
          rw [← HR.out, ← HZ.out]
          by_cases h : okZ zs
          · rw [decide_eq_true h, decide_eq_true ⟨⟨h1, h2⟩, of_decide_eq_true HS.out, h⟩]
          · rw [decide_eq_false h, decide_eq_false (fun h3 => h h3.2.2)]
        exact ⟨by rw [e1]; rfl, HB1.out⟩
    · have d2 : decide (t ≤ 1125899906842624) = false := by simpa using h2
      have E1 : Hid (r = false) := Lib.hid (by rw [← HR.out]; exact decide_eq_false (fun h => h2 h.1.2))
      go_enter Try.func41, Try.ntmps41
      go_wp2
      go_ret
      exact ⟨by rw [E1.out]; simp <;> omega, by rw [← hW0.out]; exact hb0⟩
  · have d1 : decide (0 ≤ t) = false := by simpa using h1
    have E1 : Hid (r = false) := Lib.hid (by rw [← HR.out]; exact decide_eq_false (fun h => h1 h.1.1))
    go_enter Try.func41, Try.ntmps41
    go_wp2
    go_ret
    exact ⟨by rw [E1.out]; simp <;> omega, by rw [← hW0.out]; exact hb0⟩

/-- The document's loop over the four. -/
def nz1 (a : Int) : Bool := a != 0
def nz2 (a b : Int) : Bool := a != 0 || b != 0
def nz3 (a b c : Int) : Bool := a != 0 || b != 0 || c != 0
def nz4 (a b c d : Int) : Bool := a != 0 || b != 0 || c != 0 || d != 0
theorem okSc_iff (a b c d : Int) : okSc a b c d ↔ (inQ a ∧ inQ b ∧ inQ c ∧ inQ d) ∧ nz4 a b c d = true := by
  unfold okSc nz4
  refine and_congr_right (fun _ => ?_)
  simp only [Bool.or_eq_true, bne_iff_ne, ne_eq]
  omega
def RvR (W0 : World) (a b c d : Int) (sv iv : Value) (wr : World) : Prop :=
  wr = W0 ∧ ((iv = .int .i64 0 ∧ sv = .bool false) ∨ (iv = .int .i64 1 ∧ inQ a ∧ sv = .bool (nz1 a)) ∨ (iv = .int .i64 2 ∧ (inQ a ∧ inQ b) ∧ sv = .bool (nz2 a b)) ∨
  (iv = .int .i64 3 ∧ (inQ a ∧ inQ b ∧ inQ c) ∧ sv = .bool (nz3 a b c)) ∨ (iv = .int .i64 4 ∧ (inQ a ∧ inQ b ∧ inQ c ∧ inQ d) ∧ sv = .bool (nz4 a b c d)))

set_option maxRecDepth 100000 in
set_option maxHeartbeats 4000000 in
theorem refValid_any (t a b c d : Int) (zs : List Int) (A : Option Addr) (n cp B : Nat) (w : World) (hx : IW w B (.slice A n cp) zs) (hB : B ≤ w.heap.size) :
    Calls Try.prog 42 #[.agg #[.int .i64 t, .int .i64 a, .int .i64 b, .int .i64 c, .int .i64 d, .slice A n cp]] w (RetB w (decide (okP t a b c d zs))) := by
  obtain ⟨r, hr⟩ : ∃ r, decide (okP t a b c d zs) = r := ⟨_, rfl⟩
  have HR := Lib.hid hr
  rw [hr]
  clear hr
  obtain ⟨W0, hW0, hb0, hG, z0⟩ := P0ex w t a b c d (.slice A n cp)
  obtain ⟨k0, k1, k2, k3, k4, k5⟩ := blk6 hG.out (Below.refl _ _)
  have HV := Lib.hid (refSamples_any zs A n cp B W0 (hx.belowM hb0 hB))
  clear hx hB
  obtain ⟨z, hz⟩ : ∃ z, decide (okZ zs) = z := ⟨_, rfl⟩
  rw [hz] at HV
  have HZ := Lib.hid hz
  clear hz
  go_enter Try.func42, Try.ntmps42
  go_wp2
  rw [← hW0.out]
  go_loopw [3, 4] (fun sv iv wr => RvR W0 a b c d sv iv wr) (fun _ iv _ => 4 - (intOf iv).toNat)
  case atStart => exact ⟨rfl, Or.inl ⟨rfl, rfl⟩⟩
  case round =>
    obtain ⟨rfl, hrel⟩ := hrel
    rcases hrel with ⟨rfl, rfl⟩ | ⟨rfl, hq, rfl⟩ | ⟨rfl, hq, rfl⟩ | ⟨rfl, hq, rfl⟩ | ⟨rfl, hq, rfl⟩
    · have bad : ¬ inQ a → r = false := fun hn => by rw [← HR.out]; exact decide_eq_false (fun h => hn h.2.1.1.1)
      by_cases h1 : a < -1000
      · have HE := Lib.hid (bad (fun h => by have := h.1; omega))
        clear bad
        go_wp2
        go_ret
        exact ⟨by rw [HE.out]; rfl, hb0⟩
      · by_cases h2 : 1000 < a
        · have HE := Lib.hid (bad (fun h => by have := h.2; omega))
          clear bad
          go_wp2
          go_ret
          exact ⟨by rw [HE.out]; rfl, hb0⟩
        · have HX := Lib.hid (show inQ a from ⟨by omega, by omega⟩)
          clear bad
          obtain ⟨q, hq2⟩ : ∃ q : Bool, (a != 0) = q := ⟨_, rfl⟩
          have HN2 := Lib.hid (show nz1 a = q from hq2)
          go_wp2
          go_roundw
          case rel =>
            have QQ : Value.bool q = Value.bool (nz1 a) := by rw [HN2.out]
            exact ⟨rfl, Or.inr (Or.inl ⟨rfl, HX.out, QQ⟩)⟩
          case measure => simp [intOf]
    · have HQ := Lib.hid hq
      clear hq
      obtain ⟨s, hs⟩ : ∃ s : Bool, nz1 a = s := ⟨_, rfl⟩
      rw [hs]
      have HS := Lib.hid hs
      clear hs
      have bad : ¬ inQ b → r = false := fun hn => by rw [← HR.out]; exact decide_eq_false (fun h => hn h.2.1.1.2.1)
      by_cases h1 : b < -1000
      · have HE := Lib.hid (bad (fun h => by have := h.1; omega))
        clear bad
        go_wp2
        go_ret
        exact ⟨by rw [HE.out]; rfl, hb0⟩
      · by_cases h2 : 1000 < b
        · have HE := Lib.hid (bad (fun h => by have := h.2; omega))
          clear bad
          go_wp2
          go_ret
          exact ⟨by rw [HE.out]; rfl, hb0⟩
        · have HX := Lib.hid (show inQ b from ⟨by omega, by omega⟩)
          clear bad
          obtain ⟨q, hq2⟩ : ∃ q : Bool, (b != 0) = q := ⟨_, rfl⟩
          have HN := Lib.hid (show nz2 a b = (s || q) from by rw [← HS.out, ← hq2]; simp [nz1, nz2, nz3, nz4])
          cases s with
          | true =>
            have HN2 := Lib.hid (show nz2 a b = true from by rw [HN.out]; rfl)
            clear hq2
            go_wp2
            go_roundw
            case rel =>
              have QQ : Value.bool true = Value.bool (nz2 a b) := by rw [HN2.out]
              exact ⟨rfl, Or.inr (Or.inr (Or.inl ⟨rfl, ⟨HQ.out, HX.out⟩, QQ⟩))⟩
            case measure => simp [intOf]
          | false =>
            have HN2 := Lib.hid (show nz2 a b = q from by rw [HN.out]; rfl)
            go_wp2
            go_roundw
            case rel =>
              have QQ : Value.bool q = Value.bool (nz2 a b) := by rw [HN2.out]
              exact ⟨rfl, Or.inr (Or.inr (Or.inl ⟨rfl, ⟨HQ.out, HX.out⟩, QQ⟩))⟩
            case measure => simp [intOf]
    · have HQ := Lib.hid hq
      clear hq
      obtain ⟨s, hs⟩ : ∃ s : Bool, nz2 a b = s := ⟨_, rfl⟩
      rw [hs]
      have HS := Lib.hid hs
      clear hs
      have bad : ¬ inQ c → r = false := fun hn => by rw [← HR.out]; exact decide_eq_false (fun h => hn h.2.1.1.2.2.1)
      by_cases h1 : c < -1000
      · have HE := Lib.hid (bad (fun h => by have := h.1; omega))
        clear bad
        go_wp2
        go_ret
        exact ⟨by rw [HE.out]; rfl, hb0⟩
      · by_cases h2 : 1000 < c
        · have HE := Lib.hid (bad (fun h => by have := h.2; omega))
          clear bad
          go_wp2
          go_ret
          exact ⟨by rw [HE.out]; rfl, hb0⟩
        · have HX := Lib.hid (show inQ c from ⟨by omega, by omega⟩)
          clear bad
          obtain ⟨q, hq2⟩ : ∃ q : Bool, (c != 0) = q := ⟨_, rfl⟩
          have HN := Lib.hid (show nz3 a b c = (s || q) from by rw [← HS.out, ← hq2]; simp [nz1, nz2, nz3, nz4])
          cases s with
          | true =>
            have HN2 := Lib.hid (show nz3 a b c = true from by rw [HN.out]; rfl)
            clear hq2
            go_wp2
            go_roundw
            case rel =>
              have QQ : Value.bool true = Value.bool (nz3 a b c) := by rw [HN2.out]
              exact ⟨rfl, Or.inr (Or.inr (Or.inr (Or.inl ⟨rfl, ⟨HQ.out.1, HQ.out.2, HX.out⟩, QQ⟩)))⟩
            case measure => simp [intOf]
          | false =>
            have HN2 := Lib.hid (show nz3 a b c = q from by rw [HN.out]; rfl)
            go_wp2
            go_roundw
            case rel =>
              have QQ : Value.bool q = Value.bool (nz3 a b c) := by rw [HN2.out]
              exact ⟨rfl, Or.inr (Or.inr (Or.inr (Or.inl ⟨rfl, ⟨HQ.out.1, HQ.out.2, HX.out⟩, QQ⟩)))⟩
            case measure => simp [intOf]
    · have HQ := Lib.hid hq
      clear hq
      obtain ⟨s, hs⟩ : ∃ s : Bool, nz3 a b c = s := ⟨_, rfl⟩
      rw [hs]
      have HS := Lib.hid hs
      clear hs
      have bad : ¬ inQ d → r = false := fun hn => by rw [← HR.out]; exact decide_eq_false (fun h => hn h.2.1.1.2.2.2)
      by_cases h1 : d < -1000
      · have HE := Lib.hid (bad (fun h => by have := h.1; omega))
        clear bad
        go_wp2
        go_ret
        exact ⟨by rw [HE.out]; rfl, hb0⟩
      · by_cases h2 : 1000 < d
        · have HE := Lib.hid (bad (fun h => by have := h.2; omega))
          clear bad
          go_wp2
          go_ret
          exact ⟨by rw [HE.out]; rfl, hb0⟩
        · have HX := Lib.hid (show inQ d from ⟨by omega, by omega⟩)
          clear bad
          obtain ⟨q, hq2⟩ : ∃ q : Bool, (d != 0) = q := ⟨_, rfl⟩
          have HN := Lib.hid (show nz4 a b c d = (s || q) from by rw [← HS.out, ← hq2]; simp [nz1, nz2, nz3, nz4])
          cases s with
          | true =>
            have HN2 := Lib.hid (show nz4 a b c d = true from by rw [HN.out]; rfl)
            clear hq2
            go_wp2
            go_roundw
            case rel =>
              have QQ : Value.bool true = Value.bool (nz4 a b c d) := by rw [HN2.out]
              exact ⟨rfl, Or.inr (Or.inr (Or.inr (Or.inr ⟨rfl, ⟨HQ.out.1, HQ.out.2.1, HQ.out.2.2, HX.out⟩, QQ⟩)))⟩
            case measure => simp [intOf]
          | false =>
            have HN2 := Lib.hid (show nz4 a b c d = q from by rw [HN.out]; rfl)
            go_wp2
            go_roundw
            case rel =>
              have QQ : Value.bool q = Value.bool (nz4 a b c d) := by rw [HN2.out]
              exact ⟨rfl, Or.inr (Or.inr (Or.inr (Or.inr ⟨rfl, ⟨HQ.out.1, HQ.out.2.1, HQ.out.2.2, HX.out⟩, QQ⟩)))⟩
            case measure => simp [intOf]
    · have HQ := Lib.hid hq
      clear hq
      obtain ⟨s, hs⟩ : ∃ s : Bool, nz4 a b c d = s := ⟨_, rfl⟩
      rw [hs]
      have HS := Lib.hid (show r = (s && (decide (0 ≤ t) && (decide (t ≤ 1125899906842624) && z))) from by
        rw [← HR.out, ← hs, ← HZ.out]
        rw [Bool.eq_iff_iff]
        simp only [Bool.and_eq_true, decide_eq_true_eq]
        unfold okP
        rw [okSc_iff]
        have := HQ.out
        constructor
        · rintro ⟨⟨x1, x2⟩, ⟨x3, x4⟩, x5⟩; exact ⟨x4, x1, x2, x5⟩
        · rintro ⟨x4, x1, x2, x5⟩; exact ⟨⟨x1, x2⟩, ⟨this, x4⟩, x5⟩)
      clear hs
      cases s with
      | false =>
        have HE := Lib.hid (show r = false from by rw [HS.out]; rfl)
        go_wp2
        go_ret
        exact ⟨by rw [HE.out]; rfl, hb0⟩
      | true =>
        by_cases h1 : 0 ≤ t
        · by_cases h2 : t ≤ 1125899906842624
          · have HE := Lib.hid (show r = z from by rw [HS.out, decide_eq_true h1, decide_eq_true h2]; rfl)
            go_wp2_with fail
            refine HV.out.mono ?_
            rintro e w2 ⟨rfl, rfl⟩
            go_wp2
            go_ret
            exact ⟨by rw [HE.out]; rfl, hb0⟩
          · have HE := Lib.hid (show r = false from by rw [HS.out, decide_eq_false h2]; simp)
            have d2 : decide (t ≤ 1125899906842624) = false := by simpa using h2
            go_wp2
            go_ret
            exact ⟨by rw [HE.out]; simp <;> omega, hb0⟩
        · have HE := Lib.hid (show r = false from by rw [HS.out, decide_eq_false h1]; simp)
          have d1 : decide (0 ≤ t) = false := by simpa using h1
          go_wp2
          go_ret
          exact ⟨by rw [HE.out]; simp <;> omega, hb0⟩
end Go.Proofs.Ytndgpgciccgapaa
