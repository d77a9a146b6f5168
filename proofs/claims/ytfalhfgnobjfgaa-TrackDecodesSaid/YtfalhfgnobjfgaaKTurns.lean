/-
  Whether a quaternion is a rotation within a limit, the document's; the document's Beam.
-/
import Derived.Test.YtfalhfgnobjfgaaKBeamc
namespace Go.Proofs.Ytfalhfgnobjfgaa
open Go.RowKit

theorem ix40 (a b c d : Value) : ∀ w, (Instr.index 23 (.agg #[a, b, c, d]) (.int .i64 0)).run Try.prog w = .ok a w := fun _ => by kernel_rfl
theorem ix41 (a b c d : Value) : ∀ w, (Instr.index 23 (.agg #[a, b, c, d]) (.int .i64 1)).run Try.prog w = .ok b w := fun _ => by kernel_rfl
theorem ix42 (a b c d : Value) : ∀ w, (Instr.index 23 (.agg #[a, b, c, d]) (.int .i64 2)).run Try.prog w = .ok c w := fun _ => by kernel_rfl
theorem ix43 (a b c d : Value) : ∀ w, (Instr.index 23 (.agg #[a, b, c, d]) (.int .i64 3)).run Try.prog w = .ok d w := fun _ => by kernel_rfl

def inM (m x : Int) : Prop := -m ≤ x ∧ x ≤ m
instance (m x : Int) : Decidable (inM m x) := by unfold inM; infer_instance
theorem okT_iff (a b c d m : Int) : okT a b c d m ↔ (inM m a ∧ inM m b ∧ inM m c ∧ inM m d) ∧ ¬ (a = 0 ∧ b = 0 ∧ c = 0 ∧ d = 0) := by
  unfold okT InB inM
  simp only [List.mem_cons, List.not_mem_nil, or_false, forall_eq_or_imp, forall_eq]
  exact And.comm

def TuR (w : World) (a b c d m : Int) (sv iv : Value) (wr : World) : Prop :=
  (iv = .int .i64 0 ∧ (∃ s : Bool, sv = .bool s ∧ (s = true ↔ (False))) ∧ Below w.heap.size w wr) ∨
  (iv = .int .i64 1 ∧ (∃ s : Bool, sv = .bool s ∧ (s = true ↔ (a ≠ 0))) ∧ Below w.heap.size w wr ∧ inM m a) ∨
  (iv = .int .i64 2 ∧ (∃ s : Bool, sv = .bool s ∧ (s = true ↔ (a ≠ 0 ∨ b ≠ 0))) ∧ Below w.heap.size w wr ∧ inM m a ∧ inM m b) ∨
  (iv = .int .i64 3 ∧ (∃ s : Bool, sv = .bool s ∧ (s = true ↔ (a ≠ 0 ∨ b ≠ 0 ∨ c ≠ 0))) ∧ Below w.heap.size w wr ∧ inM m a ∧ inM m b ∧ inM m c) ∨
  (iv = .int .i64 4 ∧ (∃ s : Bool, sv = .bool s ∧ (s = true ↔ (a ≠ 0 ∨ b ≠ 0 ∨ c ≠ 0 ∨ d ≠ 0))) ∧ Below w.heap.size w wr ∧ inM m a ∧ inM m b ∧ inM m c ∧ inM m d)

set_option maxRecDepth 100000 in
set_option maxHeartbeats 4000000 in
theorem turns_any (a b c d m : Int) (hm : 0 ≤ m ∧ m ≤ 4611686018427387904) (w : World) :
    Calls Try.prog 30 #[.agg #[.int .i64 a, .int .i64 b, .int .i64 c, .int .i64 d], .int .i64 m] w (RetB w (decide (okT a b c d m))) := by
  obtain ⟨h1, h2⟩ := hm
  have i0 := ix40 (.int .i64 a) (.int .i64 b) (.int .i64 c) (.int .i64 d)
  have i1 := ix41 (.int .i64 a) (.int .i64 b) (.int .i64 c) (.int .i64 d)
  have i2 := ix42 (.int .i64 a) (.int .i64 b) (.int .i64 c) (.int .i64 d)
  have i3 := ix43 (.int .i64 a) (.int .i64 b) (.int .i64 c) (.int .i64 d)
  obtain ⟨r, hr⟩ : ∃ r, decide (okT a b c d m) = r := ⟨_, rfl⟩
  have HR := Lib.hid hr
  rw [hr]
  clear hr
  go_enter Try.func30, Try.ntmps30
  go_wp2
  go_loopw [5, 9] (fun sv iv wr => TuR w a b c d m sv iv wr) (fun _ iv _ => 4 - (numOf iv).toNat)
  case atStart => exact Or.inl ⟨rfl, ⟨false, rfl, by simp⟩, (Below.refl _ _).alloc (Nat.le_refl _) _⟩
  case round =>
    unfold TuR at hrel
    rcases hrel with ⟨rfl, ⟨s, rfl, hs⟩, hb⟩ | ⟨rfl, ⟨s, rfl, hs⟩, hb, z0⟩ | ⟨rfl, ⟨s, rfl, hs⟩, hb, z0, z1⟩ | ⟨rfl, ⟨s, rfl, hs⟩, hb, z0, z1, z2⟩ | ⟨rfl, ⟨s, rfl, hs⟩, hb, z0, z1, z2, z3⟩
    · have HS := Lib.hid hs
      have HB := Lib.hid hb
      clear hs hb
      by_cases hx : inM m a
      · have HX := Lib.hid hx
        clear hx
        go_wp2_with fail
        refine (from_any (-m) a m _).mono ?_
        rintro e w2 ⟨rfl, hb2'⟩
        have hb2 := HB.out.trans (hb2'.mono HB.out.size)
        clear hb2'
        rw [show decide (-m ≤ a ∧ a ≤ m) = true from decide_eq_true HX.out]
        rcases Bool.eq_false_or_eq_true s with rfl | rfl
        · go_wp2
          go_roundw
          case rel =>
            have YY : true = true ↔ a ≠ 0 := by
              have := HS.out
              simp at this
              skip
            exact Or.inr (Or.inl ⟨rfl, ⟨_, rfl, YY⟩, hb2, HX.out⟩)
          case measure => simp [numOf]
        · by_cases h0 : a = 0
          · have h0n : (a != 0) = false := by simp [h0]
            have H0 := Lib.hid h0
            clear h0
            go_wp2
            go_roundw
            case rel =>
              have YY : false = true ↔ a ≠ 0 := by
                have h0 := H0.out
                have := HS.out
                simp [h0]
              exact Or.inr (Or.inl ⟨rfl, ⟨_, rfl, YY⟩, hb2, HX.out⟩)
            case measure => simp [numOf]
          · have h0n : (a != 0) = true := by simp [h0]
            have H0 := Lib.hid h0
            clear h0
            go_wp2
            go_roundw
            case rel =>
              have YY : true = true ↔ a ≠ 0 := by
                have h0 := H0.out
                simp only [true_iff]
                exact h0
              exact Or.inr (Or.inl ⟨rfl, ⟨_, rfl, YY⟩, hb2, HX.out⟩)
            case measure => simp [numOf]
      · have HX := Lib.hid hx
        clear hx
        go_wp2_with fail
        refine (from_any (-m) a m _).mono ?_
        rintro e w2 ⟨rfl, hb2'⟩
        have hb2 := HB.out.trans (hb2'.mono HB.out.size)
        clear hb2'
        rw [show decide (-m ≤ a ∧ a ≤ m) = false from decide_eq_false HX.out]
        go_wp2
        go_ret
        refine ⟨?_, hb2⟩
        rw [← HR.out, decide_eq_false (fun h => HX.out (((okT_iff a b c d m).1 h).1.1))]
        rfl
    · have HS := Lib.hid hs
      have HB := Lib.hid hb
      clear hs hb
      have Z0 := Lib.hid z0
      clear z0
      by_cases hx : inM m b
      · have HX := Lib.hid hx
        clear hx
        go_wp2_with fail
        refine (from_any (-m) b m _).mono ?_
        rintro e w2 ⟨rfl, hb2'⟩
        have hb2 := HB.out.trans (hb2'.mono HB.out.size)
        clear hb2'
        rw [show decide (-m ≤ b ∧ b ≤ m) = true from decide_eq_true HX.out]
        rcases Bool.eq_false_or_eq_true s with rfl | rfl
        · go_wp2
          go_roundw
          case rel =>
            have YY : true = true ↔ a ≠ 0 ∨ b ≠ 0 := by
              have := HS.out
              simp only [true_iff] at this ⊢
              exact Or.inl this
            exact Or.inr (Or.inr (Or.inl ⟨rfl, ⟨_, rfl, YY⟩, hb2, Z0.out, HX.out⟩))
          case measure => simp [numOf]
        · by_cases h0 : b = 0
          · have h0n : (b != 0) = false := by simp [h0]
            have H0 := Lib.hid h0
            clear h0
            go_wp2
            go_roundw
            case rel =>
              have YY : false = true ↔ a ≠ 0 ∨ b ≠ 0 := by
                have h0 := H0.out
                have := HS.out
                simp only [Bool.false_eq_true, false_iff] at this ⊢; omega
              exact Or.inr (Or.inr (Or.inl ⟨rfl, ⟨_, rfl, YY⟩, hb2, Z0.out, HX.out⟩))
            case measure => simp [numOf]
          · have h0n : (b != 0) = true := by simp [h0]
            have H0 := Lib.hid h0
            clear h0
            go_wp2
            go_roundw
            case rel =>
              have YY : true = true ↔ a ≠ 0 ∨ b ≠ 0 := by
                have h0 := H0.out
                simp only [true_iff]
                omega
              exact Or.inr (Or.inr (Or.inl ⟨rfl, ⟨_, rfl, YY⟩, hb2, Z0.out, HX.out⟩))
            case measure => simp [numOf]
      · have HX := Lib.hid hx
        clear hx
        go_wp2_with fail
        refine (from_any (-m) b m _).mono ?_
        rintro e w2 ⟨rfl, hb2'⟩
        have hb2 := HB.out.trans (hb2'.mono HB.out.size)
        clear hb2'
        rw [show decide (-m ≤ b ∧ b ≤ m) = false from decide_eq_false HX.out]
        go_wp2
        go_ret
        refine ⟨?_, hb2⟩
        rw [← HR.out, decide_eq_false (fun h => HX.out (((okT_iff a b c d m).1 h).1.2.1))]
        rfl
    · have HS := Lib.hid hs
      have HB := Lib.hid hb
      clear hs hb
      have Z0 := Lib.hid z0
      clear z0
      have Z1 := Lib.hid z1
      clear z1
      by_cases hx : inM m c
      · have HX := Lib.hid hx
        clear hx
        go_wp2_with fail
        refine (from_any (-m) c m _).mono ?_
        rintro e w2 ⟨rfl, hb2'⟩
        have hb2 := HB.out.trans (hb2'.mono HB.out.size)
        clear hb2'
        rw [show decide (-m ≤ c ∧ c ≤ m) = true from decide_eq_true HX.out]
        rcases Bool.eq_false_or_eq_true s with rfl | rfl
        · go_wp2
          go_roundw
          case rel =>
            have YY : true = true ↔ a ≠ 0 ∨ b ≠ 0 ∨ c ≠ 0 := by
              have := HS.out
              simp only [true_iff] at this ⊢
              omega
            exact Or.inr (Or.inr (Or.inr (Or.inl ⟨rfl, ⟨_, rfl, YY⟩, hb2, Z0.out, Z1.out, HX.out⟩)))
          case measure => simp [numOf]
        · by_cases h0 : c = 0
          · have h0n : (c != 0) = false := by simp [h0]
            have H0 := Lib.hid h0
            clear h0
            go_wp2
            go_roundw
            case rel =>
              have YY : false = true ↔ a ≠ 0 ∨ b ≠ 0 ∨ c ≠ 0 := by
                have h0 := H0.out
                have := HS.out
                simp only [Bool.false_eq_true, false_iff] at this ⊢; omega
              exact Or.inr (Or.inr (Or.inr (Or.inl ⟨rfl, ⟨_, rfl, YY⟩, hb2, Z0.out, Z1.out, HX.out⟩)))
            case measure => simp [numOf]
          · have h0n : (c != 0) = true := by simp [h0]
            have H0 := Lib.hid h0
            clear h0
            go_wp2
            go_roundw
            case rel =>
              have YY : true = true ↔ a ≠ 0 ∨ b ≠ 0 ∨ c ≠ 0 := by
                have h0 := H0.out
                simp only [true_iff]
                omega
              exact Or.inr (Or.inr (Or.inr (Or.inl ⟨rfl, ⟨_, rfl, YY⟩, hb2, Z0.out, Z1.out, HX.out⟩)))
            case measure => simp [numOf]
      · have HX := Lib.hid hx
        clear hx
        go_wp2_with fail
        refine (from_any (-m) c m _).mono ?_
        rintro e w2 ⟨rfl, hb2'⟩
        have hb2 := HB.out.trans (hb2'.mono HB.out.size)
        clear hb2'
        rw [show decide (-m ≤ c ∧ c ≤ m) = false from decide_eq_false HX.out]
        go_wp2
        go_ret
        refine ⟨?_, hb2⟩
        rw [← HR.out, decide_eq_false (fun h => HX.out (((okT_iff a b c d m).1 h).1.2.2.1))]
        rfl
    · have HS := Lib.hid hs
      have HB := Lib.hid hb
      clear hs hb
      have Z0 := Lib.hid z0
      clear z0
      have Z1 := Lib.hid z1
      clear z1
      have Z2 := Lib.hid z2
      clear z2
      by_cases hx : inM m d
      · have HX := Lib.hid hx
        clear hx
        go_wp2_with fail
        refine (from_any (-m) d m _).mono ?_
        rintro e w2 ⟨rfl, hb2'⟩
        have hb2 := HB.out.trans (hb2'.mono HB.out.size)
        clear hb2'
        rw [show decide (-m ≤ d ∧ d ≤ m) = true from decide_eq_true HX.out]
        rcases Bool.eq_false_or_eq_true s with rfl | rfl
        · go_wp2
          go_roundw
          case rel =>
            have YY : true = true ↔ a ≠ 0 ∨ b ≠ 0 ∨ c ≠ 0 ∨ d ≠ 0 := by
              have := HS.out
              simp only [true_iff] at this ⊢
              omega
            exact Or.inr (Or.inr (Or.inr (Or.inr (⟨rfl, ⟨_, rfl, YY⟩, hb2, Z0.out, Z1.out, Z2.out, HX.out⟩))))
          case measure => simp [numOf]
        · by_cases h0 : d = 0
          · have h0n : (d != 0) = false := by simp [h0]
            have H0 := Lib.hid h0
            clear h0
            go_wp2
            go_roundw
            case rel =>
              have YY : false = true ↔ a ≠ 0 ∨ b ≠ 0 ∨ c ≠ 0 ∨ d ≠ 0 := by
                have h0 := H0.out
                have := HS.out
                simp only [Bool.false_eq_true, false_iff] at this ⊢; omega
              exact Or.inr (Or.inr (Or.inr (Or.inr (⟨rfl, ⟨_, rfl, YY⟩, hb2, Z0.out, Z1.out, Z2.out, HX.out⟩))))
            case measure => simp [numOf]
          · have h0n : (d != 0) = true := by simp [h0]
            have H0 := Lib.hid h0
            clear h0
            go_wp2
            go_roundw
            case rel =>
              have YY : true = true ↔ a ≠ 0 ∨ b ≠ 0 ∨ c ≠ 0 ∨ d ≠ 0 := by
                have h0 := H0.out
                simp only [true_iff]
                omega
              exact Or.inr (Or.inr (Or.inr (Or.inr (⟨rfl, ⟨_, rfl, YY⟩, hb2, Z0.out, Z1.out, Z2.out, HX.out⟩))))
            case measure => simp [numOf]
      · have HX := Lib.hid hx
        clear hx
        go_wp2_with fail
        refine (from_any (-m) d m _).mono ?_
        rintro e w2 ⟨rfl, hb2'⟩
        have hb2 := HB.out.trans (hb2'.mono HB.out.size)
        clear hb2'
        rw [show decide (-m ≤ d ∧ d ≤ m) = false from decide_eq_false HX.out]
        go_wp2
        go_ret
        refine ⟨?_, hb2⟩
        rw [← HR.out, decide_eq_false (fun h => HX.out (((okT_iff a b c d m).1 h).1.2.2.2))]
        rfl
    · have HS := Lib.hid hs
      have HB := Lib.hid hb
      have HZ := Lib.hid (And.intro z0 (And.intro z1 (And.intro z2 z3)))
      clear hs hb z0 z1 z2 z3
      go_wp2
      go_ret
      refine ⟨?_, HB.out⟩
      have : s = r := by
        rw [← HR.out, Bool.eq_iff_iff, HS.out, decide_eq_true_iff, okT_iff]
        have := HZ.out
        constructor
        · intro h; exact ⟨this, by omega⟩
        · intro h; have := h.2; omega
      rw [this]
      rfl

end Go.Proofs.Ytfalhfgnobjfgaa
