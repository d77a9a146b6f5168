/-
  The document's numbers and signed: the encodings of a list of numbers.
-/
import Derived.Test.YtfalhfgnobjfgaaTEnp
namespace Go.Proofs.Ytfalhfgnobjfgaa
open Go.RowKit Go.Maps

def RetRb (w : World) (L : List Nat) (e : Ending) (w' : World) : Prop := ∃ v, e = .returned v ∧ RB w' w'.heap.size v L ∧ Below w.heap.size w w'
def NmR (w : World) (k : Nat) (sg : Bool) (zs : Nat → Int) (L : List Nat) (bv iv : Value) (wr : World) : Prop :=
  ∃ j : Nat, iv = .int .i64 (j : Int) ∧ j ≤ k ∧ Hid (RB wr wr.heap.size bv (L ++ encs sg zs j)) ∧ Below w.heap.size w wr
/-- Block fb holds numbers. -/
def IntB (w : World) (fb k : Nat) (zs : Nat → Int) : Prop := ∃ cs T, w.heap[fb]? = some (.cells cs T (0, 0)) ∧ ∀ j, j < k → cs[j]? = some (.int .i64 (zs j))
theorem IntB.below {w w' : World} {fb k : Nat} {zs : Nat → Int} (h : IntB w fb k zs) (hb : Below w.heap.size w w') : IntB w' fb k zs := by
  obtain ⟨cs, T, h1, h2⟩ := h
  exact ⟨cs, T, (hb.block fb (Array.getElem?_eq_some_iff.1 h1).1).trans h1, h2⟩

set_option maxRecDepth 100000 in
set_option maxHeartbeats 1000000 in
theorem lnumbers_any (A : Option Addr) (n c fb k : Nat) (zs : Nat → Int) (L : List Nat) (w : World) (hb : RB w w.heap.size (.slice A n c) L) (hf : IntB w fb k zs) (hok : ∀ j, j < k → nmOk false (zs j)) (hl : L.length ≤ 1000) (hk : k ≤ 100) :
    Calls Try.prog 17 #[.slice A n c, .slice (some ⟨fb, 0, none⟩) k k] w (RetRb w (L ++ encs false zs k)) := by
  have HB := Lib.hid hb
  obtain ⟨cs, T, hf1, hf2⟩ := hf
  have hfl := (Array.getElem?_eq_some_iff.1 hf1).1
  have HF := Lib.hid (And.intro (fun j (hj : j < k) => (cell_of_row _ _ _ _ _ _ hf1).trans (hf2 j hj)) hok)
  have hkm : (k : Int) ≤ 100 := by omega
  clear hb hok hf1 hf2
  go_enter Try.func17, Try.ntmps17
  go_wp2
  go_loopw [0, 9] (fun bv iv wr => NmR w k false zs L bv iv wr) (fun _ iv _ => k - (intOf1 iv).toNat)
  case atStart => exact ⟨0, rfl, Nat.zero_le _, Lib.hid (by simpa [encs] using HB.out), Below.refl _ _⟩
  case round =>
    obtain ⟨j, rfl, hj, HV, hbw⟩ := hrel
    by_cases hjk : j < k
    · obtain ⟨A2, c2, e0⟩ := HV.out.form
      subst e0
      have f0 := (hbw.cell (p := ⟨fb, j, none⟩) hfl).trans (HF.out.1 j hjk)
      have hq := HF.out.2 j hjk
      have i1 : (0 : Int) ≤ (j : Int) := by omega
      have i2 : (j : Int) < (k : Int) := by omega
      have hlen : (L ++ encs false zs j).length ≤ 1048576 := by
        have := encs_len (sg := false) (zs := zs) j (fun i hi => HF.out.2 i (by omega))
        rw [List.length_append]
        omega
      obtain ⟨N, hN⟩ : ∃ N, N = (L ++ encs false zs j).length := ⟨_, rfl⟩
      have HW := Lib.hid (rwrite_one false (L ++ encs false zs j) (zs j) A2 _ c2 wr.heap.size hlen hq wr HV.out (Nat.le_refl _))
      rw [← hN] at HW hlen ⊢
      have HBW := Lib.hid hbw
      clear hN hbw
      go_wp2_with fail
      refine HW.out.mono ?_
      rintro e w2 ⟨v2, rfl, o2, b2⟩
      have HB2 := Lib.hid (And.intro (rb_of_owns o2).2 (HBW.out.trans (b2.mono HBW.out.size)))
      obtain ⟨A3, c3, e3⟩ := (rb_of_owns o2).2.form
      clear o2 b2
      subst e3
      go_wp2
      go_roundw
      case rel => exact ⟨j + 1, by go_num, by omega, (by show Hid (RB w2 w2.heap.size _ (L ++ (encs false zs j ++ nmE false (zs j)))); rw [← List.append_assoc]; refine Lib.hid ?_; have := HB2.out.1; simpa using this), HB2.out.2⟩
      case measure => simp [intOf1]; omega
    · obtain rfl : j = k := by omega
      obtain ⟨A2, c2, e0⟩ := HV.out.form
      subst e0
      go_wp2
      go_ret
      exact ⟨_, rfl, HV.out, hbw⟩

set_option maxRecDepth 100000 in
set_option maxHeartbeats 1000000 in
theorem lsigned_any (A : Option Addr) (n c fb k : Nat) (zs : Nat → Int) (L : List Nat) (w : World) (hb : RB w w.heap.size (.slice A n c) L) (hf : IntB w fb k zs) (hok : ∀ j, j < k → nmOk true (zs j)) (hl : L.length ≤ 1000) (hk : k ≤ 100) :
    Calls Try.prog 19 #[.slice A n c, .slice (some ⟨fb, 0, none⟩) k k] w (RetRb w (L ++ encs true zs k)) := by
  have HB := Lib.hid hb
  obtain ⟨cs, T, hf1, hf2⟩ := hf
  have hfl := (Array.getElem?_eq_some_iff.1 hf1).1
  have HF := Lib.hid (And.intro (fun j (hj : j < k) => (cell_of_row _ _ _ _ _ _ hf1).trans (hf2 j hj)) hok)
  have hkm : (k : Int) ≤ 100 := by omega
  clear hb hok hf1 hf2
  go_enter Try.func19, Try.ntmps19
  go_wp2
  go_loopw [0, 9] (fun bv iv wr => NmR w k true zs L bv iv wr) (fun _ iv _ => k - (intOf1 iv).toNat)
  case atStart => exact ⟨0, rfl, Nat.zero_le _, Lib.hid (by simpa [encs] using HB.out), Below.refl _ _⟩
  case round =>
    obtain ⟨j, rfl, hj, HV, hbw⟩ := hrel
    by_cases hjk : j < k
    · obtain ⟨A2, c2, e0⟩ := HV.out.form
      subst e0
      have f0 := (hbw.cell (p := ⟨fb, j, none⟩) hfl).trans (HF.out.1 j hjk)
      have hq := HF.out.2 j hjk
      have i1 : (0 : Int) ≤ (j : Int) := by omega
      have i2 : (j : Int) < (k : Int) := by omega
      have hlen : (L ++ encs true zs j).length ≤ 1048576 := by
        have := encs_len (sg := true) (zs := zs) j (fun i hi => HF.out.2 i (by omega))
        rw [List.length_append]
        omega
      obtain ⟨N, hN⟩ : ∃ N, N = (L ++ encs true zs j).length := ⟨_, rfl⟩
      have HW := Lib.hid (rwrite_one true (L ++ encs true zs j) (zs j) A2 _ c2 wr.heap.size hlen hq wr HV.out (Nat.le_refl _))
      rw [← hN] at HW hlen ⊢
      have HBW := Lib.hid hbw
      clear hN hbw
      go_wp2_with fail
      refine HW.out.mono ?_
      rintro e w2 ⟨v2, rfl, o2, b2⟩
      have HB2 := Lib.hid (And.intro (rb_of_owns o2).2 (HBW.out.trans (b2.mono HBW.out.size)))
      obtain ⟨A3, c3, e3⟩ := (rb_of_owns o2).2.form
      clear o2 b2
      subst e3
      go_wp2
      go_roundw
      case rel => exact ⟨j + 1, by go_num, by omega, (by show Hid (RB w2 w2.heap.size _ (L ++ (encs true zs j ++ nmE true (zs j)))); rw [← List.append_assoc]; refine Lib.hid ?_; have := HB2.out.1; simpa using this), HB2.out.2⟩
      case measure => simp [intOf1]; omega
    · obtain rfl : j = k := by omega
      obtain ⟨A2, c2, e0⟩ := HV.out.form
      subst e0
      go_wp2
      go_ret
      exact ⟨_, rfl, HV.out, hbw⟩

end Go.Proofs.Ytfalhfgnobjfgaa
