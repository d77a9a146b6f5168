/-
  A list of slices of bytes that came in; long.
-/
import Derived.Test.YtlginmnmobkbhaaZOnce
namespace Go.Proofs.Ytlginmnmobkbhaa
open Go.RowKit
attribute [local go_sem ↓] Go.wp_at_zero Go.wp_at_succ

/-- The elements of a list of slices of bytes at A. -/
def ByF (w : World) (A : Option Addr) (n : Nat) (X : Nat → List Nat) (V : Nat → Value) : Prop :=
  ∀ i, i < n → ∃ b o A' c', A = some ⟨b, o, none⟩ ∧ b < w.heap.size ∧ w.cell? ⟨b, o + i, none⟩ = some (V i) ∧ V i = .slice A' (X i).length c' ∧ AllB (X i) ∧ RB w w.heap.size (V i) (X i)
theorem byF_of {w : World} {A : Option Addr} {n : Nat} (h : ∀ i, i < n → ByIn w A i) : ∃ X V, ByF w A n X V := by
  have h1 : ∀ i, ∃ p : List Nat × Value, i < n → ∃ b o A' c', A = some ⟨b, o, none⟩ ∧ b < w.heap.size ∧ w.cell? ⟨b, o + i, none⟩ = some p.2 ∧ p.2 = .slice A' p.1.length c' ∧ AllB p.1 ∧ RB w w.heap.size p.2 p.1 := by
    intro i
    by_cases hi : i < n
    · obtain ⟨b, o, A', n', c', X, e, hb, hc, hX, hr⟩ := h i hi
      have hl := hr.1.len
      subst hl
      exact ⟨(X, .slice A' X.length c'), fun _ => ⟨b, o, A', c', e, hb, hc, rfl, hX, hr⟩⟩
    · exact ⟨([], undef), fun h => absurd h hi⟩
  obtain ⟨f, hf⟩ := Classical.skolem.1 h1
  exact ⟨fun i => (f i).1, fun i => (f i).2, fun i hi => hf i hi⟩
theorem ByF.below {w w' : World} {A : Option Addr} {n : Nat} {X : Nat → List Nat} {V : Nat → Value} (h : ByF w A n X V) (hb : Below w.heap.size w w') : ByF w' A n X V := by
  intro i hi
  obtain ⟨b, o, A', c', e, hlt, hc, hv, hX, hr⟩ := h i hi
  exact ⟨b, o, A', c', e, Nat.lt_of_lt_of_le hlt hb.size, (hb.cell (p := ⟨b, o + i, none⟩) hlt).trans hc, hv, hX, (hr.belowM hb (Nat.le_refl _)).more hb.size⟩

set_option maxRecDepth 100000 in
set_option maxHeartbeats 400000 in
theorem long_no (A : Option Addr) (n c count size : Nat) (X : Nat → List Nat) (V : Nat → Value) (w : World) (hF : ByF w A n X V) (h1 : n ≤ count) (h2 : ∀ i, i < n → (X i).length ≤ size) (hc : count ≤ 1048576) :
    Calls Try.prog 43 #[.slice A n c, .int .i64 (count : Int), .int .i64 (size : Int)] w fun e w' => e = .returned (.bool false) ∧ w = w' := by
  have HF := Lib.hid hF
  have H2 := Lib.hid h2
  have i0 : ¬ (count : Int) < (n : Int) := by omega
  clear hF h2
  go_enter Try.func43, Try.ntmps43
  go_wp2
  go_loop [14] (fun iv => ∃ k : Nat, k ≤ n ∧ iv = .int .i64 (k : Int)) (fun iv => n - (intOf1 iv).toNat)
  case atStart => exact ⟨0, Nat.zero_le _, rfl⟩
  case round =>
    obtain ⟨k, hk, rfl⟩ := hrel
    by_cases hkn : k < n
    · obtain ⟨b, o, A', c', rfl, hb, hcell, hv, _, _⟩ := HF.out k hkn
      have h3 := H2.out k hkn
      obtain ⟨L, hL⟩ : ∃ L, L = (X k).length := ⟨_, rfl⟩
      rw [hv, ← hL] at hcell
      rw [← hL] at h3
      have i1 : (0 : Int) ≤ (k : Int) := by omega
      have i2 : (k : Int) < (n : Int) := by omega
      have i3 : ¬ (size : Int) < (L : Int) := by omega
      clear hv hL
      go_wp2
      go_round
      case rel => exact ⟨k + 1, by omega, by go_num⟩
      case measure => simp [intOf1]; omega
    · obtain rfl : k = n := by omega
      go_wp2
      go_ret
      exact ⟨rfl, rfl⟩

set_option maxRecDepth 100000 in
set_option maxHeartbeats 400000 in
theorem long_yes (A : Option Addr) (n c count size : Nat) (X : Nat → List Nat) (V : Nat → Value) (w : World) (hF : ByF w A n X V) (h : count < n ∨ ∃ i, i < n ∧ size < (X i).length) (hn : n ≤ 9223372036854775807) :
    Calls Try.prog 43 #[.slice A n c, .int .i64 (count : Int), .int .i64 (size : Int)] w fun e w' => e = .returned (.bool true) ∧ w = w' := by
  have HF := Lib.hid hF
  clear hF
  by_cases h1 : count < n
  · have i0 : (count : Int) < (n : Int) := by omega
    clear h
    go_enter Try.func43, Try.ntmps43
    go_wp2
    go_ret
    exact ⟨rfl, rfl⟩
  · have H := Lib.hid (show ∃ i, i < n ∧ size < (X i).length from h.resolve_left h1)
    have i0 : ¬ (count : Int) < (n : Int) := by omega
    clear h h1
    go_enter Try.func43, Try.ntmps43
    go_wp2
    go_loop [14] (fun iv => ∃ k : Nat, k ≤ n ∧ iv = .int .i64 (k : Int) ∧ ∃ i, k ≤ i ∧ i < n ∧ size < (X i).length) (fun iv => n - (intOf1 iv).toNat)
    case atStart =>
      obtain ⟨i, h1, h2⟩ := H.out
      exact ⟨0, Nat.zero_le _, rfl, i, Nat.zero_le _, h1, h2⟩
    case round =>
      obtain ⟨k, hk, rfl, i, hki, hin, hsz⟩ := hrel
      have hkn : k < n := by omega
      obtain ⟨b, o, A', c', rfl, hb, hcell, hv, _, hr⟩ := HF.out k hkn
      obtain ⟨L, hL⟩ : ∃ L, L = (X k).length := ⟨_, rfl⟩
      rw [hv, ← hL] at hcell
      have hcap := hr.1
      rw [hv] at hcap
      have hcap := hcap.cap
      unfold maxLen at hcap
      have i1 : (0 : Int) ≤ (k : Int) := by omega
      have i2 : (k : Int) < (n : Int) := by omega
      have HL := Lib.hid (And.intro hL (And.intro hki hsz))
      clear hv hL hr hcap hsz hki
      by_cases h3 : size < L
      · have i3 : (size : Int) < (L : Int) := by omega
        go_wp2
        go_ret
        exact ⟨rfl, rfl⟩
      · have i3 : ¬ (size : Int) < (L : Int) := by omega
        go_wp2
        go_round
        case rel =>
          refine ⟨k + 1, by omega, by go_num, i, ?_, hin, HL.out.2.2⟩
          have h4 := HL.out.2.1
          have h5 : k ≠ i := fun e => by
            have := HL.out.2.2
            rw [← e, ← HL.out.1] at this
            exact h3 this
          omega
        case measure => simp [intOf1]; omega

/-- A list of deliveries is read as Ds. -/
def DlR (w : World) (v : Value) (Ds : List Dl) : Prop := ∃ A c, v = .slice A Ds.length c ∧ Ds.length ≤ c ∧
    ∀ i (hi : i < Ds.length), ∃ g A' n' c', A = some ⟨g, 0, none⟩ ∧ g < w.heap.size ∧ w.cell? ⟨g, i * 3, none⟩ = some (.int .i64 (Ds[i]'hi).1) ∧ w.cell? ⟨g, i * 3 + 1, none⟩ = some (.slice A' n' c') ∧
      w.cell? ⟨g, i * 3 + 2, none⟩ = some (.bool (Ds[i]'hi).2.2) ∧ RB w w.heap.size (.slice A' n' c') (Ds[i]'hi).2.1

set_option maxRecDepth 100000 in
set_option maxHeartbeats 2000000 in
theorem sameDl_yes (Ds : List Dl) (v1 v2 : Value) (hl : Ds.length ≤ 1048576) (w : World) (h1 : DlR w v1 Ds) (h2 : DlR w v2 Ds) :
    Calls Try.prog 20 #[v1, v2] w (RetB w true) := by
  obtain ⟨A1, c1, rfl, hc1, H1⟩ := h1
  obtain ⟨A2, c2, rfl, hc2, H2⟩ := h2
  have HH := Lib.hid (And.intro H1 H2)
  clear H1 H2
  obtain ⟨n, hn⟩ : ∃ n, n = Ds.length := ⟨_, rfl⟩
  rw [← hn] at hc1 hc2 hl
  rw [← hn]
  have HN := Lib.hid hn
  clear hn
  have qn : ((n : Int) != (n : Int)) = false := by simp
  go_enter Try.func20, Try.ntmps20
  go_wp2
  go_loopw [13] (fun iv wr => ∃ k : Nat, k ≤ n ∧ iv = .int .i64 (k : Int) ∧ Below w.heap.size w wr) (fun iv _ => n - (intOf1 iv).toNat)
  case atStart => exact ⟨0, Nat.zero_le _, rfl, Below.refl _ _⟩
  case round =>
    obtain ⟨k, hk, rfl, hbw⟩ := hrel
    by_cases hkn : k < n
    · obtain ⟨g1, A1', n1', c1', rfl, hg1, p0, p1, p2, r1⟩ := HH.out.1 k (by rw [← HN.out]; exact hkn)
      obtain ⟨g2, A2', n2', c2', rfl, hg2, q0, q1, q2, r2⟩ := HH.out.2 k (by rw [← HN.out]; exact hkn)
      obtain ⟨f, hf⟩ : ∃ f, f = Ds[k]'(by rw [← HN.out]; exact hkn) := ⟨_, rfl⟩
      rw [← hf] at p0 p2 r1 q0 q2 r2
      clear hf
      obtain ⟨sq, X, l⟩ := f
      simp only at p0 p2 q0 q2 r1 r2
      have k1 := (hbw.cell (p := ⟨g1, k * 3, none⟩) hg1).trans p0
      have k2 := (hbw.cell (p := ⟨g1, k * 3 + 1, none⟩) hg1).trans p1
      have k3 := (hbw.cell (p := ⟨g1, k * 3 + 2, none⟩) hg1).trans p2
      have k4 := (hbw.cell (p := ⟨g2, k * 3, none⟩) hg2).trans q0
      have k5 := (hbw.cell (p := ⟨g2, k * 3 + 1, none⟩) hg2).trans q1
      have k6 := (hbw.cell (p := ⟨g2, k * 3 + 2, none⟩) hg2).trans q2
      have t1 := fun (wx : World) (hb : Below w.heap.size w wx) => run_string_bytes (r1.belowM hb (Nat.le_refl _)).1
      have t2 := fun (wx : World) (hb : Below w.heap.size w wx) => run_string_bytes (r2.belowM hb (Nat.le_refl _)).1
      obtain ⟨S, hS⟩ : ∃ S, S = strB X := ⟨_, rfl⟩
      rw [← hS] at t1 t2
      have s1 := t1 wr.drew hbw.drew
      have s2 := t2 wr.drew hbw.drew
      have q1' : (S != S) = false := by
        have := strEqZ S
        simp [bne, this]
      have q2' : (sq != sq) = false := by simp
      have q3' : (l != l) = false := by simp
      have i1 : (0 : Int) ≤ (k : Int) := by omega
      have i2 : (k : Int) < (n : Int) := by omega
      have HB := Lib.hid hbw
      clear p0 p1 p2 q0 q1 q2 r1 r2 hS t1 t2 hbw
      go_wp2
      go_region
      go_wp2
      go_roundw
      case rel => exact ⟨k + 1, by omega, by go_num, HB.out.drew⟩
      case measure => simp [intOf1]; omega
    · obtain rfl : k = n := by omega
      go_wp2
      go_ret
      exact ⟨rfl, hbw⟩
end Go.Proofs.Ytlginmnmobkbhaa
