/-
  For any bodies, window and rounds of faults the law LinkTransfers returns true and leaves its arguments as they were: no condition.
  What Unpack reads of an encoding, with whatever behind it.
-/
import Derived.Test.YtkakbeiehggkiaaH02
import Derived.Test.YtkakbeiehggkiaaH41
import Derived.Test.YtkakbeiehggkiaaH07
import Derived.Lib.SmallJoins
import Derived.Test.YtkakbeiehggkiaaH39
namespace Go.Proofs.Ytkakbeiehggkiaa.linkTransfers
open Go.Proofs.Ytkakbeiehggkiaa
open Go.ChangeShapes Go.WideShapes Go.ChangeAt Go.RowKit Go.Joins Go.Maps
set_option linter.unusedVariables false
attribute [local go_sem ↓] Go.wp_at_zero Go.wp_at_succ

theorem belS {w W w1 : World} (h0 : Below w.heap.size w W) (h : Below W.heap.size W w1) : Below w.heap.size w w1 := h0.trans (h.mono h0.size)

theorem cellsFt : Try.prog.cellsOf 106 = 3 := by kernel_rfl
/-- Fault i of a list at A. -/
def FtIn (w : World) (A : Option Addr) (i : Nat) : Prop :=
  ∃ f : Ft, ∃ b o, A = some ⟨b, o, none⟩ ∧ b < w.heap.size ∧ w.cell? ⟨b, o + i * 3, none⟩ = some (.int .i64 f.1) ∧ w.cell? ⟨b, o + i * 3 + 1, none⟩ = some (.int .i64 f.2.1) ∧ w.cell? ⟨b, o + i * 3 + 2, none⟩ = some (.int .i64 f.2.2) ∧ f.2.2 ≤ 9223372036854775807

set_option maxRecDepth 100000 in
theorem open_faults_cell {H : Type} {enc : TypeId × Value → H} {W : World} {fuel : Nat} {v : Value} {x : DataW H × List MemPlace}
    (hf : DataW.trod enc Try.prog W 0 (fun _ => true) true fuel 75 [v] = some x) :
    ∃ A n c, v = .slice A n c ∧ ∀ i, i < n → FtIn W A i := by
  rcases Go.Deep.open_slice Try.underlying75 hf with ⟨hcs, _⟩ | ⟨a, len, cap, m, k, D, Pl, hcs, hb, hl, hm, hmm, hx, hel⟩
  · simp only [List.cons.injEq, and_true] at hcs
    subst hcs
    exact ⟨_, _, _, rfl, fun i hi => absurd hi (by omega)⟩
  · simp only [List.cons.injEq, and_true] at hcs
    subst hcs
    refine ⟨_, _, _, rfl, ?_⟩
    intro i hi
    have hsp : a.spot = none := by
      obtain ⟨cs0, h1, _⟩ := hel 0 (by rw [hmm]; split <;> omega)
      rw [cellsFt] at h1
      obtain ⟨_, hlen, hcell⟩ := World.cells?_some h1
      have h0 := hcell 0 (by omega)
      rw [List.getElem?_eq_getElem (by omega)] at h0
      simpa [Addr.add] using World.cell?_spot h0
    obtain ⟨cs', h1, h2⟩ := hel i (by rw [hmm]; split <;> omega)
    rw [cellsFt] at h1
    obtain ⟨_, hlen, hcell⟩ := World.cells?_some h1
    have ci : Try.prog.cellsOf 3 = 1 := by kernel_rfl
    obtain ⟨y0, y1, y2, k', hx', _, g0, g1, g2⟩ := Go.Deep.trod_struct3 Try.underlying106 h2
    match cs', hlen with
    | [u0, u1, u2], _ =>
      simp only [ci, List.drop_zero, List.drop_succ_cons, List.take_succ_cons, List.take_zero] at g0 g1 g2
      obtain ⟨kd, e0, _, _⟩ := DataW.trod_int Try.underlying3 g0
      obtain ⟨fa, e1, _, _⟩ := DataW.trod_int Try.underlying3 g1
      obtain ⟨fn, e2, _, wfn⟩ := DataW.trod_int Try.underlying3 g2
      simp at e0 e1 e2
      subst e0 e1 e2
      have p0 := hcell 0 (by omega)
      have p1 := hcell 1 (by omega)
      have p2 := hcell 2 (by omega)
      rw [Go.Deep.add_add] at p0 p1 p2
      simp only [List.getElem?_cons_zero, List.getElem?_cons_succ, Nat.add_zero] at p0 p1 p2
      obtain ⟨bb, off, spot⟩ := a
      simp only at hsp
      subst hsp
      rw [Go.WideShapes.add_plain] at p0 p1 p2
      have hbd := bounds_i64 wfn
      exact ⟨(kd, fa, fn), bb, off, rfl, World.block_lt_of_cell? _ _ p0, p0, by rw [Nat.add_assoc]; exact p1, by rw [Nat.add_assoc]; exact p2, by show fn ≤ _; omega⟩

theorem ftL_of {w : World} {A : Option Addr} {m : Nat} (h : ∀ i, i < m → FtIn w A i) : ∃ Fs, FtL w A m Fs := by
  have h1 : ∀ i, ∃ f : Ft, i < m → ∃ b o, A = some ⟨b, o, none⟩ ∧ b < w.heap.size ∧ w.cell? ⟨b, o + i * 3, none⟩ = some (.int .i64 f.1) ∧ w.cell? ⟨b, o + i * 3 + 1, none⟩ = some (.int .i64 f.2.1) ∧ w.cell? ⟨b, o + i * 3 + 2, none⟩ = some (.int .i64 f.2.2) ∧ f.2.2 ≤ 9223372036854775807 := by
    intro i
    by_cases hi : i < m
    · obtain ⟨f, hf⟩ := h i hi
      exact ⟨f, fun _ => hf⟩
    · exact ⟨(0, 0, 0), fun h => absurd h hi⟩
  obtain ⟨F, hF⟩ := Classical.skolem.1 h1
  refine ⟨(List.range m).map F, by simp, fun i hi => ?_⟩
  have him : i < m := by simpa using hi
  have e : ((List.range m).map F)[i]'hi = F i := by simp
  rw [e]
  exact hF i him

theorem rdL_below {w w' : World} {A : Option Addr} {m : Nat} {RR : List (List Ft)} (h : RdL w A m RR) (hb : Below w.heap.size w w') : RdL w' A m RR := by
  refine ⟨h.1, fun i hi => ?_⟩
  obtain ⟨b, o, A', c', e, hl, hc, hf⟩ := h.2 i hi
  exact ⟨b, o, A', c', e, Nat.lt_of_lt_of_le hl hb.size, (hb.cell (p := ⟨b, o + i, none⟩) hl).trans hc, ftL_belowT hf hb⟩
/-- Transfer of valid arguments, whatever the capacity of no bodies is. -/
theorem transfer_any (T n c m c2 : Nat) (A A2 : Option Addr) (X : Nat → List Nat) (V : Nat → Value) (RR : List (List Ft)) (w : World) (hF : ByF w A n X V) (hX : ∀ i, i < n → (X i).length ≤ 1024) (hn : n ≤ 24) (hnc : n ≤ c ∨ n = 0) (hT : 1 ≤ T ∧ T ≤ 64)
    (hR : RdL w A2 m RR) (hm : m ≤ 70) (hR8 : ∀ Fs ∈ RR, Fs.length ≤ 8) :
    Calls Try.prog 47 #[.slice A n c, .int .i64 (T : Int), .slice A2 m c2] w (RetTr w T ((List.range n).map X) RR) :=
  transfer_ok T n c m c2 A A2 X V RR w hF hX hn (by omega) hT hR hm (fun i h _ => hR8 _ (List.getElem_mem h))

set_option maxRecDepth 100000 in
theorem open_bodies_c {H : Type} {enc : TypeId × Value → H} {W : World} {b : Nat} {v : Value} {d : DataW H} {ps : List MemPlace}
    (hok : Value.okWide Try.prog W .any b 74 v) (h : DataW.Trod enc Try.prog W 0 (fun _ => true) true 74 v d ps) :
    ∃ A n c, v = .slice A n c ∧ (n ≤ c ∨ n = 0) ∧ n ≤ maxLen ∧ ∀ i, i < n → ByIn W A i := by
  obtain ⟨A, n, c, e, hn, hB⟩ := open_bodies hok h
  refine ⟨A, n, c, e, ?_, hn, hB⟩
  subst e
  obtain ⟨fuel, hf0⟩ := h
  have hf : DataW.trod enc Try.prog W 0 (fun _ => true) true fuel 74 [.slice A n c] = some (d, ps) := by simpa [Value.cells] using hf0
  have cB : Try.prog.cellsOf 33 = 1 := by kernel_rfl
  rcases Go.Deep.open_slice1 Try.underlying74 cB hf with ⟨hcs, _⟩ | ⟨a, len, cap, m, k, V, D, Pl, hcs, hb, hl, hm, hmm, hx, hel⟩
  · simp only [List.cons.injEq, and_true] at hcs
    injection hcs with e1 e2 e3
    exact .inr e2
  · simp only [List.cons.injEq, and_true] at hcs
    injection hcs with e1 e2 e3
    subst e1 e2 e3
    exact .inl hl
set_option maxRecDepth 100000 in
theorem open_rounds {H : Type} {enc : TypeId × Value → H} {W : World} {b : Nat} {v : Value} {d : DataW H} {ps : List MemPlace}
    (hok : Value.okWide Try.prog W .any b 79 v) (h : DataW.Trod enc Try.prog W 0 (fun _ => true) true 79 v d ps) :
    ∃ A n c RR, v = .slice A n c ∧ RdL W A n RR := by
  obtain ⟨a0, n, c, rfl⟩ := WideShapes.okWide_slice Try.underlying79 hok
  obtain ⟨fuel, hf0⟩ := h
  have hf : DataW.trod enc Try.prog W 0 (fun _ => true) true fuel 79 [.slice a0 n c] = some (d, ps) := by simpa [Value.cells] using hf0
  have cB : Try.prog.cellsOf 75 = 1 := by kernel_rfl
  rcases Go.Deep.open_slice1 Try.underlying79 cB hf with ⟨hcs, _⟩ | ⟨a, len, cap, m, k, V, D, Pl, hcs, hb, hl, hm, hmm, hx, hel⟩
  · simp only [List.cons.injEq, and_true] at hcs
    injection hcs with e1 e2 e3
    subst e2
    exact ⟨a0, 0, c, [], rfl, rfl, fun i h => absurd h (by simp)⟩
  · simp only [List.cons.injEq, and_true] at hcs
    injection hcs with e1 e2 e3
    subst e1 e2 e3
    have key : ∀ i, ∃ Fs : List Ft, i < n → ∃ b o A' c', some a = some ⟨b, o, none⟩ ∧ b < W.heap.size ∧ W.cell? ⟨b, o + i, none⟩ = some (.slice A' Fs.length c') ∧ FtL W A' Fs.length Fs := by
      intro i
      by_cases hi : i < n
      · have hsp : a.spot = none := by
          obtain ⟨h0, _⟩ := hel 0 (by rw [hmm]; split <;> omega)
          simpa [Addr.add] using World.cell?_spot h0
        obtain ⟨h1, h2⟩ := hel i (by rw [hmm]; split <;> omega)
        obtain ⟨A', n', c', e, hF⟩ := open_faults_cell h2
        obtain ⟨Fs, hFs⟩ := ftL_of hF
        have hl' := hFs.1
        subst hl'
        rw [e] at h1
        obtain ⟨bb, off, spot⟩ := a
        simp only at hsp
        subst hsp
        rw [Go.WideShapes.add_plain] at h1
        exact ⟨Fs, fun _ => ⟨bb, off, A', c', rfl, World.block_lt_of_cell? _ _ h1, h1, hFs⟩⟩
      · exact ⟨[], fun h => absurd h hi⟩
    obtain ⟨G, hG⟩ := Classical.skolem.1 key
    refine ⟨some a, n, c, (List.range n).map G, rfl, by simp, fun i hi => ?_⟩
    have hin : i < n := by simpa using hi
    have e : ((List.range n).map G)[i]'hi = G i := by simp
    rw [e]
    exact hG i hin

set_option maxRecDepth 100000 in
set_option maxHeartbeats 400000 in
theorem wide_no (A A2 : Option Addr) (n c m c2 : Nat) (X : Nat → List Nat) (V : Nat → Value) (RR : List (List Ft)) (w : World) (hF : ByF w A n X V) (hn : n ≤ 24) (hX : ∀ i, i < n → (X i).length ≤ 1032) (hR : RdL w A2 m RR) (hm : m ≤ 70) (h8 : ∀ Fs ∈ RR, Fs.length ≤ 8) :
    Calls Try.prog 46 #[.slice A n c, .slice A2 m c2] w fun e w' => e = .returned (.bool false) ∧ w = w' := by
  have HL := Lib.hid (long_no A n c 24 1032 X V w hF hn hX (by omega))
  have HR := Lib.hid (And.intro hR h8)
  have i0 : ¬ (70 : Int) < (m : Int) := by omega
  clear hF hX hR h8
  go_enter Try.func46, Try.ntmps46
  go_wp2_with fail
  refine HL.out.mono ?_
  rintro e w1 ⟨rfl, rfl⟩
  go_wp2
  go_loop [15] (fun iv => ∃ k : Nat, k ≤ m ∧ iv = .int .i64 (k : Int)) (fun iv => m - (intOf1 iv).toNat)
  case atStart => exact ⟨0, Nat.zero_le _, rfl⟩
  case round =>
    obtain ⟨k, hk, rfl⟩ := hrel
    by_cases hkn : k < m
    · have hkR : k < RR.length := by rw [HR.out.1.1]; exact hkn
      obtain ⟨b, o, A', c', rfl, hb, hcell, _⟩ := HR.out.1.2 k hkR
      have h3 := HR.out.2 _ (List.getElem_mem hkR)
      obtain ⟨L, hL⟩ : ∃ L, L = (RR[k]'hkR).length := ⟨_, rfl⟩
      rw [← hL] at hcell h3
      have i1 : (0 : Int) ≤ (k : Int) := by omega
      have i2 : (k : Int) < (m : Int) := by omega
      have i3 : ¬ (8 : Int) < (L : Int) := by omega
      clear hL
      go_wp2
      go_round
      case rel => exact ⟨k + 1, by omega, by go_num⟩
      case measure => simp [intOf1]; omega
    · obtain rfl : k = m := by omega
      go_wp2
      go_ret
      exact ⟨rfl, rfl⟩

set_option maxRecDepth 100000 in
set_option maxHeartbeats 400000 in
theorem wide_yes (A A2 : Option Addr) (n c m c2 : Nat) (X : Nat → List Nat) (V : Nat → Value) (RR : List (List Ft)) (w : World) (hF : ByF w A n X V) (hnm : n ≤ maxLen) (hR : RdL w A2 m RR)
    (h : (24 < n ∨ ∃ i, i < n ∧ 1032 < (X i).length) ∨ 70 < m ∨ ∃ Fs ∈ RR, 8 < Fs.length) :
    Calls Try.prog 46 #[.slice A n c, .slice A2 m c2] w fun e w' => e = .returned (.bool true) ∧ w = w' := by
  by_cases h1 : 24 < n ∨ ∃ i, i < n ∧ 1032 < (X i).length
  · have HL := Lib.hid (long_yes A n c 24 1032 X V w hF h1 (by unfold maxLen at hnm; omega))
    clear h h1
    go_enter Try.func46, Try.ntmps46
    go_wp2_with fail
    refine HL.out.mono ?_
    rintro e w1 ⟨rfl, rfl⟩
    go_wp2
    go_ret
    exact ⟨rfl, rfl⟩
  · have hn : n ≤ 24 := by
      rcases Nat.lt_or_ge 24 n with h2 | h2
      · exact absurd (.inl h2) h1
      · exact h2
    have hX : ∀ i, i < n → (X i).length ≤ 1032 := fun i hi => by
      rcases Nat.lt_or_ge 1032 (X i).length with h2 | h2
      · exact absurd (.inr ⟨i, hi, h2⟩) h1
      · exact h2
    have HL := Lib.hid (long_no A n c 24 1032 X V w hF hn hX (by omega))
    have h3 := h.resolve_left h1
    clear h h1
    by_cases hm : 70 < m
    · have i0 : (70 : Int) < (m : Int) := by omega
      clear h3
      go_enter Try.func46, Try.ntmps46
      go_wp2_with fail
      refine HL.out.mono ?_
      rintro e w1 ⟨rfl, rfl⟩
      go_wp2
      go_ret
      exact ⟨rfl, rfl⟩
    · have i0 : ¬ (70 : Int) < (m : Int) := by omega
      have HR := Lib.hid hR
      have H8 := Lib.hid (show ∃ i, ∃ h : i < RR.length, 8 < (RR[i]'h).length from by
        obtain ⟨Fs, hFs, h8⟩ := h3.resolve_left hm
        obtain ⟨i, hi, e⟩ := List.mem_iff_getElem.1 hFs
        exact ⟨i, hi, by rw [e]; exact h8⟩)
      clear h3 hR
      go_enter Try.func46, Try.ntmps46
      go_wp2_with fail
      refine HL.out.mono ?_
      rintro e w1 ⟨rfl, rfl⟩
      go_wp2
      go_loop [15] (fun iv => ∃ k : Nat, k ≤ m ∧ iv = .int .i64 (k : Int) ∧ ∃ i, k ≤ i ∧ ∃ h : i < RR.length, 8 < (RR[i]'h).length) (fun iv => m - (intOf1 iv).toNat)
      case atStart =>
        obtain ⟨i, h1, h2⟩ := H8.out
        exact ⟨0, Nat.zero_le _, rfl, i, Nat.zero_le _, h1, h2⟩
      case round =>
        obtain ⟨k, hk, rfl, i, hki, hin, hsz⟩ := hrel
        have hkR : k < RR.length := by omega
        have hkn : k < m := by rw [← HR.out.1]; exact hkR
        obtain ⟨b, o, A', c', rfl, hb, hcell, hft⟩ := HR.out.2 k hkR
        obtain ⟨L, hL⟩ : ∃ L, L = (RR[k]'hkR).length := ⟨_, rfl⟩
        rw [← hL] at hcell
        have i1 : (0 : Int) ≤ (k : Int) := by omega
        have i2 : (k : Int) < (m : Int) := by omega
        have HS := Lib.hid (And.intro hL (And.intro hki hsz))
        clear hL hft hsz hki
        by_cases h5 : 8 < L
        · have i3 : (8 : Int) < (L : Int) := by omega
          go_wp2
          go_ret
          exact ⟨rfl, rfl⟩
        · have i3 : ¬ (8 : Int) < (L : Int) := by omega
          go_wp2
          go_round
          case rel =>
            refine ⟨k + 1, by omega, by go_num, i, ?_, hin, HS.out.2.2⟩
            have h4 := HS.out.2.1
            have h6 : k ≠ i := fun e => by
              subst e
              have h7 := HS.out.2.2
              rw [← HS.out.1] at h7
              exact h5 h7
            omega
          case measure => simp [intOf1]; omega

set_option maxRecDepth 100000 in
set_option maxHeartbeats 1000000 in
theorem transfer_bad (win : Int) (n c m c2 : Nat) (A A2 : Option Addr) (X : Nat → List Nat) (V : Nat → Value) (w : World) (hF : ByF w A n X V) (hn : n ≤ 24) (h : ¬ (1 ≤ win ∧ win ≤ 64) ∨ ∃ i, i < n ∧ 1024 < (X i).length) :
    Calls Try.prog 47 #[.slice A n c, .int .i64 win, .slice A2 m c2] w fun e w' => e = .returned (.tuple #[.slice none 0 0, .int .i64 0, .int .i64 2]) ∧ w = w' := by
  by_cases hw : 1 ≤ win ∧ win ≤ 64
  · have HV := Lib.hid (validWindow_yes win w hw)
    have HVB := Lib.hid (validBodies_no A n c X V w hF (h.resolve_left (fun h => h hw)) (by omega))
    clear h hw
    go_enter Try.func47, Try.ntmps47
    go_wp2_with fail
    refine HV.out.mono ?_
    rintro e w1 ⟨rfl, rfl⟩
    go_wp2_with fail
    refine HVB.out.mono ?_
    rintro e w1 ⟨rfl, rfl⟩
    go_wp2
    go_ret3
    exact ⟨rfl, rfl⟩
  · have HV := Lib.hid (validWindow_no win w hw)
    clear h hw
    go_enter Try.func47, Try.ntmps47
    go_wp2_with fail
    refine HV.out.mono ?_
    rintro e w1 ⟨rfl, rfl⟩
    go_wp2
    go_ret3
    exact ⟨rfl, rfl⟩

set_option maxRecDepth 100000 in
set_option maxHeartbeats 1000000 in
theorem dtransfer_bad (win : Int) (n c m c2 : Nat) (A A2 : Option Addr) (X : Nat → List Nat) (V : Nat → Value) (w : World) (hF : ByF w A n X V) (hn : n ≤ 24) (h : ¬ (1 ≤ win ∧ win ≤ 64) ∨ ∃ i, i < n ∧ 1024 < (X i).length) :
    Calls Try.prog 48 #[.slice A n c, .int .i64 win, .slice A2 m c2] w fun e w' => e = .returned (.tuple #[.slice none 0 0, .int .i64 0, .int .i64 2]) ∧ w = w' := by
  have i2 : ¬ (256 : Int) < (n : Int) := by omega
  rcases Int.lt_or_le win 1 with h1 | h1
  · clear h
    go_enter Try.func48, Try.ntmps48
    go_wp2
    go_ret3
    exact ⟨rfl, rfl⟩
  · have i0 : ¬ win < 1 := by omega
    rcases Int.lt_or_le 64 win with h2 | h2
    · clear h
      go_enter Try.func48, Try.ntmps48
      go_wp2
      go_ret3
      exact ⟨rfl, rfl⟩
    · have i1 : ¬ (64 : Int) < win := by omega
      have HF := Lib.hid hF
      have HX := Lib.hid (h.resolve_left (fun h => h ⟨h1, h2⟩))
      clear h hF
      go_enter Try.func48, Try.ntmps48
      go_wp2
      go_loop [41] (fun iv => ∃ k : Nat, k ≤ n ∧ iv = .int .i64 (k : Int) ∧ ∃ i, k ≤ i ∧ i < n ∧ 1024 < (X i).length) (fun iv => n - (intOf1 iv).toNat)
      case atStart =>
        obtain ⟨i, h1, h2⟩ := HX.out
        exact ⟨0, Nat.zero_le _, rfl, i, Nat.zero_le _, h1, h2⟩
      case round =>
        obtain ⟨k, hk, rfl, i, hki, hin, hsz⟩ := hrel
        have hkn : k < n := by omega
        obtain ⟨b, o, A', c', rfl, hb, hcell, hv, _, hr⟩ := HF.out k hkn
        obtain ⟨L, hL⟩ : ∃ L, L = (X k).length := ⟨_, rfl⟩
        rw [hv, ← hL] at hcell
        have i3 : (0 : Int) ≤ (k : Int) := by omega
        have i4 : (k : Int) < (n : Int) := by omega
        have HL := Lib.hid (And.intro hL (And.intro hki hsz))
        clear hv hL hr hsz hki
        by_cases h3 : 1024 < L
        · have i5 : (1024 : Int) < (L : Int) := by omega
          go_wp2
          go_ret3
          exact ⟨rfl, rfl⟩
        · have i5 : ¬ (1024 : Int) < (L : Int) := by omega
          go_wp2
          go_round
          case rel =>
            refine ⟨k + 1, by omega, by go_num, i, ?_, hin, HL.out.2.2⟩
            have h4 := HL.out.2.1
            have h5 : k ≠ i := fun e => by
              have := HL.out.2.2
              rw [← e, ← HL.out.1] at this
              exact h3 this
            omega
          case measure => simp [intOf1]; omega

set_option maxRecDepth 100000 in
set_option maxHeartbeats 1000000 in
theorem walk {w : World} {A A2 : Option Addr} {n c m c2 : Nat} {win : Int} {RR : List (List Ft)} (h : ∀ i, i < n → ByIn w A i) (hnc : n ≤ c ∨ n = 0) (hnm : n ≤ maxLen) (hR : RdL w A2 m RR) :
    Calls Try.prog 8 #[.slice A n c, .int .i64 win, .slice A2 m c2] w (RetB w true) := by
  obtain ⟨X, V, hF⟩ := byF_of h
  by_cases hwide : (24 < n ∨ ∃ i, i < n ∧ 1032 < (X i).length) ∨ 70 < m ∨ ∃ Fs ∈ RR, 8 < Fs.length
  · have HW := Lib.hid (wide_yes A A2 n c m c2 X V RR w hF hnm hR hwide)
    clear hwide
    go_enter Try.func8, Try.ntmps8
    go_wp2_with fail
    refine HW.out.mono ?_
    rintro e w0 ⟨rfl, rfl⟩
    go_wp2_with fail
    refine (awake_any _).mono ?_
    rintro e w7 ⟨rfl, b7⟩
    go_wp2
    go_ret
    exact ⟨rfl, b7⟩
  · have hn : n ≤ 24 := by
      rcases Nat.lt_or_ge 24 n with h1 | h1
      · exact absurd (.inl (.inl h1)) hwide
      · exact h1
    have hX : ∀ i, i < n → (X i).length ≤ 1032 := fun i hi => by
      rcases Nat.lt_or_ge 1032 (X i).length with h1 | h1
      · exact absurd (.inl (.inr ⟨i, hi, h1⟩)) hwide
      · exact h1
    have hm : m ≤ 70 := by
      rcases Nat.lt_or_ge 70 m with h1 | h1
      · exact absurd (.inr (.inl h1)) hwide
      · exact h1
    have h8 : ∀ Fs ∈ RR, Fs.length ≤ 8 := fun Fs hFs => by
      rcases Nat.lt_or_ge 8 Fs.length with h1 | h1
      · exact absurd (.inr (.inr ⟨Fs, hFs, h1⟩)) hwide
      · exact h1
    have HW := Lib.hid (wide_no A A2 n c m c2 X V RR w hF hn hX hR hm h8)
    clear hwide
    by_cases hbad : ¬ (1 ≤ win ∧ win ≤ 64) ∨ ∃ i, i < n ∧ 1024 < (X i).length
    · have HB1 := Lib.hid (transfer_bad win n c m c2 A A2 X V w hF hn hbad)
      have HB2 := Lib.hid (dtransfer_bad win n c m c2 A A2 X V w hF hn hbad)
      clear hbad hX h8
      go_enter Try.func8, Try.ntmps8
      go_wp2_with fail
      refine HW.out.mono ?_
      rintro e w0 ⟨rfl, rfl⟩
      go_wp2_with fail
      refine HB1.out.mono ?_
      rintro e w0 ⟨rfl, rfl⟩
      go_wp2_with fail
      refine HB2.out.mono ?_
      rintro e w0 ⟨rfl, rfl⟩
      go_wp2_with fail
      refine (sameDl_yes [] (.slice none 0 0) (.slice none 0 0) (by simp) w (dlr_nil w) (dlr_nil w)).mono ?_
      rintro e w5 ⟨rfl, b5⟩
      go_wp2_with fail
      refine (awake_any _).mono ?_
      rintro e w7 ⟨rfl, b7⟩
      go_wp2
      go_ret
      exact ⟨rfl, belS b5 b7⟩
    · have hw : 1 ≤ win ∧ win ≤ 64 := Classical.byContradiction fun h => hbad (.inl h)
      have hX2 : ∀ i, i < n → (X i).length ≤ 1024 := fun i hi => by
        rcases Nat.lt_or_ge 1024 (X i).length with h1 | h1
        · exact absurd (.inr ⟨i, hi, h1⟩) hbad
        · exact h1
      obtain ⟨T, rfl⟩ : ∃ T : Nat, win = (T : Int) := ⟨win.toNat, by omega⟩
      have HT1 := Lib.hid (transfer_any T n c m c2 A A2 X V RR w hF hX2 hn hnc ⟨by omega, by omega⟩ hR hm h8)
      have HA := Lib.hid (And.intro hF (And.intro hX2 (And.intro hR h8)))
      clear hbad hX h8 hX2 hF hR
      go_enter Try.func8, Try.ntmps8
      go_wp2_with fail
      refine HW.out.mono ?_
      rintro e w0 ⟨rfl, rfl⟩
      go_wp2_with fail
      refine HT1.out.mono ?_
      rintro e w1 ⟨dv1, r1, rfl, hN1, hD1, hb1, hlen⟩
      have H1 := Lib.hid (And.intro hN1 (And.intro hD1 (And.intro hb1 hlen)))
      clear hN1 hD1 hb1 hlen
      go_wp2_with fail
      refine (dtransfer_ok T n c m c2 A A2 X V RR w1 (HA.out.1.below H1.out.2.2.1) HA.out.2.1 hn ⟨by omega, by omega⟩ (rdL_below HA.out.2.2.1 H1.out.2.2.1) hm HA.out.2.2.2).mono ?_
      rintro e w2 ⟨dv2, r2, rfl, hN2, hD2, hb2⟩
      obtain rfl := isN_one H1.out.1 hN2
      have R1 := dls_r (dls_below H1.out.2.1 hb2)
      have R2 := dls_r hD2
      have HE := Lib.hid (belS H1.out.2.2.1 hb2)
      have HR12 := Lib.hid (And.intro R1 R2)
      have q0 : ((r1 : Int) == (r1 : Int)) = true := by simp
      obtain ⟨A5, c5, e5⟩ := dls_form hD2
      subst e5
      obtain ⟨A6, c6, e6⟩ := dls_form H1.out.2.1
      subst e6
      clear hN2 hD2 hb2 R1 R2
      go_wp2_with fail
      refine (sameDl_yes _ _ _ (Nat.le_trans H1.out.2.2.2 (by decide)) w2 HR12.out.1 HR12.out.2).mono ?_
      rintro e w5 ⟨rfl, b5⟩
      go_wp2_with fail
      refine (awake_any _).mono ?_
      rintro e w7 ⟨rfl, b7⟩
      go_wp2
      go_ret
      exact ⟨rfl, belS HE.out (belS b5 b7)⟩

set_option maxRecDepth 100000 in
theorem lifted (os : Os) (started : os.Started) (H : Type) (enc : TypeId × Value → H) :
    ReturnsInHanded {} Try.checked os 8 .any (Rows.linkTransfersSpec.pre6 enc Try.prog Try.f8 Rows.linkTransfersRow.domain false) (Rows.linkTransfersSpec.post enc Try.prog Try.f8 false true false false) := by
  refine returnsInHanded_of_change (C := Try.checked) ownTry started (by kernel_rfl) Try.func8
    (ChangeSpec.witness6 (enc := enc) (C := Try.checked) false ⟨#[], #[.slice none 0 0, .int .i64 0, .slice none 0 0], []⟩ 8 (by kernel_rfl) (by kernel_rfl) (by kernel_rfl) (by kernel_rfl)) ?_
  intro W base args ds gs before hval0 hW hcnd _
  have hval : ∀ (j : Nat) t v, Try.f8.params[j]? = some t → args[j]? = some v → Value.okWide Try.prog W .any base t v := hval0
  have hW' := hW
  obtain ⟨p, q, hA0, hV, rfl, hfz, hnd⟩ := hW
  have hA : DataW.TrodAll enc Try.prog W 0 (fun _ => true) true Try.f8.params.toList args.toList ds p := hA0
  rw [Try.params8] at hA hval
  obtain ⟨v0, v1, v2, d0, d1, d2, p0, p1, p2, rfl, rfl, rfl, h0, h1, h2⟩ := trodAll_three hA
  obtain ⟨rfl, rfl⟩ := trodVars_none hV
  obtain ⟨A0, n0, c0, rfl, hnc, hnm, hB⟩ := open_bodies_c (hval 0 _ v0 rfl rfl) h0
  obtain ⟨win, rfl⟩ := okWide_int Try.underlying3 (hval 1 _ v1 rfl rfl)
  obtain ⟨A1, n1, c1, RR, rfl, hR⟩ := open_rounds (hval 2 _ v2 rfl rfl) h2
  clear hA0 hval0
  refine (walk hB hnc hnm hR).mono fun e W' ⟨he, hg⟩ => ?_
  subst he
  exact ⟨_, rfl, post_reads laidOut (by kernel_rfl) hW' rfl (fun _ _ _ => trodAll_mk1 (shut_bool Try.underlying4 _)) (fun _ => rfl) rfl hg (ok_one (by kernel_rfl) rfl (okWide_bool_mk Try.underlying4 _))⟩

theorem over : Rows.linkTransfersRow.holds Try.pinned (OpenSpec.ofChange Rows.linkTransfersSpec) :=
  OpenClaim.holds_of_wide 8 Try.f8 rfl rfl rfl rfl rfl rfl rfl ⟨rfl, rfl, rfl, rfl, rfl⟩ rfl rfl rfl rfl rfl (by kernel_rfl) Try.func8 (by kernel_rfl)
    (of_decide_eq_true (by kernel_rfl)) (by unfold Func.isWrapper; first | (rw [if_pos (by decide +kernel)]; kernel_rfl) | (rw [if_neg (by decide +kernel)]; exact ⟨rfl, rfl⟩))
    (fun os started H enc _ => lifted os started H enc)

theorem proved : Rows.LinkTransfersSaid := over
end Go.Proofs.Ytkakbeiehggkiaa.linkTransfers

namespace Go.Proofs.Ytkakbeiehggkiaa
open Go.RowKit

theorem sl_mid (A M R : List Nat) : sl (A ++ (M ++ R)) A.length M.length = M := by
  unfold sl
  rw [List.drop_left, List.take_left]

theorem unpacked (st sq : Nat) (X T : List Nat) (hsq : sq < 4294967296) (hX : X.length ≤ 1024) :
    upSt (packL st sq X ++ T) = st ∧ upSq (packL st sq X ++ T) = sq ∧ upX (packL st sq X ++ T) = X ∧ upN (packL st sq X ++ T) = 12 + X.length ∧ upE (packL st sq X ++ T) = 0 := by
  have hlen : (packL st sq X ++ T).length = 12 + X.length + T.length := by rw [List.length_append, packL_len]
  have h0 : nth (packL st sq X ++ T) 0 = 165 := by unfold packL packHead; simp [nth]
  have h1 : nth (packL st sq X ++ T) 1 = st := by unfold packL packHead; simp [nth]
  obtain ⟨K, hK⟩ : ∃ K, K = beb (crc (packHead st sq X)) 4 := ⟨_, rfl⟩
  have hPK : packL st sq X = [165, st] ++ (beb sq 4 ++ (beb X.length 2 ++ (X ++ K))) := by
    unfold packL
    rw [← hK]
    unfold packHead
    simp
  have e1 : sl (packL st sq X ++ T) 2 4 = beb sq 4 := by
    have := sl_mid [165, st] (beb sq 4) (beb X.length 2 ++ (X ++ (K ++ T)))
    rw [beb_len] at this
    rw [hPK]
    simpa using this
  have e2 : sl (packL st sq X ++ T) 6 2 = beb X.length 2 := by
    have := sl_mid ([165, st] ++ beb sq 4) (beb X.length 2) (X ++ (K ++ T))
    rw [beb_len, List.length_append, beb_len] at this
    rw [hPK]
    simpa using this
  have e3 : sl (packL st sq X ++ T) 8 X.length = X := by
    have := sl_mid ([165, st] ++ beb sq 4 ++ beb X.length 2) X (K ++ T)
    rw [List.length_append, List.length_append, beb_len, beb_len] at this
    rw [hPK]
    simpa using this
  have e4 : sl (packL st sq X ++ T) (8 + X.length) 4 = beb (crc (packHead st sq X)) 4 := by
    have := sl_mid (packHead st sq X) (beb (crc (packHead st sq X)) 4) T
    rw [beb_len, packHead_len] at this
    rw [← this]
    unfold packL
    rw [List.append_assoc]
  have e5 : (packL st sq X ++ T).take (8 + X.length) = packHead st sq X := by
    unfold packL
    rw [List.append_assoc, ← packHead_len st sq X, List.take_left]
  have eL : upL (packL st sq X ++ T) = X.length := by
    unfold upL
    rw [e2, be_beb _ _ (by omega)]
  have eE : upE (packL st sq X ++ T) = 0 := by
    refine upE_ok (by omega) (by rw [h0]; simp) (by omega) (by rw [eL]; omega) (by rw [eL]; omega) ?_
    rw [eL, e4, e5, be_beb _ _ (by have := crc_lt (packHead st sq X); omega)]
    simp
  obtain ⟨g1, g2, g3, g4, g5⟩ := up_good eE
  refine ⟨by rw [g1, h1], by rw [g2, e1, be_beb _ _ (by omega)], by rw [g3, eL, e3], by rw [g4, eL]; omega, g5⟩
end Go.Proofs.Ytkakbeiehggkiaa
