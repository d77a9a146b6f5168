/-
  sameFrames where both lists are the same.
-/
import Derived.Test.YtndgpgciccgapaaZFrs
import Derived.Deep.RegionHeld3
import Derived.Deep.DrawnRows
namespace Go.Proofs.Ytndgpgciccgapaa
open Go.RowKit
attribute [local go_sem ↓] Go.wp_at_zero Go.wp_at_succ

theorem frs_cells {w : World} {base : Nat} {v : Value} {Fs : List Fr} (h : FrS w base v Fs) : ∃ A c, v = .slice A Fs.length c ∧ Fs.length ≤ c ∧
    ∀ i (hi : i < Fs.length), ∃ g A' n' c', A = some ⟨g, 0, none⟩ ∧ g < w.heap.size ∧ w.cell? ⟨g, i * 3, none⟩ = some (.int .i64 ((Fs[i]'hi).1 : Int)) ∧ w.cell? ⟨g, i * 3 + 1, none⟩ = some (.int .i64 ((Fs[i]'hi).2.1 : Int)) ∧
      w.cell? ⟨g, i * 3 + 2, none⟩ = some (.slice A' n' c') ∧ RB w w.heap.size (.slice A' n' c') (Fs[i]'hi).2.2 := by
  obtain ⟨vs, h1, ho, h3⟩ := h
  obtain ⟨hl, ⟨rfl, h0⟩ | ⟨g, cap, cur, rfl, _, hblk, hle, _, _, ht⟩⟩ := id ho
  · exact ⟨none, 0, by rw [h0], by omega, fun i hi => by omega⟩
  · refine ⟨some ⟨g, 0, none⟩, cap, rfl, hle, fun i hi => ?_⟩
    obtain ⟨c1, c2, c3⟩ := frC_get Fs vs i hi h1
    have hn := h3 i hi (by omega)
    obtain ⟨A', c', e⟩ := hn.1.form
    rw [e] at c3
    rw [e] at hn
    exact ⟨g, A', _, c', rfl, (Array.getElem?_eq_some_iff.1 hblk).1, (ho.cellAt (i * 3) (by omega)).trans c1, (ho.cellAt (i * 3 + 1) (by omega)).trans c2, (ho.cellAt (i * 3 + 2) (by omega)).trans c3, hn.1⟩

def SfRel (w : World) (n : Nat) (iv : Value) (wr : World) : Prop := ∃ k : Nat, k ≤ n ∧ iv = .int .i64 (k : Int) ∧ Below w.heap.size w wr

set_option maxRecDepth 100000 in
set_option maxHeartbeats 2000000 in
theorem sameFrames_yes (Fs : List Fr) (v1 v2 : Value) (b1 b2 : Nat) (hl : Fs.length ≤ 1048576) (w : World) (h1 : FrS w b1 v1 Fs) (h2 : FrS w b2 v2 Fs) :
    Calls Try.prog 24 #[v1, v2] w (RetB w true) := by
  obtain ⟨A1, c1, rfl, hc1, H1⟩ := frs_cells h1
  obtain ⟨A2, c2, rfl, hc2, H2⟩ := frs_cells h2
  have HH := Lib.hid (And.intro H1 H2)
  clear h1 h2 H1 H2
  obtain ⟨n, hn⟩ : ∃ n, n = Fs.length := ⟨_, rfl⟩
  rw [← hn] at hc1 hc2 hl
  rw [← hn]
  have HN := Lib.hid hn
  clear hn
  have qn : ((n : Int) != (n : Int)) = false := by simp
  go_enter Try.func24, Try.ntmps24
  go_wp2
  go_loopw [13] (fun iv wr => SfRel w n iv wr) (fun iv _ => n - (intOf1 iv).toNat)
  case atStart => exact ⟨0, Nat.zero_le _, rfl, Below.refl _ _⟩
  case round =>
    obtain ⟨k, hk, rfl, hbw⟩ := hrel
    by_cases hkn : k < n
    · obtain ⟨g1, A1', n1', c1', rfl, hg1, p0, p1, p2, r1⟩ := HH.out.1 k (by rw [← HN.out]; exact hkn)
      obtain ⟨g2, A2', n2', c2', rfl, hg2, q0, q1, q2, r2⟩ := HH.out.2 k (by rw [← HN.out]; exact hkn)
      obtain ⟨f, hf⟩ : ∃ f, f = Fs[k]'(by rw [← HN.out]; exact hkn) := ⟨_, rfl⟩
      rw [← hf] at p0 p1 r1 q0 q1 r2
      clear hf
      obtain ⟨st, sq, X⟩ := f
      have hcell : ∀ {wx : World}, Below w.heap.size w wx → (wx.cell? ⟨g1, k * 3, none⟩ = some (.int .i64 (st : Int)) ∧ wx.cell? ⟨g1, k * 3 + 1, none⟩ = some (.int .i64 (sq : Int)) ∧ wx.cell? ⟨g1, k * 3 + 2, none⟩ = some (.slice A1' n1' c1') ∧ wx.cell? ⟨g2, k * 3, none⟩ = some (.int .i64 (st : Int)) ∧ wx.cell? ⟨g2, k * 3 + 1, none⟩ = some (.int .i64 (sq : Int)) ∧ wx.cell? ⟨g2, k * 3 + 2, none⟩ = some (.slice A2' n2' c2')) := fun hb =>
        ⟨(hb.cell (p := ⟨g1, k * 3, none⟩) hg1).trans p0, (hb.cell (p := ⟨g1, k * 3 + 1, none⟩) hg1).trans p1, (hb.cell (p := ⟨g1, k * 3 + 2, none⟩) hg1).trans p2, (hb.cell (p := ⟨g2, k * 3, none⟩) hg2).trans q0, (hb.cell (p := ⟨g2, k * 3 + 1, none⟩) hg2).trans q1, (hb.cell (p := ⟨g2, k * 3 + 2, none⟩) hg2).trans q2⟩
      have HC := Lib.hid (And.intro (@hcell) trivial)
      have K1 := Lib.hid (hcell hbw)
      have R1 := Lib.hid (And.intro ((r1.below hbw).more hbw.size) ((r2.below hbw).more hbw.size))
      have HB := Lib.hid hbw
      clear p0 p1 p2 q0 q1 q2 r1 r2 hcell hbw
      have i1 : (0 : Int) ≤ (k : Int) := by omega
      have i2 : (k : Int) < (n : Int) := by omega
      have k1 := K1.out
      go_wp2
      go_region_held3 (fun w' => w'.cell? ⟨g1, k * 3, none⟩ = some (.int .i64 (st : Int)) ∧ w'.cell? ⟨g1, k * 3 + 1, none⟩ = some (.int .i64 (sq : Int)) ∧ w'.cell? ⟨g1, k * 3 + 2, none⟩ = some (.slice A1' n1' c1') ∧ w'.cell? ⟨g2, k * 3, none⟩ = some (.int .i64 (st : Int)) ∧ w'.cell? ⟨g2, k * 3 + 1, none⟩ = some (.int .i64 (sq : Int)) ∧ w'.cell? ⟨g2, k * 3 + 2, none⟩ = some (.slice A2' n2' c2'))
        (first | exact K3.out | exact K1.out | go_keep)
        (first
          | (go_at_call 21
             refine (sameFrame_yes st sq A1' A2' n1' c1' n2' c2' wr.heap.size X _ (by exact ⟨R1.out.1.1.drew, R1.out.1.2⟩) (by exact ⟨R1.out.2.1.drew, R1.out.2.2⟩) (by exact Nat.le_refl _)).mono ?_
             rintro e w3 ⟨rfl, b3⟩
             have f3 : Below w.heap.size w w3 := HB.out.trans ((below_un b3).mono HB.out.size)
             have K3 := Lib.hid (HC.out.1 f3)))
      go_wp2
      go_roundw
      case rel => exact ⟨k + 1, by omega, by go_num, f3⟩
      case measure => simp [intOf1]; omega
    · obtain rfl : k = n := by omega
      go_wp2
      go_ret
      exact ⟨rfl, hbw⟩
end Go.Proofs.Ytndgpgciccgapaa
