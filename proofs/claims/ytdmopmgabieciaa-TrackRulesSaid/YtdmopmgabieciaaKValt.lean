/-
  Which tracks are valid, the code's; whether a track has too many fixes for a statement.
-/
import Derived.Test.YtdmopmgabieciaaKPart
import Derived.Test.YtdmopmgabieciaaKTrk
namespace Go.Proofs.Ytdmopmgabieciaa
open Go.RowKit

def pN (Ps : List (Nat × List Int)) (i : Nat) : Nat := (Ps.getD i (0, [])).1
def pL (Ps : List (Nat × List Int)) (i : Nat) : List Int := (Ps.getD i (0, [])).2
/-- The end of the parts in front of a part. -/
def endB (Ps : List (Nat × List Int)) : Nat → Int
  | 0 => -1
  | i + 1 => fx (pL Ps i) (pN Ps i - 1) 0
def okPart (Ps : List (Nat × List Int)) (gap : Int) (i : Nat) : Prop := VP (pL Ps i) (pN Ps i) gap ∧ endB Ps i < fx (pL Ps i) 0 0
instance (Ps : List (Nat × List Int)) (gap : Int) (i : Nat) : Decidable (okPart Ps gap i) := by unfold okPart; infer_instance
def VT (Ps : List (Nat × List Int)) (g s a rt : Int) : Prop := okRules g s a rt ∧ ∀ i, i < Ps.length → okPart Ps g i
instance (Ps : List (Nat × List Int)) (g s a rt : Int) : Decidable (VT Ps g s a rt) := by unfold VT; infer_instance

theorem PW.part {w : World} {B n c : Nat} {A : Option Addr} {Ps : List (Nat × List Int)} (h : PW w B (.slice A n c) Ps) (hn : 0 < n) : ∃ b o, A = some ⟨b, o, none⟩ ∧ b < B ∧
    ∀ i, i < n → ∃ Ai ci, w.cell? ⟨b, o + i, none⟩ = some (.slice Ai (pN Ps i) ci) ∧ IR w B 10 (.slice Ai (pN Ps i) ci) (pN Ps i) (pL Ps i) := by
  have hl := h.len.1
  obtain ⟨b, o, e, hb, hc⟩ := h.at_ hn
  refine ⟨b, o, e, hb, fun i hi => ?_⟩
  have := hc i (by omega)
  unfold pN pL
  rw [List.getD_eq_getElem?_getD, List.getElem?_eq_getElem (by omega : i < Ps.length)]
  exact this

def ManyR (n : Nat) (W0 : World) (nv iv : Value) (wr : World) : Prop := ∃ k : Nat, k ≤ n ∧ iv = .int .i64 (k : Int) ∧ (∃ z : Int, nv = .int .i64 z) ∧ Below W0.heap.size W0 wr
def RetBx (w : World) (e : Ending) (w' : World) : Prop := ∃ v, e = .returned (.bool v) ∧ Below w.heap.size w w'

set_option maxRecDepth 100000 in
set_option maxHeartbeats 1000000 in
theorem many_any (Ps : List (Nat × List Int)) (A : Option Addr) (n c B : Nat) (most : Int) (w : World) (hx : PW w B (.slice A n c) Ps) (hB : B ≤ w.heap.size) :
    Calls Try.prog 31 #[.agg #[.slice A n c], .int .i64 most] w (RetBx w) := by
  obtain ⟨W0, HW0, HW, HG⟩ := boxes1 w #[.slice A n c] 63
  have hcap := hx.len.2
  unfold maxLen at hcap
  have HX := Lib.hid (hx.below (HW.out.mono hB))
  clear hx
  go_enter Try.func31, Try.ntmps31
  go_wp2
  rw [← HW0.out]
  go_loopw [5, 11] (fun nv iv wr => ManyR n W0 nv iv wr) (fun _ iv _ => n - (numOf iv).toNat)
  case atStart => exact ⟨0, Nat.zero_le _, rfl, ⟨0, rfl⟩, Below.refl _ _⟩
  case round =>
    obtain ⟨k, hk, rfl, ⟨zz, rfl⟩, hbr⟩ := hrel
    by_cases hlt : k < n
    · obtain ⟨b, o, rfl, hb, hc⟩ := HX.out.part (by omega)
      obtain ⟨Ai, ci, h1, _⟩ := hc k hlt
      have hb0 : b < W0.heap.size := by have := HW.out.size; omega
      have h1' := (hbr.cell (p := ⟨b, o + k, none⟩) hb0).trans h1
      have HBR := Lib.hid hbr
      obtain ⟨ni, hni⟩ : ∃ x, pN Ps k = x := ⟨_, rfl⟩
      rw [hni] at h1'
      clear hc hbr h1 hni
      go_wp2
      · go_ret
        exact ⟨_, rfl, bel_ HW.out HBR.out⟩
      · go_roundw
        case rel => exact ⟨k + 1, by omega, by simp, ⟨_, rfl⟩, HBR.out⟩
        case measure => simp [numOf]; omega
    · obtain rfl : k = n := by omega
      go_wp2
      go_ret
      exact ⟨_, rfl, bel_ HW.out hbr⟩

def VtR (Ps : List (Nat × List Int)) (gap : Int) (n : Nat) (W0 : World) (ev iv : Value) (wr : World) : Prop :=
  ∃ k : Nat, k ≤ n ∧ iv = .int .i64 (k : Int) ∧ ev = .int .i64 (endB Ps k) ∧ Hid (∀ j, j < k → okPart Ps gap j) ∧ Below W0.heap.size W0 wr

set_option maxRecDepth 100000 in
set_option maxHeartbeats 2000000 in
theorem validTrack_any (Ps : List (Nat × List Int)) (g s a rt : Int) (A : Option Addr) (n c B : Nat) (w : World) (hx : PW w B (.slice A n c) Ps) (hB : B ≤ w.heap.size) :
    Calls Try.prog 38 #[.agg #[.slice A n c], .agg #[.int .i64 g, .int .i64 s, .int .i64 a, .int .i64 rt]] w (RetB w (decide (VT Ps g s a rt))) := by
  obtain ⟨W0, HW0, HW, HG, HG'⟩ := boxes2 w #[.slice A n c] #[.int .i64 g, .int .i64 s, .int .i64 a, .int .i64 rt] 63 35
  have hcap := hx.len.2
  have HLN := Lib.hid hx.len.1
  unfold maxLen at hcap
  have HX := Lib.hid (hx.below (HW.out.mono hB))
  have hBW : B ≤ W0.heap.size := by have := HW.out.size; omega
  obtain ⟨r, hr⟩ : ∃ r, decide (VT Ps g s a rt) = r := ⟨_, rfl⟩
  have HR := Lib.hid hr
  rw [hr]
  clear hx hr
  go_enter Try.func38, Try.ntmps38
  go_wp2_with fail
  rw [← HW0.out]
  refine (validRules_any g s a rt _).mono ?_
  rintro en w1 ⟨rfl, hb1⟩
  have HB1 := Lib.hid hb1
  clear hb1
  by_cases hrl : okRules g s a rt
  · rw [decide_eq_true hrl]
    have HRL := Lib.hid hrl
    have t0 := blk_cell HG.out HB1.out 0 (.slice A n c) rfl
    clear hrl
    go_wp2
    go_loopw [5, 14] (fun ev iv wr => VtR Ps g n W0 ev iv wr) (fun _ iv _ => n - (numOf iv).toNat)
    case atStart => exact ⟨0, Nat.zero_le _, rfl, rfl, Lib.hid (fun j hj => absurd hj (by omega)), HB1.out⟩
    case round =>
      obtain ⟨k, hk, rfl, rfl, hall, hbr⟩ := hrel
      clear t0
      by_cases hlt : k < n
      · obtain ⟨b, o, rfl, hb, hc⟩ := HX.out.part (by omega)
        obtain ⟨Ai, ci, h1, h2⟩ := hc k hlt
        have hb0 : b < W0.heap.size := by omega
        have h1' := (hbr.cell (p := ⟨b, o + k, none⟩) hb0).trans h1
        have HI := Lib.hid (h2.belowM hbr hBW)
        have hBR : B ≤ wr.heap.size := by have := hbr.size; omega
        have g0 := blk_cell HG'.out hbr 0 (.int .i64 g) rfl
        have HBR := Lib.hid hbr
        have hici := h2.cap'
        obtain ⟨ni, hni⟩ : ∃ x, pN Ps k = x := ⟨_, rfl⟩
        obtain ⟨Li, hLi⟩ : ∃ x, pL Ps k = x := ⟨_, rfl⟩
        rw [hni] at h1'
        rw [hni, hLi] at HI
        rw [hni] at hici
        unfold maxLen at hici
        have HNL := Lib.hid (And.intro hni hLi)
        clear hc hbr h1 h2 hni hLi
        go_wp2_with fail
        refine (validPart_any Li g Ai ni ci B _ HI.out hBR).mono ?_
        rintro en w2 ⟨rfl, hb2⟩
        have HB2 := Lib.hid (bel_ HBR.out hb2)
        have HI2 := Lib.hid (HI.out.belowM hb2 hBR)
        have hBR2 : B ≤ w2.heap.size := by have := hb2.size; omega
        clear hb2 h1' g0
        by_cases hv : VP Li ni g
        · rw [decide_eq_true hv]
          have HV := Lib.hid hv
          have hn0 : 0 < ni := hv.1
          clear hv
          obtain ⟨bi, oi, rfl, hbi, hci⟩ := ir_ten HI2.out hn0
          have c0 := (hci 0 hn0).c0
          rw [Nat.zero_mul, Nat.add_zero] at c0
          obtain ⟨l, hl⟩ : ∃ l, ni = l + 1 := ⟨ni - 1, by omega⟩
          have c1 := (hci l (by omega)).c0
          have hl1 : (ni : Int) - 1 = (l : Int) := by omega
          have HL1 := Lib.hid hl
          have hW1 : IntKind.i64.wrap ((ni : Int) - 1) = (l : Int) := by rw [IntKind.wrap_i64]; omega
          have hln : l < ni := by omega
          clear hci hl
          by_cases he : fx Li 0 0 ≤ endB Ps k
          · have h0 : Hid (r = false) := by
              rw [← HR.out]
              refine decide_eq_false (fun h => ?_)
              have := (h.2 k (by have := HLN.out; omega)).2
              rw [HNL.out.2] at this
              omega
            go_wp2
            go_ret
            exact ⟨by rw [h0.out]; rfl, bel_ HW.out HB2.out⟩
          · have HE := Lib.hid he
            go_wp2
            go_roundw
            case rel =>
              refine ⟨k + 1, by omega, by simp, ?_, Lib.hid (fun j hj => ?_), HB2.out⟩
              · show _ = Value.int .i64 (fx (pL Ps k) (pN Ps k - 1) 0)
                rw [HNL.out.1, HNL.out.2, show ni - 1 = l by have := HL1.out; omega]
              · rcases Nat.lt_succ_iff_lt_or_eq.1 hj with h | rfl
                · exact hall.out j h
                · refine ⟨by rw [HNL.out.1, HNL.out.2]; exact HV.out, by rw [HNL.out.2]; have := HE.out; omega⟩
            case measure => simp [numOf]; omega
        · rw [decide_eq_false hv]
          have h0 : Hid (r = false) := by
            rw [← HR.out]
            refine decide_eq_false (fun h => hv ?_)
            have := (h.2 k (by have := HLN.out; omega)).1
            rwa [HNL.out.1, HNL.out.2] at this
          clear hv
          go_wp2
          go_ret
          exact ⟨by rw [h0.out]; rfl, bel_ HW.out HB2.out⟩
      · obtain rfl : k = n := by omega
        have h0 : Hid (r = true) := by
          rw [← HR.out]
          exact decide_eq_true ⟨HRL.out, fun i hi => hall.out i (by have := HLN.out; omega)⟩
        have HBR := Lib.hid hbr
        clear hbr
        go_wp2
        go_ret
        exact ⟨by rw [h0.out]; rfl, bel_ HW.out HBR.out⟩
  · rw [decide_eq_false hrl]
    have h0 : Hid (r = false) := by
      rw [← HR.out]
      exact decide_eq_false (fun h => hrl h.1)
    clear hrl
    go_wp2
    go_ret
    exact ⟨by rw [h0.out]; rfl, bel_ HW.out HB1.out⟩
end Go.Proofs.Ytdmopmgabieciaa
