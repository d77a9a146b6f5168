/-
  Which tracks are valid, the document's.
-/
import Derived.Test.YtdmopmgabieciaaKValt
namespace Go.Proofs.Ytdmopmgabieciaa
open Go.RowKit

def lastI (L : List Int) (e0 : Int) : Nat → Int
  | 0 => e0
  | i + 1 => fx L i 0
def okAt (L : List Int) (e0 gap : Int) (i : Nat) : Prop := okF L i ∧ lastI L e0 i < fx L i 0 ∧ (0 < i → fx L i 0 - lastI L e0 i ≤ gap)
theorem okAt_iff (L : List Int) (e0 gap : Int) (n : Nat) (hn : 0 < n) : (VP L n gap ∧ e0 < fx L 0 0) ↔ ∀ i, i < n → okAt L e0 gap i := by
  constructor
  · rintro ⟨⟨_, h⟩, h0⟩ i hi
    refine ⟨(h i hi).1, ?_, ?_⟩
    · cases i with
      | zero => exact h0
      | succ i =>
        rcases (h (i + 1) hi).2 with h1 | h1
        · omega
        · have : fx L (i + 1) 0 - fx L i 0 ≥ 1 := h1.1
          show fx L i 0 < fx L (i + 1) 0
          omega
    · intro hp
      cases i with
      | zero => omega
      | succ i =>
        rcases (h (i + 1) hi).2 with h1 | h1
        · omega
        · exact h1.2
  · intro h
    refine ⟨⟨hn, fun i hi => ⟨(h i hi).1, ?_⟩⟩, (h 0 hn).2.1⟩
    cases i with
    | zero => exact Or.inl rfl
    | succ i =>
      have h1 : fx L i 0 < fx L (i + 1) 0 := (h (i + 1) hi).2.1
      have h2 : fx L (i + 1) 0 - fx L i 0 ≤ gap := (h (i + 1) hi).2.2 (by omega)
      refine Or.inr ⟨?_, ?_⟩
      · show 1 ≤ fx L (i + 1) 0 - fx L i 0
        omega
      · show fx L (i + 1) 0 - fx L i 0 ≤ gap
        omega

def RiR (L : List Int) (e0 gap : Int) (n : Nat) (W0 : World) (ev iv : Value) (wr : World) : Prop :=
  ∃ k : Nat, k ≤ n ∧ iv = .int .i64 (k : Int) ∧ ev = .int .i64 (lastI L e0 k) ∧ Hid (∀ j, j < k → okAt L e0 gap j) ∧ Below W0.heap.size W0 wr

set_option maxRecDepth 100000 in
set_option maxHeartbeats 2000000 in
theorem refValidTrack_any (Ps : List (Nat × List Int)) (g s a rt : Int) (A : Option Addr) (n c B : Nat) (w : World) (hx : PW w B (.slice A n c) Ps) (hB : B ≤ w.heap.size) :
    Calls Try.prog 39 #[.agg #[.slice A n c], .agg #[.int .i64 g, .int .i64 s, .int .i64 a, .int .i64 rt]] w (RetB w (decide (VT Ps g s a rt))) := by
  obtain ⟨W0, HW0, HW, HG, HG'⟩ := boxes2 w #[.slice A n c] #[.int .i64 g, .int .i64 s, .int .i64 a, .int .i64 rt] 63 35
  have hcap := hx.len.2
  have HLN := Lib.hid hx.len.1
  unfold maxLen at hcap
  have HX := Lib.hid (hx.below (HW.out.mono hB))
  have hBW : B ≤ W0.heap.size := by have := HW.out.size; omega
  obtain ⟨r, hr⟩ : ∃ r, decide (VT Ps g s a rt) = r := ⟨_, rfl⟩
  have HR := Lib.hid hr
  rw [hr]
  clear hx hr
  go_enter Try.func39, Try.ntmps39
  go_wp2_with fail
  rw [← HW0.out]
  refine (refValidRules_any g s a rt _).mono ?_
  rintro en w1 ⟨rfl, hb1⟩
  have HB1 := Lib.hid hb1
  clear hb1
  by_cases hrl : okRules g s a rt
  · rw [decide_eq_true hrl]
    have HRL := Lib.hid hrl
    have t0 := blk_cell HG.out HB1.out 0 (.slice A n c) rfl
    clear hrl
    go_wp2
    go_loopw [5, 16] (fun ev iv wr => VtR Ps g n W0 ev iv wr) (fun _ iv _ => n - (numOf iv).toNat)
    case atStart => exact ⟨0, Nat.zero_le _, rfl, rfl, Lib.hid (fun j hj => absurd hj (by omega)), HB1.out⟩
    case round =>
      obtain ⟨wo, hwo⟩ : ∃ x, x = wr := ⟨_, rfl⟩
      subst hwo
      obtain ⟨k, hk, rfl, rfl, hall, hbr⟩ := hrel
      clear t0
      by_cases hlt : k < n
      · obtain ⟨b, o, rfl, hb, hc⟩ := HX.out.part (by omega)
        obtain ⟨Ai, ci, h1, h2⟩ := hc k hlt
        have hb0 : b < W0.heap.size := by omega
        have h1' := (hbr.cell (p := ⟨b, o + k, none⟩) hb0).trans h1
        have HI := Lib.hid (h2.belowM hbr hBW)
        have hBR : B ≤ wo.heap.size := by have := hbr.size; omega
        have HBR := Lib.hid hbr
        have hici := h2.cap'
        obtain ⟨ni, hni⟩ : ∃ x, pN Ps k = x := ⟨_, rfl⟩
        obtain ⟨Li, hLi⟩ : ∃ x, pL Ps k = x := ⟨_, rfl⟩
        obtain ⟨e0, he0⟩ : ∃ x, endB Ps k = x := ⟨_, rfl⟩
        rw [hni] at h1'
        rw [hni, hLi] at HI
        rw [hni] at hici
        rw [he0]
        unfold maxLen at hici
        have HNL := Lib.hid (And.intro hni (And.intro hLi he0))
        clear hc hbr h1 h2 hni hLi he0
        by_cases hn0 : ni = 0
        · have h0 : Hid (r = false) := by
            rw [← HR.out]
            refine decide_eq_false (fun h => ?_)
            have := (h.2 k (by have := HLN.out; omega)).1.1
            rw [HNL.out.1] at this
            omega
          have hz : ((ni : Int) == 0) = true := by rw [beq_iff_eq]; omega
          have HZ := Lib.hid hn0
          clear hn0
          go_wp2
          go_ret
          exact ⟨by rw [h0.out]; rfl, bel_ HW.out HBR.out⟩
        · have hz : ((ni : Int) == 0) = false := by rw [beq_eq_false_iff_ne]; omega
          have hnp : 0 < ni := by omega
          obtain ⟨bi, oi, rfl, hbi, hci⟩ := ir_ten HI.out hnp
          have HCI := Lib.hid hci
          have hbw : bi < wo.heap.size := by omega
          clear hci hn0
          go_wp2
          go_loopw [5, 25] (fun ev iv wr => RiR Li e0 g ni wo ev iv wr) (fun _ iv _ => ni - (numOf iv).toNat)
          case atStart => exact ⟨0, Nat.zero_le _, rfl, rfl, Lib.hid (fun j hj => absurd hj (by omega)), Below.refl _ _⟩
          case round =>
            obtain ⟨i, hi, rfl, rfl, hal2, hbi2⟩ := hrel
            clear h1'
            by_cases hli : i < ni
            · obtain ⟨a0, a1, a2, a3, a4, a5, a6, a7, a8, a9⟩ := (HCI.out i hli).below hbi2 hbw
              have HB2 := Lib.hid hbi2
              obtain ⟨lv, hlv⟩ : ∃ x, lastI Li e0 i = x := ⟨_, rfl⟩
              rw [hlv]
              have HLV := Lib.hid hlv
              clear hbi2 hlv
              go_wp2_with fail
              refine (refValidFixR Li i _).mono ?_
              rintro en w3 ⟨rfl, hb3⟩
              have c0 := (ten_new wr w3 Li i 33 hb3).c0
              have HB3 := Lib.hid (bel_ HB2.out (below_al hb3))
              have HB4 := Lib.hid (bel_ HBR.out HB3.out)
              have g0 := blk_cell HG'.out HB4.out 0 (.int .i64 g) rfl
              clear hb3 a0 a1 a2 a3 a4 a5 a6 a7 a8 a9
              by_cases hf : okF Li i
              · rw [decide_eq_true hf]
                have HF := Lib.hid hf
                have tb := hf.1
                clear hf
                by_cases hle : fx Li i 0 ≤ lv
                · have h0 : Hid (r = false) := by
                    rw [← HR.out]
                    refine decide_eq_false (fun h => ?_)
                    have h3 := h.2 k (by have := HLN.out; omega)
                    unfold okPart at h3
                    rw [HNL.out.1, HNL.out.2.1, HNL.out.2.2] at h3
                    have := ((okAt_iff Li e0 g ni hnp).1 h3 i hli).2.1
                    rw [HLV.out] at this
                    omega
                  go_wp2
                  go_ret
                  exact ⟨by rw [h0.out]; rfl, bel_ HW.out HB4.out⟩
                · have HLE := Lib.hid hle
                  rcases Nat.eq_zero_or_pos i with hi0 | hi0
                  · have HI0 := Lib.hid hi0
                    have hk1 : decide ((0 : Int) < (i : Int)) = false := by rw [decide_eq_false_iff_not]; omega
                    have hk2 : decide (0 < i) = false := by rw [decide_eq_false_iff_not]; omega
                    clear hi0
                    go_wp2
                    go_roundw
                    case rel => exact ⟨i + 1, by omega, by simp, rfl, Lib.hid (fun j hj => by
                      rcases Nat.lt_succ_iff_lt_or_eq.1 hj with h | rfl
                      · exact hal2.out j h
                      · exact ⟨HF.out, by rw [HLV.out]; have := HLE.out; omega, fun h => by have := HI0.out; omega⟩), HB3.out⟩
                    case measure => simp [numOf]; omega
                  · have hk1 : (0 : Int) < (i : Int) := by omega
                    have tb2 : 0 ≤ lv ∧ lv ≤ 1125899906842624 := by
                      have h := (hal2.out (i - 1) (by omega)).1.1
                      rw [← HLV.out]
                      have e : i = (i - 1) + 1 := by omega
                      rw [e]
                      exact h
                    by_cases hgp : g < fx Li i 0 - lv
                    · have h0 : Hid (r = false) := by
                        rw [← HR.out]
                        refine decide_eq_false (fun h => ?_)
                        have h3 := h.2 k (by have := HLN.out; omega)
                        unfold okPart at h3
                        rw [HNL.out.1, HNL.out.2.1, HNL.out.2.2] at h3
                        have := ((okAt_iff Li e0 g ni hnp).1 h3 i hli).2.2 hi0
                        rw [HLV.out] at this
                        omega
                      go_wp2
                      go_ret
                      exact ⟨by rw [h0.out]; rfl, bel_ HW.out HB4.out⟩
                    · have HGP := Lib.hid hgp
                      go_wp2
                      go_roundw
                      case rel => exact ⟨i + 1, by omega, by simp, rfl, Lib.hid (fun j hj => by
                        rcases Nat.lt_succ_iff_lt_or_eq.1 hj with h | rfl
                        · exact hal2.out j h
                        · exact ⟨HF.out, by rw [HLV.out]; have := HLE.out; omega, fun _ => by rw [HLV.out]; have := HGP.out; omega⟩), HB3.out⟩
                      case measure => simp [numOf]; omega
              · rw [decide_eq_false hf]
                have h0 : Hid (r = false) := by
                  rw [← HR.out]
                  refine decide_eq_false (fun h => hf ?_)
                  have h3 := h.2 k (by have := HLN.out; omega)
                  unfold okPart at h3
                  rw [HNL.out.1, HNL.out.2.1, HNL.out.2.2] at h3
                  exact ((okAt_iff Li e0 g ni hnp).1 h3 i hli).1
                clear hf
                go_wp2
                go_ret
                exact ⟨by rw [h0.out]; rfl, bel_ HW.out HB4.out⟩
            · obtain rfl : i = ni := by omega
              have HB2 := Lib.hid (bel_ HBR.out hbi2)
              obtain ⟨l, hl⟩ : ∃ l, i = l + 1 := ⟨i - 1, by omega⟩
              have HL := Lib.hid hl
              clear hbi2 hl
              go_wp2
              go_roundw
              case rel =>
                refine ⟨k + 1, by omega, by simp, ?_, Lib.hid (fun j hj => ?_), HB2.out⟩
                · show _ = Value.int .i64 (fx (pL Ps k) (pN Ps k - 1) 0)
                  rw [HNL.out.1, HNL.out.2.1, HL.out]
                  rfl
                · rcases Nat.lt_succ_iff_lt_or_eq.1 hj with h | rfl
                  · exact hall.out j h
                  · unfold okPart
                    rw [HNL.out.1, HNL.out.2.1, HNL.out.2.2]
                    exact (okAt_iff Li e0 g i hnp).2 hal2.out
              case measure => simp [numOf]; omega
      · obtain rfl : k = n := by omega
        have h0 : Hid (r = true) := by
          rw [← HR.out]
          exact decide_eq_true ⟨HRL.out, fun i hi => hall.out i (by have := HLN.out; omega)⟩
        have HBR := Lib.hid hbr
        clear hbr
        go_wp2
        go_ret
        exact ⟨by rw [h0.out]; rfl, bel_ HW.out HBR.out⟩
  · rw [decide_eq_false hrl]
    have h0 : Hid (r = false) := by
      rw [← HR.out]
      exact decide_eq_false (fun h => hrl h.1)
    clear hrl
    go_wp2
    go_ret
    exact ⟨by rw [h0.out]; rfl, bel_ HW.out HB1.out⟩
end Go.Proofs.Ytdmopmgabieciaa
