/-
  NavTime, the document's.
-/
import Derived.Test.YtdmopmgabieciaaKNavt
namespace Go.Proofs.Ytdmopmgabieciaa
open Go.RowKit

def VcR2 (L : List Int) (n : Nat) (W0 : World) (fv iv : Value) (wr : World) : Prop :=
  ∃ k : Nat, k ≤ n ∧ iv = .int .i64 (k : Int) ∧ fv = .int .i64 (prv L k) ∧ Hid (∀ j, j < k → okC L j) ∧ Below W0.heap.size W0 wr

set_option maxRecDepth 100000 in
set_option maxHeartbeats 4000000 in
theorem refNavTime_any (L : List Int) (scan lo hi er : Int) (A : Option Addr) (n c B : Nat) (w : World) (hx : IR w B 3 (.slice A n c) n L) (hB : B ≤ w.heap.size) (hr : NavR L n scan lo hi er) :
    Calls Try.prog 48 #[.slice A n c, .int .i64 scan] w (RetSE w lo hi er) := by
  have hcap := hx.cap
  unfold maxLen at hcap
  have HX := Lib.hid hx
  have HR := Lib.hid hr
  obtain ⟨W0, HW0, HW, HG⟩ := boxes1 w #[.int .i64 0, .int .i64 0] 23
  obtain ⟨d0, d1⟩ := xy_cells HG.out (Below.refl _ _)
  have df := blk_frozen HG.out (Below.refl _ _)
  clear hr hx
  rcases Nat.eq_zero_or_pos n with hn | hn
  · subst hn
    have HE := Lib.hid (HR.out.e45 (fun h => absurd h.1 (by omega)))
    go_enter Try.func48, Try.ntmps48
    go_wp2_with fail
    refine bodyPost_ret (v := .tuple #[.agg #[.int .i64 0, .int .i64 0], .int .i64 45]) (by simp [results, Try.results48, go_sem]) rfl ⟨by rw [HE.out.1, HE.out.2.1, HE.out.2.2], ?_⟩
    repeat (refine Below.alloc ?_ (by simp <;> omega) _)
    exact Below.refl _ _
  · obtain ⟨b, o, rfl, hb, hc⟩ := ir_three HX.out hn
    have HC := Lib.hid hc
    have hbw : b < w.heap.size := by omega
    have hn0 : ((n : Int) == 0) = false := by rw [beq_eq_false_iff_ne]; omega
    clear hc
    go_enter Try.func48, Try.ntmps48
    go_wp2
    rw [← HW0.out]
    go_loopw [6, 19] (fun fv iv wr => VcR2 L n W0 fv iv wr) (fun _ iv _ => n - (numOfN iv).toNat)
    case atStart => exact ⟨0, Nat.zero_le _, rfl, rfl, Lib.hid (fun j hj => absurd hj (by omega)), Below.refl _ _⟩
    case round =>
      obtain ⟨k, hk, rfl, rfl, hall, hbr⟩ := hrel
      clear d0 d1 df
      by_cases hlt : k < n
      · obtain ⟨a0, a1, a2⟩ := (HC.out k hlt).below (bel_ HW.out hbr) hbw
        have HBR := Lib.hid hbr
        clear hbr
        go_wp2_with fail
        refine (refValid_any (cL L k) (cH L k) _).mono ?_
        rintro e w1 ⟨rfl, hb1⟩
        obtain ⟨u0, u1, u2⟩ := tri_cells (heap_alloc_new wr _) hb1
        have HB1 := Lib.hid (bel_ HBR.out (below_al hb1))
        clear hb1 a0 a1 a2
        obtain ⟨d0, d1⟩ := xy_cells HG.out HB1.out
        have df := blk_frozen HG.out HB1.out
        by_cases h2 : okS (cL L k) (cH L k)
        · rw [decide_eq_true h2]
          have H2 := Lib.hid h2
          clear h2
          by_cases h1 : cF L k < prv L k
          · have HE := Lib.hid (HR.out.e45 (fun h => by have := (h.2 k hlt).2; omega))
            go_wp2
            refine bodyPost_ret (v := .tuple #[.agg #[.int .i64 0, .int .i64 0], .int .i64 45]) (by simp [results, Try.results48, go_sem, d0, d1]) rfl ⟨by rw [HE.out.1, HE.out.2.1, HE.out.2.2], ?_⟩
            exact below_s2 (bel_ HW.out HB1.out) (Nat.le_refl _) _ _
          · have H1 := Lib.hid h1
            go_wp2
            go_roundw
            case rel => exact ⟨k + 1, by omega, by simp, rfl, Lib.hid (fun j hj => by
              rcases Nat.lt_succ_iff_lt_or_eq.1 hj with h | rfl
              · exact hall.out j h
              · exact ⟨H2.out, by have := H1.out; omega⟩), HB1.out⟩
            case measure => simp [numOfN]; omega
        · rw [decide_eq_false h2]
          have HE := Lib.hid (HR.out.e45 (fun h => h2 (h.2 k hlt).1))
          clear h2
          go_wp2
          refine bodyPost_ret (v := .tuple #[.agg #[.int .i64 0, .int .i64 0], .int .i64 45]) (by simp [results, Try.results48, go_sem, d0, d1]) rfl ⟨by rw [HE.out.1, HE.out.2.1, HE.out.2.2], ?_⟩
          exact below_s2 (bel_ HW.out HB1.out) (Nat.le_refl _) _ _
      · obtain rfl : k = n := by omega
        have HV : Hid (VC L k) := ⟨hn, hall.out⟩
        have HBR := Lib.hid hbr
        clear hbr
        go_wp2_with fail
        refine (from_any 0 scan 1125899906842624 _).mono ?_
        rintro e w2 ⟨rfl, hb2⟩
        have HB2 := Lib.hid (bel_ HBR.out hb2)
        clear hb2
        obtain ⟨d0, d1⟩ := xy_cells HG.out HB2.out
        have df := blk_frozen HG.out HB2.out
        by_cases hs : 0 ≤ scan ∧ scan ≤ 1125899906842624
        · rw [decide_eq_true hs]
          have HS := Lib.hid hs
          have hs1 := hs.1
          have hs2 := hs.2
          clear hs
          have HBW2 := Lib.hid (bel_ HW.out HB2.out)
          obtain ⟨a0, a1, a2⟩ := (HC.out 0 hn).below HBW2.out hbw
          rw [Nat.zero_mul, Nat.add_zero] at a0 a1 a2
          have hg0 : w.heap.size < w2.heap.size := by have := HB2.out.size; have := (Array.getElem?_eq_some_iff.1 HG.out).1; omega
          have hbw2 : b < w2.heap.size := by omega
          go_wp2
          go_loopw [46] (fun iv wr => NvR L scan k w2.heap.size w2 iv wr) (fun iv _ => k - (numOfN iv).toNat)
          case atStart => exact ⟨0, Nat.zero_le _, rfl, Lib.hid (OS3.new w2 _ _ _ _), (Below.refl _ _).alloc (Nat.le_refl _) _⟩
          case round =>
            obtain ⟨wo, hwo⟩ : ∃ x, x = wr := ⟨_, rfl⟩
            subst hwo
            obtain ⟨i, hi', rfl, hos, hbr⟩ := hrel
            clear a0 a1 a2 d0 d1 df
            by_cases hlt' : i < k
            · obtain ⟨a0, a1, a2⟩ := (HC.out i hlt').below (HBW2.out.trans (hbr.mono HBW2.out.size)) hbw
              have HBI := Lib.hid hbr
              have hgr : w2.heap.size < wo.heap.size := hos.out.lt
              clear hbr
              obtain ⟨⟨o0, o1, o2⟩, of⟩ := hos.out
              by_cases h1 : cF L i ≤ scan
              · have e1 := Lib.hid (selC_yes h1)
                go_wp2
                go_roundw
                case rel =>
                  refine ⟨i + 1, by omega, by simp, ?_, ?_⟩
                  · rw [e1.out]
                    exact (hos.out.set (cF L i) (cL L i) (cH L i)).alloc _
                  · exact (below_s3 HBI.out (Nat.le_refl _) _ _ _).alloc (by simpa using HBI.out.size) _
                case measure => simp [numOfN]; omega
              · have e1 := Lib.hid (selC_no h1)
                go_wp2
                go_roundw
                case rel =>
                  refine ⟨i + 1, by omega, by simp, ?_, ?_⟩
                  · rw [e1.out]
                    exact hos.out.alloc _
                  · exact HBI.out.alloc HBI.out.size _
                case measure => simp [numOfN]; omega
            · obtain rfl : i = k := by omega
              obtain ⟨s, hsel⟩ : ∃ s, selC L scan i = s := ⟨_, rfl⟩
              have hsk : s < i := by rw [← hsel]; exact selC_lt L scan i hn
              rw [hsel] at hos
              have HSEL := Lib.hid hsel
              have hokS := (HV.out.2 s hsk).1
              obtain ⟨lo', hlo'⟩ : ∃ x, cL L s = x := ⟨_, rfl⟩
              obtain ⟨hi', hhi'⟩ : ∃ x, cH L s = x := ⟨_, rfl⟩
              obtain ⟨fr', hfr'⟩ : ∃ x, cF L s = x := ⟨_, rfl⟩
              rw [hlo', hhi', hfr'] at hos
              rw [hlo', hhi'] at hokS
              obtain ⟨k1, k2, k3⟩ := hokS
              have HLET := Lib.hid (And.intro hlo' hhi')
              have HBI := Lib.hid hbr
              have HB7 := Lib.hid (bel_ HB2.out hbr)
              have hgr : w2.heap.size < wo.heap.size := hos.out.lt
              have hgw : w.heap.size < wo.heap.size := by omega
              clear hbr hlo' hhi' hfr' hsel
              obtain ⟨⟨o0, o1, o2⟩, of⟩ := hos.out
              obtain ⟨d0, d1⟩ := xy_cells HG.out HB7.out
              have df := blk_frozen HG.out HB7.out
              by_cases hneg : scan + lo' < 0
              · have HE := Lib.hid (HR.out.e3 HV.out HS.out (by rw [HSEL.out, HLET.out.1, HLET.out.2]; omega))
                go_wp2
                refine bodyPost_ret (v := .tuple #[.agg #[.int .i64 0, .int .i64 0], .int .i64 3]) (by simp [results, Try.results48, go_sem, d0, d1, hgw]) rfl ⟨by rw [HE.out.1, HE.out.2.1, HE.out.2.2], ?_⟩
                exact (below_s2 (bel_ HW.out HB7.out) (Nat.le_refl _) _ _).alloc (by simpa using (bel_ HW.out HB7.out).size) _
              · by_cases hbig : 1125899906842624 < scan + hi'
                · have HE := Lib.hid (HR.out.e3 HV.out HS.out (by rw [HSEL.out, HLET.out.1, HLET.out.2]; omega))
                  go_wp2
                  refine bodyPost_ret (v := .tuple #[.agg #[.int .i64 0, .int .i64 0], .int .i64 3]) (by simp [results, Try.results48, go_sem, d0, d1, hgw]) rfl ⟨by rw [HE.out.1, HE.out.2.1, HE.out.2.2], ?_⟩
                  exact (below_s2 (bel_ HW.out HB7.out) (Nat.le_refl _) _ _).alloc (by simpa using (bel_ HW.out HB7.out).size) _
                · have HE := Lib.hid (HR.out.e0 HV.out HS.out (by rw [HSEL.out, HLET.out.1, HLET.out.2]; omega))
                  have HE2 : Hid (lo = scan + lo' ∧ hi = scan + hi' ∧ er = 0) := by
                    have h := HE.out
                    rw [HSEL.out, HLET.out.1, HLET.out.2] at h
                    exact h
                  go_wp2
                  refine bodyPost_ret (v := .tuple #[.agg #[.int .i64 (scan + lo'), .int .i64 (scan + hi')], .int .i64 0]) (by simp [results, Try.results48, go_sem, d0, d1, hgw]) rfl ⟨by rw [HE2.out.1, HE2.out.2.1, HE2.out.2.2], ?_⟩
                  exact (below_s2 (bel_ HW.out HB7.out) (Nat.le_refl _) _ _).alloc (by simpa using (bel_ HW.out HB7.out).size) _
        · rw [decide_eq_false hs]
          have HE := Lib.hid (HR.out.e2 HV.out hs)
          clear hs
          go_wp2
          refine bodyPost_ret (v := .tuple #[.agg #[.int .i64 0, .int .i64 0], .int .i64 2]) (by simp [results, Try.results48, go_sem, d0, d1]) rfl ⟨by rw [HE.out.1, HE.out.2.1, HE.out.2.2], ?_⟩
          exact below_s2 (bel_ HW.out HB2.out) (Nat.le_refl _) _ _
end Go.Proofs.Ytdmopmgabieciaa
