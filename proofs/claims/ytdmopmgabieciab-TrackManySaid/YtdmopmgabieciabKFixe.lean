/-
  What is wrong with rules and fixes; Clean and Parts of fixes with which something is wrong, or of too many.
-/
import Derived.Test.YtdmopmgabieciabKRec
namespace Go.Proofs.Ytdmopmgabieciab
open Go.RowKit

def feE (L : List Int) (n : Nat) (g s a rt : Int) : Int := if okRules g s a rt then (if ∀ k, k < n → okF L k then 0 else 40) else 42
def RetI (w : World) (er : Int) (e : Ending) (w' : World) : Prop := e = .returned (.int .i64 er) ∧ Below w.heap.size w w'
def FeR (L : List Int) (n : Nat) (W0 : World) (iv : Value) (wr : World) : Prop :=
  ∃ k : Nat, k ≤ n ∧ iv = .int .i64 (k : Int) ∧ Hid (∀ j, j < k → okF L j) ∧ Below W0.heap.size W0 wr

set_option maxRecDepth 100000 in
set_option maxHeartbeats 1000000 in
theorem fixError_any (L : List Int) (g s a rt : Int) (A : Option Addr) (n c B : Nat) (w : World) (hx : IR w B 10 (.slice A n c) n L) (hB : B ≤ w.heap.size) (hn : 0 < n) (er : Int) (her : feE L n g s a rt = er) :
    Calls Try.prog 22 #[.agg #[.int .i64 g, .int .i64 s, .int .i64 a, .int .i64 rt], .slice A n c] w (RetI w er) := by
  have hcap := hx.cap'
  unfold maxLen at hcap
  obtain ⟨W0, HW0, HW, HG⟩ := boxes1 w #[.int .i64 g, .int .i64 s, .int .i64 a, .int .i64 rt] 29
  have HE := Lib.hid her
  clear her
  obtain ⟨b, o, rfl, hb, hc⟩ := ir_ten hx hn
  have HC := Lib.hid hc
  have hbw : b < w.heap.size := by omega
  clear hx hc
  go_enter Try.func22, Try.ntmps22
  go_wp2_with fail
  rw [← HW0.out]
  refine (validRules_any g s a rt _).mono ?_
  rintro e w1 ⟨rfl, hb1⟩
  have HB1 := Lib.hid hb1
  clear hb1
  by_cases hr : okRules g s a rt
  · rw [decide_eq_true hr]
    have HR := Lib.hid hr
    clear hr
    go_wp2
    go_loopw [12] (fun iv wr => FeR L n W0 iv wr) (fun iv _ => n - (numOf iv).toNat)
    case atStart => exact ⟨0, Nat.zero_le _, rfl, Lib.hid (fun j hj => absurd hj (by omega)), HB1.out⟩
    case round =>
      obtain ⟨k, hk, rfl, hall, hbr⟩ := hrel
      by_cases hlt : k < n
      · obtain ⟨a0, a1, a2, a3, a4, a5, a6, a7, a8, a9⟩ := (HC.out k hlt).below (bel_ HW.out hbr) hbw
        have HBR := Lib.hid hbr
        clear hbr
        go_wp2_with fail
        refine (validFixR L k _).mono ?_
        rintro e w2 ⟨rfl, hb2⟩
        have HB2 := Lib.hid (bel_ HBR.out (below_al hb2))
        clear hb2 a0 a1 a2 a3 a4 a5 a6 a7 a8 a9
        by_cases hf : okF L k
        · rw [decide_eq_true hf]
          have HF := Lib.hid hf
          clear hf
          go_wp2
          go_roundw
          case rel => exact ⟨k + 1, by omega, by simp, Lib.hid (fun j hj => by
            rcases Nat.lt_succ_iff_lt_or_eq.1 hj with h | rfl
            · exact hall.out j h
            · exact HF.out), HB2.out⟩
          case measure => simp [numOf]; omega
        · rw [decide_eq_false hf]
          have H40 : Hid (er = 40) := by
            rw [← HE.out]
            unfold feE
            rw [if_pos HR.out, if_neg (fun h => hf (h k hlt))]
            exact rfl
          clear hf
          go_wp2
          go_ret
          exact ⟨by rw [H40.out]; rfl, bel_ HW.out HB2.out⟩
      · obtain rfl : k = n := by omega
        have H0 : Hid (er = 0) := by
          rw [← HE.out]
          unfold feE
          rw [if_pos HR.out, if_pos hall.out]
          exact rfl
        have HBR := Lib.hid hbr
        clear hbr
        go_wp2
        go_ret
        exact ⟨by rw [H0.out]; rfl, bel_ HW.out HBR.out⟩
  · rw [decide_eq_false hr]
    have H42 : Hid (er = 42) := by
      rw [← HE.out]
      unfold feE
      rw [if_neg hr]
      exact rfl
    clear hr
    go_wp2
    go_ret
    exact ⟨by rw [H42.out]; rfl, bel_ HW.out HB1.out⟩

def RetCl (w : World) (er : Int) (e : Ending) (w' : World) : Prop := e = .returned (.tuple #[.slice none 0 0, .slice none 0 0, .int .i64 er]) ∧ Below w.heap.size w w'
def RetPt (w : World) (er : Int) (e : Ending) (w' : World) : Prop := e = .returned (.tuple #[.agg #[.slice none 0 0], .int .i64 er]) ∧ Below w.heap.size w w'

set_option maxRecDepth 100000 in
set_option maxHeartbeats 1000000 in
/-- Clean of fixes with which something is wrong, or of too many. -/
theorem clean_no (L : List Int) (g s a rt : Int) (A : Option Addr) (n c B : Nat) (w : World) (hx : IR w B 10 (.slice A n c) n L) (hB : B ≤ w.heap.size) (hn : 4096 < n) (er fe : Int) (hfe : feE L n g s a rt = fe) (her : (fe = 0 ∧ er = 2) ∨ (fe ≠ 0 ∧ er = fe)) :
    Calls Try.prog 8 #[.slice A n c, .agg #[.int .i64 g, .int .i64 s, .int .i64 a, .int .i64 rt]] w (RetCl w er) := by
  obtain ⟨W0, HW0, HW, HG⟩ := boxes1 w #[.int .i64 g, .int .i64 s, .int .i64 a, .int .i64 rt] 29
  have HX := Lib.hid (hx.belowM HW.out hB)
  have HBW := Lib.hid (Nat.le_trans hB HW.out.size)
  have HF := Lib.hid hfe
  have hn1 : (4096 : Int) < (n : Int) := by omega
  clear hx hfe
  go_enter Try.func8, Try.ntmps8
  go_wp2_with fail
  rw [← HW0.out]
  refine (fixError_any L g s a rt A n c B _ HX.out HBW.out (by omega) fe HF.out).mono ?_
  rintro e w1 ⟨rfl, hb1⟩
  have HB1 := Lib.hid hb1
  clear hb1
  rcases her with ⟨rfl, rfl⟩ | ⟨h1, rfl⟩
  · go_wp2
    go_ret3
    exact ⟨rfl, bel_ HW.out HB1.out⟩
  · have h2 : (er != 0) = true := by rw [bne_iff_ne]; exact h1
    have H1 := Lib.hid h1
    clear h1
    go_wp2
    go_ret3
    exact ⟨rfl, bel_ HW.out HB1.out⟩

set_option maxRecDepth 100000 in
set_option maxHeartbeats 1000000 in
/-- Parts of fixes with which something is wrong, or of too many. -/
theorem parts_no (L : List Int) (g s a rt : Int) (A : Option Addr) (n c B : Nat) (w : World) (hx : IR w B 10 (.slice A n c) n L) (hB : B ≤ w.heap.size) (hn : 4096 < n) (er fe : Int) (hfe : feE L n g s a rt = fe) (her : (fe = 0 ∧ er = 2) ∨ (fe ≠ 0 ∧ er = fe)) :
    Calls Try.prog 9 #[.slice A n c, .agg #[.int .i64 g, .int .i64 s, .int .i64 a, .int .i64 rt]] w (RetPt w er) := by
  obtain ⟨W0, HW0, HW, HG, HG'⟩ := boxes2 w #[.int .i64 g, .int .i64 s, .int .i64 a, .int .i64 rt] #[.slice none 0 0] 29 37
  have HX := Lib.hid (hx.belowM HW.out hB)
  have HBW := Lib.hid (Nat.le_trans hB HW.out.size)
  have HF := Lib.hid hfe
  have hn1 : (4096 : Int) < (n : Int) := by omega
  clear hx hfe
  go_enter Try.func9, Try.ntmps9
  go_wp2_with fail
  rw [← HW0.out]
  refine (fixError_any L g s a rt A n c B _ HX.out HBW.out (by omega) fe HF.out).mono ?_
  rintro e w1 ⟨rfl, hb1⟩
  have d0 := blk_cell HG'.out hb1 0 (.slice none 0 0) rfl
  have df := blk_frozen HG'.out hb1
  have HB1 := Lib.hid hb1
  clear hb1
  rcases her with ⟨rfl, rfl⟩ | ⟨h1, rfl⟩
  · go_wp2
    refine bodyPost_ret (v := .tuple #[.agg #[.slice none 0 0], .int .i64 2]) (by simp [results, Try.results9, go_sem, d0]) rfl ⟨rfl, ?_⟩
    exact Below.setCell (p := ⟨w.heap.size + 1, 0, none⟩) (bel_ HW.out HB1.out) (by show w.heap.size ≤ w.heap.size + 1; omega) _
  · have h2 : (er != 0) = true := by rw [bne_iff_ne]; exact h1
    have H1 := Lib.hid h1
    clear h1
    go_wp2
    refine bodyPost_ret (v := .tuple #[.agg #[.slice none 0 0], .int .i64 er]) (by simp [results, Try.results9, go_sem, d0]) rfl ⟨rfl, ?_⟩
    exact Below.setCell (p := ⟨w.heap.size + 1, 0, none⟩) (bel_ HW.out HB1.out) (by show w.heap.size ≤ w.heap.size + 1; omega) _
end Go.Proofs.Ytdmopmgabieciab
