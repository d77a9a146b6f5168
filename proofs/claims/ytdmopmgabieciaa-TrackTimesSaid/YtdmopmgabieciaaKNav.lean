/-
  Clocks that are valid; the clock for a time: the code's.
-/
import Derived.Test.YtdmopmgabieciaaKPlus
import Derived.Test.YtdmopmgabieciaaKHold
namespace Go.Proofs.Ytdmopmgabieciaa
open Go.RowKit

def cF (L : List Int) (k : Nat) : Int := ith L (k * 3)
def cL (L : List Int) (k : Nat) : Int := ith L (k * 3 + 1)
def cH (L : List Int) (k : Nat) : Int := ith L (k * 3 + 2)
def prv (L : List Int) : Nat → Int
  | 0 => 0
  | k + 1 => cF L k
def okC (L : List Int) (j : Nat) : Prop := okS (cL L j) (cH L j) ∧ prv L j ≤ cF L j
instance (L : List Int) (j : Nat) : Decidable (okC L j) := by unfold okC; infer_instance
/-- Clocks that are valid. -/
def VC (L : List Int) (n : Nat) : Prop := 0 < n ∧ ∀ j, j < n → okC L j
instance (L : List Int) (n : Nat) : Decidable (VC L n) := by unfold VC; infer_instance
/-- The clock for a time. -/
def selC (L : List Int) (scan : Int) : Nat → Nat
  | 0 => 0
  | k + 1 => if cF L k ≤ scan then k else selC L scan k
theorem selC_lt (L : List Int) (scan : Int) : ∀ n, 0 < n → selC L scan n < n
  | 0, h => absurd h (by omega)
  | 1, _ => by simp [selC]
  | n + 2, _ => by
    have := selC_lt L scan (n + 1) (by omega)
    unfold selC
    split <;> omega

def R3 (wr : World) (b o k : Nat) (L : List Int) : Prop := wr.cell? ⟨b, o + k * 3, none⟩ = some (.int .i64 (cF L k)) ∧ wr.cell? ⟨b, o + k * 3 + 1, none⟩ = some (.int .i64 (cL L k)) ∧ wr.cell? ⟨b, o + k * 3 + 2, none⟩ = some (.int .i64 (cH L k))
theorem ir_three {w : World} {B n c : Nat} {A : Option Addr} {L : List Int} (h : IR w B 3 (.slice A n c) n L) (hn : 0 < n) : ∃ b o, A = some ⟨b, o, none⟩ ∧ b < B ∧ ∀ k, k < n → R3 w b o k L := by
  obtain ⟨A', c', e, h0, h1, h2, h3⟩ := h
  injection e with e1 e2 e3
  subst e1 e3
  obtain ⟨b, o, ha, hb, hc⟩ := h3 hn
  refine ⟨b, o, ha, hb, fun k hk => ⟨?_, ?_, ?_⟩⟩
  · exact hc (k * 3) (by omega)
  · rw [Nat.add_assoc]; exact hc (k * 3 + 1) (by omega)
  · rw [Nat.add_assoc]; exact hc (k * 3 + 2) (by omega)
theorem IR.cap {w : World} {B n c : Nat} {A : Option Addr} {L : List Int} (h : IR w B 3 (.slice A n c) n L) : n ≤ c ∧ c ≤ maxLen := by
  obtain ⟨A', c', e, h0, h1, h2, h3⟩ := h
  injection e with e1 e2 e3
  subst e3
  exact ⟨h1, h2⟩
theorem R3.below {w wr : World} {b o k B : Nat} {L : List Int} (h : R3 w b o k L) (hb : Below B w wr) (hB : b < B) : R3 wr b o k L :=
  ⟨(hb.cell (p := ⟨b, o + k * 3, none⟩) hB).trans h.1, (hb.cell (p := ⟨b, o + k * 3 + 1, none⟩) hB).trans h.2.1, (hb.cell (p := ⟨b, o + k * 3 + 2, none⟩) hB).trans h.2.2⟩

theorem tri_cells {W0 w1 : World} {g : Nat} {a b c : Value} {T : TypeId} (hG : W0.heap[g]? = some (.cells #[a, b, c] T (0, 0))) (h : Below W0.heap.size W0 w1) :
    w1.cell? ⟨g, 0, none⟩ = some a ∧ w1.cell? ⟨g, 1, none⟩ = some b ∧ w1.cell? ⟨g, 2, none⟩ = some c :=
  ⟨blk_cell hG h 0 a rfl, blk_cell hG h 1 b rfl, blk_cell hG h 2 c rfl⟩

def numOfN (v : Value) : Int := match v with | .int _ n => n | _ => 0
def VcR (L : List Int) (n : Nat) (w : World) (fv iv : Value) (wr : World) : Prop :=
  ∃ k : Nat, k ≤ n ∧ iv = .int .i64 (k : Int) ∧ fv = .int .i64 (prv L k) ∧ Hid (∀ j, j < k → okC L j) ∧ Below w.heap.size w wr

set_option maxRecDepth 100000 in
set_option maxHeartbeats 2000000 in
theorem validClocks_any (L : List Int) (A : Option Addr) (n c B : Nat) (w : World) (hx : IR w B 3 (.slice A n c) n L) (hB : B ≤ w.heap.size) :
    Calls Try.prog 93 #[.slice A n c] w (RetB w (decide (VC L n))) := by
  have hcap := hx.cap
  unfold maxLen at hcap
  have hBl := Lib.hid (Below.refl w.heap.size w)
  obtain ⟨r, hr⟩ : ∃ r, decide (VC L n) = r := ⟨_, rfl⟩
  have HR := Lib.hid hr
  rw [hr]
  clear hr
  rcases Nat.eq_zero_or_pos n with hn | hn
  · subst hn
    have h0 : r = false := by rw [← HR.out]; exact decide_eq_false (fun h => absurd h.1 (by omega))
    subst h0
    go_enter Try.func93, Try.ntmps93
    go_wp2
    go_loopw [3, 8] (fun fv iv wr => iv = .int .i64 0 ∧ fv = .int .i64 0 ∧ wr = w) (fun _ _ _ => 0)
    case atStart => exact ⟨rfl, rfl, rfl⟩
    case round =>
      obtain ⟨rfl, rfl, rfl⟩ := hrel
      go_wp2
      go_ret
      exact ⟨rfl, hBl.out⟩
  · obtain ⟨b, o, rfl, hb, hc⟩ := ir_three hx hn
    have HC := Lib.hid hc
    have hbw : b < w.heap.size := by omega
    clear hx hc
    go_enter Try.func93, Try.ntmps93
    go_wp2
    go_loopw [3, 8] (fun fv iv wr => VcR L n w fv iv wr) (fun _ iv _ => n - (numOfN iv).toNat)
    case atStart => exact ⟨0, Nat.zero_le _, rfl, rfl, Lib.hid (fun j hj => absurd hj (by omega)), Below.refl _ _⟩
    case round =>
      obtain ⟨k, hk, rfl, rfl, hall, hbr⟩ := hrel
      by_cases hlt : k < n
      · obtain ⟨a0, a1, a2⟩ := (HC.out k hlt).below hbr hbw
        have HBR := Lib.hid hbr
        clear hbr
        by_cases h1 : cF L k < prv L k
        · have h0 : Hid (r = false) := by
            rw [← HR.out]; exact decide_eq_false (fun h => by have := (h.2 k hlt).2; omega)
          go_wp2
          go_ret
          exact ⟨by rw [h0.out]; rfl, HBR.out.alloc HBR.out.size _⟩
        · have H1 := Lib.hid h1
          go_wp2_with fail
          refine (valid_any (cL L k) (cH L k) _).mono ?_
          rintro e w1 ⟨rfl, hb1⟩
          obtain ⟨u0, u1, u2⟩ := tri_cells (heap_alloc_new wr _) hb1
          have HB1 := Lib.hid (bel_ HBR.out (below_al hb1))
          clear hb1 a0 a1 a2
          by_cases h2 : okS (cL L k) (cH L k)
          · rw [decide_eq_true h2]
            have H2 := Lib.hid h2
            clear h2
            go_wp2
            go_roundw
            case rel => exact ⟨k + 1, by omega, by simp, rfl, Lib.hid (fun j hj => by
              rcases Nat.lt_succ_iff_lt_or_eq.1 hj with h | rfl
              · exact hall.out j h
              · exact ⟨H2.out, by have := H1.out; omega⟩), HB1.out⟩
            case measure => simp [numOfN]; omega
          · rw [decide_eq_false h2]
            have h0 : Hid (r = false) := by
              rw [← HR.out]; exact decide_eq_false (fun h => h2 (h.2 k hlt).1)
            clear h2
            go_wp2
            go_ret
            exact ⟨by rw [h0.out]; rfl, HB1.out⟩
      · obtain rfl : k = n := by omega
        have h0 : Hid (r = true) := by
          rw [← HR.out]; exact decide_eq_true ⟨hn, hall.out⟩
        have HBR := Lib.hid hbr
        clear hbr
        go_wp2
        go_ret
        exact ⟨by rw [h0.out]; simp [hn], HBR.out⟩
end Go.Proofs.Ytdmopmgabieciaa
