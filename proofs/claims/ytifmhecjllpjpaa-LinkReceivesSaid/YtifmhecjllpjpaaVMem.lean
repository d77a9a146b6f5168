/-
  Slices of numbers with a sign: what they read as.
-/
import Derived.Below
import Derived.Laws.OwnMore
import Derived.Deep.Draws
import Derived.Laws.Rows
import Derived.Lib.Hide
import Derived.WalkKit
import Derived.Test.YtifmhecjllpjpaaZPost
namespace Go.Proofs.Ytifmhecjllpjpaa
open Go.RowKit Go.WideShapes Go.ChangeShapes

/-- The number at an index. -/
def ith (zs : List Int) (j : Nat) : Int := zs.getD j 0
theorem ith_lt {zs : List Int} {j : Nat} (h : j < zs.length) : ith zs j = zs[j] := by simp [ith, h]
theorem ith_mem {zs : List Int} {j : Nat} (h : j < zs.length) : ith zs j ∈ zs := by rw [ith_lt h]; exact List.getElem_mem h

/-- The value is a slice that reads as the numbers zs, in a block below B. -/
def IW (w : World) (B : Nat) (v : Value) (zs : List Int) : Prop :=
  ∃ A c, v = .slice A zs.length c ∧ zs.length ≤ c ∧ c ≤ maxLen ∧
    (0 < zs.length → ∃ b o, A = some ⟨b, o, none⟩ ∧ b < B ∧ ∀ j, j < zs.length → w.cell? ⟨b, o + j, none⟩ = some (.int .i64 (ith zs j)))

section
variable {w w' : World} {B B' : Nat} {v : Value} {A : Option Addr} {n c : Nat} {xs : List Int}
theorem IW.len (h : IW w B (.slice A n c) xs) : n = xs.length := by
  obtain ⟨A', c', e, _⟩ := h
  injection e
theorem IW.cap (h : IW w B (.slice A n c) xs) : n ≤ c ∧ c ≤ maxLen := by
  obtain ⟨A', c', e, h1, h2, _⟩ := h
  injection e with e1 e2 e3
  subst e2 e3
  exact ⟨h1, h2⟩
theorem IW.at_ (h : IW w B (.slice A n c) xs) (hn : 0 < n) : ∃ b o, A = some ⟨b, o, none⟩ ∧ b < B ∧ ∀ j, j < n → w.cell? ⟨b, o + j, none⟩ = some (.int .i64 (ith xs j)) := by
  obtain ⟨A', c', e, h1, h2, h3⟩ := h
  injection e with e1 e2 e3
  subst e1 e2 e3
  exact h3 hn
theorem IW.mk (hl : n = xs.length) (h1 : n ≤ c) (h2 : c ≤ maxLen)
    (h3 : 0 < n → ∃ b o, A = some ⟨b, o, none⟩ ∧ b < B ∧ ∀ j, j < n → w.cell? ⟨b, o + j, none⟩ = some (.int .i64 (ith xs j))) : IW w B (.slice A n c) xs := by
  subst hl
  exact ⟨A, c, rfl, h1, h2, h3⟩
theorem IW.nil_ : IW w B (.slice none 0 0) [] := IW.mk rfl (Nat.le_refl _) (by simp [maxLen]) (fun h => absurd h (by omega))
theorem IW.keep (h : IW w B v xs) (hk : ∀ p : Addr, p.block < B → w'.cell? p = w.cell? p) : IW w' B v xs := by
  obtain ⟨A', c', e, h1, h2, h3⟩ := h
  refine ⟨A', c', e, h1, h2, fun hn => ?_⟩
  obtain ⟨b, o, ha, hb, hc⟩ := h3 hn
  exact ⟨b, o, ha, hb, fun j hj => (hk _ hb).trans (hc j hj)⟩
theorem IW.more (h : IW w B v xs) (hB : B ≤ B') : IW w B' v xs := by
  obtain ⟨A', c', e, h1, h2, h3⟩ := h
  refine ⟨A', c', e, h1, h2, fun hn => ?_⟩
  obtain ⟨b, o, ha, hb, hc⟩ := h3 hn
  exact ⟨b, o, ha, by omega, hc⟩
theorem IW.below (h : IW w B v xs) (hb : Below B w w') : IW w' B v xs := h.keep fun _ hp => hb.cell hp
theorem IW.belowM (h : IW w B v xs) (hb : Below B' w w') (hB : B ≤ B') : IW w' B v xs := h.keep fun _ hp => hb.cell (by omega)
theorem IW.drew (h : IW w B v xs) : IW w.drew B v xs := h
theorem IW.alloc (h : IW w B v xs) (hB : B ≤ w.heap.size) (o : Obj) : IW (w.alloc o) B v xs := h.keep fun p hp => World.cell?_alloc_lt w o p (by omega)
end

/-- Every number fits. -/
def AllI (L : List Int) : Prop := ∀ x ∈ L, -9223372036854775808 ≤ x ∧ x ≤ 9223372036854775807

theorem cellsI : Try.prog.cellsOf 3 = 1 := by kernel_rfl

set_option maxRecDepth 100000 in
theorem open_numbers_cs {H : Type} {enc : TypeId × Value → H} {W : World} {base fuel : Nat} {a0 : Option Addr} {n c : Nat} {x : DataW H × List MemPlace}
    (hf : DataW.trod enc Try.prog W base (fun _ => true) true fuel 59 [.slice a0 n c] = some x) :
    ∃ L, AllI L ∧ IW W W.heap.size (.slice a0 n c) L := by
  rcases open_ints Try.underlying59 Try.underlying3 cellsI hf with ⟨hcs, hx⟩ | ⟨a, len', cap', zs, hcs, _, hl, hm, hz, hx, hcell, hwz⟩
  · simp only [List.cons.injEq, and_true] at hcs
    rw [hcs]
    exact ⟨[], (by intro x h; cases h), IW.nil_⟩
  · simp only [List.cons.injEq, and_true] at hcs
    injection hcs with e1 e2 e3
    subst e1 e2 e3
    simp only [if_true] at hz
    refine ⟨zs.take n, ?_, IW.mk (by simp; omega) hl hm (fun h0 => ?_)⟩
    · intro y hy
      have := bounds_i64 (hwz y (List.mem_of_mem_take hy))
      omega
    · obtain ⟨b, off, rfl, hc⟩ := ints_at hcell (by omega)
      refine ⟨b, off, rfl, ?_, fun j hj => ?_⟩
      · have := hc 0 (by omega)
        exact World.block_lt_of_cell? _ _ this
      · rw [hc j (by omega)]
        have hjz : j < zs.length := by omega
        have hj2 : j < (zs.take n).length := by simp; omega
        rw [ith_lt hj2]
        simp [hjz]

set_option maxRecDepth 100000 in
/-- A slice of numbers that came in, opened. -/
theorem open_numbers {H : Type} {enc : TypeId × Value → H} {W : World} {b : Nat} {v : Value} {d : DataW H} {ps : List MemPlace}
    (hok : Value.okWide Try.prog W .any b 59 v) (h : DataW.Trod enc Try.prog W 0 (fun _ => true) true 59 v d ps) :
    ∃ A n c L, v = .slice A n c ∧ AllI L ∧ IW W W.heap.size (.slice A n c) L := by
  obtain ⟨a0, n, c, rfl⟩ := okWide_slice Try.underlying59 hok
  obtain ⟨fuel, hf⟩ := h
  obtain ⟨L, h1, h2⟩ := open_numbers_cs (by simpa [Value.cells] using hf)
  exact ⟨a0, n, c, L, rfl, h1, h2⟩

/-- Valid samples. -/
def okZ (zs : List Int) : Prop := zs.length ≤ 256 ∧ ∀ x ∈ zs, 0 ≤ x ∧ x ≤ 1023
instance (zs : List Int) : Decidable (okZ zs) := by unfold okZ; infer_instance
theorem okZ.ith {zs : List Int} (h : okZ zs) {j : Nat} (hj : j < zs.length) : 0 ≤ ith zs j ∧ ith zs j ≤ 1023 := h.2 _ (ith_mem hj)

theorem validSample_yes (x : Int) (h : 0 ≤ x ∧ x ≤ 1023) (w : World) :
    Calls Try.prog 110 #[.int .i64 x] w fun e w' => e = .returned (.bool true) ∧ w' = w := by
  have h1 := h.1
  have h2 := h.2
  go_enter Try.func110, Try.ntmps110
  go_wp2
  all_goals go_ret
  all_goals simp_all
theorem validSample_no (x : Int) (h : ¬ (0 ≤ x ∧ x ≤ 1023)) (w : World) :
    Calls Try.prog 110 #[.int .i64 x] w fun e w' => e = .returned (.bool false) ∧ w' = w := by
  go_enter Try.func110, Try.ntmps110
  go_wp2
  all_goals go_ret
  all_goals simp_all
theorem validSample_any (x : Int) (b : Bool) (hb : b = decide (0 ≤ x ∧ x ≤ 1023)) (w : World) :
    Calls Try.prog 110 #[.int .i64 x] w fun e w' => e = .returned (.bool b) ∧ w' = w := by
  subst hb
  by_cases h : 0 ≤ x ∧ x ≤ 1023
  · rw [decide_eq_true h]; exact validSample_yes x h w
  · rw [decide_eq_false h]; exact validSample_no x h w

def RetSame (w : World) (b : Bool) (e : Ending) (w' : World) : Prop := e = .returned (.bool b) ∧ w' = w

set_option maxRecDepth 100000 in
set_option maxHeartbeats 1000000 in
theorem validSamples_any (zs : List Int) (A : Option Addr) (n c B : Nat) (w : World) (hx : IW w B (.slice A n c) zs) :
    Calls Try.prog 78 #[.slice A n c] w (RetSame w (decide (okZ zs))) := by
  have hl := Lib.hid hx.len
  have hcap := hx.cap
  unfold maxLen at hcap
  rcases Nat.eq_zero_or_pos n with hn | hn
  · subst hn
    have hz : zs = [] := List.eq_nil_of_length_eq_zero hl.out.symm
    subst hz
    go_enter Try.func78, Try.ntmps78
    go_wp2
    go_loopw [10] (fun iv wr => iv = .int .i64 0 ∧ wr = w) (fun _ _ => 0)
    case atStart => exact ⟨rfl, rfl⟩
    case round =>
      obtain ⟨rfl, rfl⟩ := hrel
      go_wp2
      go_ret
      exact ⟨by simp [okZ], rfl⟩
  · obtain ⟨b, o, rfl, hb, hc⟩ := hx.at_ hn
    clear hx
    by_cases h256 : 256 < n
    · go_enter Try.func78, Try.ntmps78
      go_wp2
      go_ret
      have := hl.out
      have h2 : ¬ okZ zs := fun h => by have := h.1; omega
      exact ⟨by rw [decide_eq_false h2]; rfl, rfl⟩
    · go_enter Try.func78, Try.ntmps78
      go_wp2
      go_loopw [10] (fun iv wr => ∃ k : Nat, k ≤ n ∧ iv = .int .i64 (k : Int) ∧ Hid (∀ j, j < k → 0 ≤ ith zs j ∧ ith zs j ≤ 1023) ∧ wr = w) (fun iv _ => n - (intOf iv).toNat)
      case atStart => exact ⟨0, Nat.zero_le _, rfl, Lib.hid (fun j hj => absurd hj (by omega)), rfl⟩
      case round =>
        obtain ⟨k, hk, rfl, hall, rfl⟩ := hrel
        have hck := hc k
        by_cases hlt : k < n
        · have hck' := hck hlt
          by_cases hs : 0 ≤ ith zs k ∧ ith zs k ≤ 1023
          · have hS := validSample_yes (ith zs k) hs wr
            have HS := Lib.hid hs
            clear hs
            go_wp2_with (go_at_call 110; refine hS.mono ?_; rintro e w' ⟨rfl, rfl⟩)
            go_roundw
            case rel => exact ⟨k + 1, by omega, by simp, Lib.hid (fun j hj => by
              rcases Nat.lt_succ_iff_lt_or_eq.1 hj with h | rfl
              · exact hall.out j h
              · exact HS.out), by first | rfl | trivial⟩
            case measure => simp [intOf]; omega
          · have hS := validSample_no (ith zs k) hs wr
            have HS := Lib.hid hs
            clear hs
            go_wp2_with (go_at_call 110; refine hS.mono ?_; rintro e w' ⟨rfl, rfl⟩)
            go_ret
            refine ⟨?_, rfl⟩
            have : ¬ okZ zs := fun h => HS.out (h.ith (by have := hl.out; omega))
            rw [decide_eq_false this]; rfl
        · obtain rfl : k = n := by omega
          go_wp2
          go_ret
          refine ⟨?_, rfl⟩
          have : okZ zs := by
            refine ⟨by have := hl.out; omega, fun x hx => ?_⟩
            obtain ⟨j, hj, rfl⟩ := List.getElem_of_mem hx
            rw [← ith_lt hj]
            exact hall.out j (by have := hl.out; omega)
          rw [decide_eq_true this]; rfl
end Go.Proofs.Ytifmhecjllpjpaa
