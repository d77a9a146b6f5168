/-
  The program's receiver: Copy.
  A list of slices of bytes that came in; long.
-/
import Derived.Test.YtkakbeiehggkiaaH08
import Derived.Test.YtkakbeiehggkiaaH12
import Derived.Test.YtkakbeiehggkiaaH07
namespace Go.Proofs.Ytkakbeiehggkiaa
open Go.RowKit Go.Maps
attribute [local go_sem ↓] Go.wp_at_zero Go.wp_at_succ

/-- What was copied: the keys that are no longer to come. -/
def goneF (F : Hf) (L : Int → Bool) : Hf := fun k => if L k = true then none else F k
theorem goneF_start {F : Hf} {L : Int → Bool} (h : ∀ k, F k ≠ none → L k = true) : goneF F L = fun _ => none := by
  funext k
  unfold goneF
  cases e : F k with
  | none => simp
  | some x => rw [if_pos (h k (by simp [e]))]
theorem goneF_end {F : Hf} {L : Int → Bool} (h : ∀ k, L k = false) : goneF F L = F := by
  funext k
  unfold goneF
  rw [h k]
  rfl
theorem goneF_step {F : Hf} {L : Int → Bool} {x : Int} {y : List Nat × Bool} (h : F x = some y) : goneF F (fun k => if k = x then false else L k) = fun k => if k = x then some y else goneF F L k := by
  funext k
  unfold goneF
  by_cases e : k = x
  · subst e
    simp [h]
  · simp [e]

/-- The receiver's fields and its map, copied so far. -/
def CpR (w : World) (g cb r mb N : Nat) (st win nx : Int) (F : Hf) (f : Int → Option Value) (wr : World) : Prop :=
  ∃ (L : Int → Bool) (cnt m : Nat) (f' : Int → Option Value), RngF Try.prog 3 wr mb r N f L cnt ∧ m + cnt ≤ N ∧ Hid (MapF Try.prog 3 wr cb m f') ∧ Hid (FH wr f' (goneF F L)) ∧
    Hid (wr.heap[g]? = some (.cells #[.int .i64 st, .int .i64 win, .int .i64 nx, .map (some cb)] 89 (0, 0))) ∧ Below w.heap.size w wr

def RetCopy (w : World) (N : Nat) (st win nx : Int) (F : Hf) (e : Ending) (w' : World) : Prop :=
  ∃ g cb, e = .returned (.pointer (some ⟨g, 0, none⟩)) ∧ Rcv w' g cb N st win nx F ∧ w.heap.size ≤ g ∧ w.heap.size ≤ cb ∧ Below w.heap.size w w'

theorem nob_far {w : World} {S : Nat → Prop} (h : ∀ k, S k → w.heap.size ≤ k) : NoB w S := fun k cs fr hk hs => by
  have h1 := h k hs
  have h2 := (Array.getElem?_eq_some_iff.1 hk).1
  omega

theorem run_makeMap_hint (n : Nat) (w : World) : (Instr.makeMap 87 (some (.int .i64 (n : Int)))).run Try.prog w = .ok (.map (some w.heap.size)) (w.alloc (.map #[] 0)) := by
  simp [Instr.makeMap, run_underlying uM, asInt, asIntOf, Result.andThen]

set_option maxRecDepth 100000 in
set_option maxHeartbeats 2000000 in
theorem copy_any (g mb N : Nat) (st win nx : Int) (F : Hf) (w : World) (h : Rcv w g mb N st win nx F) (hN : N ≤ 1024) (hw : 1 ≤ win) (hX : ∀ k y, F k = some y → y.1.length ≤ 1048576) :
    Calls Try.prog 19 #[.pointer (some ⟨g, 0, none⟩)] w (RetCopy w N st win nx F) := by
  obtain ⟨c0, c1, c2, c3, cf⟩ := rcv_cells h
  have HNL := Lib.hid (none_live g win w c1 (by omega))
  have hap := rcv_apart h
  have hmm := run_makeMap_hint N
  obtain ⟨hR1, f, hM, hH⟩ := id h
  have hlen := fun (o : Obj) ty => (hM.same (Below.heap_alloc w o _ hM.lt)).len uM ty
  have d3 : ∀ o, (w.alloc o).cell? ⟨g, 3, none⟩ = some (.map (some mb)) := fun o => (World.cell?_alloc_lt w o ⟨g, 3, none⟩ hap.2.1).trans c3
  obtain ⟨gp, hgp⟩ : ∃ gp, gp = w.heap.size := ⟨_, rfl⟩
  have HH := Lib.hid (And.intro hR1 (And.intro hM hH))
  have HX := Lib.hid hX
  clear hR1 hM hH cf h hX
  go_enter Try.func19, Try.ntmps19
  go_wp2_with fail
  refine HNL.out.mono ?_
  rintro e w1 ⟨rfl, rfl⟩
  have hb0 : Below w.heap.size w ((w.alloc (.cells #[.int .i64 st, .int .i64 win, .int .i64 nx, .map (some (w.heap.size + 1))] 89)).alloc (.map #[] 0)) := ((Below.refl _ _).alloc (Nat.le_refl _) _).alloc (by simp) _
  have HM2 := Lib.hid (And.intro (HH.out.2.1.only (S := fun _ => False) (only_below hb0) (fun h => h)) hb0)
  clear hb0
  go_wp2_with (first
    | (at_range; refine wpList_range_raw rfl (.tmp 21) rfl uI uM rfl HM2.out.1 ?_; intro w0 L0 hrg0 hL0 hg0 hs0)
    | go_in)
  go_frame
  have e1 : ((w.alloc (.cells #[.int .i64 st, .int .i64 win, .int .i64 nx, .map (some (w.heap.size + 1))] 89)).alloc (.map #[] 0)).heap.size = w.heap.size + 2 := by simp
  rw [e1] at hrg0 hs0 ⊢
  have hO0 : Only (fun _ => False) ((w.alloc (.cells #[.int .i64 st, .int .i64 win, .int .i64 nx, .map (some (w.heap.size + 1))] 89)).alloc (.map #[] 0)) w0 := only_grown hg0 (fun k e => by cases e)
  have H0 := Lib.hid (show CpR w w.heap.size (w.heap.size + 1) (w.heap.size + 2) mb N st win nx F f w0 from by
    refine ⟨L0, N, 0, fun _ => none, hrg0, by omega, Lib.hid ?_, Lib.hid ?_, Lib.hid ?_, HM2.out.2.trans (hO0.below (by simp; omega) (fun k h => h.elim))⟩
    · have h1 := mapF_made (w.alloc (.cells #[.int .i64 st, .int .i64 win, .int .i64 nx, .map (some (w.heap.size + 1))] 89)) Try.prog 3
      rw [show (w.alloc (.cells #[.int .i64 st, .int .i64 win, .int .i64 nx, .map (some (w.heap.size + 1))] 89)).heap.size = w.heap.size + 1 by simp] at h1
      exact h1.only hO0 (fun h => h)
    · rw [goneF_start (fun k hk => by
        rw [hL0 k]
        cases e : F k with
        | none => exact absurd e hk
        | some x => obtain ⟨v, hv, _⟩ := HH.out.2.2.some_ e; rw [hv]; rfl)]
      exact fun k => rfl
    · exact (hO0.block _ (by simp; omega) (fun h => h)).trans ((Below.heap_alloc _ _ _ (by simp)).trans (heap_alloc_new w _)))
  clear hO0 hrg0 hL0 hg0 hs0 hlen d3 hmm e1
  go_loopw [4] (fun _ wr => CpR w w.heap.size (w.heap.size + 1) (w.heap.size + 2) mb N st win nx F f wr) (fun _ wr => wr.rangeLeft mb (w.heap.size + 2))
  case atStart => exact H0.out
  case round =>
    obtain ⟨L, cnt, m, f', hrg, hmc, HMf, HF, HB, hbw⟩ := hrel
    go_wp2_with (first
      | (at_next; refine wpList_next_raw rfl (.tmp 22) rfl uI rfl hrg ?_ ?_)
      | go_in)
    · intro hc0 hl0
      have hbF := goneF_end (F := F) hl0
      have hFH : FH wr f' F := by have := HF.out; rwa [hbF] at this
      have hmN : m = N := by
        have h1 := mapF_len_le HMf.out hrg.map uI (fun k hk => by
          cases e : F k with
          | none => exact absurd (hFH.none_ e) hk
          | some x => obtain ⟨v, hv, _⟩ := HH.out.2.2.some_ e; rw [hv]; simp)
        have h2 := mapF_len_le hrg.map HMf.out uI (fun k hk => by
          cases e : F k with
          | none => exact absurd (HH.out.2.2.none_ e) hk
          | some x => obtain ⟨v, hv, _⟩ := hFH.some_ e; rw [hv]; simp)
        omega
      have HR := Lib.hid (show RetCopy w N st win nx F (.returned (.pointer (some ⟨w.heap.size, 0, none⟩))) wr from ⟨_, w.heap.size + 1, rfl, ⟨HB.out, f', by rw [← hmN]; exact HMf.out, hFH⟩, Nat.le_refl _, by omega, hbw⟩)
      clear hFH hbF hrg hbw hmN
      go_wp2
      go_ret
      exact HR.out
    · intro x c w1 cnt1 hwx hLx hfx hrg1 hlt hg1 hs1 hen
      obtain ⟨y, hy⟩ : ∃ y, F x = some y := by
        cases e : F x with
        | none => rw [HH.out.2.2.none_ e] at hfx; cases hfx
        | some y => exact ⟨y, rfl⟩
      obtain ⟨v, e1, hv⟩ := HH.out.2.2.some_ hy
      obtain ⟨X, l⟩ := y
      rw [hfx] at e1
      injection e1 with e1
      subst e1
      have hbs := hbw.size
      have hO1 : Only (fun k => k = w.heap.size + 2) wr w1 := only_grown hg1 (fun k e => by injection e with e; omega)
      have hbw1 : Below w.heap.size w w1 := hbw.trans (hO1.below hbs (by rintro k rfl; omega))
      have hv1 : Bd w1 v X := hv.only (S := fun _ => False) (only_below hbw1) (fun _ _ _ _ h => h)
      obtain ⟨A', c', hv'⟩ := (bd_rb hv1).form
      subst hv'
      have hrl := hrg.lt
      have hB1 := (hO1.block w.heap.size (by omega) (by omega)).trans HB.out
      have k3 := fun o => (World.cell?_alloc_lt w1 o ⟨w.heap.size, 3, none⟩ (by simp; omega)).trans (cell_of_row _ w.heap.size 3 _ _ _ hB1)
      have HV1 := Lib.hid (And.intro hv1 (And.intro hbw1 (And.intro hrg1 hB1)))
      have HW := Lib.hid (And.intro hrg (And.intro hO1 (And.intro hy (And.intro hlt hLx))))
      clear hrg hv hv1 hbw hbw1 hg1 hO1 hrg1 hB1 hy hfx hlt hLx
      go_wp2_with fail
      have hX64 : X.length ≤ 1048576 := HX.out x (X, l) HW.out.2.2.1
      refine (clone_any X (.slice A' X.length c') w1.heap.size _ ((bd_rb HV1.out.1).alloc (Nat.le_refl _) _) (by simp) hX64).mono ?_
      rintro e w2 ⟨v2, rfl, o2, b2⟩
      have hb2 : Below w1.heap.size w1 w2 := ((Below.refl _ _).alloc (Nat.le_refl _) _).trans (b2.mono (by simp))
      have hB2 := bd_owns o2
      obtain ⟨A2, c2', e2⟩ := (bd_rb hB2).form
      subst e2
      have hG2 := (b2.block w1.heap.size (by simp)).trans (heap_alloc_new w1 (.cells #[.int .i64 x, .slice A' X.length c', .bool l] 85))
      rw [hs1] at hG2
      obtain ⟨k0', k1', k2', kf'⟩ := fr_blk hG2 (Below.refl _ _)
      have f1' := kf' 1
      have hcell := (hb2.block w.heap.size (by omega)).trans HV1.out.2.2.2
      have k3' := cell_of_row _ w.heap.size 3 _ _ _ hcell
      have HB2 := Lib.hid (And.intro hb2 (And.intro hB2 (And.intro hG2 hcell)))
      have hne : w.heap.size ≠ wr.heap.size := by omega
      clear k3 b2 hb2 o2 hB2 hG2 hcell kf'
      have hO3 : Only (fun k => k = w.heap.size + 2 ∨ k = wr.heap.size) wr (w2.setCell ⟨wr.heap.size, 1, none⟩ (.slice A2 X.length c2')) :=
        (HW.out.2.1.mono (fun _ _ e => .inl e)).trans ((only_below HB2.out.1).trans (only_set _ (.inr rfl)))
      have hN3 : NoB wr (fun k => k = w.heap.size + 2 ∨ k = wr.heap.size) := fun k cs fr hk e => by
        rcases e with rfl | rfl
        · obtain ⟨_, _, _, _, hi⟩ := HW.out.1.iter
          rw [hi] at hk
          cases hk
        · have := (Array.getElem?_eq_some_iff.1 hk).1
          omega
      have hM3 := HMf.out.only hO3 (by omega)
      have hF3 := HF.out.only hO3 hN3
      have hB3 : Bd (w2.setCell ⟨wr.heap.size, 1, none⟩ (.slice A2 X.length c2')) (.slice A2 X.length c2') X := HB2.out.2.1.only (S := fun k => k = wr.heap.size) (only_set _ rfl) (fun k cs fr hk e => by
        subst e
        rw [HB2.out.2.2.1] at hk
        injection hk with hk
        injection hk with _ hk
        exact absurd hk (by decide))
      have hC3 := (hO3.block w.heap.size (by omega) (by omega)).trans HB.out
      have hg0x : goneF F L x = none := by unfold goneF; rw [if_pos HW.out.2.2.2.2]
      have hR3 := HV1.out.2.2.1.only (S := fun k => k = wr.heap.size) ((only_below HB2.out.1).trans (only_set (p := ⟨wr.heap.size, 1, none⟩) (.slice A2 X.length c2') rfl)) (by omega) (by omega)
      have HZ := Lib.hid (And.intro hO3 (And.intro hF3 (And.intro hB3 (And.intro hC3 (And.intro hg0x (And.intro hR3 hM3))))))
      clear hO3 hN3 hF3 hB3 hC3 hg0x hR3 hM3
      go_wp2_with (at_mapUpdate
                   refine wpList_put_raw rfl (.tmp 33) (.tmp 34) (.tmp 35) rfl uI uM rfl HZ.out.2.2.2.2.2.2 (by unfold maxLen; omega) x rfl hwx (HZ.out.2.1.none_ HZ.out.2.2.2.2.1) _ rfl ?_)
      intro w4 hM4 ht4
      have hO4 : Only (fun k => k = w.heap.size + 1) _ w4 := only_turned ht4 rfl
      have hN4 : NoB (w2.setCell ⟨wr.heap.size, 1, none⟩ (.slice A2 X.length c2')) (fun k => k = w.heap.size + 1) := fun k cs fr hk e => by
        subst e
        obtain ⟨es, c, hb⟩ := HZ.out.2.2.2.2.2.2.block
        rw [hb] at hk
        cases hk
      have hF4 := (HZ.out.2.1.only hO4 hN4).put (k := x) (l := l) (HZ.out.2.2.1.only hO4 hN4)
      rw [← goneF_step HW.out.2.2.1] at hF4
      have eL : (fun k => !decide (k = x) && L k) = fun k => if k = x then false else L k := by
        funext k
        by_cases e : k = x
        · simp [e]
        · simp [e]
      have hR4 := HZ.out.2.2.2.2.2.1.only hO4 (by omega) (by omega)
      rw [eL] at hR4
      have hC4 := (hO4.block w.heap.size (by have := HZ.out.1.size; omega) (by omega)).trans HZ.out.2.2.2.1
      have hb4 : Below w.heap.size w w4 := HV1.out.2.1.trans ((HB2.out.1.mono (by omega)).trans (((Below.refl _ _).setCell (by omega) _).trans (hO4.below (by have := HB2.out.1.size; simp; omega) (by rintro k rfl; omega))))
      have HQ := Lib.hid (And.intro hM4 (And.intro hF4 (And.intro hR4 (And.intro hC4 hb4))))
      have hlm := HW.out.2.2.2.1
      clear hM4 hF4 hR4 hC4 hb4 ht4 hO4 hN4 k0' k1' k2' f1' k3' eL
      go_wp2
      go_roundw
      case rel => exact ⟨_, cnt1, m + 1, _, HQ.out.2.2.1, by omega, Lib.hid HQ.out.1, Lib.hid HQ.out.2.1, Lib.hid HQ.out.2.2.2.1, HQ.out.2.2.2.2⟩
      case measure => rw [HQ.out.2.2.1.left_eq, HW.out.1.left_eq]; exact hlm
end Go.Proofs.Ytkakbeiehggkiaa

namespace Go.Proofs.Ytkakbeiehggkiaa
open Go.RowKit
attribute [local go_sem ↓] Go.wp_at_zero Go.wp_at_succ

/-- The elements of a list of slices of bytes at A. -/
def ByF (w : World) (A : Option Addr) (n : Nat) (X : Nat → List Nat) (V : Nat → Value) : Prop :=
  ∀ i, i < n → ∃ b o A' c', A = some ⟨b, o, none⟩ ∧ b < w.heap.size ∧ w.cell? ⟨b, o + i, none⟩ = some (V i) ∧ V i = .slice A' (X i).length c' ∧ AllB (X i) ∧ RB w w.heap.size (V i) (X i)
theorem byF_of {w : World} {A : Option Addr} {n : Nat} (h : ∀ i, i < n → ByIn w A i) : ∃ X V, ByF w A n X V := by
  have h1 : ∀ i, ∃ p : List Nat × Value, i < n → ∃ b o A' c', A = some ⟨b, o, none⟩ ∧ b < w.heap.size ∧ w.cell? ⟨b, o + i, none⟩ = some p.2 ∧ p.2 = .slice A' p.1.length c' ∧ AllB p.1 ∧ RB w w.heap.size p.2 p.1 := by
    intro i
    by_cases hi : i < n
    · obtain ⟨b, o, A', n', c', X, e, hb, hc, hX, hr⟩ := h i hi
      have hl := hr.1.len
      subst hl
      exact ⟨(X, .slice A' X.length c'), fun _ => ⟨b, o, A', c', e, hb, hc, rfl, hX, hr⟩⟩
    · exact ⟨([], undef), fun h => absurd h hi⟩
  obtain ⟨f, hf⟩ := Classical.skolem.1 h1
  exact ⟨fun i => (f i).1, fun i => (f i).2, fun i hi => hf i hi⟩
theorem ByF.below {w w' : World} {A : Option Addr} {n : Nat} {X : Nat → List Nat} {V : Nat → Value} (h : ByF w A n X V) (hb : Below w.heap.size w w') : ByF w' A n X V := by
  intro i hi
  obtain ⟨b, o, A', c', e, hlt, hc, hv, hX, hr⟩ := h i hi
  exact ⟨b, o, A', c', e, Nat.lt_of_lt_of_le hlt hb.size, (hb.cell (p := ⟨b, o + i, none⟩) hlt).trans hc, hv, hX, (hr.belowM hb (Nat.le_refl _)).more hb.size⟩

set_option maxRecDepth 100000 in
set_option maxHeartbeats 400000 in
theorem long_no (A : Option Addr) (n c count size : Nat) (X : Nat → List Nat) (V : Nat → Value) (w : World) (hF : ByF w A n X V) (h1 : n ≤ count) (h2 : ∀ i, i < n → (X i).length ≤ size) (hc : count ≤ 1048576) :
    Calls Try.prog 43 #[.slice A n c, .int .i64 (count : Int), .int .i64 (size : Int)] w fun e w' => e = .returned (.bool false) ∧ w = w' := by
  have HF := Lib.hid hF
  have H2 := Lib.hid h2
  have i0 : ¬ (count : Int) < (n : Int) := by omega
  clear hF h2
  go_enter Try.func43, Try.ntmps43
  go_wp2
  go_loop [14] (fun iv => ∃ k : Nat, k ≤ n ∧ iv = .int .i64 (k : Int)) (fun iv => n - (intOf1 iv).toNat)
  case atStart => exact ⟨0, Nat.zero_le _, rfl⟩
  case round =>
    obtain ⟨k, hk, rfl⟩ := hrel
    by_cases hkn : k < n
    · obtain ⟨b, o, A', c', rfl, hb, hcell, hv, _, _⟩ := HF.out k hkn
      have h3 := H2.out k hkn
      obtain ⟨L, hL⟩ : ∃ L, L = (X k).length := ⟨_, rfl⟩
      rw [hv, ← hL] at hcell
      rw [← hL] at h3
      have i1 : (0 : Int) ≤ (k : Int) := by omega
      have i2 : (k : Int) < (n : Int) := by omega
      have i3 : ¬ (size : Int) < (L : Int) := by omega
      clear hv hL
      go_wp2
      go_round
      case rel => exact ⟨k + 1, by omega, by go_num⟩
      case measure => simp [intOf1]; omega
    · obtain rfl : k = n := by omega
      go_wp2
      go_ret
      exact ⟨rfl, rfl⟩

set_option maxRecDepth 100000 in
set_option maxHeartbeats 400000 in
theorem long_yes (A : Option Addr) (n c count size : Nat) (X : Nat → List Nat) (V : Nat → Value) (w : World) (hF : ByF w A n X V) (h : count < n ∨ ∃ i, i < n ∧ size < (X i).length) (hn : n ≤ 9223372036854775807) :
    Calls Try.prog 43 #[.slice A n c, .int .i64 (count : Int), .int .i64 (size : Int)] w fun e w' => e = .returned (.bool true) ∧ w = w' := by
  have HF := Lib.hid hF
  clear hF
  by_cases h1 : count < n
  · have i0 : (count : Int) < (n : Int) := by omega
    clear h
    go_enter Try.func43, Try.ntmps43
    go_wp2
    go_ret
    exact ⟨rfl, rfl⟩
  · have H := Lib.hid (show ∃ i, i < n ∧ size < (X i).length from h.resolve_left h1)
    have i0 : ¬ (count : Int) < (n : Int) := by omega
    clear h h1
    go_enter Try.func43, Try.ntmps43
    go_wp2
    go_loop [14] (fun iv => ∃ k : Nat, k ≤ n ∧ iv = .int .i64 (k : Int) ∧ ∃ i, k ≤ i ∧ i < n ∧ size < (X i).length) (fun iv => n - (intOf1 iv).toNat)
    case atStart =>
      obtain ⟨i, h1, h2⟩ := H.out
      exact ⟨0, Nat.zero_le _, rfl, i, Nat.zero_le _, h1, h2⟩
    case round =>
      obtain ⟨k, hk, rfl, i, hki, hin, hsz⟩ := hrel
      have hkn : k < n := by omega
      obtain ⟨b, o, A', c', rfl, hb, hcell, hv, _, hr⟩ := HF.out k hkn
      obtain ⟨L, hL⟩ : ∃ L, L = (X k).length := ⟨_, rfl⟩
      rw [hv, ← hL] at hcell
      have hcap := hr.1
      rw [hv] at hcap
      have hcap := hcap.cap
      unfold maxLen at hcap
      have i1 : (0 : Int) ≤ (k : Int) := by omega
      have i2 : (k : Int) < (n : Int) := by omega
      have HL := Lib.hid (And.intro hL (And.intro hki hsz))
      clear hv hL hr hcap hsz hki
      by_cases h3 : size < L
      · have i3 : (size : Int) < (L : Int) := by omega
        go_wp2
        go_ret
        exact ⟨rfl, rfl⟩
      · have i3 : ¬ (size : Int) < (L : Int) := by omega
        go_wp2
        go_round
        case rel =>
          refine ⟨k + 1, by omega, by go_num, i, ?_, hin, HL.out.2.2⟩
          have h4 := HL.out.2.1
          have h5 : k ≠ i := fun e => by
            have := HL.out.2.2
            rw [← e, ← HL.out.1] at this
            exact h3 this
          omega
        case measure => simp [intOf1]; omega

/-- A list of deliveries is read as Ds. -/
def DlR (w : World) (v : Value) (Ds : List Dl) : Prop := ∃ A c, v = .slice A Ds.length c ∧ Ds.length ≤ c ∧
    ∀ i (hi : i < Ds.length), ∃ g A' n' c', A = some ⟨g, 0, none⟩ ∧ g < w.heap.size ∧ w.cell? ⟨g, i * 3, none⟩ = some (.int .i64 (Ds[i]'hi).1) ∧ w.cell? ⟨g, i * 3 + 1, none⟩ = some (.slice A' n' c') ∧
      w.cell? ⟨g, i * 3 + 2, none⟩ = some (.bool (Ds[i]'hi).2.2) ∧ RB w w.heap.size (.slice A' n' c') (Ds[i]'hi).2.1

set_option maxRecDepth 100000 in
set_option maxHeartbeats 2000000 in
theorem sameDl_yes (Ds : List Dl) (v1 v2 : Value) (hl : Ds.length ≤ 1048576) (w : World) (h1 : DlR w v1 Ds) (h2 : DlR w v2 Ds) :
    Calls Try.prog 20 #[v1, v2] w (RetB w true) := by
  obtain ⟨A1, c1, rfl, hc1, H1⟩ := h1
  obtain ⟨A2, c2, rfl, hc2, H2⟩ := h2
  have HH := Lib.hid (And.intro H1 H2)
  clear H1 H2
  obtain ⟨n, hn⟩ : ∃ n, n = Ds.length := ⟨_, rfl⟩
  rw [← hn] at hc1 hc2 hl
  rw [← hn]
  have HN := Lib.hid hn
  clear hn
  have qn : ((n : Int) != (n : Int)) = false := by simp
  go_enter Try.func20, Try.ntmps20
  go_wp2
  go_loopw [13] (fun iv wr => ∃ k : Nat, k ≤ n ∧ iv = .int .i64 (k : Int) ∧ Below w.heap.size w wr) (fun iv _ => n - (intOf1 iv).toNat)
  case atStart => exact ⟨0, Nat.zero_le _, rfl, Below.refl _ _⟩
  case round =>
    obtain ⟨k, hk, rfl, hbw⟩ := hrel
    by_cases hkn : k < n
    · obtain ⟨g1, A1', n1', c1', rfl, hg1, p0, p1, p2, r1⟩ := HH.out.1 k (by rw [← HN.out]; exact hkn)
      obtain ⟨g2, A2', n2', c2', rfl, hg2, q0, q1, q2, r2⟩ := HH.out.2 k (by rw [← HN.out]; exact hkn)
      obtain ⟨f, hf⟩ : ∃ f, f = Ds[k]'(by rw [← HN.out]; exact hkn) := ⟨_, rfl⟩
      rw [← hf] at p0 p2 r1 q0 q2 r2
      clear hf
      obtain ⟨sq, X, l⟩ := f
      simp only at p0 p2 q0 q2 r1 r2
      have k1 := (hbw.cell (p := ⟨g1, k * 3, none⟩) hg1).trans p0
      have k2 := (hbw.cell (p := ⟨g1, k * 3 + 1, none⟩) hg1).trans p1
      have k3 := (hbw.cell (p := ⟨g1, k * 3 + 2, none⟩) hg1).trans p2
      have k4 := (hbw.cell (p := ⟨g2, k * 3, none⟩) hg2).trans q0
      have k5 := (hbw.cell (p := ⟨g2, k * 3 + 1, none⟩) hg2).trans q1
      have k6 := (hbw.cell (p := ⟨g2, k * 3 + 2, none⟩) hg2).trans q2
      have t1 := fun (wx : World) (hb : Below w.heap.size w wx) => run_string_bytes (r1.belowM hb (Nat.le_refl _)).1
      have t2 := fun (wx : World) (hb : Below w.heap.size w wx) => run_string_bytes (r2.belowM hb (Nat.le_refl _)).1
      obtain ⟨S, hS⟩ : ∃ S, S = strB X := ⟨_, rfl⟩
      rw [← hS] at t1 t2
      have s1 := t1 wr.drew hbw.drew
      have s2 := t2 wr.drew hbw.drew
      have q1' : (S != S) = false := by
        have := strEqZ S
        simp [bne, this]
      have q2' : (sq != sq) = false := by simp
      have q3' : (l != l) = false := by simp
      have i1 : (0 : Int) ≤ (k : Int) := by omega
      have i2 : (k : Int) < (n : Int) := by omega
      have HB := Lib.hid hbw
      clear p0 p1 p2 q0 q1 q2 r1 r2 hS t1 t2 hbw
      go_wp2
      go_region
      go_wp2
      go_roundw
      case rel => exact ⟨k + 1, by omega, by go_num, HB.out.drew⟩
      case measure => simp [intOf1]; omega
    · obtain rfl : k = n := by omega
      go_wp2
      go_ret
      exact ⟨rfl, hbw⟩
end Go.Proofs.Ytkakbeiehggkiaa
