/-
  The finder goes through a run.
-/
import Derived.Test.YtndgpgciccgapaaVStep
namespace Go.Proofs.Ytndgpgciccgapaa
open Go.RowKit

/-- The state behind k samples of a run that begins at x. -/
def runS (zs : List Int) (drop lv : Int) (x : Nat) (R : List Eo) : Nat → Fs
  | 0 => ⟨false, ⟨x, 0, x, lv, 0⟩, 0, R⟩
  | k + 1 => stF zs drop (runS zs drop lv x R k) (x + 1 + k)
/-- The echoes behind a run [x, y). -/
def goneR (zs : List Int) (drop lv : Int) (x y : Nat) (R : List Eo) : List Eo :=
  let S := runS zs drop lv x R (y - 1 - x)
  S.R ++ [⟨S.e.fr, y, S.e.pk, S.e.lv, ith zs S.e.pk⟩]
def OkS (i : Nat) (S : Fs) : Prop := S.e.pk ≤ i ∧ (S.fall = true → S.va ≤ i) ∧ S.R.length ≤ i
theorem okS_step {zs : List Int} {drop : Int} {S : Fs} {i : Nat} (h : OkS i S) : OkS (i + 1) (stF zs drop S (i + 1)) := by
  obtain ⟨fall, e, va, R⟩ := S
  obtain ⟨h1, h2, h3⟩ := h
  simp only at h1 h2 h3
  unfold stF OkS
  repeat' split
  all_goals simp_all
  all_goals omega
theorem runS_ok (zs : List Int) (drop lv : Int) (x : Nat) (R : List Eo) (hR : R.length ≤ x) : ∀ k, OkS (x + k) (runS zs drop lv x R k)
  | 0 => ⟨by simp [runS], by simp [runS], by simp [runS]; omega⟩
  | k + 1 => by
    have := okS_step (zs := zs) (drop := drop) (runS_ok zs drop lv x R hR k)
    have e : x + 1 + k = x + k + 1 := by omega
    rw [runS, e]
    exact this
theorem goneR_len (zs : List Int) (drop lv : Int) {x y : Nat} (R : List Eo) (hR : R.length ≤ x) (hxy : x < y) : (goneR zs drop lv x y R).length ≤ y := by
  have := (runS_ok zs drop lv x R hR (y - 1 - x)).2.2
  simp [goneR]
  omega

def FdA (w : World) (gb : Nat) (sv : Value) (drop : Int) (R : List Eo) : Prop := ∃ st e va fv, FdW w gb sv drop st e va fv R
def RetGo (w : World) (gb : Nat) (sv : Value) (drop : Int) (R : List Eo) (en : Ending) (w' : World) : Prop :=
  en = .returned (.tuple #[]) ∧ FdA w' gb sv drop R ∧ Fr gb w w'
theorem FdW.cell2 {w : World} {gb : Nat} {sv st fv : Value} {drop : Int} {e : Eo} {va : Nat} {R : List Eo} (h : FdW w gb sv drop st e va fv R) : w.cell? ⟨gb, 2, none⟩ = some st := h.cells.2.2.1

theorem run_cells {W0 w1 : World} {g : Nat} {a b : Value} (g0 : W0.heap[g]? = some (.cells #[a, b] 155 (0, 0))) (h : Kept W0 w1) : w1.cell? ⟨g, 0, none⟩ = some a ∧ w1.cell? ⟨g, 1, none⟩ = some b := by
  have h1 := h _ _ _ _ g0 (by decide) (by decide)
  exact ⟨cell_of_row _ _ _ _ _ _ h1, cell_of_row _ _ _ _ _ _ h1⟩
theorem FdS.cell2 {w : World} {gb : Nat} {sv : Value} {drop : Int} {S : Fs} (h : FdS w gb sv drop S) : w.cell? ⟨gb, 2, none⟩ = some (stV gb S.fall) := by
  obtain ⟨fv, va, _, h⟩ := h
  exact h.cell2

def GoRel (zs : List Int) (drop lv : Int) (x y : Nat) (R : List Eo) (w : World) (gb : Nat) (sv : Value) (iv : Value) (wr : World) : Prop :=
  ∃ k : Nat, iv = .int .i64 ((x + 1 + k : Nat) : Int) ∧ x + 1 + k ≤ y ∧ Hid (FdS wr gb sv drop (runS zs drop lv x R k)) ∧ Fr gb w wr

set_option maxRecDepth 100000 in
set_option maxHeartbeats 2000000 in
theorem go_ok {w : World} {gb : Nat} {drop : Int} {R : List Eo} {zs : List Int} {A : Option Addr} {n c B : Nat} (h : FdA w gb (.slice A n c) drop R) (hx : IW w B (.slice A n c) zs) (hB : B ≤ gb) (hd : 1 ≤ drop ∧ drop ≤ 1023) (hok : okZ zs) (x y : Nat) (hxy : x < y) (hy : y ≤ n) (hR : R.length ≤ x) (lv : Int) :
    Calls Try.prog 95 #[.pointer (some ⟨gb, 0, none⟩), .agg #[.int .i64 (x : Int), .int .i64 (y : Int)], .int .i64 lv] w (RetGo w gb (.slice A n c) drop (goneR zs drop lv x y R)) := by
  obtain ⟨st, e, va, fv, h⟩ := h
  have hl := hx.len
  have hn : n ≤ 256 := by have := hok.1; omega
  have hgb := h.lt
  obtain ⟨W0, hW0⟩ : ∃ W0, W0 = w.alloc (.cells #[.int .i64 (x : Int), .int .i64 (y : Int)] 155) := ⟨_, rfl⟩
  have hb0 : Below w.heap.size w W0 := by rw [hW0]; exact (Below.refl _ w).alloc (Nat.le_refl _) _
  have hF0 : Fr gb w W0 := by rw [hW0]; exact (Fr.refl gb w).alloc (by omega) _
  have hBG := begin_ok (h.below hb0) x x lv
  have g0 : W0.heap[w.heap.size]? = some (.cells #[Value.int .i64 (x : Int), Value.int .i64 (y : Int)] 155 (0, 0)) := by rw [hW0]; exact heap_alloc_new w _
  have HX := Lib.hid (And.intro hx (And.intro hok (And.intro hl hF0)))
  have G0 := Lib.hid g0
  have HW0 := Lib.hid hW0
  have m0 : (w.alloc (.cells #[.int .i64 (x : Int), .int .i64 (y : Int)] 155)).cell? ⟨w.heap.size, 0, none⟩ = some (.int .i64 (x : Int)) := built_cellsV w _ _ 0 _ rfl
  clear h hl hb0 hF0 hok hx hW0 g0
  go_enter Try.func95, Try.ntmps95
  go_wp2_with (go_at_call 110; rw [← HW0.out]; refine hBG.mono ?_; rintro en w1 ⟨rfl, ⟨fv1, h1⟩, hb1⟩; have h1' : FdS w1 gb (.slice A n c) drop (runS zs drop lv x R 0) := ⟨fv1, _, fun h => absurd h (by simp [runS]), h1⟩; obtain ⟨q0, q1⟩ := run_cells G0.out hb1.2; have H1 := Lib.hid (And.intro h1' hb1); clear h1 h1' hb1 m0)
  go_loopw [6] (fun iv wr => GoRel zs drop lv x y R W0 gb (.slice A n c) iv wr) (fun iv _ => y - (intOf iv).toNat)
  case atStart => exact ⟨0, by simp, by omega, Lib.hid H1.out.1, H1.out.2⟩
  case round =>
    obtain ⟨k, rfl, hky, hS, hF⟩ := hrel
    obtain ⟨p0, p1⟩ := run_cells G0.out hF.2
    by_cases hlt : x + 1 + k < y
    · have hc2 := hS.out.cell2
      have hO := runS_ok zs drop lv x R hR k
      have HF := Lib.hid hF
      obtain ⟨S, hSd⟩ : ∃ S, runS zs drop lv x R k = S := ⟨_, rfl⟩
      have hSn : runS zs drop lv x R (k + 1) = stF zs drop S (x + 1 + k) := by rw [runS, hSd]
      have HS := Lib.hid hSn
      have hS' := hS.out
      rw [hSd] at hS' hO hc2
      have hx' := HX.out.1.below (Below.trans (HX.out.2.2.2.1.mono (by omega) |> fun h => (show Below B w W0 from ⟨h.os, h.tape, h.output, h.size, fun j hj => HX.out.2.2.2.1.block j (by omega)⟩)) (show Below B W0 wr from ⟨hF.1.os, hF.1.tape, hF.1.output, hF.1.size, fun j hj => hF.1.block j (by omega)⟩))
      obtain ⟨o1, o2, o3⟩ := hO
      obtain ⟨fall, hfall⟩ : ∃ f, S.fall = f := ⟨_, rfl⟩
      rw [hfall] at hc2 o2
      cases fall with
      | false =>
        have hC := rising_ok hS' hx' hB (by omega) hfall hd HX.out.2.1 (x + 1 + k) (by omega)
        have hc2' : wr.cell? ⟨gb, 2, none⟩ = some (.func (.func 119) #[.pointer (some ⟨gb, 0, none⟩)] #[]) := hc2
        clear hc2 hSd hSn hS hF hS' hx' o1 o2 o3 hfall q0 q1
        obtain ⟨i, hi⟩ : ∃ i, x + 1 + k = i := ⟨_, rfl⟩
        rw [hi] at hC hky hlt HS ⊢
        have HI := Lib.hid hi
        clear hi
        go_wp2_with (go_at_call 119; refine hC.mono ?_; rintro en w2 ⟨rfl, hS2, hF2⟩)
        go_roundw
        case rel => exact ⟨k + 1, by have := HI.out; simp; omega, by have := HI.out; omega, Lib.hid (by rw [HS.out]; exact hS2), HF.out.trans hF2⟩
        case measure => simp [intOf]; omega
      | true =>
        have hC := falling_ok hS' hx' hB (by omega) (by have := o2 rfl; omega) (by omega) hfall hd HX.out.2.1 (x + 1 + k) (by omega)
        have hc2' : wr.cell? ⟨gb, 2, none⟩ = some (.func (.func 124) #[.pointer (some ⟨gb, 0, none⟩)] #[]) := hc2
        clear hc2 hSd hSn hS hF hS' hx' o1 o2 o3 hfall q0 q1
        obtain ⟨i, hi⟩ : ∃ i, x + 1 + k = i := ⟨_, rfl⟩
        rw [hi] at hC hky hlt HS ⊢
        have HI := Lib.hid hi
        clear hi
        go_wp2_with (go_at_call 124; refine hC.mono ?_; rintro en w2 ⟨rfl, hS2, hF2⟩)
        go_roundw
        case rel => exact ⟨k + 1, by have := HI.out; simp; omega, by have := HI.out; omega, Lib.hid (by rw [HS.out]; exact hS2), HF.out.trans hF2⟩
        case measure => simp [intOf]; omega
    · obtain ⟨⟨fall, e2, va2, R2⟩, hSd⟩ : ∃ S, runS zs drop lv x R k = S := ⟨_, rfl⟩
      have hk : k = y - 1 - x := by omega
      have hO := runS_ok zs drop lv x R hR k
      have hx' := HX.out.1.below (show Below B w wr from ⟨hF.1.os.trans HX.out.2.2.2.1.os, hF.1.tape.trans HX.out.2.2.2.1.tape, hF.1.output.trans HX.out.2.2.2.1.output, Nat.le_trans HX.out.2.2.2.1.size hF.1.size, fun j hj => (hF.1.block j (by omega)).trans (HX.out.2.2.2.1.block j (by omega))⟩)
      have hS' := hS.out
      rw [hSd] at hS' hO
      obtain ⟨o1, o2, o3⟩ := hO
      obtain ⟨fv2, va2', _, hW⟩ := hS'
      simp only at o1 o2 o3 hW
      have hE := end_ok hW hx' hB (by omega) (by omega) y
      have hG : goneR zs drop lv x y R = R2 ++ [⟨e2.fr, y, e2.pk, e2.lv, ith zs e2.pk⟩] := by
        unfold goneR
        rw [← hk, hSd]
      have HE := Lib.hid (And.intro hG hF)
      obtain ⟨i, hi⟩ : ∃ i, x + 1 + k = i := ⟨_, rfl⟩
      rw [hi] at hky hlt ⊢
      clear hi hG hF hW hx' hSd hS o1 o2 o3 q0 q1
      go_wp2_with (go_at_call 111; refine hE.mono ?_; rintro en w2 ⟨rfl, hS2, hF2⟩)
      go_end0
      refine ⟨rfl, ?_, (HX.out.2.2.2.trans HE.out.2).trans hF2⟩
      obtain ⟨fv3, h3⟩ := hS2
      rw [HE.out.1]
      exact ⟨_, _, _, fv3, h3⟩
end Go.Proofs.Ytndgpgciccgapaa
