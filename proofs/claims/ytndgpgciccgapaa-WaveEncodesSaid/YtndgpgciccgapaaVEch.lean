/-
  Echoes, where all is valid.
-/
import Derived.Test.YtndgpgciccgapaaVGo
import Derived.Test.YtndgpgciccgapaaVRuns
import Derived.Test.YtndgpgciccgapaaVBase
namespace Go.Proofs.Ytndgpgciccgapaa
open Go.RowKit

/-- A detector: level, drop, step, delay. -/
structure De where
  lv : Int
  dp : Int
  st : Int
  dl : Int
def okD (d : De) : Prop := 1 ≤ d.lv ∧ d.lv ≤ 1023 ∧ 1 ≤ d.dp ∧ d.dp ≤ 1023 ∧ 1 ≤ d.st ∧ d.st ≤ 10000 ∧ -1048576 ≤ d.dl ∧ d.dl ≤ 1048576
instance (d : De) : Decidable (okD d) := by unfold okD; infer_instance
def deV (d : De) : Value := .agg #[.int .i64 d.lv, .int .i64 d.dp, .int .i64 d.st, .int .i64 d.dl]

set_option maxRecDepth 100000 in
set_option maxHeartbeats 1000000 in
theorem validDet_yes (lv dp st dl : Int) (h : okD ⟨lv, dp, st, dl⟩) (w : World) :
    Calls Try.prog 92 #[.agg #[.int .i64 lv, .int .i64 dp, .int .i64 st, .int .i64 dl]] w (RetB w true) := by
  obtain ⟨a1, a2, a3, a4, a5, a6, a7, a8⟩ := h
  simp only at a1 a2 a3 a4 a5 a6 a7 a8
  go_enter Try.func92, Try.ntmps92
  go_wp2
  go_ret
  refine ⟨by simp [*], ?_⟩
  exact (Below.refl _ w).alloc (Nat.le_refl _) _

/-- The runs follow each other. -/
theorem runsK_chain (zs : List Int) (level : Int) : ∀ k i (h : i < (runsK zs level k).length), ((runsK zs level k)[i]'h).1 < ((runsK zs level k)[i]'h).2 ∧ ((runsK zs level k)[i]'h).2 ≤ k ∧ ∀ h2 : i + 1 < (runsK zs level k).length, ((runsK zs level k)[i]'h).2 ≤ ((runsK zs level k)[i + 1]'h2).1
  | 0, i, h => by simp [runsK] at h
  | k + 1, i, h => by
    have ih := runsK_chain zs level k
    by_cases h1 : ith zs k < level
    · have e := runsK_low h1
      simp only [e] at h ⊢
      obtain ⟨a, b, c⟩ := ih i h
      exact ⟨a, by omega, c⟩
    · by_cases h2 : 0 < k ∧ level ≤ ith zs (k - 1)
      · obtain ⟨R, f, hR⟩ := runsK_last h2.1 h2.2
        have e := runsK_on (by omega) h2.1 h2.2 hR
        simp only [hR] at ih
        simp only [e] at h ⊢
        have hl : (R ++ [(f, k + 1)]).length = R.length + 1 := by simp
        by_cases hi : i < R.length
        · obtain ⟨a, b, c⟩ := ih i (by simp; omega)
          rw [List.getElem_append_left hi] at a b c
          rw [List.getElem_append_left hi]
          refine ⟨a, by omega, fun h3 => ?_⟩
          have c' := c (by simp; omega)
          by_cases hi2 : i + 1 < R.length
          · rw [List.getElem_append_left hi2] at c'
            rw [List.getElem_append_left hi2]
            exact c'
          · have e2 : i + 1 = R.length := by omega
            simp only [e2, List.getElem_concat_length] at c' ⊢
            exact c'
        · have e2 : i = R.length := by rw [hl] at h; omega
          subst e2
          obtain ⟨a, b, c⟩ := ih R.length (by simp)
          simp only [List.getElem_concat_length] at a b ⊢
          exact ⟨by omega, Nat.le_refl _, fun h3 => by rw [hl] at h3; omega⟩
      · have e := runsK_new (zs := zs) (level := level) (k := k) (by omega) (by omega)
        simp only [e] at h ⊢
        have hl : (runsK zs level k ++ [(k, k + 1)]).length = (runsK zs level k).length + 1 := by simp
        by_cases hi : i < (runsK zs level k).length
        · obtain ⟨a, b, c⟩ := ih i hi
          rw [List.getElem_append_left hi]
          refine ⟨a, by omega, fun h3 => ?_⟩
          by_cases hi2 : i + 1 < (runsK zs level k).length
          · rw [List.getElem_append_left hi2]
            exact c hi2
          · have e2 : i + 1 = (runsK zs level k).length := by omega
            simp only [e2, List.getElem_concat_length]
            exact b
        · have e2 : i = (runsK zs level k).length := by rw [hl] at h; omega
          subst e2
          simp only [List.getElem_concat_length]
          exact ⟨by omega, Nat.le_refl _, fun h3 => by rw [hl] at h3; omega⟩

/-- All echoes of the first runs. -/
def echR (zs : List Int) (drop lv : Int) (L : List Rn) (j : Nat) : List Eo := (L.take j).foldl (fun R r => goneR zs drop lv r.1 r.2 R) []
theorem echR_succ {zs : List Int} {drop lv : Int} {L : List Rn} {j : Nat} (h : j < L.length) : echR zs drop lv L (j + 1) = goneR zs drop lv (L[j]'h).1 (L[j]'h).2 (echR zs drop lv L j) := by
  unfold echR
  rw [List.take_add_one, List.getElem?_eq_getElem h, Option.toList_some, List.foldl_append]
  rfl
theorem echR_len (zs : List Int) (drop lv level : Int) (n : Nat) : ∀ j (h : j < (runsK zs level n).length), (echR zs drop lv (runsK zs level n) j).length ≤ ((runsK zs level n)[j]'h).1
  | 0, h => by simp [echR]
  | j + 1, h => by
    have ih := echR_len zs drop lv level n j (by omega)
    obtain ⟨a, b, c⟩ := runsK_chain zs level n j (by omega)
    have := goneR_len zs drop lv _ ih a
    rw [echR_succ (by omega)]
    exact Nat.le_trans this (c h)
theorem echR_all (zs : List Int) (drop lv level : Int) (n : Nat) : (echR zs drop lv (runsK zs level n) (runsK zs level n).length).length ≤ n := by
  by_cases h : (runsK zs level n).length = 0
  · rw [h]; simp [echR]
  · have h2 : (runsK zs level n).length - 1 < (runsK zs level n).length := by omega
    obtain ⟨a, b, c⟩ := runsK_chain zs level n _ h2
    have ih := echR_len zs drop lv level n _ h2
    have := goneR_len zs drop lv _ ih a
    have e : (runsK zs level n).length = (runsK zs level n).length - 1 + 1 := by omega
    rw [e, echR_succ h2]
    omega
/-- What Echoes finds. -/
def echF (zs : List Int) (d : De) : List Eo :=
  (echR zs d.dp (med zs + d.lv) (runsK zs (med zs + d.lv) zs.length) (runsK zs (med zs + d.lv) zs.length).length).take 15

def RetEch (w : World) (R : List Eo) (c : Int) (e : Ending) (w' : World) : Prop :=
  ∃ v, e = .returned (.tuple #[v, .int .i64 c]) ∧ SR eoE 5 w' v R ∧ Below w.heap.size w w'
def EchRel (zs : List Int) (drop lv : Int) (L : List Rn) (W : World) (gb : Nat) (sv : Value) (iv : Value) (wr : World) : Prop :=
  ∃ j : Nat, iv = .int .i64 (j : Int) ∧ j ≤ L.length ∧ Hid (FdA wr gb sv drop (echR zs drop lv L j)) ∧ Fr gb W wr

set_option maxRecDepth 100000 in
set_option maxHeartbeats 2000000 in
theorem echoes_ok (zs : List Int) (hok : okZ zs) (hne : zs ≠ []) (lv dp st dl : Int) (hd : okD ⟨lv, dp, st, dl⟩) (A : Option Addr) (n c : Nat) (w : World) (hx : IW w w.heap.size (.slice A n c) zs) :
    Calls Try.prog 67 #[.slice A n c, .agg #[.int .i64 lv, .int .i64 dp, .int .i64 st, .int .i64 dl]] w (RetEch w (echF zs ⟨lv, dp, st, dl⟩) 0) := by
  have hl := hx.len
  have hn : n ≤ 256 := by have := hok.1; omega
  have hn0 : 0 < n := by have := List.length_pos_iff.2 hne; omega
  obtain ⟨W0, hW0⟩ : ∃ W0, W0 = w.alloc (.cells #[.int .i64 lv, .int .i64 dp, .int .i64 st, .int .i64 dl] 117) := ⟨_, rfl⟩
  have hb0 : Below w.heap.size w W0 := by rw [hW0]; exact (Below.refl _ w).alloc (Nat.le_refl _) _
  have g0 : W0.heap[w.heap.size]? = some (.cells #[.int .i64 lv, .int .i64 dp, .int .i64 st, .int .i64 dl] 117 (0, 0)) := by rw [hW0]; exact heap_alloc_new w _
  have hm : 0 ≤ med zs ∧ med zs ≤ 1023 := hok.2 _ (med_mem hne)
  obtain ⟨m, hmd⟩ : ∃ m, med zs = m := ⟨_, rfl⟩
  rw [hmd] at hm
  have hlv := hd.1
  have hlv2 := hd.2.1
  have hdp := hd.2.2.1
  have hdp2 := hd.2.2.2.1
  simp only at hlv hlv2 hdp hdp2
  have hVD := validDet_yes lv dp st dl hd W0
  have m0 : ∀ j v, (#[Value.int .i64 lv, .int .i64 dp, .int .i64 st, .int .i64 dl] : Array Value)[j]? = some v → (w.alloc (.cells #[.int .i64 lv, .int .i64 dp, .int .i64 st, .int .i64 dl] 117)).cell? ⟨w.heap.size, j, none⟩ = some v := fun j v h => built_cellsV w _ _ j v h
  have p0 := m0 0 _ rfl
  have p1 := m0 1 _ rfl
  have p2 := m0 2 _ rfl
  have p3 := m0 3 _ rfl
  have HX := Lib.hid (And.intro hx (And.intro hok (And.intro hne (And.intro hl (And.intro hb0 (And.intro g0 hmd))))))
  have HW0 := Lib.hid hW0
  clear hx hok hne hl hd hb0 hW0 g0 hmd m0
  go_enter Try.func67, Try.ntmps67
  go_wp2_with (go_at_call 92; rw [← HW0.out]; refine hVD.mono ?_; rintro en w1 ⟨rfl, hb1⟩; have HB := Lib.hid hb1; clear hb1 p0 p1 p2 p3)
  have hx1 := HX.out.1.below (HX.out.2.2.2.2.1.trans (HB.out.mono HX.out.2.2.2.2.1.size))
  have hsz1 := Nat.le_trans HX.out.2.2.2.2.1.size HB.out.size
  have hBa := base_ok zs A n c w1 (hx1.more hsz1) HX.out.2.2.1 HX.out.2.1
  rw [HX.out.2.2.2.2.2.2] at hBa
  refine hBa.mono ?_
  rintro en w2 ⟨rfl, hb2⟩
  have hbW2 : Below W0.heap.size W0 w2 := HB.out.trans (hb2.mono HB.out.size)
  have hx2 := HX.out.1.below (HX.out.2.2.2.2.1.trans (hbW2.mono HX.out.2.2.2.2.1.size))
  have hsz2 := Nat.le_trans HX.out.2.2.2.2.1.size hbW2.size
  have hRu := runs_ok zs (m + lv) A n c w.heap.size w2 hx2 hsz2 HX.out.2.1
  have k2 : w2.heap[w.heap.size]? = some (.cells #[.int .i64 lv, .int .i64 dp, .int .i64 st, .int .i64 dl] 117 (0, 0)) := (hbW2.block _ (Array.getElem?_eq_some_iff.1 HX.out.2.2.2.2.2.1).1).trans HX.out.2.2.2.2.2.1
  have p0 : w2.cell? ⟨w.heap.size, 0, none⟩ = some (.int .i64 lv) := cell_of_row _ _ _ _ _ _ k2
  have HB2 := Lib.hid (And.intro hbW2 (And.intro k2 (And.intro hsz2 hx2)))
  clear hBa hb2 hbW2 hx2 k2 hx1
  obtain ⟨L, hL⟩ : ∃ L, runsK zs (m + lv) zs.length = L := ⟨_, rfl⟩
  rw [hL] at hRu
  have hLn : L.length ≤ 256 := by have := runsK_len zs (m + lv) zs.length; have := HX.out.2.2.2.1; rw [hL] at *; omega
  obtain ⟨NR, hNR⟩ : ∃ N, L.length = N := ⟨_, rfl⟩
  rw [hNR] at hLn
  have HL := Lib.hid (And.intro hL hNR)
  clear hL hNR
  go_wp2_with (go_at_call 94; refine hRu.mono ?_; rintro en w3 ⟨rv, rfl, hS, hb3⟩; have k3 := (hb3.block _ (Array.getElem?_eq_some_iff.1 HB2.out.2.1).1).trans HB2.out.2.1; have p1 : w3.cell? ⟨w.heap.size, 1, none⟩ = some (.int .i64 dp) := cell_of_row _ _ _ _ _ _ k3; obtain ⟨AR, cR, hrv, hAR, hcR⟩ := hS.slice; rw [HL.out.2] at hrv hAR hcR; subst hrv; have HB3 := Lib.hid (And.intro hb3 (And.intro hS k3)); clear hb3 hS k3 p0)
  obtain ⟨W4, hW4⟩ : ∃ W4, W4 = w3.alloc (.cells #[Value.slice A n c, Value.int IntKind.i64 dp, Value.nilFunc, Value.int IntKind.i64 0, Value.int IntKind.i64 0, Value.int IntKind.i64 0, Value.int IntKind.i64 0, Value.int IntKind.i64 0, Value.int IntKind.i64 0, Value.slice none 0 0] 154) := ⟨_, rfl⟩
  have hF4 : FdW W4 w3.heap.size (.slice A n c) dp .nilFunc ⟨0, 0, 0, 0, 0⟩ 0 (.slice none 0 0) [] := ⟨by rw [hW4]; exact heap_alloc_new w3 _, SL.nil_ _ _ _ _ _⟩
  have hb4 : Below w3.heap.size w3 W4 := by rw [hW4]; exact (Below.refl _ w3).alloc (Nat.le_refl _) _
  have hbs3 := HB3.out.1.size
  have hR4 : SL rnE 2 155 W4 w2.heap.size (.slice AR NR cR) L := by
    have := HB3.out.2.1
    exact this.below hb4
  have hx4 : IW W4 w.heap.size (.slice A n c) zs := HB2.out.2.2.2.belowM ((HB3.out.1).trans (hb4.mono hbs3)) hsz2
  rw [← hW4]
  have H4 := Lib.hid (And.intro hF4 (And.intro hb4 (And.intro hR4 hx4)))
  clear hF4 hb4 hR4 hx4 hW4
  go_loopw [44] (fun iv wr => EchRel zs dp (m + lv) L W4 w3.heap.size (.slice A n c) iv wr) (fun iv _ => NR - (intOf iv).toNat)
  case atStart => exact ⟨0, by simp, by omega, Lib.hid ⟨_, _, _, _, H4.out.1⟩, Fr.refl _ _⟩
  case round =>
    obtain ⟨j, rfl, hjl, hA, hF⟩ := hrel
    have hjn : j ≤ NR := by rw [← HL.out.2]; exact hjl
    by_cases hlt : j < NR
    · have hjL : j < L.length := by rw [HL.out.2]; exact hlt
      obtain ⟨⟨x, y⟩, hxy⟩ : ∃ r, L[j]'hjL = r := ⟨_, rfl⟩
      have hp : x < y ∧ y ≤ n ∧ (echR zs dp (m + lv) L j).length ≤ x := by
        obtain ⟨hL1, _⟩ := HL.out
        subst hL1
        have a := runsK_chain zs (m + lv) zs.length j hjL
        have b := echR_len zs dp (m + lv) (m + lv) zs.length j hjL
        rw [hxy] at b
        simp only [hxy] at a
        exact ⟨a.1, by have := HX.out.2.2.2.1; omega, b⟩
      obtain ⟨hp1, hp2, hp3⟩ := hp
      have hSn := echR_succ (zs := zs) (drop := dp) (lv := m + lv) hjL
      rw [hxy] at hSn
      obtain ⟨gR, rfl, hg1, hg2⟩ := hAR (by omega)
      have c0 := H4.out.2.2.1.cell rnE_len hjL (j := 0) (by omega)
      have c1 := H4.out.2.2.1.cell rnE_len hjL (j := 1) (by omega)
      rw [hxy] at c0 c1
      have q0 : wr.cell? ⟨gR, j * 2, none⟩ = some (.int .i64 (x : Int)) := (hF.1.cell (p := ⟨gR, j * 2, none⟩) hg2).trans c0
      have q1 : wr.cell? ⟨gR, j * 2 + 1, none⟩ = some (.int .i64 (y : Int)) := (hF.1.cell (p := ⟨gR, j * 2 + 1, none⟩) hg2).trans c1
      obtain ⟨W5, hW5⟩ : ∃ W5, W5 = wr.alloc (.cells #[.int .i64 (x : Int), .int .i64 (y : Int)] 155) := ⟨_, rfl⟩
      have hb5 : Below wr.heap.size wr W5 := by rw [hW5]; exact (Below.refl _ wr).alloc (Nat.le_refl _) _
      have hF5 : Fr w3.heap.size W4 W5 := by rw [hW5]; exact hF.alloc (Nat.le_trans H4.out.2.1.size hF.1.size) _
      have hA5 : FdA W5 w3.heap.size (.slice A n c) dp (echR zs dp (m + lv) L j) := by
        obtain ⟨a, b, c, d, h⟩ := hA.out
        exact ⟨a, b, c, d, h.below hb5⟩
      have hx5 : IW W5 w.heap.size (.slice A n c) zs := H4.out.2.2.2.below ⟨hF5.1.os, hF5.1.tape, hF5.1.output, hF5.1.size, fun k hk => hF5.1.block k (by omega)⟩
      have hGo := go_ok hA5 hx5 (by omega) ⟨hdp, hdp2⟩ HX.out.2.1 x y hp1 hp2 hp3 (m + lv)
      have HW5 := Lib.hid hW5
      have HF5 := Lib.hid (And.intro hF5 hSn)
      clear hW5 hb5 hF5 hA5 hx5 hSn c0 c1 hA hF hxy hp3 hAR
      go_wp2_with (go_at_call 95; rw [← HW5.out]; refine hGo.mono ?_; rintro en w6 ⟨rfl, hA6, hF6⟩)
      go_roundw
      case rel => exact ⟨j + 1, by simp, by omega, Lib.hid (by rw [HF5.out.2]; exact hA6), HF5.out.1.trans hF6⟩
      case measure => simp [intOf]; omega
    · obtain rfl : j = NR := by omega
      have hlen : (echR zs dp (m + lv) L j).length ≤ n := by
        obtain ⟨hL1, hN⟩ := HL.out
        rw [← hN, ← hL1, HX.out.2.2.2.1]
        exact echR_all zs dp (m + lv) (m + lv) zs.length
      have hres : echF zs ⟨lv, dp, st, dl⟩ = (echR zs dp (m + lv) L j).take 15 := by
        obtain ⟨hL1, hN⟩ := HL.out
        unfold echF
        simp only
        rw [HX.out.2.2.2.2.2.2, hL1, hN]
      obtain ⟨R, hRd⟩ : ∃ R, echR zs dp (m + lv) L j = R := ⟨_, rfl⟩
      have hA' := hA.out
      rw [hRd] at hA' hlen hres
      obtain ⟨st', e', va', fv, hW⟩ := hA'
      have c9 := hW.cells.2.2.2.2.2.2.2.2.2.1
      have hbf : Below w.heap.size w wr := (HX.out.2.2.2.2.1.trans (HB2.out.1.mono HX.out.2.2.2.2.1.size)).trans ((HB3.out.1.mono hsz2).trans ((H4.out.2.1.mono (by omega)).trans (hF.1.mono (by omega))))
      obtain ⟨fA, fc, rfl, hfA, hfc⟩ := hW.2.slice
      have HR := Lib.hid (And.intro hres (And.intro hW hbf))
      obtain ⟨NE, hNE⟩ : ∃ N, R.length = N := ⟨_, rfl⟩
      rw [hNE] at c9 hfA hfc hlen
      have HN := Lib.hid hNE
      clear hres hW hbf hA hRd hNE hAR
      unfold maxLen at hfc
      go_wp2
      go_ret2
      refine ⟨.slice fA (min (NE : Int) 15).toNat fc, rfl, ?_, HR.out.2.2⟩
      rw [HR.out.1]
      have e1 : (min (NE : Int) 15).toNat = min 15 NE := by omega
      rw [e1]
      rcases Nat.eq_zero_or_pos NE with h0 | h0
      · have hR0 : R = [] := List.eq_nil_of_length_eq_zero (by rw [HN.out]; exact h0)
        subst h0
        rw [hR0]
        exact ⟨fA, fc, rfl, by simp, by unfold maxLen; omega, fun h => absurd h (by simp)⟩
      · obtain ⟨g, rfl, hg1, hg2⟩ := hfA h0
        have hS := HR.out.2.1.2
        have hR15 : R.take 15 = R.take (min 15 NE) := by
          rw [← HN.out, List.take_eq_take_iff]
          omega
        rw [hR15]
        exact SL.reads eoE_len hS (by rw [HN.out]; omega) hg2 (by rw [HN.out]; unfold maxLen; omega)
end Go.Proofs.Ytndgpgciccgapaa
