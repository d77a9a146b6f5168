/-
  NavTime, the code's.
-/
import Derived.Test.YtdmopmgabieciaaKNav
namespace Go.Proofs.Ytdmopmgabieciaa
open Go.RowKit

/-- What NavTime answers. -/
def NavR (L : List Int) (n : Nat) (scan lo hi er : Int) : Prop :=
  (¬ VC L n ∧ lo = 0 ∧ hi = 0 ∧ er = 45) ∨
  (VC L n ∧ ¬ (0 ≤ scan ∧ scan ≤ 1125899906842624) ∧ lo = 0 ∧ hi = 0 ∧ er = 2) ∨
  (VC L n ∧ (0 ≤ scan ∧ scan ≤ 1125899906842624) ∧ ¬ (0 ≤ scan + cL L (selC L scan n) ∧ scan + cH L (selC L scan n) ≤ 1125899906842624) ∧ lo = 0 ∧ hi = 0 ∧ er = 3) ∨
  (VC L n ∧ (0 ≤ scan ∧ scan ≤ 1125899906842624) ∧ (0 ≤ scan + cL L (selC L scan n) ∧ scan + cH L (selC L scan n) ≤ 1125899906842624) ∧ lo = scan + cL L (selC L scan n) ∧ hi = scan + cH L (selC L scan n) ∧ er = 0)
theorem NavR.ex (L : List Int) (n : Nat) (scan : Int) : ∃ lo hi er, NavR L n scan lo hi er := by
  by_cases h1 : VC L n
  · by_cases h2 : 0 ≤ scan ∧ scan ≤ 1125899906842624
    · by_cases h3 : 0 ≤ scan + cL L (selC L scan n) ∧ scan + cH L (selC L scan n) ≤ 1125899906842624
      · exact ⟨_, _, _, Or.inr (Or.inr (Or.inr ⟨h1, h2, h3, rfl, rfl, rfl⟩))⟩
      · exact ⟨_, _, _, Or.inr (Or.inr (Or.inl ⟨h1, h2, h3, rfl, rfl, rfl⟩))⟩
    · exact ⟨_, _, _, Or.inr (Or.inl ⟨h1, h2, rfl, rfl, rfl⟩)⟩
  · exact ⟨_, _, _, Or.inl ⟨h1, rfl, rfl, rfl⟩⟩
theorem NavR.e45 {L : List Int} {n : Nat} {scan lo hi er : Int} (h : NavR L n scan lo hi er) (h1 : ¬ VC L n) : lo = 0 ∧ hi = 0 ∧ er = 45 := by
  rcases h with h | h | h | h
  · exact h.2
  · exact absurd h.1 h1
  · exact absurd h.1 h1
  · exact absurd h.1 h1
theorem NavR.e2 {L : List Int} {n : Nat} {scan lo hi er : Int} (h : NavR L n scan lo hi er) (h1 : VC L n) (h2 : ¬ (0 ≤ scan ∧ scan ≤ 1125899906842624)) : lo = 0 ∧ hi = 0 ∧ er = 2 := by
  rcases h with h | h | h | h
  · exact absurd h1 h.1
  · exact h.2.2
  · exact absurd h.2.1 h2
  · exact absurd h.2.1 h2
theorem NavR.e3 {L : List Int} {n : Nat} {scan lo hi er : Int} (h : NavR L n scan lo hi er) (h1 : VC L n) (h2 : 0 ≤ scan ∧ scan ≤ 1125899906842624) (h3 : ¬ (0 ≤ scan + cL L (selC L scan n) ∧ scan + cH L (selC L scan n) ≤ 1125899906842624)) : lo = 0 ∧ hi = 0 ∧ er = 3 := by
  rcases h with h | h | h | h
  · exact absurd h1 h.1
  · exact absurd h2 h.2.1
  · exact h.2.2.2
  · exact absurd h.2.2.1 h3
theorem NavR.e0 {L : List Int} {n : Nat} {scan lo hi er : Int} (h : NavR L n scan lo hi er) (h1 : VC L n) (h2 : 0 ≤ scan ∧ scan ≤ 1125899906842624) (h3 : 0 ≤ scan + cL L (selC L scan n) ∧ scan + cH L (selC L scan n) ≤ 1125899906842624) : lo = scan + cL L (selC L scan n) ∧ hi = scan + cH L (selC L scan n) ∧ er = 0 := by
  rcases h with h | h | h | h
  · exact absurd h1 h.1
  · exact absurd h2 h.2.1
  · exact absurd h3 h.2.2.1
  · exact h.2.2.2

/-- A block of three numbers that may be written. -/
def OS3 (w : World) (g : Nat) (a b c : Int) : Prop := (w.cell? ⟨g, 0, none⟩ = some (.int .i64 a) ∧ w.cell? ⟨g, 1, none⟩ = some (.int .i64 b) ∧ w.cell? ⟨g, 2, none⟩ = some (.int .i64 c)) ∧ ∀ i, w.frozen? ⟨g, i, none⟩ = false
theorem OS3.lt {w : World} {g : Nat} {a b c : Int} (h : OS3 w g a b c) : g < w.heap.size := World.block_lt_of_cell? _ _ h.1.1
theorem OS3.new (w : World) (a b c : Int) (T : TypeId) : OS3 (w.alloc (.cells #[.int .i64 a, .int .i64 b, .int .i64 c] T)) w.heap.size a b c :=
  ⟨tri_cells (heap_alloc_new w _) (Below.refl _ _), blk_frozen (heap_alloc_new w _) (Below.refl _ _)⟩
theorem OS3.keep {w w' : World} {g : Nat} {a b c : Int} (h : OS3 w g a b c) (hb : Below w.heap.size w w') : OS3 w' g a b c := by
  have hg := h.lt
  exact ⟨⟨(hb.cell (p := ⟨g, 0, none⟩) hg).trans h.1.1, (hb.cell (p := ⟨g, 1, none⟩) hg).trans h.1.2.1, (hb.cell (p := ⟨g, 2, none⟩) hg).trans h.1.2.2⟩, fun i => (hb.frozen (p := ⟨g, i, none⟩) hg).trans (h.2 i)⟩
theorem OS3.set {w : World} {g : Nat} {a b c : Int} (h : OS3 w g a b c) (x y z : Int) : OS3 (((w.setCell ⟨g, 0, none⟩ (.int .i64 x)).setCell ⟨g, 1, none⟩ (.int .i64 y)).setCell ⟨g, 2, none⟩ (.int .i64 z)) g x y z := by
  obtain ⟨⟨h0, h1, h2⟩, h3⟩ := h
  exact ⟨⟨by simp [go_sem, h0, h1, h2], by simp [go_sem, h0, h1, h2], by simp [go_sem, h0, h1, h2]⟩, fun i => by simp [go_sem, h3]⟩
theorem OS3.alloc {w : World} {g : Nat} {a b c : Int} (h : OS3 w g a b c) (o : Obj) : OS3 (w.alloc o) g a b c := h.keep ((Below.refl _ _).alloc (Nat.le_refl _) o)

theorem below_s2 {n g : Nat} {w wr : World} (h : Below n w wr) (hg : n ≤ g) (x y : Value) : Below n w ((wr.setCell ⟨g, 0, none⟩ x).setCell ⟨g, 1, none⟩ y) :=
  Below.setCell (p := ⟨g, 1, none⟩) (Below.setCell (p := ⟨g, 0, none⟩) h hg x) hg y
theorem below_s3 {n g : Nat} {w wr : World} (h : Below n w wr) (hg : n ≤ g) (x y z : Value) : Below n w (((wr.setCell ⟨g, 0, none⟩ x).setCell ⟨g, 1, none⟩ y).setCell ⟨g, 2, none⟩ z) :=
  Below.setCell (p := ⟨g, 2, none⟩) (below_s2 h hg x y) hg z
/-- What a block of two zeros reads as. -/
def ZC2 (w1 : World) (g : Nat) : Prop := w1.cell? ⟨g, 0, none⟩ = some (.int .i64 0) ∧ w1.cell? ⟨g, 1, none⟩ = some (.int .i64 0) ∧ ∀ i, w1.frozen? ⟨g, i, none⟩ = false
theorem zc2 {w w1 : World} {T : TypeId} (h : Below (w.alloc (.cells #[.int .i64 0, .int .i64 0] T)).heap.size (w.alloc (.cells #[.int .i64 0, .int .i64 0] T)) w1) : ZC2 w1 w.heap.size := by
  obtain ⟨h1, h2⟩ := xy_cells (heap_alloc_new w _) h
  exact ⟨h1, h2, blk_frozen (heap_alloc_new w _) h⟩
theorem zkeep2 {w1 w2 : World} {g : Nat} (h : ZC2 w1 g) (hb : Below w1.heap.size w1 w2) : ZC2 w2 g := by
  obtain ⟨h1, h2, h5⟩ := h
  have hg : g < w1.heap.size := World.block_lt_of_cell? _ _ h1
  exact ⟨(hb.cell (p := ⟨g, 0, none⟩) hg).trans h1, (hb.cell (p := ⟨g, 1, none⟩) hg).trans h2, fun i => (hb.frozen (p := ⟨g, i, none⟩) hg).trans (h5 i)⟩
def U2 (w1 : World) (g : Nat) (a b : Value) : Prop := w1.cell? ⟨g, 0, none⟩ = some a ∧ w1.cell? ⟨g, 1, none⟩ = some b
theorem u2_keep {w1 w2 : World} {g : Nat} {a b : Value} (h : U2 w1 g a b) (hb : Below w1.heap.size w1 w2) : U2 w2 g a b := by
  have hg : g < w1.heap.size := World.block_lt_of_cell? _ _ h.1
  exact ⟨(hb.cell (p := ⟨g, 0, none⟩) hg).trans h.1, (hb.cell (p := ⟨g, 1, none⟩) hg).trans h.2⟩
theorem uA2 {w3 w4 : World} {a b : Value} {T : TypeId} (h : Below (w3.alloc (.cells #[a, b] T)).heap.size (w3.alloc (.cells #[a, b] T)) w4) : U2 w4 w3.heap.size a b := xy_cells (heap_alloc_new w3 _) h
theorem uB2 {w3 : World} {g : Nat} {a b : Value} (hz : ZC2 w3 g) : U2 ((w3.setCell ⟨g, 0, none⟩ a).setCell ⟨g, 1, none⟩ b) g a b := by
  obtain ⟨h1, h2, h5⟩ := hz
  exact ⟨by simp [go_sem, h1, h2], by simp [go_sem, h1, h2]⟩

def NvR (L : List Int) (scan : Int) (n g : Nat) (w : World) (iv : Value) (wr : World) : Prop :=
  ∃ k : Nat, k ≤ n ∧ iv = .int .i64 (k : Int) ∧ Hid (OS3 wr g (cF L (selC L scan k)) (cL L (selC L scan k)) (cH L (selC L scan k))) ∧ Below w.heap.size w wr

theorem selC_yes {L : List Int} {scan : Int} {k : Nat} (h : cF L k ≤ scan) : selC L scan (k + 1) = k := by simp [selC, h]
theorem selC_no {L : List Int} {scan : Int} {k : Nat} (h : ¬ cF L k ≤ scan) : selC L scan (k + 1) = selC L scan k := by simp [selC, h]

set_option maxRecDepth 100000 in
set_option maxHeartbeats 4000000 in
theorem navTime_any (L : List Int) (scan lo hi er : Int) (A : Option Addr) (n c B : Nat) (w : World) (hx : IR w B 3 (.slice A n c) n L) (hB : B ≤ w.heap.size) (hr : NavR L n scan lo hi er) :
    Calls Try.prog 47 #[.slice A n c, .int .i64 scan] w (RetSE w lo hi er) := by
  have hcap := hx.cap
  unfold maxLen at hcap
  have HX := Lib.hid hx
  have HR := Lib.hid hr
  obtain ⟨W0, HW0, HW, HG⟩ := boxes1 w #[.int .i64 0, .int .i64 0] 23
  have hBW : B ≤ W0.heap.size := Nat.le_trans hB HW.out.size
  clear hr hx
  go_enter Try.func47, Try.ntmps47
  go_wp2_with fail
  rw [← HW0.out]
  refine (validClocks_any L A n c B _ (HX.out.belowM HW.out hB) hBW).mono ?_
  rintro e w1 ⟨rfl, hb1⟩
  obtain ⟨d0, d1⟩ := xy_cells HG.out hb1
  have df := blk_frozen HG.out hb1
  have HB1 := Lib.hid hb1
  clear hb1
  by_cases hv : VC L n
  · rw [decide_eq_true hv]
    have HV := Lib.hid hv
    clear hv
    go_wp2_with fail
    refine (within_any 0 1125899906842624 [scan] _ 1 1 _ _ (iw_one _ _ _)).mono ?_
    rintro e w2 ⟨rfl, hb2⟩
    rw [in_oneD]
    have HB2 := Lib.hid (bel_ HB1.out (below_al hb2))
    clear hb2 d0 d1 df
    obtain ⟨d0, d1⟩ := xy_cells HG.out HB2.out
    have df := blk_frozen HG.out HB2.out
    by_cases hs : 0 ≤ scan ∧ scan ≤ 1125899906842624
    · rw [decide_eq_true hs]
      have HS := Lib.hid hs
      have hs1 := hs.1
      have hs2 := hs.2
      clear hs
      obtain ⟨b, o, rfl, hb, hc⟩ := ir_three HX.out HV.out.1
      have hn : 0 < n := HV.out.1
      have hbw : b < w.heap.size := by omega
      have HC := Lib.hid hc
      have HBW2 := Lib.hid (bel_ HW.out HB2.out)
      obtain ⟨a0, a1, a2⟩ := (HC.out 0 hn).below HBW2.out hbw
      rw [Nat.zero_mul, Nat.add_zero] at a0 a1 a2
      have hg0 : w.heap.size < w2.heap.size := by have := HB2.out.size; have := (Array.getElem?_eq_some_iff.1 HG.out).1; omega
      have hbw2 : b < w2.heap.size := by omega
      clear hc
      go_wp2
      go_loopw [25] (fun iv wr => NvR L scan n w2.heap.size w2 iv wr) (fun iv _ => n - (numOfN iv).toNat)
      case atStart => exact ⟨0, Nat.zero_le _, rfl, Lib.hid (OS3.new w2 _ _ _ _), (Below.refl _ _).alloc (Nat.le_refl _) _⟩
      case round =>
        obtain ⟨k, hk, rfl, hos, hbr⟩ := hrel
        clear a0 a1 a2 d0 d1 df
        by_cases hlt : k < n
        · obtain ⟨a0, a1, a2⟩ := (HC.out k hlt).below (HBW2.out.trans (hbr.mono HBW2.out.size)) hbw
          have HBR := Lib.hid hbr
          have hgr : w2.heap.size < wr.heap.size := hos.out.lt
          clear hbr
          obtain ⟨⟨o0, o1, o2⟩, of⟩ := hos.out
          by_cases h1 : cF L k ≤ scan
          · have e1 := Lib.hid (selC_yes h1)
            go_wp2
            go_roundw
            case rel =>
              refine ⟨k + 1, by omega, by simp, ?_, ?_⟩
              · rw [e1.out]
                exact (hos.out.set (cF L k) (cL L k) (cH L k)).alloc _
              · exact (below_s3 HBR.out (Nat.le_refl _) _ _ _).alloc (by simpa using HBR.out.size) _
            case measure => simp [numOfN]; omega
          · have e1 := Lib.hid (selC_no h1)
            go_wp2
            go_roundw
            case rel =>
              refine ⟨k + 1, by omega, by simp, ?_, ?_⟩
              · rw [e1.out]
                exact hos.out.alloc _
              · exact HBR.out.alloc HBR.out.size _
            case measure => simp [numOfN]; omega
        · obtain rfl : k = n := by omega
          obtain ⟨s, hsel⟩ : ∃ s, selC L scan k = s := ⟨_, rfl⟩
          have hsk : s < k := by rw [← hsel]; exact selC_lt L scan k hn
          rw [hsel] at hos
          have HSEL := Lib.hid hsel
          have hokS := HV.out.2 s hsk
          have HOK := Lib.hid hokS.1
          obtain ⟨lo', hlo'⟩ : ∃ x, cL L s = x := ⟨_, rfl⟩
          obtain ⟨hi', hhi'⟩ : ∃ x, cH L s = x := ⟨_, rfl⟩
          obtain ⟨fr', hfr'⟩ : ∃ x, cF L s = x := ⟨_, rfl⟩
          rw [hlo', hhi', hfr'] at hos
          rw [hlo', hhi'] at HOK
          have HLET := Lib.hid (And.intro hlo' hhi')
          obtain ⟨pl, ph, pe, hpl⟩ : ∃ pl ph pe, (okS (scan + lo') (scan + hi') ∧ pl = scan + lo' ∧ ph = scan + hi' ∧ pe = 0) ∨ (¬ okS (scan + lo') (scan + hi') ∧ pl = 0 ∧ ph = 0 ∧ pe = (3 : Int)) := by
            by_cases h : okS (scan + lo') (scan + hi')
            · exact ⟨_, _, _, Or.inl ⟨h, rfl, rfl, rfl⟩⟩
            · exact ⟨_, _, _, Or.inr ⟨h, rfl, rfl, rfl⟩⟩
          have HPL := Lib.hid hpl
          have HPT : Hid (okS scan scan) := by show okS scan scan; unfold okS; omega
          have HBR := Lib.hid hbr
          have hgr : w2.heap.size < wr.heap.size := hos.out.lt
          have KG := Lib.hid (fun (w' : World) (h : Below wr.heap.size wr w') => (hos.out.keep h).1)
          have KD := Lib.hid (KG.out _ (Below.refl wr.heap.size wr).drew)
          clear hbr hpl hlo' hhi' hfr' hsel hokS
          have tok1 : True := trivial
          go_wp2
          go_region_held3 (fun w' => w'.cell? ⟨w2.heap.size, 0, none⟩ = some (.int .i64 fr') ∧ w'.cell? ⟨w2.heap.size, 1, none⟩ = some (.int .i64 lo') ∧ w'.cell? ⟨w2.heap.size, 2, none⟩ = some (.int .i64 hi'))
            (first
              | (with_reducible exact KD.out)
              | (refine KG.out _ ?_
                 repeat (first
                   | (with_reducible refine Below.setCell ?_ (by first | exact Nat.le_refl _ | exact hb3.size) _)
                   | (with_reducible refine Below.drew ?_)
                   | (with_reducible refine Below.alloc ?_ (by first | exact Nat.le_refl _ | exact hb3.size | exact hb4.size) _))
                 first
                   | (with_reducible exact hb4)
                   | (with_reducible exact hb3)
                   | (with_reducible exact Below.refl _ _))
              | go_keep)
            (first
              | (go_at_call 95
                 refine (point_any scan _).mono ?_
                 rintro e w3 ⟨rfl, hb3'⟩
                 have hb3 : Below wr.heap.size wr w3 := by with_reducible first | exact hb3' | exact below_un hb3' | exact below_al hb3' | exact below_al (below_un hb3')
                 try (have Z1 : Hid (ZC2 w3 wr.heap.size) := (by with_reducible first | exact Lib.hid (zc2 hb3') | exact Lib.hid (zc2 (below_un hb3'))))
                 clear hb3')
              | (go_at_call 94
                 refine (plus_any scan scan lo' hi' pl ph pe HPT.out HOK.out HPL.out _).mono ?_
                 rintro e w4 ⟨rfl, hb4'⟩
                 have hb4a : Below w3.heap.size w3 w4 := by with_reducible first | exact hb4' | exact below_un hb4' | exact below_al hb4' | exact below_al (below_un hb4')
                 try (have Z2 : ZC2 w4 wr.heap.size := (by with_reducible exact zkeep2 Z1.out hb4a); have HZ2 := Lib.hid Z2; obtain ⟨y0, y1, yf⟩ := Z2)
                 try (have Z3 : ZC2 w4 w3.heap.size := (by with_reducible first | exact zc2 hb4' | exact zc2 (below_un hb4')); have HZ3 := Lib.hid Z3; obtain ⟨x0, x1, xf⟩ := Z3)
                 have hb4 : Below wr.heap.size wr w4 := hb3.trans (hb4a.mono hb3.size)
                 clear hb4'))
          all_goals
            first
              | (obtain ⟨X, hX⟩ : ∃ X, X = w4.alloc (.cells #[.int .i64 pl, .int .i64 ph] 23) := ⟨_, rfl⟩
                 rw [← hX]
                 have u : U2 X w4.heap.size (.int .i64 pl) (.int .i64 ph) := by rw [hX]; exact uA2 (Below.refl _ _))
              | (obtain ⟨X, hX⟩ : ∃ X, X = World.setCell (World.setCell w4 ⟨w3.heap.size, 0, none⟩ (.int .i64 pl)) ⟨w3.heap.size, 1, none⟩ (.int .i64 ph) := ⟨_, rfl⟩
                 rw [← hX]
                 have u : U2 X w3.heap.size (.int .i64 pl) (.int .i64 ph) := by rw [hX]; exact uB2 HZ3.out)
              | (obtain ⟨X, hX⟩ : ∃ X, X = World.setCell (World.setCell w4 ⟨wr.heap.size, 0, none⟩ (.int .i64 pl)) ⟨wr.heap.size, 1, none⟩ (.int .i64 ph) := ⟨_, rfl⟩
                 rw [← hX]
                 have u : U2 X wr.heap.size (.int .i64 pl) (.int .i64 ph) := by rw [hX]; exact uB2 HZ2.out)
            have HU := Lib.hid u
            obtain ⟨u0, u1⟩ := u
            have hb6 : Below wr.heap.size wr X := by
              rw [hX]
              repeat (first
                | (with_reducible refine Below.setCell ?_ (by first | exact Nat.le_refl _ | exact hb3.size) _)
                | (with_reducible refine Below.drew ?_)
                | (with_reducible refine Below.alloc ?_ (by first | exact Nat.le_refl _ | exact hb3.size | exact hb4.size) _))
              first
                | (with_reducible exact hb4)
                | (with_reducible exact hb3)
                | (with_reducible exact Below.refl _ _)
            have HB7 := Lib.hid (bel_ HB2.out (bel_ HBR.out hb6))
            obtain ⟨d0, d1⟩ := xy_cells HG.out HB7.out
            have df := blk_frozen HG.out HB7.out
            clear hX hb6 hb4 hb4a
            rcases HPL.out with hp | hp
            · obtain ⟨q1, q2, q3, q4⟩ := hp
              subst q4
              have HQ := Lib.hid (And.intro q1 (And.intro q2 q3))
              clear q1 q2 q3
              go_wp2_with fail
              refine (isPart_any pl ph 0 1125899906842624 _).mono ?_
              rintro e w5 ⟨rfl, hb5⟩
              have HB8 := Lib.hid (bel_ HB7.out hb5)
              have hu := u2_keep HU.out hb5
              clear d0 d1 df u0 u1
              obtain ⟨d0, d1⟩ := xy_cells HG.out HB8.out
              have df := blk_frozen HG.out HB8.out
              obtain ⟨u0, u1⟩ := hu
              clear hb5
              by_cases hin : inS pl ph 0 1125899906842624
              · rw [decide_eq_true hin]
                have HE := Lib.hid (HR.out.e0 HV.out HS.out (by rw [HSEL.out, HLET.out.1, HLET.out.2]; have := HQ.out; unfold inS at hin; omega))
                clear hin
                have HE2 : Hid (lo = pl ∧ hi = ph ∧ er = 0) := by
                  have h := HE.out
                  rw [HSEL.out, HLET.out.1, HLET.out.2] at h
                  exact ⟨h.1.trans HQ.out.2.1.symm, h.2.1.trans HQ.out.2.2.symm, h.2.2⟩
                go_wp2
                refine bodyPost_ret (v := .tuple #[.agg #[.int .i64 pl, .int .i64 ph], .int .i64 0]) (by simp [results, Try.results47, go_sem, d0, d1]) rfl ⟨by rw [HE2.out.1, HE2.out.2.1, HE2.out.2.2], ?_⟩
                exact below_s2 (bel_ HW.out HB8.out) (Nat.le_refl _) _ _
              · rw [decide_eq_false hin]
                have HE := Lib.hid (HR.out.e3 HV.out HS.out (by rw [HSEL.out, HLET.out.1, HLET.out.2]; have h1 := HQ.out.1; have h2 := HQ.out.2; have h3 := HOK.out; unfold inS at hin; unfold okS at hin h1 h3; omega))
                clear hin
                go_wp2
                refine bodyPost_ret (v := .tuple #[.agg #[.int .i64 0, .int .i64 0], .int .i64 3]) (by simp [results, Try.results47, go_sem, d0, d1]) rfl ⟨by rw [HE.out.1, HE.out.2.1, HE.out.2.2], ?_⟩
                exact below_s2 (bel_ HW.out HB8.out) (Nat.le_refl _) _ _
            · obtain ⟨q1, q2, q3, q4⟩ := hp
              subst q2 q3 q4
              have HE := Lib.hid (HR.out.e3 HV.out HS.out (by rw [HSEL.out, HLET.out.1, HLET.out.2]; have h3 := HOK.out; unfold okS at q1 h3; omega))
              clear q1
              go_wp2
              refine bodyPost_ret (v := .tuple #[.agg #[.int .i64 0, .int .i64 0], .int .i64 3]) (by simp [results, Try.results47, go_sem, d0, d1]) rfl ⟨by rw [HE.out.1, HE.out.2.1, HE.out.2.2], ?_⟩
              exact below_s2 (bel_ HW.out HB7.out) (Nat.le_refl _) _ _
    · rw [decide_eq_false hs]
      have HE := Lib.hid (HR.out.e2 HV.out hs)
      clear hs
      go_wp2
      refine bodyPost_ret (v := .tuple #[.agg #[.int .i64 0, .int .i64 0], .int .i64 2]) (by simp [results, Try.results47, go_sem, d0, d1]) rfl ⟨by rw [HE.out.1, HE.out.2.1, HE.out.2.2], ?_⟩
      exact below_s2 (bel_ HW.out HB2.out) (Nat.le_refl _) _ _
  · rw [decide_eq_false hv]
    have HE := Lib.hid (HR.out.e45 hv)
    clear hv
    go_wp2
    refine bodyPost_ret (v := .tuple #[.agg #[.int .i64 0, .int .i64 0], .int .i64 45]) (by simp [results, Try.results47, go_sem, d0, d1]) rfl ⟨by rw [HE.out.1, HE.out.2.1, HE.out.2.2], ?_⟩
    exact below_s2 (bel_ HW.out HB1.out) (Nat.le_refl _) _ _
end Go.Proofs.Ytdmopmgabieciaa
