/-
  The document's echoes of one run.
-/
import Derived.Test.YtkcagifljelfoaaVRn
import Derived.Test.YtkcagifljelfoaaVBase
import Derived.Deep.MidRow
namespace Go.Proofs.Ytkcagifljelfoaa
open Go.RowKit

def EB (w : World) (g : Nat) (e : Eo) : Prop :=
  w.heap[g]? = some (.cells #[.int .i64 (e.fr : Int), .int .i64 (e.to : Int), .int .i64 (e.pk : Int), .int .i64 e.lv, .int .i64 e.tp] 50 (0, 0))
section
variable {w w' : World} {g : Nat} {e : Eo}
theorem EB.cells (h : EB w g e) : w.cell? ⟨g, 0, none⟩ = some (.int .i64 (e.fr : Int)) ∧ w.cell? ⟨g, 1, none⟩ = some (.int .i64 (e.to : Int)) ∧ w.cell? ⟨g, 2, none⟩ = some (.int .i64 (e.pk : Int)) ∧ w.cell? ⟨g, 3, none⟩ = some (.int .i64 e.lv) ∧ w.cell? ⟨g, 4, none⟩ = some (.int .i64 e.tp) ∧ (∀ j, w.frozen? ⟨g, j, none⟩ = false) ∧ g < w.heap.size := by
  refine ⟨?_, ?_, ?_, ?_, ?_, fun j => frozen_of_row _ _ _ _ _ h, (Array.getElem?_eq_some_iff.1 h).1⟩ <;> exact cell_of_row _ _ _ _ _ _ h
theorem EB.setTo (h : EB w g e) (x : Nat) : EB (w.setCell ⟨g, 1, none⟩ (.int .i64 (x : Int))) g ⟨e.fr, x, e.pk, e.lv, e.tp⟩ := heap_setCell_same w g 1 _ _ _ h
theorem EB.setPk (h : EB w g e) (x : Nat) : EB (w.setCell ⟨g, 2, none⟩ (.int .i64 (x : Int))) g ⟨e.fr, e.to, x, e.lv, e.tp⟩ := heap_setCell_same w g 2 _ _ _ h
theorem EB.setTp (h : EB w g e) (x : Int) : EB (w.setCell ⟨g, 4, none⟩ (.int .i64 x)) g ⟨e.fr, e.to, e.pk, e.lv, x⟩ := heap_setCell_same w g 4 _ _ _ h
theorem EB.setAll (h : EB w g e) (e' : Eo) : EB (((((w.setCell ⟨g, 0, none⟩ (.int .i64 (e'.fr : Int))).setCell ⟨g, 1, none⟩ (.int .i64 (e'.to : Int))).setCell ⟨g, 2, none⟩ (.int .i64 (e'.pk : Int))).setCell ⟨g, 3, none⟩ (.int .i64 e'.lv)).setCell ⟨g, 4, none⟩ (.int .i64 e'.tp)) g e' :=
  heap_setCell_same _ g 4 _ _ _ (heap_setCell_same _ g 3 _ _ _ (heap_setCell_same _ g 2 _ _ _ (heap_setCell_same _ g 1 _ _ _ (heap_setCell_same w g 0 _ _ _ h))))
theorem EB.drew (h : EB w g e) : EB w.drew g e := h
end
theorem SL.setB {w : World} {g j : Nat} {u v : Value} {R : List Eo} (h : SL eoE 5 50 w (g + 1) v R) : SL eoE 5 50 (w.setCell ⟨g, j, none⟩ u) (g + 1) v R :=
  ownsRow_setCell_other h (fun hb => by have := (h.lt g hb).1; omega) u

/-- The state of the document's loop. -/
def RrS (w wr : World) (ov : Value) (S : Fs) : Prop := EB wr w.heap.size S.e ∧ SL eoE 5 50 wr (w.heap.size + 1) ov S.R ∧ Below w.heap.size w wr
def RrRel (zs : List Int) (drop lv : Int) (x y : Nat) (w : World) (ov fv vv iv : Value) (wr : World) : Prop :=
  ∃ k : Nat, iv = .int .i64 ((x + 1 + k : Nat) : Int) ∧ x + 1 + k ≤ y ∧ fv = .bool (runS zs drop lv x [] k).fall ∧ vv = .int .i64 ((runS zs drop lv x [] k).va : Int) ∧ Hid (RrS w wr ov (runS zs drop lv x [] k))
def RetRun (w : World) (R : List Eo) (en : Ending) (w' : World) : Prop := ∃ v, en = .returned v ∧ SL eoE 5 50 w' w.heap.size v R ∧ Below w.heap.size w w'

theorem five_cells (w : World) (e : TypeId) (a b c d f : Int) : ∀ j u, [Value.int .i64 a, .int .i64 b, .int .i64 c, .int .i64 d, .int .i64 f][j]? = some u → (w.alloc (.cells #[.int .i64 a, .int .i64 b, .int .i64 c, .int .i64 d, .int .i64 f] e)).cell? ((⟨w.heap.size, 0, none⟩ : Addr).add j) = some u := by
  intro j u hj
  rw [add_none, Nat.zero_add]
  exact built_cells w _ e j u (by simpa using hj)

set_option maxRecDepth 100000 in
set_option maxHeartbeats 2000000 in
theorem refRun_ok (zs : List Int) (hok : okZ zs) (drop lv : Int) (hd : 1 ≤ drop ∧ drop ≤ 1023) (x y : Nat) (hxy : x < y) (A : Option Addr) (n c B : Nat) (hy : y ≤ n) (w : World) (hx : IW w B (.slice A n c) zs) (hB : B ≤ w.heap.size) :
    Calls Try.prog 35 #[.slice A n c, .int .i64 (x : Int), .int .i64 (y : Int), .int .i64 lv, .int .i64 drop] w (RetRun w (goneR zs drop lv x y [])) := by
  obtain ⟨i0, hi0, hz0, hz1, hz2⟩ := info_parts infoE
  have hl := Lib.hid hx.len
  have hn : n ≤ 256 := by have := hok.1; have := hl.out; omega
  have HO := Lib.hid hok
  obtain ⟨b, o, rfl, hb, hcz⟩ := hx.at_ (by omega)
  have hcap := hx.cap
  unfold maxLen at hcap
  have hbw : b < w.heap.size := by omega
  have HC := Lib.hid (fun (wx : World) (h : Below w.heap.size w wx) (j : Nat) (hj : j < n) => (h.cell (p := ⟨b, o + j, none⟩) hbw).trans (hcz j hj))
  clear hx hcz hok
  go_enter Try.func35, Try.ntmps35
  go_wp2
  go_loopw [11, 13, 14, 15] (fun ov fv vv iv wr => RrRel zs drop lv x y w ov fv vv iv wr) (fun _ _ _ iv _ => y - (intOf iv).toNat)
  case atStart =>
    refine ⟨0, by simp, by omega, rfl, rfl, Lib.hid ⟨heap_alloc_new w _, SL.nil_ _ _ _ _ _, (Below.refl _ _).alloc (Nat.le_refl _) _⟩⟩
  case round =>
    obtain ⟨k, rfl, hky, rfl, rfl, hS⟩ := hrel
    have hO := runS_ok zs drop lv x [] (Nat.zero_le _) k
    have hN : runS zs drop lv x [] (k + 1) = stF zs drop (runS zs drop lv x [] k) (x + 1 + k) := rfl
    obtain ⟨⟨fall, ⟨fr, to, pk, el, tp⟩, va, R⟩, hSd⟩ : ∃ S, runS zs drop lv x [] k = S := ⟨_, rfl⟩
    rw [hSd] at hS hO hN ⊢
    obtain ⟨o1, o2, o3⟩ := hO
    simp only at o1 o2 o3
    obtain ⟨c0, c1, c2, c3, c4, cf, cl⟩ := hS.out.1.cells
    simp only at c0 c1 c2 c3 c4
    have zp := HC.out wr hS.out.2.2 pk (by omega)
    have bp := HO.out.ith (j := pk) (by have := hl.out; omega)
    obtain ⟨vp, hvp⟩ : ∃ v, ith zs pk = v := ⟨_, rfl⟩
    rw [hvp] at zp bp
    obtain ⟨I, hI⟩ : ∃ I, x + 1 + k = I := ⟨_, rfl⟩
    rw [hI] at hky hN ⊢
    have HI := Lib.hid (And.intro hI hSd)
    by_cases hlt : I < y
    · have zi := HC.out wr hS.out.2.2 I (by omega)
      have bi := HO.out.ith (j := I) (by have := hl.out; omega)
      obtain ⟨vi, hvi⟩ : ∃ v, ith zs I = v := ⟨_, rfl⟩
      rw [hvi] at zi bi
      have hIn : I < n := by omega
      have hpn : pk < n := by omega
      have HR : ∀ ov' S' W', runS zs drop lv x [] (k + 1) = S' → RrS w W' ov' S' → RrRel zs drop lv x y w ov' (.bool S'.fall) (.int .i64 (S'.va : Int)) (.int .i64 ((I : Int) + 1)) W' := fun ov' S' W' h1 h2 => by
        refine ⟨k + 1, ?_, by omega, by rw [h1], by rw [h1], Lib.hid (by rw [h1]; exact h2)⟩
        rw [← hI]; simp; omega
      have HH := Lib.hid (And.intro HR (And.intro hN (And.intro hvp hvi)))
      clear HR hN hvp hvi hSd hI
      cases fall with
      | false =>
        by_cases q1 : vp < vi
        · go_wp2
          go_region
          go_wp2
          go_roundw
          case rel =>
            refine HH.out.1 _ ⟨false, ⟨fr, to, I, el, tp⟩, va, R⟩ _ ?_ ⟨hS.out.1.setPk I, hS.out.2.1.setB, hS.out.2.2.drew.setCell (p := ⟨w.heap.size, 2, none⟩) (Nat.le_refl _) _⟩
            rw [HH.out.2.1, stF]
            simp only [Bool.false_eq_true, if_false]
            rw [HH.out.2.2.1, HH.out.2.2.2, if_pos q1]
          case measure => simp [intOf]; omega
        · by_cases q2 : vi ≤ vp - drop
          · have v1 : drop ≤ vp - vi := by omega
            go_wp2
            go_region
            go_wp2
            go_region
            go_wp2
            go_roundw
            case rel =>
              refine HH.out.1 _ ⟨true, ⟨fr, to, pk, el, tp⟩, I, R⟩ _ ?_ ⟨hS.out.1, hS.out.2.1, hS.out.2.2.drew.drew⟩
              rw [HH.out.2.1, stF]
              simp only [Bool.false_eq_true, if_false]
              rw [HH.out.2.2.1, HH.out.2.2.2, if_neg (show ¬ vp < vi by omega), if_pos q2]
            case measure => simp [intOf]; omega
          · have v1 : ¬ drop ≤ vp - vi := by omega
            go_wp2
            go_region
            go_wp2
            go_region
            go_wp2
            go_region
            go_wp2
            go_region
            go_wp2
            go_roundw
            case rel =>
              refine HH.out.1 _ ⟨false, ⟨fr, to, pk, el, tp⟩, va, R⟩ _ ?_ ⟨hS.out.1, hS.out.2.1, hS.out.2.2.drew.drew.drew.drew⟩
              rw [HH.out.2.1, stF]
              simp only [Bool.false_eq_true, if_false]
              rw [HH.out.2.2.1, HH.out.2.2.2, if_neg (show ¬ vp < vi by omega), if_neg (show ¬ vi ≤ vp - drop by omega)]
            case measure => simp [intOf]; omega
      | true =>
        have hva := o2 rfl
        have hvn : va < n := by have := HI.out.1; omega
        have zv := HC.out wr hS.out.2.2 va hvn
        have bv := HO.out.ith (j := va) (by have := hl.out; omega)
        obtain ⟨vv, hvv⟩ : ∃ v, ith zs va = v := ⟨_, rfl⟩
        rw [hvv] at zv bv
        have HV := Lib.hid hvv
        clear hvv o2
        by_cases q1 : vi < vv
        · skip
          go_wp2
          go_region
          go_wp2
          go_region
          go_wp2
          go_region
          go_wp2
          go_roundw
          case rel =>
            refine HH.out.1 _ ⟨true, ⟨fr, to, pk, el, tp⟩, I, R⟩ _ ?_ ⟨hS.out.1, hS.out.2.1, hS.out.2.2.drew.drew.drew⟩
            rw [HH.out.2.1, stF]
            simp only [if_true]
            rw [HV.out, HH.out.2.2.2, if_pos q1]
          case measure => simp [intOf]; omega
        · by_cases q2 : vv + drop ≤ vi
          · have v1 : drop ≤ vi - vv := by omega
            obtain ⟨fA, fc, rfl, hfA, hfc⟩ := hS.out.2.1.slice
            obtain ⟨W2, hW2⟩ : ∃ W2, W2 = (wr.setCell ⟨w.heap.size, 1, none⟩ (.int .i64 (va : Int))).setCell ⟨w.heap.size, 4, none⟩ (.int .i64 vp) := ⟨_, rfl⟩
            have hS2 : RrS w W2 (.slice fA R.length fc) ⟨true, ⟨fr, va, pk, el, vp⟩, va, R⟩ := by
              rw [hW2]
              exact ⟨(hS.out.1.setTo va).setTp vp, hS.out.2.1.setB.setB, (hS.out.2.2.setCell (p := ⟨w.heap.size, 1, none⟩) (Nat.le_refl _) _).setCell (p := ⟨w.heap.size, 4, none⟩) (Nat.le_refl _) _⟩
            have hz2' : W2.heap.size = wr.heap.size := by rw [hW2]; simp
            have hown : W2.ownsRow (w.heap.size + 1) 50 5 (.slice fA R.length fc) R.length (ints (R.flatMap eoE)) := hS2.2.1
            have TC := Lib.hid (five_cells W2 50 (fr : Int) (va : Int) (pk : Int) el vp)
            obtain ⟨LR, hLR⟩ : ∃ l, R.length = l := ⟨_, rfl⟩
            obtain ⟨F, hF⟩ : ∃ F, ints (R.flatMap eoE) = F := ⟨_, rfl⟩
            rw [hLR, hF] at hown
            rw [hLR] at hfA hfc o3
            have HL := Lib.hid (And.intro hLR hF)
            have HS2 := Lib.hid (And.intro hS2 (And.intro hz2' hW2))
            have hI256 : (LR : Int) ≤ 256 := by have := HI.out.1; omega
            rw [hLR]
            unfold maxLen at hfc
            clear hS2 hz2' hLR hF hfA hW2
            go_wp2
            go_region
            go_wp2
            go_region
            go_wp2
            go_region
            go_wp2
            go_region
            go_wp2
            go_region
            rw [← HS2.out.2.2]
            clear c0 c1 c2 c3 c4 zp zi zv
            obtain ⟨c0, c1, c2, c3, c4, cf2, cl2⟩ := HS2.out.1.1.cells
            simp only at c0 c1 c2 c3 c4
            go_wp2_with (at_builtin
                         refine wpList_append_own_at _ rfl (.tmp 99) (.tmp 101) _ rfl (w.heap.size + 1) 50 i0 _ 5 40 Try.underlying43 hi0 hz0 hz1 hz2 rfl (by decide) _ LR _ rfl ((hown.alloc _).drew.drew.drew.drew.drew) ⟨W2.heap.size, 0, none⟩ 1 1 [.int .i64 (fr : Int), .int .i64 (va : Int), .int .i64 (pk : Int), .int .i64 el, .int .i64 vp] rfl rfl TC.out (by intro u hu; simp at hu; rcases hu with rfl | rfl | rfl | rfl | rfl <;> rfl) (by unfold maxLen; omega) (by omega) (by simp; omega) ?_)
            intro v' w1 ho hg' _ _
            have hg : (W2.alloc (.cells #[.int .i64 (fr : Int), .int .i64 (va : Int), .int .i64 (pk : Int), .int .i64 el, .int .i64 vp] 50)).grownBy w1 (Value.slice fA LR fc).ownBlock := ⟨hg'.os, hg'.tape, hg'.output, hg'.size, hg'.block⟩
            have hSl := HS2.out.1.2.1
            rw [HL.out.1] at hSl
            have HG := Lib.hid (SL.grows (a := (⟨fr, va, pk, el, vp⟩ : Eo)) hSl HS2.out.1.2.2 (Nat.le_refl _) (Nat.le_succ _) _ HL.out rfl ho hg)
            have hE1 : EB w1 w.heap.size ⟨fr, va, pk, el, vp⟩ := by
              have h0 := HS2.out.1.1
              have hlt0 := h0.cells.2.2.2.2.2.2
              have h1 := hg.block w.heap.size (by simp; omega) (fun hb' => by have := (hSl.lt w.heap.size hb'.symm).1; omega)
              exact h1.trans ((Below.heap_alloc W2 _ w.heap.size hlt0).trans h0)
            clear ho hg hg' hown hSl
            have zv := HC.out w1 HG.out.2 va hvn
            rw [HV.out] at zv
            clear c0 c1 c2 c3 c4 cf2 cl2 cf cl
            obtain ⟨c0, c1, c2, c3, c4, cf, cl⟩ := hE1.cells
            simp only at c0 c1 c2 c3 c4
            have HE1 := Lib.hid hE1
            clear hE1
            go_wp2
            go_roundw
            case rel =>
              refine HH.out.1 _ ⟨false, ⟨va, 0, I, vv + drop, 0⟩, va, R ++ [⟨fr, va, pk, el, vp⟩]⟩ _ ?_ ⟨HE1.out.setAll ⟨va, 0, I, vv + drop, 0⟩, HG.out.1.setB.setB.setB.setB.setB, ?_⟩
              · rw [HH.out.2.1, stF]
                simp only [if_true]
                rw [HV.out, HH.out.2.2.1, HH.out.2.2.2, if_neg (show ¬ vi < vv by omega), if_pos q2]
              · exact ((((HG.out.2.setCell (p := ⟨w.heap.size, 0, none⟩) (Nat.le_refl _) _).setCell (p := ⟨w.heap.size, 1, none⟩) (Nat.le_refl _) _).setCell (p := ⟨w.heap.size, 2, none⟩) (Nat.le_refl _) _).setCell (p := ⟨w.heap.size, 3, none⟩) (Nat.le_refl _) _).setCell (p := ⟨w.heap.size, 4, none⟩) (Nat.le_refl _) _
            case measure => simp [intOf]; omega
          · have v1 : ¬ drop ≤ vi - vv := by omega
            go_wp2
            go_region
            go_wp2
            go_region
            go_wp2
            go_region
            go_wp2
            go_region
            go_wp2
            go_roundw
            case rel =>
              refine HH.out.1 _ ⟨true, ⟨fr, to, pk, el, tp⟩, va, R⟩ _ ?_ ⟨hS.out.1, hS.out.2.1, hS.out.2.2.drew.drew.drew.drew⟩
              rw [HH.out.2.1, stF]
              simp only [if_true]
              rw [HV.out, HH.out.2.2.2, if_neg (show ¬ vi < vv by omega), if_neg (show ¬ vv + drop ≤ vi by omega)]
            case measure => simp [intOf]; omega
    · have hIy : I = y := by omega
      have hpn : pk < n := by have := HI.out.1; omega
      obtain ⟨fA, fc, rfl, hfA, hfc⟩ := hS.out.2.1.slice
      obtain ⟨W2, hW2⟩ : ∃ W2, W2 = (wr.setCell ⟨w.heap.size, 1, none⟩ (.int .i64 (y : Int))).setCell ⟨w.heap.size, 4, none⟩ (.int .i64 vp) := ⟨_, rfl⟩
      have hS2 : RrS w W2 (.slice fA R.length fc) ⟨fall, ⟨fr, y, pk, el, vp⟩, va, R⟩ := by
        rw [hW2]
        exact ⟨(hS.out.1.setTo y).setTp vp, hS.out.2.1.setB.setB, (hS.out.2.2.setCell (p := ⟨w.heap.size, 1, none⟩) (Nat.le_refl _) _).setCell (p := ⟨w.heap.size, 4, none⟩) (Nat.le_refl _) _⟩
      have hz2' : W2.heap.size = wr.heap.size := by rw [hW2]; simp
      have hown : W2.ownsRow (w.heap.size + 1) 50 5 (.slice fA R.length fc) R.length (ints (R.flatMap eoE)) := hS2.2.1
      have TC := Lib.hid (five_cells W2 50 (fr : Int) (y : Int) (pk : Int) el vp)
      have hgone : goneR zs drop lv x y [] = R ++ [⟨fr, y, pk, el, vp⟩] := by
        have e : y - 1 - x = k := by omega
        unfold goneR
        rw [e, hSd]
        simp only [hvp]
      obtain ⟨LR, hLR⟩ : ∃ l, R.length = l := ⟨_, rfl⟩
      obtain ⟨F, hF⟩ : ∃ F, ints (R.flatMap eoE) = F := ⟨_, rfl⟩
      rw [hLR, hF] at hown
      rw [hLR] at hfA hfc o3
      have HL := Lib.hid (And.intro hLR hF)
      have HS2 := Lib.hid (And.intro hS2 (And.intro hz2' hW2))
      have hI256 : (LR : Int) ≤ 256 := by have := HI.out.1; omega
      rw [hLR]
      have HGo := Lib.hid hgone
      unfold maxLen at hfc
      have hyI : ¬ (I : Int) < (y : Int) := by omega
      clear hS2 hz2' hLR hF hfA hSd hN hvp hI hgone hW2
      go_wp2
      go_region
      rw [← HS2.out.2.2]
      clear c0 c1 c2 c3 c4 zp
      obtain ⟨c0, c1, c2, c3, c4, cf2, cl2⟩ := HS2.out.1.1.cells
      simp only at c0 c1 c2 c3 c4
      go_wp2_with (at_builtin
                   refine wpList_append_own_at _ rfl (.tmp 120) (.tmp 122) _ rfl (w.heap.size + 1) 50 i0 _ 5 40 Try.underlying43 hi0 hz0 hz1 hz2 rfl (by decide) _ LR _ rfl ((hown.alloc _).drew) ⟨W2.heap.size, 0, none⟩ 1 1 [.int .i64 (fr : Int), .int .i64 (y : Int), .int .i64 (pk : Int), .int .i64 el, .int .i64 vp] rfl rfl TC.out (by intro u hu; simp at hu; rcases hu with rfl | rfl | rfl | rfl | rfl <;> rfl) (by unfold maxLen; omega) (by omega) (by simp; omega) ?_)
      intro v' w1 ho hg' _ _
      have hg : (W2.alloc (.cells #[.int .i64 (fr : Int), .int .i64 (y : Int), .int .i64 (pk : Int), .int .i64 el, .int .i64 vp] 50)).grownBy w1 (Value.slice fA LR fc).ownBlock := ⟨hg'.os, hg'.tape, hg'.output, hg'.size, hg'.block⟩
      have hSl := HS2.out.1.2.1
      rw [HL.out.1] at hSl
      have HG := Lib.hid (SL.grows (a := (⟨fr, y, pk, el, vp⟩ : Eo)) hSl HS2.out.1.2.2 (Nat.le_refl _) (Nat.le_succ _) _ HL.out rfl ho hg)
      have hE1 : EB w1 w.heap.size ⟨fr, y, pk, el, vp⟩ := by
        have h0 := HS2.out.1.1
        have hlt0 := h0.cells.2.2.2.2.2.2
        have h1 := hg.block w.heap.size (by simp; omega) (fun hb' => by have := (hSl.lt w.heap.size hb'.symm).1; omega)
        exact h1.trans ((Below.heap_alloc W2 _ w.heap.size hlt0).trans h0)
      clear ho hg hg' hown hSl
      go_wp2
      go_ret
      exact ⟨v', rfl, by rw [HGo.out]; exact HG.out.1.more (Nat.le_succ _), HG.out.2⟩
end Go.Proofs.Ytkcagifljelfoaa
