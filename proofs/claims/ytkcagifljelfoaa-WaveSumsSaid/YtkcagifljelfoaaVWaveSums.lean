/-
  For any returns the law WaveSums returns true and leaves its argument as it was: no condition.
-/
import Derived.Test.YtkcagifljelfoaaVFirst
import Derived.Test.YtkcagifljelfoaaVSum
namespace Go.Proofs.Ytkcagifljelfoaa.waveSums
open Go.Proofs.Ytkcagifljelfoaa
open Go.ChangeShapes Go.WideShapes Go.ChangeAt Go.RowKit Go.Joins
set_option linter.unusedVariables false

def TW (w wr : World) (n a b : Nat) (e : Int) : Prop := wr.heap[w.heap.size]? = some (.cells (talC n a b e) 25 (0, 0)) ∧ Below w.heap.size w wr
section
variable {w wr : World} {n a b : Nat} {e : Int}
theorem TW.setE (h : TW w wr n a b e) (e' : Int) : TW w (wr.setCell ⟨w.heap.size, 3, none⟩ (.int .i64 e')) n a b e' :=
  ⟨heap_setCell_same wr _ 3 _ _ _ h.1, h.2.setCell (p := ⟨w.heap.size, 3, none⟩) (Nat.le_refl _) _⟩
theorem TW.setC (h : TW w wr n a b e) : TW w (wr.setCell ⟨w.heap.size, 0, none⟩ (.int .i64 ((n : Int) + 1))) (n + 1) a b e :=
  ⟨heap_setCell_same wr _ 0 _ _ _ h.1, h.2.setCell (p := ⟨w.heap.size, 0, none⟩) (Nat.le_refl _) _⟩
theorem TW.setF (h : TW w wr n a b e) : TW w (wr.setCell ⟨w.heap.size, 1, none⟩ (.int .i64 ((a : Int) + 1))) n (a + 1) b e :=
  ⟨heap_setCell_same wr _ 1 _ _ _ h.1, h.2.setCell (p := ⟨w.heap.size, 1, none⟩) (Nat.le_refl _) _⟩
theorem TW.setL (h : TW w wr n a b e) : TW w (wr.setCell ⟨w.heap.size, 2, none⟩ (.int .i64 ((b : Int) + 1))) n a (b + 1) e :=
  ⟨heap_setCell_same wr _ 2 _ _ _ h.1, h.2.setCell (p := ⟨w.heap.size, 2, none⟩) (Nat.le_refl _) _⟩
theorem TW.drew (h : TW w wr n a b e) : TW w wr.drew n a b e := ⟨h.1, h.2.drew⟩
end
theorem below_un {w w' : World} (h : Below w.drew.heap.size w.drew w') : Below w.heap.size w w' := ⟨h.os, h.tape, h.output, h.size, h.block⟩
theorem bel_ {w w1 w2 : World} (h : Below w.heap.size w w1) (h' : Below w1.heap.size w1 w2) : Below w.heap.size w w2 := h.trans (h'.mono h.size)

set_option maxRecDepth 100000 in
set_option maxHeartbeats 4000000 in
theorem walk (A : Option Addr) (n c : Nat) (L : List Int) (hI : AllI L) (w : World) (hx : IR w w.heap.size 6 (.slice A n c) n L) :
    Calls Try.prog 3 #[.slice A n c] w (RetB w true) := by
  by_cases h64 : 1000 < n
  · go_enter Try.func3, Try.ntmps3
    go_wp2_with fail
    refine (first_any _).mono ?_
    rintro e w1 ⟨rfl, hb1⟩
    go_wp2
    go_ret
    exact ⟨rfl, hb1⟩
  · have HX := Lib.hid (And.intro hx hI)
    clear hx hI
    go_enter Try.func3, Try.ntmps3
    go_wp2
    go_loopw [4] (fun iv wr => ∃ k : Nat, iv = .int .i64 (k : Int) ∧ k ≤ n ∧ Hid (smallE L k ∧ TW w wr k (tF L k) (tL L k) (tE L k))) (fun iv _ => n - (intOf iv).toNat)
    case atStart => exact ⟨0, rfl, Nat.zero_le _, Lib.hid ⟨fun j hj => absurd hj (by omega), heap_alloc_new _ _, (Below.refl _ _).alloc (Nat.le_refl _) _⟩⟩
    case round =>
      obtain ⟨k, rfl, hk, hH⟩ := hrel
      obtain ⟨s0, s1, s2, s3, sf, sl⟩ := tal_cells hH.out.2.1
      have qF := tF_le L k
      have qL := tL_le L k
      have qE := tE_le hH.out.1
      obtain ⟨F, hF⟩ : ∃ F, tF L k = F := ⟨_, rfl⟩
      obtain ⟨La, hLa⟩ : ∃ F, tL L k = F := ⟨_, rfl⟩
      obtain ⟨E, hE⟩ : ∃ F, tE L k = F := ⟨_, rfl⟩
      rw [hF] at s1 qF
      rw [hLa] at s2 qL
      rw [hE] at s3 qE
      have HN := Lib.hid (And.intro hF (And.intro hLa hE))
      by_cases hlt : k < n
      · obtain ⟨A', c', e, h0, h1, h2, h3⟩ := HX.out.1
        obtain ⟨b, o, rfl, hb, hc⟩ := h3 (by omega)
        injection e with e1 e2 e3
        subst e1 e3
        have hbw := hH.out.2.2
        have f := fun j (hj : j < 6) => (hbw.cell (p := ⟨b, o + (k * 6 + j), none⟩) (by show b < w.heap.size; omega)).trans (hc (k * 6 + j) (lt_row hlt hj))
        have a0 := f 0 (by omega)
        have a1 := f 1 (by omega)
        have a5 := f 5 (by omega)
        simp only [Nat.add_zero, ← Nat.add_assoc] at a0 a1 a5
        have hI5 := HX.out.2.at_ (k * 6 + 5)
        obtain ⟨y0, hy0⟩ : ∃ y, ith L (k * 6) = y := ⟨_, rfl⟩
        obtain ⟨y1, hy1⟩ : ∃ y, ith L (k * 6 + 1) = y := ⟨_, rfl⟩
        obtain ⟨y5, hy5⟩ : ∃ y, ith L (k * 6 + 5) = y := ⟨_, rfl⟩
        rw [hy0] at a0
        rw [hy1] at a1
        rw [hy5] at a5 hI5
        have HY := Lib.hid (And.intro hy0 (And.intro hy1 hy5))
        clear f hc h3 hF hLa hE hy0 hy1 hy5
        by_cases g1 : y5 < -1099511627776
        · go_wp2_with fail
          refine (first_any _).mono ?_
          rintro e w1 ⟨rfl, hb1⟩
          go_wp2
          go_ret
          exact ⟨rfl, hbw.trans (hb1.mono hbw.size)⟩
        · by_cases g2 : 1099511627776 < y5
          · go_wp2_with fail
            refine (first_any _).mono ?_
            rintro e w1 ⟨rfl, hb1⟩
            go_wp2
            go_ret
            exact ⟨rfl, hbw.trans (hb1.mono hbw.size)⟩
          · have HE : ∀ W', TW w W' (k + 1) (tF L (k + 1)) (tL L (k + 1)) (tE L (k + 1)) → ∃ k' : Nat, (Value.int .i64 ((k : Int) + 1)) = .int .i64 (k' : Int) ∧ k' ≤ n ∧ Hid (smallE L k' ∧ TW w W' k' (tF L k') (tL L k') (tE L k')) := fun W' h => by
              refine ⟨k + 1, by simp, by omega, Lib.hid ⟨fun j hj => ?_, h⟩⟩
              by_cases e : j = k
              · subst e; rw [HY.out.2.2]; omega
              · exact hH.out.1 j (by omega)
            have HT : TW w wr k F La E := by
              obtain ⟨q1, q2, q3⟩ := HN.out
              have := hH.out.2
              rw [q1, q2, q3] at this
              exact this
            have HU := Lib.hid (And.intro HE HT)
            clear HE HT hbw
            by_cases c1 : y0 = 1
            · by_cases c2 : y0 = y1
              · go_wp2
                go_region
                go_wp2
                go_region
                go_wp2
                go_roundw
                case rel =>
                  refine HU.out.1 _ ?_
                  rw [tF, tL, tE, HN.out.1, HN.out.2.1, HN.out.2.2, HY.out.1, HY.out.2.1, HY.out.2.2, if_pos c1, if_pos c2]
                  exact (((HU.out.2.setC.setE _).setF).setL).drew.drew
                case measure => simp [intOf]; omega
              · go_wp2
                go_region
                go_wp2
                go_region
                go_wp2
                go_roundw
                case rel =>
                  refine HU.out.1 _ ?_
                  rw [tF, tL, tE, HN.out.1, HN.out.2.1, HN.out.2.2, HY.out.1, HY.out.2.1, HY.out.2.2, if_pos c1, if_neg c2]
                  exact ((HU.out.2.setC.setE _).setF).drew.drew
                case measure => simp [intOf]; omega
            · by_cases c2 : y0 = y1
              · go_wp2
                go_region
                go_wp2
                go_region
                go_wp2
                go_roundw
                case rel =>
                  refine HU.out.1 _ ?_
                  rw [tF, tL, tE, HN.out.1, HN.out.2.1, HN.out.2.2, HY.out.1, HY.out.2.1, HY.out.2.2, if_neg c1, if_pos c2]
                  exact ((HU.out.2.setC.setE _).setL).drew.drew
                case measure => simp [intOf]; omega
              · go_wp2
                go_region
                go_wp2
                go_region
                go_wp2
                go_roundw
                case rel =>
                  refine HU.out.1 _ ?_
                  rw [tF, tL, tE, HN.out.1, HN.out.2.1, HN.out.2.2, HY.out.1, HY.out.2.1, HY.out.2.2, if_neg c1, if_neg c2]
                  exact (HU.out.2.setC.setE _).drew.drew
                case measure => simp [intOf]; omega
      · obtain rfl : k = n := by omega
        have hS : ∀ wx, Below wr.heap.size wr wx → Calls Try.prog 11 #[.slice A k c] wx (RetTal wx k F La E) := fun wx hb => by
          have h1 := hH.out.2.2.trans (hb.mono hH.out.2.2.size)
          have h2 := sum_any L A k c w.heap.size (by omega) hH.out.1 wx (HX.out.1.below h1) h1.size
          rwa [hF, hLa, hE] at h2
        have KG := Lib.hid (fun (w' : World) (h : Below wr.heap.size wr w') => (show w'.cell? ⟨w.heap.size, 0, none⟩ = some (.int .i64 (k : Int)) ∧ w'.cell? ⟨w.heap.size, 1, none⟩ = some (.int .i64 (F : Int)) ∧ w'.cell? ⟨w.heap.size, 2, none⟩ = some (.int .i64 (La : Int)) ∧ w'.cell? ⟨w.heap.size, 3, none⟩ = some (.int .i64 E) from ⟨(h.cell (p := ⟨w.heap.size, 0, none⟩) sl).trans s0, (h.cell (p := ⟨w.heap.size, 1, none⟩) sl).trans s1, (h.cell (p := ⟨w.heap.size, 2, none⟩) sl).trans s2, (h.cell (p := ⟨w.heap.size, 3, none⟩) sl).trans s3⟩))
        have KD := Lib.hid (KG.out _ (Below.refl wr.heap.size wr).drew)
        have HB := Lib.hid hH.out.2.2
        have ek : ((k : Int) == (k : Int)) = true := by simp
        have eF : ((F : Int) == (F : Int)) = true := by simp
        have eL : ((La : Int) == (La : Int)) = true := by simp
        have eE : (E == E) = true := by simp
        clear s0 s1 s2 s3 hF hLa hE
        go_wp2_with fail
        go_region_held3 (fun w' => w'.cell? ⟨w.heap.size, 0, none⟩ = some (.int .i64 (k : Int)) ∧ w'.cell? ⟨w.heap.size, 1, none⟩ = some (.int .i64 (F : Int)) ∧ w'.cell? ⟨w.heap.size, 2, none⟩ = some (.int .i64 (La : Int)) ∧ w'.cell? ⟨w.heap.size, 3, none⟩ = some (.int .i64 E))
          (first
            | (with_reducible exact KD.out)
            | (refine KG.out _ ?_
               with_reducible first | exact hb2 | exact hb1)
            | go_keep)
          (first
            | (go_at_call 11
               refine (hS _ (Below.refl wr.heap.size wr).drew).mono ?_
               rintro e w1 ⟨rfl, hb1'⟩
               have hb1 : Below wr.heap.size wr w1 := below_un hb1'
               clear hb1')
            | (go_at_call 10
               refine (first_any _).mono ?_
               rintro e w2 ⟨rfl, hb2'⟩
               have hb2 : Below wr.heap.size wr w2 := by with_reducible first | exact bel_ hb1 hb2' | exact bel_ hb1 (below_un hb2')
               clear hb2'))
        all_goals
          go_wp2
          go_ret
          exact ⟨rfl, bel_ HB.out hb2⟩

set_option maxRecDepth 100000 in
theorem lifted (os : Os) (started : os.Started) (H : Type) (enc : TypeId × Value → H) :
    ReturnsInHanded {} Try.checked os 3 .any (Rows.waveSumsSpec.pre6 enc Try.prog Try.f3 Rows.waveSumsRow.domain false) (Rows.waveSumsSpec.post enc Try.prog Try.f3 false true false false) := by
  refine returnsInHanded_of_change (C := Try.checked) ownTry started (by kernel_rfl) Try.func3
    (ChangeSpec.witness6 (enc := enc) (C := Try.checked) false ⟨#[], #[.slice none 0 0], []⟩ 8 (by kernel_rfl) (by kernel_rfl) (by kernel_rfl) (by kernel_rfl)) ?_
  intro W base args ds gs before hval0 hW hcnd _
  have hval : ∀ (j : Nat) t v, Try.f3.params[j]? = some t → args[j]? = some v → Value.okWide Try.prog W .any base t v := hval0
  have hW' := hW
  obtain ⟨p, q, hA0, hV, rfl, hfz, hnd⟩ := hW
  have hA : DataW.TrodAll enc Try.prog W 0 (fun _ => true) true Try.f3.params.toList args.toList ds p := hA0
  rw [Try.params3] at hA hval
  obtain ⟨v0, d0, rfl, rfl, h0⟩ := trodAll_one hA
  obtain ⟨rfl, rfl⟩ := trodVars_none hV
  obtain ⟨A0, n0, c0, L0, rfl, hB0, hx0⟩ := open_records (k := 6) Try.underlying22 (by decide) (by kernel_rfl) (by kernel_rfl) (hval 0 _ v0 rfl rfl) h0
  clear hA0 hval0
  refine (walk A0 n0 c0 L0 hB0 W hx0).mono fun e W' ⟨he, hg⟩ => ?_
  subst he
  exact ⟨_, rfl, post_reads laidOut (by kernel_rfl) hW' rfl (fun _ _ _ => trodAll_mk1 (shut_bool Try.underlying4 _)) (fun _ => rfl) rfl hg (ok_one (by kernel_rfl) rfl (okWide_bool_mk Try.underlying4 _))⟩

theorem over : Rows.waveSumsRow.holds Try.pinned (OpenSpec.ofChange Rows.waveSumsSpec) :=
  OpenClaim.holds_of_wide 3 Try.f3 rfl rfl rfl rfl rfl rfl rfl ⟨rfl, rfl, rfl, rfl, rfl⟩ rfl rfl rfl rfl rfl (by kernel_rfl) Try.func3 (by kernel_rfl)
    (of_decide_eq_true (by kernel_rfl)) (by unfold Func.isWrapper; first | (rw [if_pos (by decide +kernel)]; kernel_rfl) | (rw [if_neg (by decide +kernel)]; exact ⟨rfl, rfl⟩))
    (fun os started H enc _ => lifted os started H enc)

theorem proved : Rows.WaveSumsSaid := over
end Go.Proofs.Ytkcagifljelfoaa.waveSums

