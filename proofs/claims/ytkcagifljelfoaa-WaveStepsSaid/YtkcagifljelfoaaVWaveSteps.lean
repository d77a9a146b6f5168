/-
  For any steps the law WaveSteps returns true and leaves its argument as it was: no condition.
-/
import Derived.Test.YtkcagifljelfoaaVFirst
import Derived.Test.YtkcagifljelfoaaVRbr
import Derived.Test.YtkcagifljelfoaaVSame
import Derived.Deep.MidRow
namespace Go.Proofs.Ytkcagifljelfoaa.waveSteps
open Go.Proofs.Ytkcagifljelfoaa
open Go.ChangeShapes Go.WideShapes Go.ChangeAt Go.RowKit Go.Joins
set_option linter.unusedVariables false

set_option maxRecDepth 100000 in
set_option maxHeartbeats 1000000 in
theorem sameSteps_any (L : List Sp) (v1 v2 : Value) (w : World) (h1 : SR stE 2 w v1 L) (h2 : SR stE 2 w v2 L) :
    Calls Try.prog 15 #[v1, v2] w (RetB w true) := by
  obtain ⟨A1, c1, rfl, p1, p2, p3⟩ := h1
  obtain ⟨A2, c2, rfl, p4, p5, p6⟩ := h2
  obtain ⟨n, hn⟩ : ∃ n, L.length = n := ⟨_, rfl⟩
  have HN := Lib.hid hn
  have H := Lib.hid (And.intro p3 p6)
  rw [hn] at p1 p4 ⊢
  unfold maxLen at p2 p5
  clear p3 p6 hn
  go_enter Try.func15, Try.ntmps15
  go_wp2
  go_loopw [5] (fun iv wr => ∃ k : Nat, k ≤ n ∧ iv = .int .i64 (k : Int) ∧ Below w.heap.size w wr) (fun iv _ => n - (intOf iv).toNat)
  case atStart => exact ⟨0, Nat.zero_le _, rfl, Below.refl _ _⟩
  case round =>
    obtain ⟨k, hk, rfl, hb⟩ := hrel
    by_cases hlt : k < n
    · have hkL : k < L.length := by rw [HN.out]; exact hlt
      obtain ⟨g1, o1, rfl, hg1, hc1⟩ := H.out.1 (by omega)
      obtain ⟨g2, o2, rfl, hg2, hc2⟩ := H.out.2 (by omega)
      obtain ⟨⟨d, cc⟩, hdc⟩ : ∃ p, L[k]'hkL = p := ⟨_, rfl⟩
      have a0 := (hb.cell (p := ⟨g1, o1 + (k * 2 + 0), none⟩) hg1).trans (hc1 k hkL 0 (by omega))
      have a1 := (hb.cell (p := ⟨g1, o1 + (k * 2 + 1), none⟩) hg1).trans (hc1 k hkL 1 (by omega))
      have b0 := (hb.cell (p := ⟨g2, o2 + (k * 2 + 0), none⟩) hg2).trans (hc2 k hkL 0 (by omega))
      have b1 := (hb.cell (p := ⟨g2, o2 + (k * 2 + 1), none⟩) hg2).trans (hc2 k hkL 1 (by omega))
      rw [hdc] at a0 a1 b0 b1
      have a0' : wr.cell? ⟨g1, o1 + k * 2, none⟩ = some (.int .i64 d) := by simpa [ints, stE] using a0
      have a1' : wr.cell? ⟨g1, o1 + k * 2 + 1, none⟩ = some (.int .i64 (cc : Int)) := by simpa [ints, stE, Nat.add_assoc] using a1
      have b0' : wr.cell? ⟨g2, o2 + k * 2, none⟩ = some (.int .i64 d) := by simpa [ints, stE] using b0
      have b1' : wr.cell? ⟨g2, o2 + k * 2 + 1, none⟩ = some (.int .i64 (cc : Int)) := by simpa [ints, stE, Nat.add_assoc] using b1
      have ed : (d == d) = true := by simp
      have ec : ((cc : Int) == (cc : Int)) = true := by simp
      have HB := Lib.hid hb
      clear a0 a1 b0 b1 hc1 hc2 hdc hb
      go_wp2
      go_region
      go_wp2
      go_roundw
      case rel => exact ⟨k + 1, by omega, by simp, HB.out.drew⟩
      case measure => simp [intOf]; omega
    · obtain rfl : k = n := by omega
      go_wp2
      go_ret
      exact ⟨rfl, hb⟩

theorem SL.sr {α : Type} {enc : α → List Int} {k : Nat} {e : TypeId} {w : World} {base : Nat} {v : Value} {R : List α} (hk : ∀ a, (enc a).length = k) (h : SL enc k e w base v R) : SR enc k w v R := by
  obtain ⟨A, c, rfl, hA, hc⟩ := h.slice
  rcases Nat.eq_zero_or_pos R.length with h0 | h0
  · exact ⟨A, c, rfl, hc.1, hc.2, fun h => absurd h (by omega)⟩
  · obtain ⟨g, rfl, h1, h2⟩ := hA h0
    have := SL.reads hk h (Nat.le_refl _) h2 hc
    rwa [List.take_length] at this
theorem StW.keep {w w' : World} {B : Nat} {v : Value} {S : List St} (h : StW w B v S) (hb : Below B w w') : StW w' B v S := by
  obtain ⟨A, c, e, h1, h2, h3⟩ := h
  refine ⟨A, c, e, h1, h2, fun hn => ?_⟩
  obtain ⟨b, o, ha, hl, hc⟩ := h3 hn
  exact ⟨b, o, ha, hl, fun i hi => ⟨(hb.cell (p := ⟨b, o + i * 2, none⟩) hl).trans (hc i hi).1, (hb.cell (p := ⟨b, o + i * 2 + 1, none⟩) hl).trans (hc i hi).2⟩⟩
theorem StW.more {w : World} {B B' : Nat} {v : Value} {S : List St} (h : StW w B v S) (hB : B ≤ B') : StW w B' v S := by
  obtain ⟨A, c, e, h1, h2, h3⟩ := h
  refine ⟨A, c, e, h1, h2, fun hn => ?_⟩
  obtain ⟨b, o, ha, hl, hc⟩ := h3 hn
  exact ⟨b, o, ha, by omega, hc⟩
theorem rebK_pos {S : List St} : ∀ {k : Nat} {Z : List Int}, rebK S k = some Z → ∀ i, i < k → 1 ≤ (S.getD i (0, 0)).2
  | 0, _, _, i, hi => absurd hi (by omega)
  | k + 1, Z, h, i, hi => by
    rw [rebK] at h
    split at h
    · cases h
    · rename_i Y hY
      split at h
      · rename_i ho
        by_cases e : i = k
        · subst e; exact ho.2.1
        · exact rebK_pos hY i (by omega)
      · cases h
theorem StW.sr {w : World} {B : Nat} {v : Value} {S : List St} (h : StW w B v S) (hB : B ≤ w.heap.size) (hp : ∀ i, i < S.length → 1 ≤ (S.getD i (0, 0)).2) : SR stE 2 w v (S.map (fun s => ((s.1, s.2.toNat) : Sp))) := by
  obtain ⟨A, c, e, h1, h2, h3⟩ := h
  refine ⟨A, c, by rw [e, List.length_map], by rw [List.length_map]; exact h1, h2, fun hn => ?_⟩
  rw [List.length_map] at hn
  obtain ⟨b, o, ha, hl, hc⟩ := h3 hn
  refine ⟨b, o, ha, by omega, fun i hi j hj => ?_⟩
  rw [List.length_map] at hi
  have hg : S.getD i (0, 0) = S[i] := by simp [hi]
  have hpi := hp i hi
  obtain ⟨c0, c1⟩ := hc i hi
  rw [hg] at hpi c0 c1
  rw [List.getElem_map]
  match j, hj with
  | 0, _ => rw [Nat.add_zero, c0]; rfl
  | 1, _ =>
    rw [← Nat.add_assoc, c1]
    have : (((S[i]).2.toNat : Nat) : Int) = (S[i]).2 := by omega
    simp [stE, ints, this]
theorem IR.stw {w : World} {B n : Nat} {v : Value} {L : List Int} (h : IR w B 2 v n L) (hI : AllI L) : ∃ S : List St, S.length = n ∧ AllS S ∧ StW w B v S := by
  obtain ⟨A, c, e, h0, h1, h2, h3⟩ := h
  have hg : ∀ i, i < n → ((List.range n).map (fun i => ((ith L (i * 2), ith L (i * 2 + 1)) : St))).getD i (0, 0) = (ith L (i * 2), ith L (i * 2 + 1)) := fun i hi => by simp [hi]
  refine ⟨(List.range n).map (fun i => (ith L (i * 2), ith L (i * 2 + 1))), by simp, fun i => ?_, A, c, by simpa using e, by simpa using h1, h2, fun hn => ?_⟩
  · by_cases hi : i < n
    · rw [hg i hi]
      have a := hI.at_ (i * 2)
      have b := hI.at_ (i * 2 + 1)
      exact ⟨a.1, a.2, b.1, b.2⟩
    · have : ((List.range n).map (fun i => ((ith L (i * 2), ith L (i * 2 + 1)) : St))).getD i (0, 0) = (0, 0) := by simp [hi]
      rw [this]
      simp
  · have hn' : 0 < n := by simpa using hn
    obtain ⟨b, o, ha, hl, hc⟩ := h3 hn'
    refine ⟨b, o, ha, hl, fun i hi => ?_⟩
    have hi' : i < n := by simpa using hi
    rw [hg i hi']
    have c0 := hc (i * 2 + 0) (lt_row hi' (by omega))
    have c1 := hc (i * 2 + 1) (lt_row hi' (by omega))
    rw [← Nat.add_assoc] at c1
    exact ⟨c0, c1⟩

set_option maxRecDepth 100000 in
set_option maxHeartbeats 4000000 in
theorem walk (A : Option Addr) (n c : Nat) (S : List St) (hl : S.length = n) (hA : AllS S) (w : World) (hx : StW w w.heap.size (.slice A n c) S) :
    Calls Try.prog 4 #[.slice A n c] w (RetB w true) := by
  by_cases h64 : 1000 < n
  · go_enter Try.func4, Try.ntmps4
    go_wp2_with fail
    refine (first_any _).mono ?_
    rintro e w1 ⟨rfl, hb1⟩
    go_wp2
    go_ret
    exact ⟨rfl, hb1⟩
  · have H1 := rebuild_any S hA (by omega) _ w hx
    have HX := Lib.hid (fun (wx : World) (h : Below w.heap.size w wx) => StW.more (StW.keep hx h) h.size)
    have HA := Lib.hid (And.intro hA hl)
    clear hx hA hl
    go_enter Try.func4, Try.ntmps4
    go_wp2_with fail
    refine H1.mono ?_
    rintro e w1 ⟨hr, hb1⟩
    have H2 := refRebuild_any S HA.out.1 (by have := HA.out.2; omega) _ w1 (HX.out w1 hb1)
    have HB1 := Lib.hid hb1
    clear H1 hb1
    rcases hr with ⟨hno, rfl⟩ | ⟨Z, v1, hyes, rfl, hS1⟩
    · have HNO := Lib.hid hno
      clear hno
      go_wp2_with fail
      refine H2.mono ?_
      rintro e w2 ⟨hr, hb2⟩
      have HB2 := Lib.hid (HB1.out.trans (hb2.mono HB1.out.size))
      clear H2 hb2
      rcases hr with ⟨hno, rfl⟩ | ⟨Z, v2, hyes, rfl, hS2⟩
      · clear hno
        go_wp2_with fail
        refine (sameInts_any [] none none 0 0 0 w2.heap.size w2 IW.nil_ IW.nil_).mono ?_
        rintro e w3 ⟨rfl, hb3⟩
        have HB3 := Lib.hid (HB2.out.trans (hb3.mono HB2.out.size))
        clear hb3
        go_wp2_with fail
        refine (first_any _).mono ?_
        rintro e w4 ⟨rfl, hb4⟩
        go_wp2
        go_ret
        exact ⟨rfl, HB3.out.trans (hb4.mono HB3.out.size)⟩
      · rw [HNO.out] at hyes
        cases hyes
    · have HZ := Lib.hid (And.intro hyes hS1)
      obtain ⟨A1, c1, rfl, hI1⟩ := hS1.iw
      have HI1 := Lib.hid hI1
      clear hyes hS1 hI1
      go_wp2_with fail
      refine H2.mono ?_
      rintro e w2 ⟨hr, hb2⟩
      have HB2 := Lib.hid (And.intro (HB1.out.trans (hb2.mono HB1.out.size)) hb2)
      clear H2 hb2
      rcases hr with ⟨hno, rfl⟩ | ⟨Z2, v2, hyes, rfl, hS2⟩
      · rw [HZ.out.1] at hno
        cases hno
      · obtain rfl : Z = Z2 := by
          rw [HZ.out.1] at hyes
          injection hyes
        obtain ⟨A2, c2, rfl, hI2⟩ := hS2.iw
        have hI1' := (HI1.out.below HB2.out.2).more HB2.out.2.size
        have hzl := rebK_good HZ.out.1
        have HI2 := Lib.hid (And.intro hI1' hI2)
        have HG := Lib.hid hzl
        have hz256 : Z.length ≤ 256 := hzl.1
        clear hS2 hI2 hI1' hyes hzl
        go_wp2_with fail
        refine (sameInts_any Z A1 A2 Z.length c1 c2 w2.heap.size w2 HI2.out.1 HI2.out.2).mono ?_
        rintro e w3 ⟨rfl, hb3⟩
        have HB3 := Lib.hid (And.intro (HB2.out.1.trans (hb3.mono HB2.out.1.size)) hb3)
        clear hb3
        have h60 : All60 Z := fun x hx => by
          obtain ⟨j, hj, rfl⟩ := List.getElem_of_mem hx
          rw [← ith_lt hj]
          have := HG.out.2.2 j hj
          omega
        have HD := Lib.hid (differences_any Z h60 A1 Z.length c1 w3.heap.size (by omega) w3 ((HI2.out.1.below HB3.out.2).more HB3.out.2.size) (Nat.le_refl _))
        obtain ⟨NZ, hNZ⟩ : ∃ N, Z.length = N := ⟨_, rfl⟩
        have HNZ := Lib.hid hNZ
        rw [hNZ] at hz256 ⊢
        clear h60 hNZ
        go_wp2_with fail
        have hDD := HD.out
        rw [HNZ.out] at hDD
        refine hDD.mono ?_
        rintro e w4 ⟨v4, rfl, hS4, hb4⟩
        have HB4 := Lib.hid (HB3.out.1.trans (hb4.mono HB3.out.1.size))
        have hdk := difK_reb (Nat.le_refl _) HZ.out.1
        rw [List.take_length, HNZ.out] at hdk
        rw [hdk] at hS4
        have hsr1 := SL.sr stE_len hS4
        have hsr2 := StW.sr (HX.out w4 HB4.out) (Nat.le_refl _) (fun i hi => rebK_pos HZ.out.1 i hi)
        have HS := Lib.hid (And.intro hsr1 hsr2)
        clear hDD hdk hS4 hb4 hsr1 hsr2
        go_wp2_with fail
        refine (sameSteps_any _ v4 _ w4 HS.out.1 HS.out.2).mono ?_
        rintro e w5 ⟨rfl, hb5⟩
        have HB5 := Lib.hid (HB4.out.trans (hb5.mono HB4.out.size))
        clear hb5
        go_wp2_with fail
        refine (first_any _).mono ?_
        rintro e w6 ⟨rfl, hb6⟩
        go_wp2
        go_ret
        exact ⟨rfl, HB5.out.trans (hb6.mono HB5.out.size)⟩

set_option maxRecDepth 100000 in
theorem lifted (os : Os) (started : os.Started) (H : Type) (enc : TypeId × Value → H) :
    ReturnsInHanded {} Try.checked os 4 .any (Rows.waveStepsSpec.pre6 enc Try.prog Try.f4 Rows.waveStepsRow.domain false) (Rows.waveStepsSpec.post enc Try.prog Try.f4 false true false false) := by
  refine returnsInHanded_of_change (C := Try.checked) ownTry started (by kernel_rfl) Try.func4
    (ChangeSpec.witness6 (enc := enc) (C := Try.checked) false ⟨#[], #[.slice none 0 0], []⟩ 8 (by kernel_rfl) (by kernel_rfl) (by kernel_rfl) (by kernel_rfl)) ?_
  intro W base args ds gs before hval0 hW hcnd _
  have hval : ∀ (j : Nat) t v, Try.f4.params[j]? = some t → args[j]? = some v → Value.okWide Try.prog W .any base t v := hval0
  have hW' := hW
  obtain ⟨p, q, hA0, hV, rfl, hfz, hnd⟩ := hW
  have hA : DataW.TrodAll enc Try.prog W 0 (fun _ => true) true Try.f4.params.toList args.toList ds p := hA0
  rw [Try.params4] at hA hval
  obtain ⟨v0, d0, rfl, rfl, h0⟩ := trodAll_one hA
  obtain ⟨rfl, rfl⟩ := trodVars_none hV
  obtain ⟨A0, n0, c0, L0, rfl, hB0, hx0⟩ := open_records (k := 2) Try.underlying32 (by decide) (by kernel_rfl) (by kernel_rfl) (hval 0 _ v0 rfl rfl) h0
  obtain ⟨S0, hl0, hA00, hw0⟩ := IR.stw hx0 hB0
  clear hA0 hval0
  refine (walk A0 n0 c0 S0 hl0 hA00 W hw0).mono fun e W' ⟨he, hg⟩ => ?_
  subst he
  exact ⟨_, rfl, post_reads laidOut (by kernel_rfl) hW' rfl (fun _ _ _ => trodAll_mk1 (shut_bool Try.underlying4 _)) (fun _ => rfl) rfl hg (ok_one (by kernel_rfl) rfl (okWide_bool_mk Try.underlying4 _))⟩

theorem over : Rows.waveStepsRow.holds Try.pinned (OpenSpec.ofChange Rows.waveStepsSpec) :=
  OpenClaim.holds_of_wide 4 Try.f4 rfl rfl rfl rfl rfl rfl rfl ⟨rfl, rfl, rfl, rfl, rfl⟩ rfl rfl rfl rfl rfl (by kernel_rfl) Try.func4 (by kernel_rfl)
    (of_decide_eq_true (by kernel_rfl)) (by unfold Func.isWrapper; first | (rw [if_pos (by decide +kernel)]; kernel_rfl) | (rw [if_neg (by decide +kernel)]; exact ⟨rfl, rfl⟩))
    (fun os started H enc _ => lifted os started H enc)

theorem proved : Rows.WaveStepsSaid := over
end Go.Proofs.Ytkcagifljelfoaa.waveSteps

