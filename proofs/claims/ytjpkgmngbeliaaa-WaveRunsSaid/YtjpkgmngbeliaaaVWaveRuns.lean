/-
  For any samples and any level the law WaveRuns returns true and leaves its arguments as they were: no condition.
-/
import Derived.Test.YtjpkgmngbeliaaaVFirst
import Derived.Test.YtjpkgmngbeliaaaVRunr
import Derived.Laws.Tables
import Derived.Laws.Cover2
namespace Go.Proofs.Ytjpkgmngbeliaaa.waveRuns
open Go.Proofs.Ytjpkgmngbeliaaa
open Go.ChangeShapes Go.WideShapes Go.ChangeAt Go.RowKit Go.Joins
set_option linter.unusedVariables false

theorem eqArr (a b c d : Int) (w : World) : (Op.equalIn 10000 48 (.agg #[.int .i64 a, .int .i64 b]) (.agg #[.int .i64 c, .int .i64 d])).run Try.prog w = .ok (a == c && b == d) w := by
  have u3 := Try.underlying3
  have a3 := Try.isAgg3
  have z3 := Try.sizeOf3
  rw [show (10000 : Nat) = 9999 + 1 from rfl, Op.equalIn]
  simp only [Sem.run_bind, run_underlying Try.underlying48, Result.andThen_ok]
  simp only [Std.Legacy.Range.forIn_eq_forIn_range', Std.Legacy.Range.size, Nat.sub_zero, Nat.add_sub_cancel, Nat.div_one, List.range'_succ, List.range'_zero, List.forIn_cons, List.forIn_nil]
  go_simp
  by_cases h1 : a = c <;> by_cases h2 : b = d <;> simp [h1, h2]
attribute [local go_sem] eqArr

def baseV (zs : List Int) : Int := if zs ≠ [] ∧ okZ zs then med zs else 0
def baseE (zs : List Int) : Int := if zs ≠ [] ∧ okZ zs then 0 else 2
theorem base_any (zs : List Int) (A : Option Addr) (n c : Nat) (w : World) (hx : IW w w.heap.size (.slice A n c) zs) :
    Calls Try.prog 25 #[.slice A n c] w (RetBase w (baseV zs) (baseE zs)) := by
  unfold baseV baseE
  by_cases h : zs ≠ [] ∧ okZ zs
  · rw [if_pos h, if_pos h]
    exact base_ok zs A n c w hx h.1 h.2
  · rw [if_neg h, if_neg h]
    refine (base_bad zs A n c _ w hx (by by_cases h1 : zs = []; exact .inl h1; exact .inr fun h2 => h ⟨h1, h2⟩)).mono ?_
    rintro e w' ⟨rfl, rfl⟩
    exact ⟨rfl, Below.refl _ _⟩
theorem refBase_any (zs : List Int) (A : Option Addr) (n c B : Nat) (w : World) (hx : IW w B (.slice A n c) zs) :
    Calls Try.prog 26 #[.slice A n c] w (RetBase w (baseV zs) (baseE zs)) := by
  unfold baseV baseE
  by_cases h : zs ≠ [] ∧ okZ zs
  · rw [if_pos h, if_pos h]
    refine (refBase_ok zs A n c B w hx h.1 h.2).mono ?_
    rintro e w' ⟨rfl, rfl⟩
    exact ⟨rfl, Below.refl _ _⟩
  · rw [if_neg h, if_neg h]
    refine (refBase_bad zs A n c B w hx (by by_cases h1 : zs = []; exact .inl h1; exact .inr fun h2 => h ⟨h1, h2⟩)).mono ?_
    rintro e w' ⟨rfl, rfl⟩
    exact ⟨rfl, Below.refl _ _⟩

def runsR (zs : List Int) (level : Int) : List Rn := if okZ zs then runsK zs level zs.length else []
def runsE (zs : List Int) : Int := if okZ zs then 0 else 2
def RetRn (w : World) (R : List Rn) (c : Int) (e : Ending) (w' : World) : Prop :=
  ∃ v, e = .returned (.tuple #[v, .int .i64 c]) ∧ SR rnE 2 w' v R ∧ Below w.heap.size w w'
theorem sr_nil (w : World) : SR rnE 2 w (.slice none 0 0) ([] : List Rn) := ⟨none, 0, rfl, Nat.le_refl _, by simp [maxLen], fun h => absurd h (by simp)⟩
theorem SL.sr {α : Type} {enc : α → List Int} {k : Nat} {e : TypeId} {w : World} {base : Nat} {v : Value} {R : List α} (hk : ∀ a, (enc a).length = k) (h : SL enc k e w base v R) : SR enc k w v R := by
  obtain ⟨A, c, rfl, hA, hc⟩ := h.slice
  rcases Nat.eq_zero_or_pos R.length with h0 | h0
  · exact ⟨A, c, rfl, hc.1, hc.2, fun h => absurd h (by omega)⟩
  · obtain ⟨g, rfl, h1, h2⟩ := hA h0
    have := SL.reads hk h (Nat.le_refl _) h2 hc
    rwa [List.take_length] at this
theorem runs_any (zs : List Int) (level : Int) (A : Option Addr) (n c B : Nat) (w : World) (hx : IW w B (.slice A n c) zs) (hB : B ≤ w.heap.size) :
    Calls Try.prog 27 #[.slice A n c, .int .i64 level] w (RetRn w (runsR zs level) (runsE zs)) := by
  unfold runsR runsE
  by_cases h : okZ zs
  · rw [if_pos h, if_pos h]
    refine (runs_ok zs level A n c B w hx hB h).mono ?_
    rintro e w' ⟨v, rfl, hS, hb⟩
    exact ⟨v, rfl, SL.sr rnE_len hS, hb⟩
  · rw [if_neg h, if_neg h]
    have hV := validSamples_any zs A n c B w hx
    rw [decide_eq_false h] at hV
    unfold RetSame at hV
    clear hx
    go_enter Try.func27, Try.ntmps27
    go_wp2_with (go_at_call 44; refine hV.mono ?_; rintro e w' ⟨rfl, rfl⟩)
    go_ret2
    exact ⟨_, rfl, sr_nil _, Below.refl _ _⟩
theorem refRuns_any (zs : List Int) (level : Int) (A : Option Addr) (n c B : Nat) (w : World) (hx : IW w B (.slice A n c) zs) (hB : B ≤ w.heap.size) :
    Calls Try.prog 28 #[.slice A n c, .int .i64 level] w (RetRn w (runsR zs level) (runsE zs)) := by
  unfold runsR runsE
  by_cases h : okZ zs
  · rw [if_pos h, if_pos h]
    refine (refRuns_ok zs level A n c B w hx hB h).mono ?_
    rintro e w' ⟨v, rfl, hS, hb⟩
    exact ⟨v, rfl, SL.sr rnE_len hS, hb⟩
  · rw [if_neg h, if_neg h]
    have hV := refSamples_any zs A n c B w hx
    rw [decide_eq_false h] at hV
    unfold RetSame at hV
    clear hx
    go_enter Try.func28, Try.ntmps28
    go_wp2_with (go_at_call 47; refine hV.mono ?_; rintro e w' ⟨rfl, rfl⟩)
    go_ret2
    exact ⟨_, rfl, sr_nil _, Below.refl _ _⟩

set_option maxRecDepth 100000 in
set_option maxHeartbeats 1000000 in
theorem walk (A : Option Addr) (n c : Nat) (L : List Int) (hI : AllI L) (lv : Int) (w : World) (hx : IW w w.heap.size (.slice A n c) L) :
    Calls Try.prog 7 #[.slice A n c, .int .i64 lv] w (RetB w true) := by
  by_cases h64 : 1000 < n
  · go_enter Try.func7, Try.ntmps7
    go_wp2_with fail
    refine (first_any _).mono ?_
    rintro e w1 ⟨rfl, hb1⟩
    go_wp2
    go_ret
    exact ⟨rfl, hb1⟩
  · have H1 := base_any L A n c w hx
    obtain ⟨bv, hbv⟩ : ∃ x, baseV L = x := ⟨_, rfl⟩
    obtain ⟨be, hbe⟩ : ∃ x, baseE L = x := ⟨_, rfl⟩
    obtain ⟨R, hR⟩ : ∃ R, runsR L lv = R := ⟨_, rfl⟩
    obtain ⟨re, hre⟩ : ∃ x, runsE L = x := ⟨_, rfl⟩
    have H2 : ∀ wx, Below w.heap.size w wx → Calls Try.prog 26 #[.slice A n c] wx (RetBase wx bv be) := fun wx hb => by
      rw [← hbv, ← hbe]
      exact refBase_any L A n c _ wx (hx.below hb)
    have H3 : ∀ wx, Below w.heap.size w wx → Calls Try.prog 27 #[.slice A n c, .int .i64 lv] wx (RetRn wx R re) := fun wx hb => by
      rw [← hR, ← hre]
      exact runs_any L lv A n c _ wx (hx.below hb) hb.size
    have H4 : ∀ wx, Below w.heap.size w wx → Calls Try.prog 28 #[.slice A n c, .int .i64 lv] wx (RetRn wx R re) := fun wx hb => by
      rw [← hR, ← hre]
      exact refRuns_any L lv A n c _ wx (hx.below hb) hb.size
    rw [hbv, hbe] at H1
    have HH := Lib.hid (And.intro H1 (And.intro H2 (And.intro H3 H4)))
    have e1 : (bv == bv) = true := by simp
    have e2 : (be == be) = true := by simp
    have e3 : (re == re) = true := by simp
    clear H1 H2 H3 H4 hx hI hR hre hbv hbe
    go_enter Try.func7, Try.ntmps7
    go_wp2_with fail
    refine HH.out.1.mono ?_
    rintro e w1 ⟨rfl, hb1⟩
    have HB1 := Lib.hid hb1
    clear hb1
    go_wp2_with fail
    refine (HH.out.2.1 _ HB1.out).mono ?_
    rintro e w2 ⟨rfl, hb2⟩
    have HB2 := Lib.hid (HB1.out.trans (hb2.mono HB1.out.size))
    clear hb2
    go_wp2_with fail
    refine (HH.out.2.2.1 _ HB2.out).mono ?_
    rintro e w3 ⟨v3, rfl, hS3, hb3⟩
    have HB3 := Lib.hid (And.intro (HB2.out.trans (hb3.mono HB2.out.size)) hS3)
    clear hb3 hS3
    go_wp2_with fail
    refine (HH.out.2.2.2 _ HB3.out.1).mono ?_
    rintro e w4 ⟨v4, rfl, hS4, hb4⟩
    have hS3 := HB3.out.2.below hb4
    have HB4 := Lib.hid (HB3.out.1.trans (hb4.mono HB3.out.1.size))
    obtain ⟨A3, c3, rfl, p1, p2, p3⟩ := hS3
    obtain ⟨A4, c4, rfl, p4, p5, p6⟩ := hS4
    obtain ⟨N, hN⟩ : ∃ n, R.length = n := ⟨_, rfl⟩
    have HN := Lib.hid hN
    have H := Lib.hid (And.intro p3 p6)
    rw [hN] at p1 p4 ⊢
    unfold maxLen at p2 p5
    clear p3 p6 hN hb4
    go_wp2
    go_loopw [13] (fun iv wr => ∃ k : Nat, k ≤ N ∧ iv = .int .i64 (k : Int) ∧ Below w4.heap.size w4 wr) (fun iv _ => N - (intOf iv).toNat)
    case atStart => exact ⟨0, Nat.zero_le _, rfl, Below.refl _ _⟩
    case round =>
      obtain ⟨k, hk, rfl, hb⟩ := hrel
      by_cases hlt : k < N
      · have hkL : k < R.length := by rw [HN.out]; exact hlt
        obtain ⟨g1, o1, rfl, hg1, hc1⟩ := H.out.1 (by omega)
        obtain ⟨g2, o2, rfl, hg2, hc2⟩ := H.out.2 (by omega)
        obtain ⟨⟨d, cc⟩, hdc⟩ : ∃ p, R[k]'hkL = p := ⟨_, rfl⟩
        have a0 := (hb.cell (p := ⟨g1, o1 + (k * 2 + 0), none⟩) hg1).trans (hc1 k hkL 0 (by omega))
        have a1 := (hb.cell (p := ⟨g1, o1 + (k * 2 + 1), none⟩) hg1).trans (hc1 k hkL 1 (by omega))
        have b0 := (hb.cell (p := ⟨g2, o2 + (k * 2 + 0), none⟩) hg2).trans (hc2 k hkL 0 (by omega))
        have b1 := (hb.cell (p := ⟨g2, o2 + (k * 2 + 1), none⟩) hg2).trans (hc2 k hkL 1 (by omega))
        rw [hdc] at a0 a1 b0 b1
        have a0' : wr.cell? ⟨g1, o1 + k * 2, none⟩ = some (.int .i64 (d : Int)) := by simpa [ints, rnE] using a0
        have a1' : wr.cell? ⟨g1, o1 + k * 2 + 1, none⟩ = some (.int .i64 (cc : Int)) := by simpa [ints, rnE, Nat.add_assoc] using a1
        have b0' : wr.cell? ⟨g2, o2 + k * 2, none⟩ = some (.int .i64 (d : Int)) := by simpa [ints, rnE] using b0
        have b1' : wr.cell? ⟨g2, o2 + k * 2 + 1, none⟩ = some (.int .i64 (cc : Int)) := by simpa [ints, rnE, Nat.add_assoc] using b1
        have ed : ((d : Int) == (d : Int)) = true := by simp
        have ec : ((cc : Int) == (cc : Int)) = true := by simp
        have HB := Lib.hid hb
        clear a0 a1 b0 b1 hc1 hc2 hdc hb
        go_wp2
        go_region
        go_wp2
        go_roundw
        case rel => exact ⟨k + 1, by omega, by simp, HB.out.drew⟩
        case measure => simp [intOf]; omega
      · obtain rfl : k = N := by omega
        have HB5 := Lib.hid (HB4.out.trans (hb.mono HB4.out.size))
        clear hb
        go_wp2_with fail
        refine (first_any _).mono ?_
        rintro e w6 ⟨rfl, hb6⟩
        go_wp2
        go_ret
        exact ⟨rfl, HB5.out.trans (hb6.mono HB5.out.size)⟩

set_option maxRecDepth 100000 in
theorem lifted (os : Os) (started : os.Started) (H : Type) (enc : TypeId × Value → H) :
    ReturnsInHanded {} Try.checked os 7 .any (Rows.waveRunsSpec.pre6 enc Try.prog Try.f7 Rows.waveRunsRow.domain false) (Rows.waveRunsSpec.post enc Try.prog Try.f7 false true false false) := by
  refine returnsInHanded_of_change (C := Try.checked) ownTry started (by kernel_rfl) Try.func7
    (ChangeSpec.witness6 (enc := enc) (C := Try.checked) false ⟨#[], #[.slice none 0 0, .int .i64 0], []⟩ 8 (by kernel_rfl) (by kernel_rfl) (by kernel_rfl) (by kernel_rfl)) ?_
  intro W base args ds gs before hval0 hW hcnd _
  have hval : ∀ (j : Nat) t v, Try.f7.params[j]? = some t → args[j]? = some v → Value.okWide Try.prog W .any base t v := hval0
  have hW' := hW
  obtain ⟨p, q, hA0, hV, rfl, hfz, hnd⟩ := hW
  have hA : DataW.TrodAll enc Try.prog W 0 (fun _ => true) true Try.f7.params.toList args.toList ds p := hA0
  rw [Try.params7] at hA hval
  obtain ⟨v0, v1, d0, d1, p0, p1, rfl, rfl, rfl, h0, h1⟩ := trodAll_two hA
  obtain ⟨rfl, rfl⟩ := trodVars_none hV
  obtain ⟨A0, n0, c0, L0, rfl, hB0, hx0⟩ := open_numbers (hval 0 _ v0 rfl rfl) h0
  obtain ⟨lv, rfl⟩ := okWide_int Try.underlying3 (hval 1 _ v1 rfl rfl)
  clear hA0 hval0
  refine (walk A0 n0 c0 L0 hB0 lv W hx0).mono fun e W' ⟨he, hg⟩ => ?_
  subst he
  exact ⟨_, rfl, post_reads laidOut (by kernel_rfl) hW' rfl (fun _ _ _ => trodAll_mk1 (shut_bool Try.underlying4 _)) (fun _ => rfl) rfl hg (ok_one (by kernel_rfl) rfl (okWide_bool_mk Try.underlying4 _))⟩

theorem over : Rows.waveRunsRow.holds Try.pinned (OpenSpec.ofChange Rows.waveRunsSpec) :=
  OpenClaim.holds_of_wide 7 Try.f7 rfl rfl rfl rfl rfl rfl rfl ⟨rfl, rfl, rfl, rfl, rfl⟩ rfl rfl rfl rfl rfl (by kernel_rfl) Try.func7 (by kernel_rfl)
    (of_decide_eq_true (by kernel_rfl)) (by unfold Func.isWrapper; first | (rw [if_pos (by decide +kernel)]; kernel_rfl) | (rw [if_neg (by decide +kernel)]; exact ⟨rfl, rfl⟩))
    (fun os started H enc _ => lifted os started H enc)

theorem proved : Rows.WaveRunsSaid := over
end Go.Proofs.Ytjpkgmngbeliaaa.waveRuns
