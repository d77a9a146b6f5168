/-
  For any pulse the law WaveEncodes returns true and leaves its argument as it was: no condition.
-/
import Derived.Test.YtndgpgciccgapaaYEncr
import Derived.Test.YtndgpgciccgapaaVFirst
import Derived.Test.YtndgpgciccgapaaYOpen
import Derived.Deep.RegionHeld3
import Derived.Deep.DrawnRows
namespace Go.Proofs.Ytndgpgciccgapaa.waveEncodes
open Go.Proofs.Ytndgpgciccgapaa
open Go.ChangeShapes Go.WideShapes Go.ChangeAt Go.RowKit Go.Joins
set_option linter.unusedVariables false
attribute [local go_sem ↓] Go.wp_at_zero Go.wp_at_succ

theorem belS {w W w1 : World} (h0 : Below w.heap.size w W) (h : Below W.heap.size W w1) : Below w.heap.size w w1 := h0.trans (h.mono h0.size)
/-- What both answer: the bytes and the error. -/
def RetAns (w : World) (L : List Nat) (c : Int) (e : Ending) (w' : World) : Prop := ∃ v, e = .returned (.tuple #[v, .int .i64 c]) ∧ OB w' w.heap.size v L ∧ Below w.heap.size w w'
theorem ans_both (t a b c d : Int) (zs : List Int) (A : Option Addr) (n cp B : Nat) : ∃ (L : List Nat) (ce : Int), L.length ≤ 1048576 ∧ ∀ w : World, IW w B (.slice A n cp) zs → B ≤ w.heap.size →
    Calls Try.prog 39 #[.agg #[.int .i64 t, .int .i64 a, .int .i64 b, .int .i64 c, .int .i64 d, .slice A n cp]] w (RetAns w L ce) ∧
    Calls Try.prog 40 #[.agg #[.int .i64 t, .int .i64 a, .int .i64 b, .int .i64 c, .int .i64 d, .slice A n cp]] w (RetAns w L ce) := by
  by_cases hok : okP t a b c d zs
  · have h1 := L_len (m := (difK zs zs.length).length) hok.1 hok.2.1.1.1 hok.2.1.1.2.1 hok.2.1.1.2.2.1 hok.2.1.1.2.2.2 (okR2_of hok.2.2).1
    have h2 := encK_len (okR2_of hok.2.2) (difK zs zs.length).length (Nat.le_refl _)
    have h3 := (okR2_of hok.2.2).1
    exact ⟨_, 0, by rw [List.length_append]; omega, fun w hx hB => ⟨encode_yes t a b c d zs A n cp B w hx hB hok, refEncode_yes t a b c d zs A n cp B w hx hB hok⟩⟩
  · refine ⟨[], 30, by simp, fun w hx hB => ⟨(encode_no t a b c d zs A n cp B w hx hB hok).mono ?_, (refEncode_no t a b c d zs A n cp B w hx hB hok).mono ?_⟩⟩
    · rintro e w' ⟨rfl, hb⟩
      exact ⟨_, rfl, World.ownsRow_nil _ _ _ _, hb⟩
    · rintro e w' ⟨rfl, hb⟩
      exact ⟨_, rfl, World.ownsRow_nil _ _ _ _, hb⟩

set_option maxRecDepth 100000 in
set_option maxHeartbeats 4000000 in
theorem walk_in (t a b c d : Int) (zs : List Int) (A : Option Addr) (n cp : Nat) (w : World) (hx : IW w w.heap.size (.slice A n cp) zs) (hn : n ≤ 1000) :
    Calls Try.prog 8 #[.agg #[.int .i64 t, .int .i64 a, .int .i64 b, .int .i64 c, .int .i64 d, .slice A n cp]] w (RetB w true) := by
  obtain ⟨W0, hW0, hb0, hG, z0⟩ := P0ex w t a b c d (.slice A n cp)
  obtain ⟨k0, k1, k2, k3, k4, k5⟩ := blk6 hG.out (Below.refl _ _)
  obtain ⟨L, ce, hL, hans⟩ := ans_both t a b c d zs A n cp w.heap.size
  have HA := Lib.hid hans
  have HI := Lib.hid (fun (w' : World) (hb : Below W0.heap.size W0 w') => hx.belowM (belS hb0 hb) (Nat.le_refl _))
  have HSz := Lib.hid (fun (w' : World) (hb : Below W0.heap.size W0 w') => (belS hb0 hb).size)
  have KK := Lib.hid (fun (w' : World) (hb : Below W0.heap.size W0 w') => blk6 hG.out hb)
  have hni : (n : Int) ≤ 1000 := by omega
  have HE := Lib.hid (hans W0 (HI.out W0 (Below.refl _ _)) hb0.size).1
  obtain ⟨r, hr⟩ : ∃ r, decide (okP t a b c d zs) = r := ⟨_, rfl⟩
  have HR := Lib.hid hr
  have qr : (r == r) = true := by simp
  have qc : (ce == ce) = true := by simp
  clear hans hx hr
  go_enter Try.func8, Try.ntmps8
  go_wp2_with fail
  rw [← hW0.out]
  refine HE.out.mono ?_
  rintro e w1 ⟨v1, rfl, o1, b1⟩
  obtain ⟨k0', k1', k2', k3', k4', k5'⟩ := KK.out w1 b1
  have HE2 := Lib.hid (HA.out w1 (HI.out w1 b1) (HSz.out w1 b1)).2
  have HO1 := Lib.hid (And.intro o1 b1)
  clear k0 k1 k2 k3 k4 k5 o1 b1
  go_wp2_with fail
  refine HE2.out.mono ?_
  rintro e w2 ⟨v2, rfl, o2, b2⟩
  have F2 := Lib.hid (HO1.out.2.trans (b2.mono HO1.out.2.size))
  obtain ⟨k0, k1, k2, k3, k4, k5⟩ := KK.out w2 F2.out
  have HO2 := Lib.hid (And.intro (HO1.out.1.below b2) o2)
  have K1 := Lib.hid (KK.out w2 F2.out)
  clear o2 b2 k0' k1' k2' k3' k4' k5'
  go_wp2_with fail
  go_region_held3 (fun w' => w'.cell? ⟨w.heap.size, 0, none⟩ = some (.int .i64 t) ∧ w'.cell? ⟨w.heap.size, 1, none⟩ = some (.int .i64 a) ∧ w'.cell? ⟨w.heap.size, 2, none⟩ = some (.int .i64 b) ∧ w'.cell? ⟨w.heap.size, 3, none⟩ = some (.int .i64 c) ∧ w'.cell? ⟨w.heap.size, 4, none⟩ = some (.int .i64 d) ∧ w'.cell? ⟨w.heap.size, 5, none⟩ = some (.slice A n cp))
    (first | with_reducible exact K6.out | with_reducible exact K5.out | with_reducible exact K4.out | with_reducible exact K3.out | with_reducible exact K1.out | go_keep)
    (first
      | (go_at_call 41
         refine (valid_any t a b c d zs A n cp w.heap.size _ (by exact (HI.out w2 F2.out)) (by exact HSz.out w2 F2.out)).mono ?_
         rw [HR.out]
         rintro e w3 ⟨rfl, b3⟩
         have F3 := Lib.hid (F2.out.trans ((below_un b3).mono F2.out.size))
         have HO3 := Lib.hid (And.intro (HO2.out.1.below (below_un b3)) (HO2.out.2.below (below_un b3)))
         have K3 := Lib.hid (KK.out w3 F3.out))
      | (go_at_call 42
         refine (refValid_any t a b c d zs A n cp w.heap.size _ (by exact (HI.out w3 F3.out)) (by exact HSz.out w3 F3.out)).mono ?_
         rw [HR.out]
         rintro e w4 ⟨rfl, b4⟩
         have F4 := Lib.hid (F3.out.trans (b4.mono F3.out.size))
         have HO4 := Lib.hid (And.intro (HO3.out.1.below b4) (HO3.out.2.below b4))
         have K4 := Lib.hid (KK.out w4 F4.out))
      | (go_at_call 43
         refine (sameBytes_yes L v1 v2 _ _ _ (by exact HO4.out.1) (by exact HO4.out.2) hL).mono ?_
         rintro e w5 ⟨rfl, b5⟩
         have F5 := Lib.hid (F4.out.trans (b5.mono F4.out.size))
         have K5 := Lib.hid (KK.out w5 F5.out))
      | (go_at_call 38
         refine (first_any _).mono ?_
         rintro e w6 ⟨rfl, b6⟩
         have F6 := Lib.hid (F5.out.trans (b6.mono F5.out.size))
         have K6 := Lib.hid (KK.out w6 F6.out)))
  go_wp2
  go_ret
  exact ⟨rfl, belS hb0 F6.out⟩

set_option maxRecDepth 100000 in
theorem walk (t a b c d : Int) (zs : List Int) (A : Option Addr) (n cp : Nat) (w : World) (hx : IW w w.heap.size (.slice A n cp) zs) :
    Calls Try.prog 8 #[.agg #[.int .i64 t, .int .i64 a, .int .i64 b, .int .i64 c, .int .i64 d, .slice A n cp]] w (RetB w true) := by
  by_cases hn : n ≤ 1000
  · exact walk_in t a b c d zs A n cp w hx hn
  · have h1 : (1000 : Int) < (n : Int) := by omega
    obtain ⟨W0, hW0, hb0, hG, z0⟩ := P0ex w t a b c d (.slice A n cp)
    obtain ⟨k0, k1, k2, k3, k4, k5⟩ := blk6 hG.out (Below.refl _ _)
    go_enter Try.func8, Try.ntmps8
    go_wp2_with fail
    rw [← hW0.out]
    refine (first_any _).mono ?_
    rintro e w7 ⟨rfl, b7⟩
    go_wp2
    go_ret
    exact ⟨rfl, belS hb0 b7⟩

set_option maxRecDepth 100000 in
theorem lifted (os : Os) (started : os.Started) (H : Type) (enc : TypeId × Value → H) :
    ReturnsInHanded {} Try.checked os 8 .any (Rows.waveEncodesSpec.pre6 enc Try.prog Try.f8 Rows.waveEncodesRow.domain false) (Rows.waveEncodesSpec.post enc Try.prog Try.f8 false true false false) := by
  refine returnsInHanded_of_change (C := Try.checked) ownTry started (by kernel_rfl) Try.func8
    (ChangeSpec.witness6 (enc := enc) (C := Try.checked) false ⟨#[], #[.agg #[.int .i64 0, .int .i64 0, .int .i64 0, .int .i64 0, .int .i64 0, .slice none 0 0]], []⟩ 8 (by kernel_rfl) (by kernel_rfl) (by kernel_rfl) (by kernel_rfl)) ?_
  intro W base args ds gs before hval0 hW hcnd _
  have hval : ∀ (j : Nat) t v, Try.f8.params[j]? = some t → args[j]? = some v → Value.okWide Try.prog W .any base t v := hval0
  have hW' := hW
  obtain ⟨p, q, hA0, hV, rfl, hfz, hnd⟩ := hW
  have hA : DataW.TrodAll enc Try.prog W 0 (fun _ => true) true Try.f8.params.toList args.toList ds p := hA0
  rw [Try.params8] at hA hval
  obtain ⟨v0, d0, rfl, rfl, h0⟩ := trodAll_one hA
  obtain ⟨rfl, rfl⟩ := trodVars_none hV
  obtain ⟨t, a, b, c, d, A0, n0, c0, zs, rfl, hI⟩ := open_pulse (hval 0 _ v0 rfl rfl) h0
  clear hA0 hval0
  refine (walk t a b c d zs A0 n0 c0 W hI).mono fun e W' ⟨he, hg⟩ => ?_
  subst he
  exact ⟨_, rfl, post_reads laidOut (by kernel_rfl) hW' rfl (fun _ _ _ => trodAll_mk1 (shut_bool Try.underlying4 _)) (fun _ => rfl) rfl hg (ok_one (by kernel_rfl) rfl (okWide_bool_mk Try.underlying4 _))⟩

theorem over : Rows.waveEncodesRow.holds Try.pinned (OpenSpec.ofChange Rows.waveEncodesSpec) :=
  OpenClaim.holds_of_wide 8 Try.f8 rfl rfl rfl rfl rfl rfl rfl ⟨rfl, rfl, rfl, rfl, rfl⟩ rfl rfl rfl rfl rfl (by kernel_rfl) Try.func8 (by kernel_rfl)
    (of_decide_eq_true (by kernel_rfl)) (by unfold Func.isWrapper; first | (rw [if_pos (by decide +kernel)]; kernel_rfl) | (rw [if_neg (by decide +kernel)]; exact ⟨rfl, rfl⟩))
    (fun os started H enc _ => lifted os started H enc)

theorem proved : Rows.WaveEncodesSaid := over
end Go.Proofs.Ytndgpgciccgapaa.waveEncodes
