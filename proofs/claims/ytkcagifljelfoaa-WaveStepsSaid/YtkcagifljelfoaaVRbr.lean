/-
  The document's Rebuild.
-/
import Derived.Test.YtkcagifljelfoaaVRbc
namespace Go.Proofs.Ytkcagifljelfoaa
open Go.RowKit

set_option maxRecDepth 100000 in
set_option maxHeartbeats 4000000 in
theorem refRebuild_any (S : List St) (hS : AllS S) (hn : S.length ≤ 1000) (v : Value) (w : World) (hx : StW w w.heap.size v S) :
    Calls Try.prog 13 #[v] w (RetRb S w) := by
  obtain ⟨i0, hi0, hz0, hz1, hz2⟩ := info_parts infoI
  obtain ⟨A, c, rfl, q1, q2, q3⟩ := hx
  obtain ⟨n, hnS⟩ : ∃ n, S.length = n := ⟨_, rfl⟩
  have HN := Lib.hid hnS
  rw [hnS] at q1 q3 hn ⊢
  unfold maxLen at q2
  have HX := Lib.hid (And.intro q3 hS)
  clear q3 hS hnS
  go_enter Try.func13, Try.ntmps13
  go_wp2
  go_loopw [4, 5, 6] (fun ov lv iv wr => RbRel S w ov lv iv wr) (fun _ _ iv _ => n - (intOf iv).toNat)
  case atStart => exact ⟨0, [], rfl, Nat.zero_le _, by simp [lastZ, ith], Lib.hid rfl, Lib.hid (SL.nil_ _ _ _ _ _), Below.refl _ _⟩
  case round =>
    obtain ⟨k, Z, rfl, hkS, rfl, HR, HS, hbw⟩ := hrel
    rw [HN.out] at hkS
    obtain ⟨gl, gr, gi⟩ := rebK_good HR.out
    by_cases hlt : k < n
    · obtain ⟨b, o, rfl, hb, hc⟩ := HX.out.1 (by omega)
      obtain ⟨δ, hδS⟩ : ∃ δ, (S.getD k (0, 0)).1 = δ := ⟨_, rfl⟩
      obtain ⟨cz, hcz⟩ : ∃ c, (S.getD k (0, 0)).2 = c := ⟨_, rfl⟩
      obtain ⟨s1, s2⟩ := hc k hlt
      obtain ⟨r1, r2, r3, r4⟩ := HX.out.2 k
      rw [hδS] at s1 r1 r2
      rw [hcz] at s2 r3 r4
      have d0 := (hbw.cell (p := ⟨b, o + k * 2, none⟩) hb).trans s1
      have d1 := (hbw.cell (p := ⟨b, o + k * 2 + 1, none⟩) hb).trans s2
      have HF := Lib.hid (fun (h : ¬ okStep S k Z) => rebK_no HR.out h S.length (by have := HN.out; omega))
      obtain ⟨A1, c1, rfl, hA1, hc1⟩ := HS.out.slice
      unfold maxLen at hc1
      obtain ⟨W5, hW5⟩ : ∃ W5, W5 = wr.alloc (.cells #[.int .i64 δ, .int .i64 cz] 62) := ⟨_, rfl⟩
      obtain ⟨g7, hg7⟩ : ∃ g, wr.heap.size = g := ⟨_, rfl⟩
      have HG0 : Hid (W5.heap[g7]? = some (.cells #[.int .i64 δ, .int .i64 cz] 62 (0, 0))) := by rw [hW5, ← hg7]; exact heap_alloc_new wr _
      have HB5 : Hid (Below w.heap.size w W5) := by rw [hW5]; exact hbw.alloc hbw.size _
      have HS5 : Hid (SL iE 1 3 W5 w.heap.size (.slice A1 Z.length c1) Z) := by rw [hW5]; exact HS.out.below ((Below.refl _ wr).alloc (Nat.le_refl _) _)
      have HC : Hid (∀ i, i < n → W5.cell? ⟨b, o + i * 2, none⟩ = some (.int .i64 (S.getD i (0, 0)).1)) := fun i hi => (HB5.out.cell (p := ⟨b, o + i * 2, none⟩) hb).trans (hc i hi).1
      have HW5 := Lib.hid (And.intro hW5 hg7)
      clear hW5 hg7 s1 s2 hc hbw HS gi hA1
      go_wp2
      rw [← HW5.out.1, HW5.out.2]
      have x0 : W5.cell? ⟨g7, 0, none⟩ = some (.int .i64 δ) := cell_of_row _ _ _ _ _ _ HG0.out
      have x1 : W5.cell? ⟨g7, 1, none⟩ = some (.int .i64 cz) := cell_of_row _ _ _ _ _ _ HG0.out
      clear d0 d1
      by_cases hc0 : cz < 1
      · skip
        go_wp2
        go_big_region
        go_wp2
        go_ret2
        exact ⟨.inl ⟨HF.out (fun ho => by have := ho.2.1; rw [hcz] at this; omega), rfl⟩, HB5.out.drew⟩
      · by_cases h0 : k = 0
        · skip
          have kp : ¬ (0 : Int) < (k : Int) := by omega
          have kpn : ¬ 0 < k := by omega
          have hsame : k = 0 ∨ (S.getD k (0, 0)).1 ≠ (S.getD (k - 1) (0, 0)).1 := .inl h0
          by_cases hd1 : δ < -1023
          · skip
            go_wp2
            have t9 : ¬ cz < 1 := by omega
            go_big_region
            go_wp2
            go_ret2
            exact ⟨.inl ⟨HF.out (fun ho => by have h1 := ho.2.2.2 1 (Nat.le_refl _) (by rw [hcz]; omega); rw [hδS] at h1; simp at h1; omega), rfl⟩, HB5.out.drew⟩
          · by_cases hd2 : 1023 < δ
            · skip
              go_wp2
              have t9 : ¬ cz < 1 := by omega
              have t8 : ¬ δ < -1023 := by omega
              go_big_region
              go_wp2
              go_ret2
              exact ⟨.inl ⟨HF.out (fun ho => by have h1 := ho.2.2.2 1 (Nat.le_refl _) (by rw [hcz]; omega); rw [hδS] at h1; simp at h1; omega), rfl⟩, HB5.out.drew⟩
            · obtain ⟨cN, hcN⟩ : ∃ cN : Nat, cz = cN := ⟨cz.toNat, by omega⟩
              subst hcN
              have hcS := hcz
              have HG7 := HG0
              have t7 : ¬ cN = 0 := by omega
              have t8 : 0 < cN := by omega
              go_wp2
              have t9 : ¬ (cN : Int) < 1 := by omega
              have t10 : ¬ δ < -1023 := by omega
              have t11 : ¬ 1023 < δ := by omega
              have t12 : ¬ cN < 1 := by omega
              go_big_region
              go_wp2
              go_loopw [4, 5, 8] (fun ov2 lv2 iv2 wr2 => ∃ j : Nat, iv2 = .int .i64 (j : Int) ∧ j ≤ cN ∧ lv2 = .int .i64 (lastZ Z + δ * j) ∧ Hid ((∀ i : Nat, 1 ≤ i → i ≤ j → 0 ≤ lastZ Z + δ * i ∧ lastZ Z + δ * i ≤ 1023) ∧ SL iE 1 3 wr2 w.heap.size ov2 (Z ++ runL (lastZ Z) δ j) ∧ wr2.heap[g7]? = some (.cells #[.int .i64 δ, .int .i64 (cN : Int)] 62 (0, 0)) ∧ Below w.heap.size w wr2 ∧ Z.length + j ≤ 256)) (fun _ _ iv2 _ => cN - (intOf iv2).toNat)
              case atStart => exact ⟨0, rfl, Nat.zero_le _, by simp, Lib.hid ⟨fun i h1 h2 => absurd h1 (by omega), by simp only [runL, List.append_nil]; exact HS5.out, HG7.out, HB5.out.drew, gl⟩⟩
              case round =>
                obtain ⟨j, rfl, hjc, rfl, hJ⟩ := hrel
                obtain ⟨a, ha⟩ : ∃ a, lastZ Z + δ * (j : Int) = a := ⟨_, rfl⟩
                have har : 0 ≤ a ∧ a ≤ 1023 := by
                  rcases Nat.eq_zero_or_pos j with h0 | h0
                  · subst h0; simp at ha; omega
                  · have := hJ.out.1 j h0 (Nat.le_refl _); omega
                have hnx : lastZ Z + δ * ((j : Int) + 1) = a + δ := by rw [← ha]; grind
                have HA := Lib.hid (And.intro ha hnx)
                rw [ha]
                clear ha hnx
                have y0 : wr.cell? ⟨g7, 0, none⟩ = some (.int .i64 δ) := cell_of_row _ _ _ _ _ _ hJ.out.2.2.1
                have y1 : wr.cell? ⟨g7, 1, none⟩ = some (.int .i64 (cN : Int)) := cell_of_row _ _ _ _ _ _ hJ.out.2.2.1
                by_cases hjl : j < cN
                · by_cases hr : 0 ≤ a + δ ∧ a + δ ≤ 1023
                  · obtain ⟨hr1, hr2⟩ := id hr
                    by_cases h256 : Z.length + j = 256
                    · have HJ := Lib.hid hJ.out
                      have hno : ¬ okStep S k Z := fun ho => by
                        have h1 := ho.2.2.1
                        rw [hcS] at h1
                        omega
                      have HNO := Lib.hid (HF.out hno)
                      obtain ⟨A2, c2, rfl, hA2, hc2⟩ := hJ.out.2.1.slice
                      have hl2 : (Z ++ runL (lastZ Z) δ j).length = 256 := by simp [runL_len]; omega
                      rw [hl2] at hA2 hc2 ⊢
                      have n1 : ¬ a + δ < 0 := by omega
                      have n2 : ¬ 1023 < a + δ := by omega
                      clear hJ hno hA2
                      go_wp2
                      go_ret2
                      exact ⟨.inl ⟨HNO.out, rfl⟩, HJ.out.2.2.2.1⟩
                    obtain ⟨A2, c2, rfl, hA2, hc2⟩ := hJ.out.2.1.slice
                    have hl2 : (Z ++ runL (lastZ Z) δ j).length = Z.length + j := by simp [runL_len]
                    rw [hl2] at hA2 hc2 ⊢
                    have hown : wr.ownsRow w.heap.size 3 1 (.slice A2 (Z.length + j) c2) (Z.length + j) (ints ((Z ++ runL (lastZ Z) δ j).flatMap iE)) := by
                      have h0 := hJ.out.2.1
                      unfold SL at h0
                      rw [hl2] at h0
                      exact h0
                    obtain ⟨F, hF⟩ : ∃ F, ints ((Z ++ runL (lastZ Z) δ j).flatMap iE) = F := ⟨_, rfl⟩
                    rw [hF] at hown
                    have HL2 := Lib.hid (And.intro hl2 hF)
                    have HJ := Lib.hid hJ.out
                    have TC := Lib.hid (cell_one_new wr (.int .i64 (a + δ)) 3)
                    obtain ⟨NZ, hNZ⟩ : ∃ N, Z.length + j = N := ⟨_, rfl⟩
                    have hNZ256 : (NZ : Int) < 256 := by have := hJ.out.2.2.2.2; omega
                    have n3 : ((NZ : Int) == 256) = false := by simp; omega
                    have n1 : ¬ a + δ < 0 := by omega
                    have n2 : ¬ 1023 < a + δ := by omega
                    rw [hNZ] at hown hA2 hc2 ⊢
                    have HNZ := Lib.hid hNZ
                    unfold maxLen at hc2
                    clear hF hl2 hJ hA2 hNZ
                    go_wp2_with (at_builtin; refine wpList_append_own_at _ rfl (.tmp 68) (.tmp 70) _ rfl w.heap.size 3 i0 _ 1 8 Try.underlying33 hi0 hz0 hz1 hz2 rfl (by decide) _ NZ _ rfl (hown.alloc _) ⟨wr.heap.size, 0, none⟩ 1 1 [.int .i64 (a + δ)] rfl rfl TC.out (by intro u hu; simp at hu; subst hu; rfl) (by unfold maxLen; omega) (by omega) (by have := HJ.out.2.2.2.1.size; simp; omega) ?_)
                    intro v' w1 ho hg _ _
                    have hlen : (Z ++ runL (lastZ Z) δ j).length = NZ := by rw [HL2.out.1]; exact HNZ.out
                    have hSl0 := HJ.out.2.1
                    rw [HL2.out.1, HNZ.out] at hSl0
                    have hG := SL.grows (enc := iE) (k := 1) (e := 3) (a := a + δ) hSl0 HJ.out.2.2.2.1 (Nat.le_refl _) (Nat.le_refl _) _ ⟨hlen, HL2.out.2⟩ rfl ho hg
                    have h7 : w1.heap[g7]? = some (.cells #[.int .i64 δ, .int .i64 (cN : Int)] 62 (0, 0)) := by
                      have hlt7 := (Array.getElem?_eq_some_iff.1 HJ.out.2.2.1).1
                      have h1 := hg.block g7 (by simp; omega) (fun hb => SL.apart hSl0 HJ.out.2.2.1 hb.symm)
                      exact h1.trans ((Below.heap_alloc wr _ g7 hlt7).trans HJ.out.2.2.1)
                    have hrun : Z ++ runL (lastZ Z) δ j ++ [a + δ] = Z ++ runL (lastZ Z) δ (j + 1) := by rw [runL, HA.out.2, List.append_assoc]
                    have HG := Lib.hid (And.intro (show SL iE 1 3 w1 w.heap.size v' (Z ++ runL (lastZ Z) δ (j + 1)) by rw [← hrun]; exact hG.1) (And.intro h7 hG.2))
                    clear ho hg hG h7 hrun hSl0 hlen hown
                    go_wp2
                    go_roundw
                    case rel =>
                      refine ⟨j + 1, by simp, by omega, ?_, Lib.hid ⟨fun i h1 h2 => ?_, HG.out.1, HG.out.2.1, HG.out.2.2, by have := HNZ.out; omega⟩⟩
                      · rw [← HA.out.2]; simp
                      · by_cases e : i ≤ j
                        · exact HJ.out.1 i h1 e
                        · obtain rfl : i = j + 1 := by omega
                          have := HA.out.2
                          rw [show ((j + 1 : Nat) : Int) = (j : Int) + 1 by omega, this]
                          exact hr
                    case measure => simp [intOf]; omega
                  · have HJ := Lib.hid hJ.out
                    have hno : ¬ okStep S k Z := fun ho => by
                      have h1 := ho.2.2.2 (j + 1) (by omega) (by rw [hcS]; omega)
                      rw [hδS, show ((j + 1 : Nat) : Int) = (j : Int) + 1 by omega, HA.out.2] at h1
                      exact hr h1
                    have HNO := Lib.hid (HF.out hno)
                    clear hno
                    by_cases hneg : a + δ < 0
                    · clear hJ
                      go_wp2
                      go_ret2
                      exact ⟨.inl ⟨HNO.out, rfl⟩, HJ.out.2.2.2.1⟩
                    · have hbig : 1023 < a + δ := by omega
                      clear hJ
                      go_wp2
                      go_ret2
                      exact ⟨.inl ⟨HNO.out, rfl⟩, HJ.out.2.2.2.1⟩
                · obtain rfl : j = cN := by omega
                  have hoS : okStep S k Z := ⟨hsame, by rw [hcS]; omega, by rw [hcS]; have := hJ.out.2.2.2.2; omega, fun i h1 h2 => by
                    rw [hcS] at h2
                    rw [hδS]
                    exact hJ.out.1 i h1 (by omega)⟩
                  have hn1 := rebK_yes HR.out hoS
                  rw [hδS, hcS, Int.toNat_natCast] at hn1
                  have hla : lastZ (Z ++ runL (lastZ Z) δ j) = a := by
                    obtain ⟨i, rfl⟩ : ∃ i, j = i + 1 := ⟨j - 1, by omega⟩
                    rw [lastZ_run, ← HA.out.1]
                    simp
                  have HQ := Lib.hid (And.intro hn1 (And.intro hla hJ.out))
                  clear hoS hn1 hla hJ
                  go_wp2
                  go_roundw
                  case rel => exact ⟨k + 1, _, by first | (simp; done) | (simp; omega), by have := HN.out; omega, by rw [HQ.out.2.1], Lib.hid HQ.out.1, Lib.hid HQ.out.2.2.2.1, HQ.out.2.2.2.2.2.1⟩
                  case measure => simp [intOf]; omega
        · skip
          have kp : (0 : Int) < (k : Int) := by omega
          have kpn : 0 < k := by omega
          obtain ⟨K, hK⟩ : ∃ K, k = K + 1 := ⟨k - 1, by omega⟩
          have fK : ((k : Int) - 1) = (K : Int) := by omega
          have hKn : K < n := by omega
          have cK := HC.out K hKn
          obtain ⟨δp, hδp⟩ : ∃ δ, (S.getD K (0, 0)).1 = δ := ⟨_, rfl⟩
          rw [hδp] at cK
          have e11 : k - 1 = K := by omega
          clear hK
          by_cases hsm : δ = δp
          · have t1 : (δp == δ) = true := by simp; omega
            go_wp2
            have t9 : ¬ cz < 1 := by omega
            go_big_region
            go_wp2
            go_ret2
            exact ⟨.inl ⟨HF.out (fun ho => (ho.1.elim (fun h => h0 h) (fun h => h (by rw [hδS, e11, hδp]; exact hsm)))), rfl⟩, HB5.out.drew⟩
          · have t1 : (δp == δ) = false := by simp; omega
            have hsame : k = 0 ∨ (S.getD k (0, 0)).1 ≠ (S.getD (k - 1) (0, 0)).1 := .inr (by rw [hδS, e11, hδp]; exact hsm)
            by_cases hd1 : δ < -1023
            · skip
              go_wp2
              have t9 : ¬ cz < 1 := by omega
              go_big_region
              go_wp2
              go_ret2
              exact ⟨.inl ⟨HF.out (fun ho => by have h1 := ho.2.2.2 1 (Nat.le_refl _) (by rw [hcz]; omega); rw [hδS] at h1; simp at h1; omega), rfl⟩, HB5.out.drew⟩
            · by_cases hd2 : 1023 < δ
              · skip
                go_wp2
                have t9 : ¬ cz < 1 := by omega
                have t8 : ¬ δ < -1023 := by omega
                go_big_region
                go_wp2
                go_ret2
                exact ⟨.inl ⟨HF.out (fun ho => by have h1 := ho.2.2.2 1 (Nat.le_refl _) (by rw [hcz]; omega); rw [hδS] at h1; simp at h1; omega), rfl⟩, HB5.out.drew⟩
              · obtain ⟨cN, hcN⟩ : ∃ cN : Nat, cz = cN := ⟨cz.toNat, by omega⟩
                subst hcN
                have hcS := hcz
                have HG7 := HG0
                have t7 : ¬ cN = 0 := by omega
                have t8 : 0 < cN := by omega
                go_wp2
                have t9 : ¬ (cN : Int) < 1 := by omega
                have t10 : ¬ δ < -1023 := by omega
                have t11 : ¬ 1023 < δ := by omega
                have t12 : ¬ cN < 1 := by omega
                go_big_region
                go_wp2
                go_loopw [4, 5, 8] (fun ov2 lv2 iv2 wr2 => ∃ j : Nat, iv2 = .int .i64 (j : Int) ∧ j ≤ cN ∧ lv2 = .int .i64 (lastZ Z + δ * j) ∧ Hid ((∀ i : Nat, 1 ≤ i → i ≤ j → 0 ≤ lastZ Z + δ * i ∧ lastZ Z + δ * i ≤ 1023) ∧ SL iE 1 3 wr2 w.heap.size ov2 (Z ++ runL (lastZ Z) δ j) ∧ wr2.heap[g7]? = some (.cells #[.int .i64 δ, .int .i64 (cN : Int)] 62 (0, 0)) ∧ Below w.heap.size w wr2 ∧ Z.length + j ≤ 256)) (fun _ _ iv2 _ => cN - (intOf iv2).toNat)
                case atStart => exact ⟨0, rfl, Nat.zero_le _, by simp, Lib.hid ⟨fun i h1 h2 => absurd h1 (by omega), by simp only [runL, List.append_nil]; exact HS5.out, HG7.out, HB5.out.drew, gl⟩⟩
                case round =>
                  obtain ⟨j, rfl, hjc, rfl, hJ⟩ := hrel
                  obtain ⟨a, ha⟩ : ∃ a, lastZ Z + δ * (j : Int) = a := ⟨_, rfl⟩
                  have har : 0 ≤ a ∧ a ≤ 1023 := by
                    rcases Nat.eq_zero_or_pos j with h0 | h0
                    · subst h0; simp at ha; omega
                    · have := hJ.out.1 j h0 (Nat.le_refl _); omega
                  have hnx : lastZ Z + δ * ((j : Int) + 1) = a + δ := by rw [← ha]; grind
                  have HA := Lib.hid (And.intro ha hnx)
                  rw [ha]
                  clear ha hnx
                  have y0 : wr.cell? ⟨g7, 0, none⟩ = some (.int .i64 δ) := cell_of_row _ _ _ _ _ _ hJ.out.2.2.1
                  have y1 : wr.cell? ⟨g7, 1, none⟩ = some (.int .i64 (cN : Int)) := cell_of_row _ _ _ _ _ _ hJ.out.2.2.1
                  by_cases hjl : j < cN
                  · by_cases hr : 0 ≤ a + δ ∧ a + δ ≤ 1023
                    · obtain ⟨hr1, hr2⟩ := id hr
                      by_cases h256 : Z.length + j = 256
                      · have HJ := Lib.hid hJ.out
                        have hno : ¬ okStep S k Z := fun ho => by
                          have h1 := ho.2.2.1
                          rw [hcS] at h1
                          omega
                        have HNO := Lib.hid (HF.out hno)
                        obtain ⟨A2, c2, rfl, hA2, hc2⟩ := hJ.out.2.1.slice
                        have hl2 : (Z ++ runL (lastZ Z) δ j).length = 256 := by simp [runL_len]; omega
                        rw [hl2] at hA2 hc2 ⊢
                        have n1 : ¬ a + δ < 0 := by omega
                        have n2 : ¬ 1023 < a + δ := by omega
                        clear hJ hno hA2
                        go_wp2
                        go_ret2
                        exact ⟨.inl ⟨HNO.out, rfl⟩, HJ.out.2.2.2.1⟩
                      obtain ⟨A2, c2, rfl, hA2, hc2⟩ := hJ.out.2.1.slice
                      have hl2 : (Z ++ runL (lastZ Z) δ j).length = Z.length + j := by simp [runL_len]
                      rw [hl2] at hA2 hc2 ⊢
                      have hown : wr.ownsRow w.heap.size 3 1 (.slice A2 (Z.length + j) c2) (Z.length + j) (ints ((Z ++ runL (lastZ Z) δ j).flatMap iE)) := by
                        have h0 := hJ.out.2.1
                        unfold SL at h0
                        rw [hl2] at h0
                        exact h0
                      obtain ⟨F, hF⟩ : ∃ F, ints ((Z ++ runL (lastZ Z) δ j).flatMap iE) = F := ⟨_, rfl⟩
                      rw [hF] at hown
                      have HL2 := Lib.hid (And.intro hl2 hF)
                      have HJ := Lib.hid hJ.out
                      have TC := Lib.hid (cell_one_new wr (.int .i64 (a + δ)) 3)
                      obtain ⟨NZ, hNZ⟩ : ∃ N, Z.length + j = N := ⟨_, rfl⟩
                      have hNZ256 : (NZ : Int) < 256 := by have := hJ.out.2.2.2.2; omega
                      have n3 : ((NZ : Int) == 256) = false := by simp; omega
                      have n1 : ¬ a + δ < 0 := by omega
                      have n2 : ¬ 1023 < a + δ := by omega
                      rw [hNZ] at hown hA2 hc2 ⊢
                      have HNZ := Lib.hid hNZ
                      unfold maxLen at hc2
                      clear hF hl2 hJ hA2 hNZ
                      go_wp2_with (at_builtin; refine wpList_append_own_at _ rfl (.tmp 68) (.tmp 70) _ rfl w.heap.size 3 i0 _ 1 8 Try.underlying33 hi0 hz0 hz1 hz2 rfl (by decide) _ NZ _ rfl (hown.alloc _) ⟨wr.heap.size, 0, none⟩ 1 1 [.int .i64 (a + δ)] rfl rfl TC.out (by intro u hu; simp at hu; subst hu; rfl) (by unfold maxLen; omega) (by omega) (by have := HJ.out.2.2.2.1.size; simp; omega) ?_)
                      intro v' w1 ho hg _ _
                      have hlen : (Z ++ runL (lastZ Z) δ j).length = NZ := by rw [HL2.out.1]; exact HNZ.out
                      have hSl0 := HJ.out.2.1
                      rw [HL2.out.1, HNZ.out] at hSl0
                      have hG := SL.grows (enc := iE) (k := 1) (e := 3) (a := a + δ) hSl0 HJ.out.2.2.2.1 (Nat.le_refl _) (Nat.le_refl _) _ ⟨hlen, HL2.out.2⟩ rfl ho hg
                      have h7 : w1.heap[g7]? = some (.cells #[.int .i64 δ, .int .i64 (cN : Int)] 62 (0, 0)) := by
                        have hlt7 := (Array.getElem?_eq_some_iff.1 HJ.out.2.2.1).1
                        have h1 := hg.block g7 (by simp; omega) (fun hb => SL.apart hSl0 HJ.out.2.2.1 hb.symm)
                        exact h1.trans ((Below.heap_alloc wr _ g7 hlt7).trans HJ.out.2.2.1)
                      have hrun : Z ++ runL (lastZ Z) δ j ++ [a + δ] = Z ++ runL (lastZ Z) δ (j + 1) := by rw [runL, HA.out.2, List.append_assoc]
                      have HG := Lib.hid (And.intro (show SL iE 1 3 w1 w.heap.size v' (Z ++ runL (lastZ Z) δ (j + 1)) by rw [← hrun]; exact hG.1) (And.intro h7 hG.2))
                      clear ho hg hG h7 hrun hSl0 hlen hown
                      go_wp2
                      go_roundw
                      case rel =>
                        refine ⟨j + 1, by simp, by omega, ?_, Lib.hid ⟨fun i h1 h2 => ?_, HG.out.1, HG.out.2.1, HG.out.2.2, by have := HNZ.out; omega⟩⟩
                        · rw [← HA.out.2]; simp
                        · by_cases e : i ≤ j
                          · exact HJ.out.1 i h1 e
                          · obtain rfl : i = j + 1 := by omega
                            have := HA.out.2
                            rw [show ((j + 1 : Nat) : Int) = (j : Int) + 1 by omega, this]
                            exact hr
                      case measure => simp [intOf]; omega
                    · have HJ := Lib.hid hJ.out
                      have hno : ¬ okStep S k Z := fun ho => by
                        have h1 := ho.2.2.2 (j + 1) (by omega) (by rw [hcS]; omega)
                        rw [hδS, show ((j + 1 : Nat) : Int) = (j : Int) + 1 by omega, HA.out.2] at h1
                        exact hr h1
                      have HNO := Lib.hid (HF.out hno)
                      clear hno
                      by_cases hneg : a + δ < 0
                      · clear hJ
                        go_wp2
                        go_ret2
                        exact ⟨.inl ⟨HNO.out, rfl⟩, HJ.out.2.2.2.1⟩
                      · have hbig : 1023 < a + δ := by omega
                        clear hJ
                        go_wp2
                        go_ret2
                        exact ⟨.inl ⟨HNO.out, rfl⟩, HJ.out.2.2.2.1⟩
                  · obtain rfl : j = cN := by omega
                    have hoS : okStep S k Z := ⟨hsame, by rw [hcS]; omega, by rw [hcS]; have := hJ.out.2.2.2.2; omega, fun i h1 h2 => by
                      rw [hcS] at h2
                      rw [hδS]
                      exact hJ.out.1 i h1 (by omega)⟩
                    have hn1 := rebK_yes HR.out hoS
                    rw [hδS, hcS, Int.toNat_natCast] at hn1
                    have hla : lastZ (Z ++ runL (lastZ Z) δ j) = a := by
                      obtain ⟨i, rfl⟩ : ∃ i, j = i + 1 := ⟨j - 1, by omega⟩
                      rw [lastZ_run, ← HA.out.1]
                      simp
                    have HQ := Lib.hid (And.intro hn1 (And.intro hla hJ.out))
                    clear hoS hn1 hla hJ
                    go_wp2
                    go_roundw
                    case rel => exact ⟨k + 1, _, by first | (simp; done) | (simp; omega), by have := HN.out; omega, by rw [HQ.out.2.1], Lib.hid HQ.out.1, Lib.hid HQ.out.2.2.2.1, HQ.out.2.2.2.2.2.1⟩
                    case measure => simp [intOf]; omega
    · obtain rfl : k = n := by omega
      have hR := HR.out
      rw [← HN.out] at hR
      go_wp2
      go_ret2
      exact ⟨.inr ⟨Z, _, hR, rfl, HS.out⟩, hbw⟩
end Go.Proofs.Ytkcagifljelfoaa
