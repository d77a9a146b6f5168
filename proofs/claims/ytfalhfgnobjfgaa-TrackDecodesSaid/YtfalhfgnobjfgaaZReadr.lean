/-
  ReadNumber, the document's.
-/
import Derived.Test.YtfalhfgnobjfgaaZRead
namespace Go.Proofs.Ytfalhfgnobjfgaa
open Go.RowKit

def RrA (L : List Nat) (n : Nat) (v : Value) : Prop := ∃ k : Nat, k ≤ n ∧ k ≤ 9 ∧ v = .int .i64 (k : Int) ∧ Hid (∀ j, j < k → 128 ≤ nth L j)
def RrB (L : List Nat) (s : Nat) (v i : Value) : Prop := ∃ j : Nat, j ≤ s + 1 ∧ i = .int .i64 ((j : Int) - 1) ∧ v = .int .u64 (val7 ((L.take (s + 1)).drop j) : Nat)

theorem group_up (L : List Nat) (s t : Nat) (hs : s < L.length) (ht : t ≤ s) :
    val7 ((L.take (s + 1)).drop t) = nth L t % 128 + 128 * val7 ((L.take (s + 1)).drop (t + 1)) := by
  rw [val7_drop _ t (by rw [List.length_take]; omega), nth_take (by omega)]
theorem group_bd (L : List Nat) (s t : Nat) (hs : s < L.length) (ht : t ≤ s) (h9 : s < 9) : val7 ((L.take (s + 1)).drop (t + 1)) < 72057594037927936 := by
  have h := val7_lt ((L.take (s + 1)).drop (t + 1))
  rw [List.length_drop, List.length_take, Nat.min_eq_left (by omega)] at h
  have h2 : 128 ^ (s + 1 - (t + 1)) ≤ 128 ^ 8 := Nat.pow_le_pow_right (by omega) (by omega)
  have h3 : (128 : Nat) ^ 8 = 72057594037927936 := by decide
  omega

theorem rdk_ok' {L : List Nat} {s n k : Nat} (hs : Lead L s) (hn : n = L.length) (hkn : k < n) (h9 : k < 9) (hK : ∀ j, j < k → 128 ≤ nth L j) (hc : nth L k < 128) (hne : k = 0 ∨ nth L k ≠ 0) (hv : ¬ 4611686018427387903 < val7 (L.take (k + 1))) : rdN L s = val7 (L.take (k + 1)) ∧ rdS L s = k + 1 ∧ rdE L s = 0 := by
  have e := lead_unique hs (lead_of hn hkn h9 hK hc)
  subst e
  exact rd_ok ⟨by omega, by omega, hne, by unfold rdV; omega⟩

set_option maxRecDepth 100000 in
set_option maxHeartbeats 400000 in
theorem refReadNumber_any (L : List Nat) (hb : AllB L) (s : Nat) (hs : Lead L s) (A : Option Addr) (n c B : Nat) (w : World) (hx : RW .u8 w B (.slice A n c) L) :
    Calls Try.prog 34 #[.slice A n c] w (RetRd L s w) := by
  have HXL := Lib.hid hx.len
  have hcap := hx.cap
  unfold maxLen at hcap
  have HS := Lib.hid hs
  have HB := Lib.hid hb
  clear hs hb
  go_enter Try.func34, Try.ntmps34
  go_wp2
  go_loop [5] (fun v => RrA L n v) (fun v => 9 - (intOf v).toNat)
  case atStart => exact ⟨0, by omega, by omega, rfl, fun j hj => by omega⟩
  case round =>
    obtain ⟨k, hk, hk9, rfl, HK⟩ := hrel
    by_cases h9 : k < 9
    · by_cases hkn : k < n
      · obtain ⟨b, o, rfl, hbB, hcell⟩ := hx.at_ (by omega)
        have hc1 : w.cell? ⟨b, o + k, none⟩ = some (.int .u8 (nth L k : Nat)) := hcell k (by omega)
        have HCELL := Lib.hid hcell
        clear hcell
        by_cases hgo : 128 ≤ nth L k
        · have HC := Lib.hid hgo
          go_wp2
          go_round
          case rel =>
            refine ⟨k + 1, by omega, by omega, by go_num, fun j hj => ?_⟩
            by_cases e : j = k
            · subst e; exact HC.out
            · exact HK.out j (by omega)
          case measure => simp [intOf]; omega
        · have hlt : nth L k < 128 := by omega
          clear hgo
          have hsk := lead_unique HS.out (lead_of HXL.out hkn h9 HK.out hlt)
          subst hsk
          have hne9 : s ≠ 9 := by omega
          have hnen : ¬ ((s : Int) = (n : Int)) := by omega
          have hnen2 : s ≠ n := by omega
          by_cases hz : 0 < s ∧ nth L s = 0
          · obtain ⟨hs0, hz⟩ := hz
            have R := Lib.hid (rdk_zero HS.out HXL.out hkn h9 hs0 HK.out hz)
            go_wp2
            go_ret3
            exact retRd R.out rfl rfl rfl
          · have hz0 : s = 0 ∨ nth L s ≠ 0 := by omega
            have hkl : s < L.length := by rw [← HXL.out]; exact hkn
            have HKL := Lib.hid hkl
            have HZ := Lib.hid hz0
            clear hz hkl
            rcases HZ.out with hzz | hzn
            · subst hzz
              rw [Nat.add_zero] at hc1
              go_wp2
              go_loop [6, 7] (fun v i => RrB L 0 v i) (fun _ i => (intOf i + 1).toNat)
              case atStart => exact ⟨0 + 1, Nat.le_refl _, by go_num, by rw [List.drop_of_length_le (by rw [List.length_take]; omega)]; rfl⟩
              case round =>
                obtain ⟨j, hj, rfl, rfl⟩ := hrel
                by_cases hj0 : j = 0
                · subst hj0
                  rw [List.drop_zero]
                  by_cases hbig : 4611686018427387903 < val7 (L.take (0 + 1))
                  · have R := Lib.hid (rdk_big HS.out HXL.out hkn h9 HK.out hlt hbig)
                    obtain ⟨v, hv⟩ : ∃ v, v = val7 (L.take (0 + 1)) := ⟨_, rfl⟩
                    rw [← hv] at hbig
                    rw [← hv]
                    clear hv
                    go_wp2
                    go_ret3
                    exact retRd R.out rfl rfl rfl
                  · have R := Lib.hid (rdk_ok' HS.out HXL.out hkn h9 HK.out hlt (Or.inl rfl) hbig)
                    obtain ⟨v, hv⟩ : ∃ v, v = val7 (L.take (0 + 1)) := ⟨_, rfl⟩
                    rw [← hv] at hbig
                    rw [← hv]
                    have HV := Lib.hid hv
                    clear hv
                    go_wp2
                    go_ret3
                    exact retRd R.out (by rw [← HV.out]) (by simp) rfl
                · obtain ⟨t, rfl⟩ : ∃ t, j = t + 1 := ⟨j - 1, by omega⟩
                  have hct : w.cell? ⟨b, o + t, none⟩ = some (.int .u8 (nth L t : Nat)) := HCELL.out t (by omega)
                  have hxt := HB.out.nth t
                  obtain ⟨x, hxe⟩ : ∃ x, x = nth L t := ⟨_, rfl⟩
                  rw [← hxe] at hct hxt
                  have HX := Lib.hid hxe
                  clear hxe
                  have ej : ((t + 1 : Nat) : Int) - 1 = (t : Int) := by omega
                  rw [ej]
                  have htn : t < n := by omega
                  obtain ⟨v, hv⟩ : ∃ v, v = val7 ((L.take (0 + 1)).drop (t + 1)) := ⟨_, rfl⟩
                  have hbd : v < 72057594037927936 := by rw [hv]; exact group_bd L 0 t HKL.out (by omega) h9
                  rw [← hv]
                  have HV := Lib.hid hv
                  clear hv ej hj0
                  go_wp2
                  go_round
                  case rel =>
                    refine ⟨t, by omega, rfl, ?_⟩
                    rw [group_up L 0 t HKL.out (by omega), ← HV.out, ← HX.out]
                    congr 1; omega
                  case measure => simp [intOf] <;> omega
            · by_cases hzp : s = 0
              · subst hzp
                rw [Nat.add_zero] at hc1
                go_wp2
                go_loop [6, 7] (fun v i => RrB L 0 v i) (fun _ i => (intOf i + 1).toNat)
                case atStart => exact ⟨0 + 1, Nat.le_refl _, by go_num, by rw [List.drop_of_length_le (by rw [List.length_take]; omega)]; rfl⟩
                case round =>
                  obtain ⟨j, hj, rfl, rfl⟩ := hrel
                  by_cases hj0 : j = 0
                  · subst hj0
                    rw [List.drop_zero]
                    by_cases hbig : 4611686018427387903 < val7 (L.take (0 + 1))
                    · have R := Lib.hid (rdk_big HS.out HXL.out hkn h9 HK.out hlt hbig)
                      obtain ⟨v, hv⟩ : ∃ v, v = val7 (L.take (0 + 1)) := ⟨_, rfl⟩
                      rw [← hv] at hbig
                      rw [← hv]
                      clear hv
                      go_wp2
                      go_ret3
                      exact retRd R.out rfl rfl rfl
                    · have R := Lib.hid (rdk_ok' HS.out HXL.out hkn h9 HK.out hlt (Or.inl rfl) hbig)
                      obtain ⟨v, hv⟩ : ∃ v, v = val7 (L.take (0 + 1)) := ⟨_, rfl⟩
                      rw [← hv] at hbig
                      rw [← hv]
                      have HV := Lib.hid hv
                      clear hv
                      go_wp2
                      go_ret3
                      exact retRd R.out (by rw [← HV.out]) (by simp) rfl
                  · obtain ⟨t, rfl⟩ : ∃ t, j = t + 1 := ⟨j - 1, by omega⟩
                    have hct : w.cell? ⟨b, o + t, none⟩ = some (.int .u8 (nth L t : Nat)) := HCELL.out t (by omega)
                    have hxt := HB.out.nth t
                    obtain ⟨x, hxe⟩ : ∃ x, x = nth L t := ⟨_, rfl⟩
                    rw [← hxe] at hct hxt
                    have HX := Lib.hid hxe
                    clear hxe
                    have ej : ((t + 1 : Nat) : Int) - 1 = (t : Int) := by omega
                    rw [ej]
                    have htn : t < n := by omega
                    obtain ⟨v, hv⟩ : ∃ v, v = val7 ((L.take (0 + 1)).drop (t + 1)) := ⟨_, rfl⟩
                    have hbd : v < 72057594037927936 := by rw [hv]; exact group_bd L 0 t HKL.out (by omega) h9
                    rw [← hv]
                    have HV := Lib.hid hv
                    clear hv ej hj0
                    go_wp2
                    go_round
                    case rel =>
                      refine ⟨t, by omega, rfl, ?_⟩
                      rw [group_up L 0 t HKL.out (by omega), ← HV.out, ← HX.out]
                      congr 1; omega
                    case measure => simp [intOf] <;> omega
              · have hzp' : 0 < s := by omega
                go_wp2
                go_loop [6, 7] (fun v i => RrB L s v i) (fun _ i => (intOf i + 1).toNat)
                case atStart => exact ⟨s + 1, Nat.le_refl _, by go_num, by rw [List.drop_of_length_le (by rw [List.length_take]; omega)]; rfl⟩
                case round =>
                  obtain ⟨j, hj, rfl, rfl⟩ := hrel
                  by_cases hj0 : j = 0
                  · subst hj0
                    rw [List.drop_zero]
                    by_cases hbig : 4611686018427387903 < val7 (L.take (s + 1))
                    · have R := Lib.hid (rdk_big HS.out HXL.out hkn h9 HK.out hlt hbig)
                      obtain ⟨v, hv⟩ : ∃ v, v = val7 (L.take (s + 1)) := ⟨_, rfl⟩
                      rw [← hv] at hbig
                      rw [← hv]
                      clear hv
                      go_wp2
                      go_ret3
                      exact retRd R.out rfl rfl rfl
                    · have R := Lib.hid (rdk_ok' HS.out HXL.out hkn h9 HK.out hlt HZ.out hbig)
                      obtain ⟨v, hv⟩ : ∃ v, v = val7 (L.take (s + 1)) := ⟨_, rfl⟩
                      rw [← hv] at hbig
                      rw [← hv]
                      have HV := Lib.hid hv
                      clear hv
                      go_wp2
                      go_ret3
                      exact retRd R.out (by rw [← HV.out]) (by simp) rfl
                  · obtain ⟨t, rfl⟩ : ∃ t, j = t + 1 := ⟨j - 1, by omega⟩
                    have hct : w.cell? ⟨b, o + t, none⟩ = some (.int .u8 (nth L t : Nat)) := HCELL.out t (by omega)
                    have hxt := HB.out.nth t
                    obtain ⟨x, hxe⟩ : ∃ x, x = nth L t := ⟨_, rfl⟩
                    rw [← hxe] at hct hxt
                    have HX := Lib.hid hxe
                    clear hxe
                    have ej : ((t + 1 : Nat) : Int) - 1 = (t : Int) := by omega
                    rw [ej]
                    have htn : t < n := by omega
                    obtain ⟨v, hv⟩ : ∃ v, v = val7 ((L.take (s + 1)).drop (t + 1)) := ⟨_, rfl⟩
                    have hbd : v < 72057594037927936 := by rw [hv]; exact group_bd L s t HKL.out (by omega) h9
                    rw [← hv]
                    have HV := Lib.hid hv
                    clear hv ej hj0
                    go_wp2
                    go_round
                    case rel =>
                      refine ⟨t, by omega, rfl, ?_⟩
                      rw [group_up L s t HKL.out (by omega), ← HV.out, ← HX.out]
                      congr 1; omega
                    case measure => simp [intOf] <;> omega
      · have hkn : n = k := by omega
        subst hkn
        go_wp2
        go_ret3
        exact retRd (rd_endS HS.out HXL.out h9 HK.out) rfl rfl rfl
    · have hk9 : k = 9 := by omega
      subst hk9
      have hn9 : 9 ≤ n := by omega
      go_wp2
      all_goals go_ret3
      all_goals exact retRd (rd_end9 HS.out HXL.out hn9 HK.out) rfl rfl rfl
end Go.Proofs.Ytfalhfgnobjfgaa
