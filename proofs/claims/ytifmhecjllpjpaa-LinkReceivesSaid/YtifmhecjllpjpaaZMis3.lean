/-
  Missing of the document's receiver.
-/
import Derived.Test.YtifmhecjllpjpaaZMis2
namespace Go.Proofs.Ytifmhecjllpjpaa
open Go.RowKit Go.Maps
attribute [local go_sem ↓] Go.wp_at_zero Go.wp_at_succ

def TopR (w : World) (n : Nat) (Ds : List Dl) (lv iv : Value) (wr : World) : Prop :=
  ∃ k : Nat, iv = .int .i64 (k : Int) ∧ k ≤ n ∧ lv = .int .i64 (topD Ds k) ∧ wr = w
def MrR (w : World) (Ds : List Dl) (F : Hf) (nx : Int) (J : Nat) (lv sv : Value) (wr : World) : Prop :=
  ∃ j : Nat, sv = .int .i64 (nx + (j : Int)) ∧ j ≤ J ∧ Hid (NmL wr w.heap.size lv (msF F nx j)) ∧ Below w.heap.size w wr

set_option maxRecDepth 100000 in
set_option maxHeartbeats 2000000 in
theorem rmissing_any (g base : Nat) (st win nx : Int) (F : Hf) (Ds : List Dl) (w : World) (h : Rrc w g base st win nx Ds) (hD : DsF Ds F) (hF : InW F nx win) (hnx : 0 ≤ nx ∧ nx ≤ 4294967296) (hw : 1 ≤ win ∧ win ≤ 64) (hl : Ds.length ≤ 1024) :
    Calls Try.prog 51 #[.pointer (some ⟨g, 0, none⟩)] w (RetMs w Ds F nx) := by
  obtain ⟨A, c, c0, c1, c2, c3, hcap, cf, hgl, hel⟩ := rrc_cells h
  have hin : ∀ d ∈ Ds, nx ≤ d.1 ∧ d.1 < nx + win := fun d hd => hF _ _ (hD.get d hd)
  have HH := Lib.hid (And.intro h (And.intro hD (And.intro hF hin)))
  have HE := Lib.hid hel
  obtain ⟨n, hn⟩ : ∃ n, n = Ds.length := ⟨_, rfl⟩
  rw [← hn] at c3 hcap hl
  have HN := Lib.hid hn
  have H0 := Lib.hid (show TopR w n Ds (.int .i64 (-1)) (.int .i64 0) w from ⟨0, rfl, Nat.zero_le _, rfl, rfl⟩)
  obtain ⟨J, hJ⟩ : ∃ J, J = (topD Ds Ds.length + 1 - nx).toNat := ⟨_, rfl⟩
  have HEN := Lib.hid (show Ends Ds nx J from by rw [hJ]; exact top_ends hnx.1 (fun d hd => (hin d hd).1))
  have hJw : (J : Int) ≤ win := by
    rcases HEN.out.2 with h0 | ⟨d, hd, h0⟩
    · omega
    · have := (hin d hd).2
      omega
  have HJ := Lib.hid hJ
  clear h hel cf hn hD hF hin hJ
  go_enter Try.func51, Try.ntmps51
  go_wp2
  go_loopw [3, 12] (fun lv iv wr => TopR w n Ds lv iv wr) (fun _ iv _ => n - (intOf1 iv).toNat)
  case atStart => exact H0.out
  case round =>
    obtain ⟨k, rfl, hk, rfl, rfl⟩ := hrel
    by_cases hkn : k < n
    · obtain ⟨gb, A', n', c', rfl, hgb, p0, p1, p2, pr⟩ := HE.out k (by rw [← HN.out]; exact hkn)
      have i1 : (0 : Int) ≤ (k : Int) := by omega
      have i2 : (k : Int) < (n : Int) := by omega
      obtain ⟨x, hx⟩ : ∃ x, x = (Ds[k]'(by rw [← HN.out]; exact hkn)).1 := ⟨_, rfl⟩
      rw [← hx] at p0
      have HT := Lib.hid (show topD Ds (k + 1) = max (topD Ds k) x from by
        have hkl : k < Ds.length := by rw [← HN.out]; exact hkn
        simp [topD, List.getD, hkl, hx])
      obtain ⟨tp, htp⟩ : ∃ tp, tp = topD Ds k := ⟨_, rfl⟩
      rw [← htp]
      have HTP := Lib.hid htp
      clear p1 p2 pr hx htp
      go_wp2
      go_roundw
      case rel => exact ⟨k + 1, by go_num, by omega, by
        rw [HT.out, ← HTP.out]
        congr 1
        split <;> omega, rfl⟩
      case measure => simp [intOf1]; omega
    · obtain rfl : k = n := by omega
      have HTE := Lib.hid (show topD Ds k = topD Ds Ds.length from by rw [HN.out])
      have H1 := Lib.hid (show MrR wr Ds F nx J (.slice none 0 0) (.int .i64 nx) wr from ⟨0, by simp, Nat.zero_le _, nml_nil _ _, Below.refl _ _⟩)
      rw [HTE.out]
      obtain ⟨tp, htp⟩ : ∃ tp, tp = topD Ds Ds.length := ⟨_, rfl⟩
      rw [← htp]
      have HTP := Lib.hid (show J = (tp + 1 - nx).toNat from by rw [htp]; exact HJ.out)
      clear htp
      go_wp2
      go_loopw [5, 6] (fun lv sv wv => MrR wr Ds F nx J lv sv wv) (fun _ sv _ => (nx + win + 1 - intOf1 sv).toNat)
      case atStart => exact H1.out
      case round =>
        obtain ⟨j, rfl, hj, HL, hb⟩ := hrel
        have HTQ := HTP.out
        obtain ⟨x, hx⟩ : ∃ x, x = nx + (j : Int) := ⟨_, rfl⟩
        rw [← hx]
        have HX := Lib.hid hx
        have HB := Lib.hid hb
        have hs0 := hb.size
        have hx1 : 0 ≤ x := by omega
        have hx2 : x ≤ 4294967360 := by omega
        by_cases hlt : x ≤ tp
        · have hjJ : j < J := by omega
          have HJ1 := Lib.hid (show nx + ((j + 1 : Nat) : Int) = x + 1 from by push_cast; omega)
          have HR := Lib.hid (has_any g base st win nx x Ds _ (rrc_below HH.out.1 hb) (by have := HN.out; omega))
          have hms := msF_len F nx j
          have hiff := held_iff HH.out.2.1 x
          clear hb hx HTQ
          go_wp2_with fail
          refine HR.out.mono ?_
          rintro e w3 ⟨rfl, ⟨rfl, hno⟩ | ⟨i, hi, rfl, hyes, _⟩⟩
          · have hFx : F x = none := by
              by_cases e : F x = none
              · exact e
              · obtain ⟨d, hd, e2⟩ := hiff.2 e
                obtain ⟨q, hq, rfl⟩ := List.mem_iff_getElem.1 hd
                exact absurd e2 (hno q hq)
            have HE5 := Lib.hid (show msF F nx (j + 1) = msF F nx j ++ [x] from by
              simp only [msF]
              rw [← HX.out, if_pos hFx])
            clear hno hFx hiff
            go_wp2_with (at_builtin
                         go_must (refine wpList_append_num rfl (.tmp 39) (.tmp 41) rfl wr.heap.size _ _ rfl HL.out x (by simp [Act.eval]) (by omega) hs0 ?_))
            intro v6 w6 hL6 hO6
            rw [← HE5.out] at hL6
            have HL6 := Lib.hid hL6
            have HB6 := Lib.hid (nml_only HL.out hO6 HB.out hs0)
            clear hL6 hO6
            go_wp2
            go_roundw
            case rel => exact ⟨j + 1, by rw [HJ1.out], by omega, HL6, HB6.out⟩
            case measure => have := HX.out; simp [intOf1]; omega
          · have hFx : F x ≠ none := hiff.1 ⟨_, List.getElem_mem hi, hyes⟩
            have HL6 := Lib.hid (show NmL w3 wr.heap.size u5 (msF F nx (j + 1)) from by
              have e5 : msF F nx (j + 1) = msF F nx j := by
                simp only [msF]
                rw [← HX.out, if_neg hFx]
                simp
              rw [e5]
              exact HL.out)
            have i3 : ¬ (i : Int) < 0 := by omega
            clear hFx hiff hyes
            go_wp2
            go_roundw
            case rel => exact ⟨j + 1, by rw [HJ1.out], by omega, HL6, HB.out⟩
            case measure => have := HX.out; simp [intOf1]; omega
        · obtain rfl : j = J := by omega
          have hj64 : (j : Int) ≤ 64 := by omega
          clear hb hx HTQ
          go_wp2
          go_ret
          exact ⟨_, j, rfl, HEN.out, hj64, HL.out, HB.out⟩
end Go.Proofs.Ytifmhecjllpjpaa
