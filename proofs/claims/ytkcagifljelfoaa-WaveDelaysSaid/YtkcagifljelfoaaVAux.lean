/-
  What WaveLifts and WaveDelays want besides: numbers of the call's own, Time and Energy of both lists, valid.
-/
import Derived.Test.YtkcagifljelfoaaVAny
import Derived.Test.YtkcagifljelfoaaVEne
import Derived.Test.YtkcagifljelfoaaVLft
import Derived.Test.YtkcagifljelfoaaVDly
namespace Go.Proofs.Ytkcagifljelfoaa
open Go.RowKit

def ilE (x : Int) : List Int := [x]
theorem ilE_len (x : Int) : (ilE x).length = 1 := rfl
theorem infoIl : (Try.prog.info? 3).map (fun i => (i.zero, i.size, i.bytes)) = some (some (.int .i64 0), 1, 8) := by kernel_rfl
theorem SL.ilw {w : World} {base : Nat} {v : Value} {Z : List Int} (h : SL ilE 1 3 w base v Z) : ∃ A c, v = .slice A Z.length c ∧ IW w w.heap.size (.slice A Z.length c) Z := by
  obtain ⟨A, c, rfl, hA, hc⟩ := h.slice
  refine ⟨A, c, rfl, IW.mk rfl hc.1 hc.2 (fun h0 => ?_)⟩
  obtain ⟨g, rfl, h1, h2⟩ := hA h0
  refine ⟨g, 0, rfl, h2, fun j hj => ?_⟩
  have := h.cell ilE_len hj (j := 0) (by omega)
  rw [Nat.mul_one, Nat.add_zero] at this
  rw [Nat.zero_add, this, ith_lt hj]
  rfl
theorem take_up {L : List Int} {m : Int} {k : Nat} (h : k < L.length) : upZ (L.take (k + 1)) m = upZ (L.take k) m ++ [ith L k + m] := by
  unfold upZ
  rw [List.take_succ_eq_append_getElem h, List.map_append, ith_lt h]
  rfl
theorem okZ_up {L : List Int} {m : Int} (h : okZ L) (h0 : 0 ≤ m) (hm : ∀ j, j < L.length → ith L j + m ≤ 1023) : okZ (upZ L m) := by
  refine ⟨by rw [upZ_len]; exact h.1, fun x hx => ?_⟩
  obtain ⟨j, hj, rfl⟩ := List.getElem_of_mem hx
  rw [upZ_len] at hj
  rw [← ith_lt (by rw [upZ_len]; exact hj), ith_up hj]
  have := h.ith hj
  have := hm j hj
  omega
theorem ech_goodF {L : List Int} {d : De} (hd : 1 ≤ d.dp) {R : List Eo} (hR : echF L d = R) : ∀ k (h : k < R.length), goodE L L.length (R[k]'h) := fun k h => by
  subst hR
  exact echF_good hd _ (List.getElem_mem h)

theorem time_two (zs : List Int) (hok : okZ zs) (m : Int) (hok' : okZ (upZ zs m)) (fr to pk : Nat) (lv tp tp' : Int) (hg : goodE zs zs.length ⟨fr, to, pk, lv, tp⟩) :
    ∃ lo hi cc, (∀ (A : Option Addr) (n c : Nat) (w : World), IW w w.heap.size (.slice A n c) zs → Calls Try.prog 22 #[.slice A n c, .agg #[.int .i64 (fr : Int), .int .i64 (to : Int), .int .i64 (pk : Int), .int .i64 lv, .int .i64 tp]] w (RetSE w lo hi cc)) ∧
      (∀ (A : Option Addr) (n c : Nat) (w : World), IW w w.heap.size (.slice A n c) (upZ zs m) → Calls Try.prog 22 #[.slice A n c, .agg #[.int .i64 (fr : Int), .int .i64 (to : Int), .int .i64 (pk : Int), .int .i64 (lv + m), .int .i64 tp']] w (RetSE w lo hi cc)) := by
  obtain ⟨g1, g2, g3, g4, g5⟩ := hg
  simp only at g1 g2 g3 g4
  have e : fr + (pk - fr) = pk := by omega
  obtain ⟨i, i1, i2, i3, i4⟩ := first_high (zs := zs) (lv := lv) (fr := fr) (pk - fr) (by rw [e]; exact g4)
  have i5 : i < to := by omega
  have u1 : ith (upZ zs m) i = ith zs i + m := ith_up (by omega)
  have j4 : ∀ j, fr ≤ j → j < i → ith (upZ zs m) j < lv + m := fun j h1 h2 => by have := i4 j h1 h2; rw [ith_up (by omega)]; omega
  have j3 : lv + m ≤ ith (upZ zs m) i := by omega
  rcases Nat.eq_zero_or_pos i with h0 | h0
  · refine ⟨0, 0, 32, fun A n c w hx => ?_, fun A n c w hx => ?_⟩
    · exact time_cut0 zs hok fr to i (pk : Int) lv tp A n c w hx (by omega) (by rw [hx.len]; exact g3) i1 i5 h0 i4 i3
    · exact time_cut0 (upZ zs m) hok' fr to i (pk : Int) (lv + m) tp' A n c w hx (by omega) (by rw [hx.len, upZ_len]; exact g3) i1 i5 h0 j4 j3
  · have u2 : ith (upZ zs m) (i - 1) = ith zs (i - 1) + m := ith_up (by omega)
    by_cases h1 : lv ≤ ith zs (i - 1)
    · refine ⟨0, 0, 32, fun A n c w hx => ?_, fun A n c w hx => ?_⟩
      · exact time_cut1 zs hok fr to i (pk : Int) lv tp A n c w hx (by omega) (by rw [hx.len]; exact g3) i1 i5 h0 i4 i3 h1
      · exact time_cut1 (upZ zs m) hok' fr to i (pk : Int) (lv + m) tp' A n c w hx (by omega) (by rw [hx.len, upZ_len]; exact g3) i1 i5 h0 j4 j3 (by omega)
    · refine ⟨256 * (((i - 1 : Nat) : Int) * (ith zs i - ith zs (i - 1)) + (lv - ith zs (i - 1)) - 1) / (ith zs i - ith zs (i - 1)), -(-(256 * (((i - 1 : Nat) : Int) * (ith zs i - ith zs (i - 1)) + (lv - ith zs (i - 1)))) / (ith zs i - ith zs (i - 1))), 0, fun A n c w hx => ?_, fun A n c w hx => ?_⟩
      · exact time_raw zs hok fr to i (pk : Int) lv tp A n c w hx (by omega) (by rw [hx.len]; exact g3) i1 i5 h0 i4 i3 (by omega)
      · have q := time_raw (upZ zs m) hok' fr to i (pk : Int) (lv + m) tp' A n c w hx (by omega) (by rw [hx.len, upZ_len]; exact g3) i1 i5 h0 j4 j3 (by omega)
        have d1 : ith zs i + m - (ith zs (i - 1) + m) = ith zs i - ith zs (i - 1) := by omega
        have d2 : lv + m - (ith zs (i - 1) + m) = lv - ith zs (i - 1) := by omega
        rw [u1, u2, d1, d2] at q
        exact q
theorem eneK_up {zs : List Int} {m b : Int} {fr : Nat} : ∀ k, fr + k ≤ zs.length → eneK (upZ zs m) (b + m) fr k = eneK zs b fr k
  | 0, _ => rfl
  | k + 1, h => by
    rw [eneK, eneK, eneK_up k (by omega), ith_up (by omega)]
    omega
theorem energy_two (zs : List Int) (hok : okZ zs) (m : Int) (hok' : okZ (upZ zs m)) (fr to pk : Nat) (lv tp : Int) (hg : goodE zs zs.length ⟨fr, to, pk, lv, tp⟩) :
    ∃ E, (∀ (A : Option Addr) (n c : Nat) (w : World), IW w w.heap.size (.slice A n c) zs → Calls Try.prog 24 #[.slice A n c, .agg #[.int .i64 (fr : Int), .int .i64 (to : Int), .int .i64 (pk : Int), .int .i64 lv, .int .i64 tp]] w (RetEn w E 0)) ∧
      (∀ (A : Option Addr) (n c : Nat) (w : World), IW w w.heap.size (.slice A n c) (upZ zs m) → Calls Try.prog 24 #[.slice A n c, .agg #[.int .i64 (fr : Int), .int .i64 (to : Int), .int .i64 (pk : Int), .int .i64 (lv + m), .int .i64 (tp + m)]] w (RetEn w E 0)) := by
  obtain ⟨g1, g2, g3, _⟩ := hg
  simp only at g1 g2 g3
  have hne : zs ≠ [] := fun h => by rw [h] at g3; simp at g3; omega
  refine ⟨eneK zs (med zs) fr (to - fr), fun A n c w hx => energy_ok zs hok fr to _ _ _ A n c w hx (by omega) (by rw [hx.len]; exact g3), fun A n c w hx => ?_⟩
  have q := energy_ok (upZ zs m) hok' fr to (pk : Int) (lv + m) (tp + m) A n c w hx (by omega) (by rw [hx.len, upZ_len]; exact g3)
  rw [med_up hne, eneK_up _ (by omega)] at q
  exact q

set_option maxRecDepth 100000 in
set_option maxHeartbeats 1000000 in
theorem valid_any (zs : List Int) (A : Option Addr) (n c B : Nat) (w : World) (hx : IW w B (.slice A n c) zs) :
    Calls Try.prog 26 #[.slice A n c] w (RetSame w (decide (okZ zs))) := by
  have hl := Lib.hid hx.len
  have hcap := hx.cap
  unfold maxLen at hcap
  have HX := Lib.hid hx
  clear hx
  by_cases h256 : 256 < n
  · go_enter Try.func26, Try.ntmps26
    go_wp2
    go_ret
    have := hl.out
    have h2 : ¬ okZ zs := fun h => by have := h.1; omega
    exact ⟨by rw [decide_eq_false h2]; rfl, rfl⟩
  · go_enter Try.func26, Try.ntmps26
    go_wp2
    go_loopw [3] (fun iv wr => ∃ k : Nat, k ≤ n ∧ iv = .int .i64 (k : Int) ∧ Hid (∀ j, j < k → 0 ≤ ith zs j ∧ ith zs j ≤ 1023) ∧ wr = w) (fun iv _ => n - (intOf iv).toNat)
    case atStart => exact ⟨0, Nat.zero_le _, rfl, Lib.hid (fun j hj => absurd hj (by omega)), rfl⟩
    case round =>
      obtain ⟨k, hk, rfl, hall, rfl⟩ := hrel
      by_cases hlt : k < n
      · obtain ⟨b, o, rfl, hb, hc⟩ := HX.out.at_ (by omega)
        have hck := hc k hlt
        obtain ⟨x, hx⟩ : ∃ x, ith zs k = x := ⟨_, rfl⟩
        rw [hx] at hck
        have HK := Lib.hid hx
        clear hx hc
        by_cases h0 : x < 0
        · go_wp2
          go_ret
          refine ⟨?_, rfl⟩
          have : ¬ okZ zs := fun h => by have := h.ith (j := k) (by have := hl.out; omega); rw [HK.out] at this; omega
          rw [decide_eq_false this]; rfl
        · by_cases h1 : 1023 < x
          · go_wp2
            go_ret
            refine ⟨?_, rfl⟩
            have : ¬ okZ zs := fun h => by have := h.ith (j := k) (by have := hl.out; omega); rw [HK.out] at this; omega
            rw [decide_eq_false this]; rfl
          · go_wp2
            go_roundw
            case rel =>
              refine ⟨k + 1, by omega, by simp, Lib.hid (fun j hj => ?_), by first | rfl | trivial⟩
              by_cases e : j = k
              · subst e; rw [HK.out]; omega
              · exact hall.out j (by omega)
            case measure => simp [intOf]; omega
      · obtain rfl : k = n := by omega
        go_wp2
        go_ret
        refine ⟨?_, rfl⟩
        have : okZ zs := by
          refine ⟨by have := hl.out; omega, fun x hx => ?_⟩
          obtain ⟨j, hj, rfl⟩ := List.getElem_of_mem hx
          rw [← ith_lt hj]
          exact hall.out j (by have := hl.out; omega)
        rw [decide_eq_true this]; rfl
end Go.Proofs.Ytkcagifljelfoaa
