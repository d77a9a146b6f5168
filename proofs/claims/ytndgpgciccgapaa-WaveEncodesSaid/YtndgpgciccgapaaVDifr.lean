/-
  The document's Differences; two lists of steps that are the same.
-/
import Derived.Test.YtndgpgciccgapaaVDif
import Derived.Deep.MidRow
namespace Go.Proofs.Ytndgpgciccgapaa
open Go.RowKit

theorem difK_ne (ls : List Int) : ∀ {k : Nat}, 0 < k → ∃ R p, difK ls k = R ++ [p]
  | 0, h => absurd h (by omega)
  | k + 1, _ => by
    rw [difK]
    rcases list_end (difK ls k) with h | ⟨R0, ⟨d, c⟩, h⟩
    · rw [h]; exact ⟨[], _, rfl⟩
    · rw [h]
      by_cases e : d = dif ls k
      · rw [← e, extP_same]; exact ⟨_, _, rfl⟩
      · rw [extP_other _ _ e]; exact ⟨_, _, rfl⟩

def DifrRel (ls : List Int) (w : World) (rv iv : Value) (wr : World) : Prop :=
  ∃ k : Nat, iv = .int .i64 (k : Int) ∧ k ≤ ls.length ∧ Hid (SL stE 2 128 wr w.heap.size rv (difK ls k)) ∧ Below w.heap.size w wr

set_option maxRecDepth 100000 in
set_option maxHeartbeats 2000000 in
theorem refDifferences_any (ls : List Int) (h60 : All60 ls) (A : Option Addr) (n c B : Nat) (hn : n ≤ 1000) (w : World) (hx : IW w B (.slice A n c) ls) (hB : B ≤ w.heap.size) :
    Calls Try.prog 74 #[.slice A n c] w (RetSp w w.heap.size (difK ls ls.length)) := by
  obtain ⟨i0, hi0, hz0, hz1, hz2⟩ := info_parts infoStep
  have hl := Lib.hid hx.len
  have HX := Lib.hid (And.intro hx h60)
  clear hx h60
  go_enter Try.func74, Try.ntmps74
  go_wp2
  go_loopw [3, 4] (fun rv iv wr => DifrRel ls w rv iv wr) (fun _ iv _ => n - (intOf iv).toNat)
  case atStart => exact ⟨0, rfl, Nat.zero_le _, Lib.hid (SL.nil_ _ _ _ _ _), Below.refl _ _⟩
  case round =>
    obtain ⟨k, rfl, hkz, hR, hbw⟩ := hrel
    have hkn : k ≤ n := by rw [hl.out]; exact hkz
    by_cases hlt : k < n
    · obtain ⟨b, o, rfl, hb, hc⟩ := HX.out.1.at_ (by omega)
      have hbB : b < w.heap.size := by omega
      have hck := (hbw.cell (p := ⟨b, o + k, none⟩) hbB).trans (hc k hlt)
      have hk' : k < ls.length := by have := hl.out; omega
      have hs := HX.out.2 _ (ith_mem hk')
      have hbs := hbw.size
      obtain ⟨s, hsv⟩ : ∃ s, ith ls k = s := ⟨_, rfl⟩
      rw [hsv] at hck hs
      rcases Nat.eq_zero_or_pos k with h0 | h0
      · subst h0
        obtain ⟨A3, c3, rfl, _, _⟩ := hR.out.slice
        have hown : wr.ownsRow w.heap.size 128 2 (.slice A3 0 c3) 0 [] := hR.out
        have hck0 : wr.cell? ⟨b, o, none⟩ = some (.int .i64 s) := by simpa using hck
        have TC := Lib.hid (two_cells wr 128 s 1)
        have hD : difK ls (0 + 1) = [(s, 1)] := by rw [difK, difK, extP_nil, dif, hsv]; simp
        have HK := Lib.hid (And.intro hR.out (And.intro hbw hD))
        clear hck hc hR hbw hD hsv
        go_wp2_with (at_builtin
                     refine wpList_append_own_at _ rfl (.tmp 52) (.tmp 55) _ rfl w.heap.size 128 i0 _ 2 16 Try.underlying124 hi0 hz0 hz1 hz2 rfl (by decide) _ 0 _ rfl (hown.alloc _) ⟨wr.heap.size, 0, none⟩ 1 1 [.int .i64 s, .int .i64 1] rfl rfl TC.out (by intro u hu; simp at hu; rcases hu with rfl | rfl <;> rfl) (by unfold maxLen; omega) (by omega) (by simp; omega) ?_)
        intro v' w1 ho hg _ _
        have HG := Lib.hid (SL.grows (R := ([] : List Sp)) (a := (s, 1)) HK.out.1 HK.out.2.1 (Nat.le_refl _) (Nat.le_refl _) _ ⟨rfl, rfl⟩ rfl ho hg)
        clear ho hg hown
        go_wp2
        go_roundw
        case rel => exact ⟨1, by simp, by omega, Lib.hid (by rw [HK.out.2.2]; exact HG.out.1), HG.out.2⟩
        case measure => simp [intOf]; omega
      · have hcp := (hbw.cell (p := ⟨b, o + (k - 1), none⟩) hbB).trans (hc (k - 1) (by omega))
        have hq := HX.out.2 _ (ith_mem (zs := ls) (j := k - 1) (by omega))
        obtain ⟨pv, hpv⟩ : ∃ pv, ith ls (k - 1) = pv := ⟨_, rfl⟩
        rw [hpv] at hcp hq
        obtain ⟨R0, ⟨d, cc⟩, hRd⟩ := difK_ne ls h0
        have hS := hR.out
        obtain ⟨q1, q2⟩ := difK_small ls k
        rw [hRd] at hS q1 q2
        have hcc := q2 (d, cc) (by simp)
        simp only at hcc
        have hD : difK ls (k + 1) = extP (R0 ++ [(d, cc)]) (s - pv) := by rw [difK, hRd, dif, hsv, if_neg (by omega), hpv]
        obtain ⟨A3, c3, rfl, hA, hcap⟩ := hS.slice
        have e1 : (R0 ++ [(d, cc)]).length = R0.length + 1 := by simp
        rw [e1] at hA hcap q1 hS ⊢
        obtain ⟨g, rfl, hg1, hg2⟩ := hA (by omega)
        have m0 : wr.cell? ⟨g, R0.length * 2, none⟩ = some (.int .i64 d) := by
          have := hS.cell stE_len (i := R0.length) (j := 0) (by simp) (by omega)
          simpa [ints, stE] using this
        have m1 : wr.cell? ⟨g, R0.length * 2 + 1, none⟩ = some (.int .i64 (cc : Int)) := by
          have := hS.cell stE_len (i := R0.length) (j := 1) (by simp) (by omega)
          simpa [ints, stE] using this
        have mf := hS.frozen
        unfold maxLen at hcap
        have hst := SP_set (t := cc + 1) hS
        have hown : wr.ownsRow w.heap.size 128 2 (.slice (some ⟨g, 0, none⟩) (R0.length + 1) c3) (R0.length + 1) (ints ((R0 ++ [(d, cc)]).flatMap stE)) := by
          have h9 := hS
          unfold SL at h9
          rw [e1] at h9
          exact h9
        obtain ⟨F, hF⟩ : ∃ F, ints ((R0 ++ [(d, cc)]).flatMap stE) = F := ⟨_, rfl⟩
        rw [hF] at hown
        have HF := Lib.hid (And.intro e1 hF)
        have HS := Lib.hid (And.intro (And.intro hS hbw) (And.intro hst (hbw.setCell (p := ⟨g, R0.length * 2 + 1, none⟩) hg1 (.int .i64 ((cc + 1 : Nat) : Int)))))
        have TC := Lib.hid (two_cells wr 128 (s - pv) 1)
        by_cases hd : d = s - pv
        · rw [hd, extP_same] at hD
          have hdd : (d == s - pv) = true := by simp [hd]
          have HD := Lib.hid (And.intro hD hd)
          clear hA hS hF hst e1 hRd q2 hc hR hbw hD hsv hpv hown hd
          go_wp2
          go_region
          go_wp2
          go_roundw
          case rel =>
            refine ⟨k + 1, by simp, by omega, Lib.hid ?_, ?_⟩
            · rw [HD.out.1]
              have := HS.out.2.1
              rw [HD.out.2] at this
              have t : SL stE 2 128 (wr.setCell ⟨g, R0.length * 2 + 1, none⟩ (.int .i64 ((cc : Int) + 1))) w.heap.size (.slice (some ⟨g, 0, none⟩) (R0.length + 1) c3) (R0 ++ [(s - pv, cc + 1)]) := by simpa using this
              exact t
            · have t : Below w.heap.size w (wr.setCell ⟨g, R0.length * 2 + 1, none⟩ (.int .i64 ((cc : Int) + 1))) := by simpa using HS.out.2.2
              exact t.drew
          case measure => simp [intOf]; omega
        · rw [extP_other _ _ hd] at hD
          have hdd : (d == s - pv) = false := by simpa using hd
          have HD := Lib.hid hD
          clear hA hS hF hst e1 hRd q2 hc hR hbw hD hsv hpv hd
          go_wp2
          go_region
          go_wp2_with (at_builtin
                       refine wpList_append_own_at _ rfl (.tmp 52) (.tmp 55) _ rfl w.heap.size 128 i0 _ 2 16 Try.underlying124 hi0 hz0 hz1 hz2 rfl (by decide) _ (R0.length + 1) _ rfl ((hown.drew).alloc _) ⟨wr.heap.size, 0, none⟩ 1 1 [.int .i64 (s - pv), .int .i64 1] rfl rfl TC.out (by intro u hu; simp at hu; rcases hu with rfl | rfl <;> rfl) (by unfold maxLen; omega) (by omega) (by simp; omega) ?_)
          intro v' w1 ho hg' _ _
          have hg : (wr.alloc (.cells #[.int .i64 (s - pv), .int .i64 1] 128)).grownBy w1 (Value.slice (some ⟨g, 0, none⟩) (R0.length + 1) c3).ownBlock := ⟨hg'.os, hg'.tape, hg'.output, hg'.size, hg'.block⟩
          have HG := Lib.hid (SL.grows (a := (s - pv, 1)) HS.out.1.1 HS.out.1.2 (Nat.le_refl _) (Nat.le_refl _) _ HF.out rfl ho hg)
          clear hg'
          clear ho hg hown
          go_wp2
          go_roundw
          case rel => exact ⟨k + 1, by simp, by omega, Lib.hid (by rw [HD.out]; exact HG.out.1), HG.out.2⟩
          case measure => simp [intOf]; omega
    · obtain rfl : k = n := by omega
      have hS := hR.out
      rw [hl.out] at hS
      go_wp2
      go_ret
      exact ⟨u3, rfl, hS, hbw⟩

end Go.Proofs.Ytndgpgciccgapaa
