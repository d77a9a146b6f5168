/-
  The document's receiver: keep where it refuses.
-/
import Derived.Test.YtifmhecjllpjpaaZMis3
namespace Go.Proofs.Ytifmhecjllpjpaa
open Go.RowKit Go.Maps
attribute [local go_sem ↓] Go.wp_at_zero Go.wp_at_succ

set_option maxRecDepth 100000 in
set_option maxHeartbeats 1000000 in
theorem keep_err (g base : Nat) (st win nx sq : Int) (F : Hf) (Ds : List Dl) (l : Bool) (A : Option Addr) (n c : Nat) (w : World) (h : Rrc w g base st win nx Ds) (hD : DsF Ds F) (hl : Ds.length ≤ 1024) (hnx : 0 ≤ nx ∧ nx ≤ 4294967296) (hw : 1 ≤ win ∧ win ≤ 64)
    (hsq : 0 ≤ sq ∧ sq ≤ 4294967295) (ce : Int) (hce : holdE win nx F sq = ce) (h0 : ce ≠ 0) :
    Calls Try.prog 48 #[.pointer (some ⟨g, 0, none⟩), .agg #[.int .i64 sq, .slice A n c, .bool l]] w (RetErr w ce) := by
  obtain ⟨W0, HW0, hw0, HG, z0⟩ := D0ex w sq (.slice A n c) l
  have hR0 := rrc_below h hw0
  obtain ⟨RA, rc, c0, c1, c2, c3, hcap, cf, hgl, hel⟩ := rrc_cells hR0
  obtain ⟨k0, k1, k2, kf⟩ := fr_blk HG.out (Below.refl _ _)
  have HH := Lib.hid (And.intro hR0 (And.intro hD hw0))
  have hiff := held_iff hD sq
  clear h hel cf kf hD hR0
  unfold holdE at hce
  by_cases h1 : sq < nx
  · rw [if_pos h1] at hce
    subst hce
    have d1 : decide (sq < nx) = true := by simpa using h1
    clear h0 hiff
    go_enter Try.func48, Try.ntmps48
    go_wp2_with fail
    rw [← HW0.out]
    go_region
    go_wp2
    go_ret2
    exact ⟨rfl, HH.out.2.2.drew⟩
  · rw [if_neg h1] at hce
    have d1 : decide (sq < nx) = false := by simpa using h1
    have HR := Lib.hid (has_any g base st win nx sq Ds W0.drew (rrc_below HH.out.1 (Below.refl _ _).drew) (by omega))
    by_cases h2 : F sq ≠ none
    · rw [if_pos h2] at hce
      subst hce
      have hex := hiff.2 h2
      clear h0 hiff h2
      go_enter Try.func48, Try.ntmps48
      go_wp2_with fail
      rw [← HW0.out]
      go_region
      go_wp2_with fail
      refine HR.out.mono ?_
      rintro e w3 ⟨rfl, ⟨rfl, hno⟩ | ⟨i, hi, rfl, hyes, _⟩⟩
      · obtain ⟨d, hd, e2⟩ := hex
        obtain ⟨q, hq, rfl⟩ := List.mem_iff_getElem.1 hd
        exact absurd e2 (hno q hq)
      · have i1 : (0 : Int) ≤ (i : Int) := by omega
        clear hyes hex
        go_wp2
        go_ret2
        exact ⟨rfl, HH.out.2.2.drew⟩
    · rw [if_neg h2] at hce
      by_cases h3 : nx + win ≤ sq
      · rw [if_pos h3] at hce
        subst hce
        have hex : ¬ ∃ d ∈ Ds, d.1 = sq := fun he => h2 (hiff.1 he)
        have d3 : decide (win ≤ sq - nx) = true := by simp; omega
        clear h0 hiff h2
        go_enter Try.func48, Try.ntmps48
        go_wp2_with fail
        rw [← HW0.out]
        go_region
        go_wp2_with fail
        refine HR.out.mono ?_
        rintro e w3 ⟨rfl, ⟨rfl, hno⟩ | ⟨i, hi, rfl, hyes, _⟩⟩
        · clear hno hex
          go_wp2_with fail
          go_region
          go_wp2
          go_ret2
          exact ⟨rfl, HH.out.2.2.drew.drew⟩
        · exact absurd ⟨_, List.getElem_mem hi, hyes⟩ hex
      · rw [if_neg h3] at hce
        exact absurd hce.symm h0
end Go.Proofs.Ytifmhecjllpjpaa
