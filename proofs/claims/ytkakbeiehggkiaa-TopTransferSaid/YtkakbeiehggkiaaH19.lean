/-
  Unpack, the document's.
-/
import Derived.Test.YtkakbeiehggkiaaH17
import Derived.Test.YtkakbeiehggkiaaH18
import Derived.Deep.DrawnRows
namespace Go.Proofs.Ytkakbeiehggkiaa
open Go.RowKit
attribute [local go_sem ↓] Go.wp_at_zero Go.wp_at_succ

theorem be_lt4 {X : List Nat} (hb : AllB X) (h : X.length ≤ 4) : be X < 4294967296 := by
  have := be_bd X hb X.length (Nat.le_refl _) h
  rwa [List.take_length] at this

theorem joined_oneD (v : Value) (L : List Nat) (B : Nat) (w : World) (hx : RB w B v L) (hB : B ≤ w.heap.size) (hl : L.length ≤ 1099511627776) :
    Calls Try.prog 59 #[.slice (some ⟨w.heap.size, 0, none⟩) 1 1] (w.alloc (.cells #[v] 33)).drew (RetOwn w L) := by
  have hx1 := hx.alloc hB (.cells #[v] 33)
  refine (joined_any 1 w.heap.size B 1 (fun _ => v) (fun _ => L) (w.alloc (.cells #[v] 33)).drew (fun j hj => ?_) (fun j hj => ⟨hx1.1.drew, hx1.2⟩) (by show B ≤ (w.alloc _).heap.size; simp; omega) (by show _ < (w.alloc _).heap.size; simp) (by omega) (by omega) (by simpa [flat] using hl)).mono ?_
  · obtain rfl : j = 0 := by omega
    exact built_cells w #[v] _ 0 v rfl
  · rintro e w' ⟨v', rfl, ho, hb⟩
    have hb2 : Below (w.heap.size + 1) (w.alloc (.cells #[v] 33)) w' := by
      have := below_un hb
      have e : (w.alloc (.cells #[v] 33)).drew.heap.size = w.heap.size + 1 := by show (w.alloc _).heap.size = _; simp
      rwa [e] at this
    refine ⟨v', rfl, ?_, ((Below.refl w.heap.size w).alloc (Nat.le_refl _) (.cells #[v] 33)).trans (hb2.mono (by omega))⟩
    have e : flat (fun _ => L) 1 = L := by simp [flat]
    rw [e] at ho
    exact owns_base ho (by show w.heap.size ≤ (w.alloc _).heap.size; simp)

set_option maxRecDepth 100000 in
set_option maxHeartbeats 8000000 in
theorem refUnpack_strong (L : List Nat) (hb : AllB L) (A : Option Addr) (n c B : Nat) (w : World) (hx : RB w B (.slice A n c) L) (hB : B ≤ w.heap.size) :
    Calls Try.prog 86 #[.slice A n c] w (RetUpSL w L) := by
  have HXL := Lib.hid hx.1.len
  have hcap := hx.1.cap
  unfold maxLen at hcap
  have HB := Lib.hid hb
  obtain ⟨W0, HW0, hw0, HG, z0⟩ := U0ex w
  have hx0 := hx.belowM (B' := w.heap.size) hw0 hB
  obtain ⟨k0, k1, k2, kf⟩ := fr_blk HG.out (Below.refl _ _)
  by_cases hn0 : n = 0
  · have U := Lib.hid (up_bad (L := L) (e := 21) (by unfold upE; rw [if_pos (by rw [← HXL.out]; exact hn0)]) (by omega))
    subst hn0
    go_enter Try.func86, Try.ntmps86
    go_wp2_with fail
    rw [← HW0.out]
    go_wp2
    refine bodyPost_ret (v := .tuple #[.agg #[.int .i64 0, .int .i64 0, .slice none 0 0], .int .i64 0, .int .i64 21]) (by simp [results, Try.results86, go_sem, k0, k1, k2]) rfl (retUp_bad U.out hw0 rfl)
  · have h0 := Lib.hid (show ¬ L.length = 0 by rw [← HXL.out]; exact hn0)
    obtain ⟨b, o, rfl, hbB, hcell⟩ := hx0.1.at_ (by omega)
    have hc0 : W0.cell? ⟨b, o, none⟩ = some (.int .u8 (nth L 0 : Nat)) := hcell 0 (by omega)
    have hc1 : 1 < n → W0.cell? ⟨b, o + 1, none⟩ = some (.int .u8 (nth L 1 : Nat)) := fun h => hcell 1 h
    clear hcell
    have hpos : (0 : Int) < (n : Int) := by omega
    have hc0w := hc0
    rw [HW0.out] at hc0w
    by_cases hm : nth L 0 ≠ 165
    · have U := Lib.hid (up_bad (upE_mark h0.out hm) (by omega))
      have hne : ((nth L 0 : Int) != 165) = true := by rw [bne_iff_ne]; omega
      go_enter Try.func86, Try.ntmps86
      go_wp2_with fail
      rw [← HW0.out]
      go_wp2
      refine bodyPost_ret (v := .tuple #[.agg #[.int .i64 0, .int .i64 0, .slice none 0 0], .int .i64 0, .int .i64 22]) (by simp [results, Try.results86, go_sem, k0, k1, k2]) rfl (retUp_bad U.out hw0 rfl)
    · have hx165 : nth L 0 = 165 := by omega
      rw [hx165] at hc0 hc0w
      have HM := Lib.hid hm
      clear hm hx165
      by_cases h8 : n < 8
      · have U := Lib.hid (up_bad (upE_short h0.out HM.out (by rw [← HXL.out]; exact h8)) (by omega))
        go_enter Try.func86, Try.ntmps86
        go_wp2_with fail
        rw [← HW0.out]
        go_wp2
        refine bodyPost_ret (v := .tuple #[.agg #[.int .i64 0, .int .i64 0, .slice none 0 0], .int .i64 0, .int .i64 21]) (by simp [results, Try.results86, go_sem, k0, k1, k2]) rfl (retUp_bad U.out hw0 rfl)
      · have H8 := Lib.hid (show ¬ L.length < 8 by rw [← HXL.out]; exact h8)
        have F1 := Lib.hid (big_any (sl L 6 2) (HB.out.sl 6 2) _ 2 _ B (by omega) W0 (rb_sl (i := 6) (k := 2) hx0 (by omega)).1)
        obtain ⟨v, hv⟩ : ∃ v, v = upL L := ⟨_, rfl⟩
        have F1' : Hid (Calls Try.prog 92 #[.slice (some ⟨b, o + 6, none⟩) 2 (c - 6)] W0 fun e w' => e = .returned (.int .u64 (v : Int)) ∧ W0 = w') := by rw [hv]; exact F1.out
        have HV := Lib.hid hv
        have hv32 : v < 4294967296 := by rw [hv]; exact be_lt4 (HB.out.sl 6 2) (by rw [sl_len (by rw [← HXL.out]; omega)]; omega)
        have hWv : IntKind.i64.wrap (v : Int) = (v : Int) := by rw [IntKind.wrap_i64]; omega
        clear F1 hv
        by_cases hl : 1024 < v
        · have U := Lib.hid (up_bad (upE_long h0.out HM.out H8.out (by rw [← HV.out]; exact hl)) (by omega))
          go_enter Try.func86, Try.ntmps86
          go_wp2_with fail
          rw [← HW0.out]
          go_wp2_with fail
          refine F1'.out.mono ?_
          rintro e w1 ⟨rfl, rfl⟩
          go_wp2
          refine bodyPost_ret (v := .tuple #[.agg #[.int .i64 0, .int .i64 0, .slice none 0 0], .int .i64 0, .int .i64 23]) (by simp [results, Try.results86, go_sem, k0, k1, k2]) rfl (retUp_bad U.out (set3_below hw0 (Nat.le_refl _)) rfl)
        · have HL := Lib.hid (show ¬ 1024 < upL L by rw [← HV.out]; exact hl)
          by_cases hcut : n < 8 + v + 4
          · have U := Lib.hid (up_bad (upE_cut h0.out HM.out H8.out HL.out (by rw [← HV.out, ← HXL.out]; exact hcut)) (by omega))
            go_enter Try.func86, Try.ntmps86
            go_wp2_with fail
            rw [← HW0.out]
            go_wp2_with fail
            refine F1'.out.mono ?_
            rintro e w1 ⟨rfl, rfl⟩
            go_wp2
            refine bodyPost_ret (v := .tuple #[.agg #[.int .i64 0, .int .i64 0, .slice none 0 0], .int .i64 0, .int .i64 21]) (by simp [results, Try.results86, go_sem, k0, k1, k2]) rfl (retUp_bad U.out (set3_below hw0 (Nat.le_refl _)) rfl)
          · have HC := Lib.hid (show ¬ L.length < 8 + upL L + 4 by rw [← HV.out, ← HXL.out]; exact hcut)
            obtain ⟨s1, hs1⟩ : ∃ s, s = crc (L.take (8 + upL L)) := ⟨_, rfl⟩
            obtain ⟨s2, hs2⟩ : ∃ s, s = be (sl L (8 + upL L) 4) := ⟨_, rfl⟩
            have F2 : Hid (Calls Try.prog 85 #[.slice (some ⟨b, o, none⟩) (8 + v) c] W0.drew fun e w' => e = .returned (.int .u32 (s1 : Int)) ∧ W0.drew = w') := by
              rw [hs1, ← HV.out]
              exact refChecksum_any (L.take (8 + v)) (HB.out.take _) _ (8 + v) _ B W0.drew (rb_take hx0 (by omega) ⟨_, rfl⟩).1
            have F3 : Hid (Calls Try.prog 92 #[.slice (some ⟨b, o + (8 + v), none⟩) 4 (c - (8 + v))] W0.drew fun e w' => e = .returned (.int .u64 (s2 : Int)) ∧ W0.drew = w') := by
              rw [hs2, ← HV.out]
              exact big_any (sl L (8 + v) 4) (HB.out.sl _ _) _ 4 _ B (by omega) W0.drew (rb_sl (i := 8 + v) (k := 4) hx0 (by omega)).1
            have HS := Lib.hid (And.intro hs1 hs2)
            have hs1b : s1 < 4294967296 := by rw [hs1]; exact crc_lt _
            clear hs1 hs2
            have hWs : IntKind.u64.wrap (s1 : Int) = (s1 : Int) := by rw [IntKind.wrap_u64]; omega
            obtain ⟨m, hm8⟩ : ∃ m : Nat, 8 + v = m := ⟨_, rfl⟩
            obtain ⟨m4, hm4⟩ : ∃ m4 : Nat, m + 4 = m4 := ⟨_, rfl⟩
            rw [hm8] at F2 F3
            have e8 : (8 : Int) + (v : Int) = (m : Int) := by omega
            have e4 : (m : Int) + 4 = (m4 : Int) := by omega
            have hmn : m4 ≤ n := by omega
            have hWm : IntKind.i64.wrap (m : Int) = (m : Int) := by rw [IntKind.wrap_i64]; omega
            have hW4 : IntKind.i64.wrap (m4 : Int) = (m4 : Int) := by rw [IntKind.wrap_i64]; omega
            have hmax : max (m4 : Int) 0 = (m4 : Int) := by omega
            have hmaxm : max (m : Int) 0 = (m : Int) := by omega
            have hcm : ¬ c = m := by omega
            have hsub : m4 - m = 4 := by omega
            have i1 : (0 : Int) ≤ (m : Int) := by omega
            have i2 : (m : Int) ≤ (c : Int) := by omega
            have i3 : (0 : Int) ≤ (m4 : Int) := by omega
            have i4 : (m4 : Int) ≤ (c : Int) := by omega
            have i5 : (m : Int) ≤ (m4 : Int) := by omega
            have i6 : ¬ (n : Int) < (m4 : Int) := by omega
            have HMM := Lib.hid (And.intro hm8 hm4)
            clear hm8 hm4
            go_enter Try.func86, Try.ntmps86
            go_wp2_with fail
            rw [← HW0.out]
            go_wp2_with fail
            refine F1'.out.mono ?_
            rintro e w1 ⟨rfl, rfl⟩
            go_wp2_with fail
            refine wp_region_still_lit (by kernel_rfl) (by kernel_rfl) ?_
            repeat still_step
            still_call (stq F2.out)
            repeat still_step
            still_call (stq F3.out)
            repeat still_step
            refine wpStill_nil ?_
            change Exit.then _ _ _ _ W0.drew
            have hd : Below W0.heap.size W0 W0.drew := below_drewZ (Below.refl _ _)
            have hxd : RB W0.drew B (.slice (some ⟨b, o, none⟩) n c) L := ⟨hx0.1.drew, hx0.2⟩
            have hcd1 : W0.drew.cell? ⟨b, o + 1, none⟩ = some (.int .u8 (nth L 1 : Nat)) := hc1 (by omega)
            have hd0 := belW hw0 hd
            obtain ⟨W1, hW1⟩ : ∃ W1, W1 = W0.drew := ⟨_, rfl⟩
            rw [← hW1] at hd hxd hcd1 hd0
            rw [← hW1]
            have HW1 := Lib.hid (And.intro hd (And.intro hxd hd0))
            clear hW1 k0 k1 k2 kf hc0 hc0w hc1 hd hxd hd0 F2 F3
            obtain ⟨k0, k1, k2, kf⟩ := fr_blk HG.out HW1.out.1
            by_cases hsum : s1 = s2
            · subst hsum
              have G := Lib.hid (up_good (upE_ok h0.out HM.out H8.out HL.out HC.out (by rw [← HS.out.1, ← HS.out.2]; omega)))
              have heq : ((s1 : Int) != (s1 : Int)) = false := by simp
              obtain ⟨q, hq⟩ : ∃ q, q = be (sl L 2 4) := ⟨_, rfl⟩
              obtain ⟨st, hst⟩ : ∃ st, st = nth L 1 := ⟨_, rfl⟩
              rw [← hst] at hcd1
              have hq32 : q < 4294967296 := by rw [hq]; exact be_lt4 (HB.out.sl 2 4) (by rw [sl_len (by rw [← HXL.out]; omega)]; omega)
              have hWq : IntKind.i64.wrap (q : Int) = (q : Int) := by rw [IntKind.wrap_i64]; omega
              have hst256 : st < 256 := by rw [hst]; exact HB.out.nth 1
              have hWst : IntKind.i64.wrap (st : Int) = (st : Int) := by rw [IntKind.wrap_i64]; omega
              have hbne : (⟨b, o + 1, none⟩ : Addr).block ≠ w.heap.size := by show b ≠ _; omega
              have HQ := Lib.hid (And.intro hq hst)
              clear hq hst
              have j1 : (1 : Int) < (n : Int) := by omega
              have j2 : (6 : Int) ≤ (c : Int) := by omega
              have j3 : (8 : Int) ≤ (m : Int) := by omega
              have j4 : ¬ c = 2 := by omega
              have j5 : ¬ c = 8 := by omega
              have j6 : m - 8 = v := by omega
              have hxd := HW1.out.2.1
              have hBW : B ≤ W1.heap.size := Nat.le_trans (Nat.le_trans hB hw0.size) HW1.out.1.size
              have hv64 : (sl L 8 v).length ≤ 1048576 := by rw [sl_len (by rw [← HXL.out]; omega)]; omega
              have R1 := rb_sl (i := 2) (k := 4) hxd (by omega)
              have R2 := rb_sl (i := 8) (k := v) hxd (by omega)
              have HRR := Lib.hid (And.intro R1 (And.intro R2 (And.intro hBW hv64)))
              clear R1 R2 hBW hv64 hxd
              go_wp2
              go_region_held3 (fun w' => w'.cell? ⟨b, o + 1, none⟩ = some (.int .u8 (st : Nat))) (first | exact hcd1 | exact hcd2 | exact (set3_cell _ _ _ _ _ _ hbne).trans hcd2 | go_keep)
                (first
                  | (go_at_call 92
                     refine (big_any (sl L 2 4) (HB.out.sl 2 4) _ 4 _ B (by omega) _ (by first | exact HRR.out.1.1 | exact HRR.out.1.1.alloc HRR.out.2.2.1 _)).mono ?_
                     rintro e w2 ⟨rfl, rfl⟩
                     rw [← HQ.out.1])
                  | (go_at_call 59
                     refine (joined_oneD _ (sl L 8 v) B _ (by exact ⟨HRR.out.2.1.1, HRR.out.2.1.2⟩) (by exact HRR.out.2.2.1) (by have := HRR.out.2.2.2; omega)).mono ?_
                     rintro e w2 ⟨v2, rfl, o2, hb2⟩
                     obtain ⟨_, r2⟩ := rb_of_owns o2
                     obtain ⟨A2, c2, rfl⟩ := r2.form
                     have O2 := Lib.hid o2
                     clear o2
                     have hbu : Below W1.heap.size W1 w2 := by first | exact hb2 | exact below_un hb2
                     have f2 : Below W0.heap.size W0 w2 := belW HW1.out.1 hbu
                     obtain ⟨k0, k1, k2, kf⟩ := fr_blk HG.out f2
                     have tk := hbu.size
                     have hcd2 : w2.cell? ⟨b, o + 1, none⟩ = some (.int .u8 (st : Nat)) := (hb2.cell (p := ⟨b, o + 1, none⟩) (by exact Nat.lt_of_lt_of_le hbB HRR.out.2.2.1)).trans hcd1))
              all_goals go_wp2
              all_goals refine bodyPost_ret (v := .tuple #[.agg #[.int .i64 (st : Nat), .int .i64 (q : Nat), .slice A2 (sl L 8 v).length c2], .int .i64 (m4 : Nat), .int .i64 0]) (by simp [results, Try.results86, go_sem, k0, k1, k2]) rfl (retUp_good G.out HV.out (by have := HMM.out; omega) HQ.out.2 HQ.out.1 (owns_set3 O2.out (Nat.lt_of_lt_of_le z0 HW1.out.1.size) _ _ _) (set3_below (belW HW1.out.2.2 hbu) (Nat.le_refl _)) (Nat.le_trans hw0.size HW1.out.1.size))
            · have U := Lib.hid (up_bad (upE_sum h0.out HM.out H8.out HL.out HC.out (by rw [← HS.out.1, ← HS.out.2]; exact hsum)) (by omega))
              have hne : ((s1 : Int) != (s2 : Int)) = true := by rw [bne_iff_ne]; omega
              go_wp2
              refine bodyPost_ret (v := .tuple #[.agg #[.int .i64 0, .int .i64 0, .slice none 0 0], .int .i64 0, .int .i64 24]) (by simp [results, Try.results86, go_sem, k0, k1, k2]) rfl (retUp_bad U.out (set3_below HW1.out.2.2 (Nat.le_refl _)) rfl)

theorem refUnpack_any (L : List Nat) (hb : AllB L) (A : Option Addr) (n c B : Nat) (w : World) (hx : RB w B (.slice A n c) L) (hB : B ≤ w.heap.size) :
    Calls Try.prog 86 #[.slice A n c] w (RetUpL w L) :=
  (refUnpack_strong L hb A n c B w hx hB).mono fun _ _ h => h.weak
end Go.Proofs.Ytkakbeiehggkiaa
