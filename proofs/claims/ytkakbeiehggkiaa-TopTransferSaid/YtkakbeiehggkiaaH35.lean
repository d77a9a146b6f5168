/-
  keep and Take of the document once more, with where the list of what is held lies behind them. Made by gen_kpx.py.
-/
import Derived.Test.YtkakbeiehggkiaaH10
import Derived.Test.YtkakbeiehggkiaaH12
namespace Go.Proofs.Ytkakbeiehggkiaa
open Go.RowKit Go.Maps
attribute [local go_sem ↓] Go.wp_at_zero Go.wp_at_succ

def KpxR (w : World) (g base : Nat) (st win nx : Int) (F : Hf) (ov : Value) (wr : World) : Prop :=
  ∃ (j : Nat) (Ds : List Dl), Hid (∀ i : Nat, i < j → F (nx + i) ≠ none) ∧ (j : Int) ≤ win ∧ Hid (DsF Ds (cutF F (nx + j))) ∧ Ds.length ≤ 1024 ∧ Hid (Rrc wr g base st win (nx + j) Ds) ∧ Hid (DlS wr w.heap.size ov (dsOf F nx j)) ∧
    Hid (∀ k, ov.ownBlock = some k → ¬ lB wr g k) ∧ Only (fun k => k = g ∨ lB w g k) w wr ∧ Hid (∀ k, lB wr g k → lB w g k ∨ w.heap.size ≤ k)
def RetKpx (w : World) (g base : Nat) (st win nx : Int) (F : Hf) (e : Ending) (w' : World) : Prop :=
  ∃ (v : Value) (m : Nat) (Ds : List Dl), e = .returned (.tuple #[v, .int .i64 0]) ∧ (∀ i : Nat, i < m → F (nx + i) ≠ none) ∧ F (nx + m) = none ∧ (m : Int) ≤ win ∧ DsF Ds (cutF F (nx + m)) ∧ Ds.length ≤ 1024 ∧ Rrc w' g base st win (nx + m) Ds ∧
    DlS w' w.heap.size v (dsOf F nx m) ∧ Only (fun k => k = g ∨ lB w g k) w w' ∧ (∀ k, lB w' g k → lB w g k ∨ w.heap.size ≤ k)

set_option maxRecDepth 100000 in
set_option maxHeartbeats 4000000 in
theorem keepx_ok (g base : Nat) (st win nx sq : Int) (F : Hf) (Ds : List Dl) (X : List Nat) (l : Bool) (A : Option Addr) (n c : Nat) (w : World) (h : Rrc w g base st win nx Ds) (hD : DsF Ds F) (hF : InW F nx win) (hl : Ds.length ≤ 1000) (hnx : 0 ≤ nx ∧ nx ≤ 4294967296) (hw : 1 ≤ win ∧ win ≤ 64)
    (hsq : 0 ≤ sq ∧ sq ≤ 4294967295) (h1 : nx ≤ sq) (h2 : F sq = none) (h3 : sq < nx + win) (hX : Bd w (.slice A n c) X) (hbase : base ≤ w.heap.size) :
    Calls Try.prog 58 #[.pointer (some ⟨g, 0, none⟩), .agg #[.int .i64 sq, .slice A n c, .bool l]] w (RetKpx w g base st win nx (putH F sq X l)) := by
  obtain ⟨W0, HW0, hw0, HG, z0⟩ := D0ex w sq (.slice A n c) l
  obtain ⟨i0, hi0, hz0, hz1, hz2⟩ := info_parts infoD
  have hR0 := rrc_below h hw0
  have hglw : g < w.heap.size := by obtain ⟨_, _, _, _, _, _, _, _, h, _⟩ := rrc_cells h; exact h
  have HR := Lib.hid (has_any g base st win nx sq Ds W0.drew (rrc_below hR0 (Below.refl _ _).drew) (by omega))
  have hex : ¬ ∃ d ∈ Ds, d.1 = sq := fun he => ((held_iff hD sq).1 he) h2
  obtain ⟨hv, hRc, vs, v1, v2, v3⟩ := hR0
  obtain ⟨SA, Sc, e9, _, _⟩ := dls_cells (w := W0) ⟨vs, v1, v2, v3⟩
  have c1 := cell_of_row _ g 1 _ _ _ hRc
  have c2 := cell_of_row _ g 2 _ _ _ hRc
  have C3 := Lib.hid (show W0.cell? ⟨g, 3, none⟩ = some hv from cell_of_row _ g 3 _ _ _ hRc)
  have f3 : W0.frozen? ⟨g, 3, none⟩ = false := by simp [World.frozen?, hRc]
  have hgl : g < W0.heap.size := Nat.lt_of_lt_of_le hglw hw0.size
  obtain ⟨k0, k1, k2, kf⟩ := fr_blk HG.out (Below.refl _ _)
  have HH := Lib.hid (And.intro hRc (And.intro v1 (And.intro v2 (And.intro v3 (And.intro hD (And.intro hF (And.intro h2 (And.intro (hX.below hw0) hw0))))))))
  have hgb : g ≠ w.heap.size := by omega
  have HWC := Lib.hid ((hw0.cell (p := ⟨g, 3, none⟩) hglw).symm.trans C3.out)
  have d1 : decide (sq < nx) = false := by simp; omega
  have d3 : decide (win ≤ sq - nx) = false := by simp; omega
  clear h hRc v1 v2 v3 e9 kf hD hF h2 hX
  go_enter Try.func58, Try.ntmps58
  go_wp2_with fail
  rw [← HW0.out]
  go_region
  go_wp2_with fail
  refine HR.out.mono ?_
  rintro e w3 ⟨rfl, ⟨rfl, hno⟩ | ⟨i, hi, rfl, hyes, _⟩⟩
  case inr => exact absurd ⟨_, List.getElem_mem hi, hyes⟩ hex
  clear hno hex
  go_wp2_with fail
  go_region
  go_wp2_with fail
  have HO := Lib.hid (fun (w' : World) (hb : Below W0.heap.size W0 w') => ((only_below (S := fun _ => False) hb).own HH.out.2.2.1 (fun _ _ h => h)))
  have KK := Lib.hid (fun (w' : World) (hb : Below W0.heap.size W0 w') => (⟨(hb.cell (p := ⟨g, 3, none⟩) hgl).trans C3.out, (hb.frozen (p := ⟨g, 3, none⟩) hgl).trans f3⟩ : w'.cell? ⟨g, 3, none⟩ = some hv ∧ w'.frozen? ⟨g, 3, none⟩ = false))
  have hnbk : some g ≠ hv.ownBlock := fun hb => dls_notc ⟨vs, HH.out.2.1, HH.out.2.2.1, HH.out.2.2.2.1⟩ HH.out.1 g hb.symm rfl
  obtain ⟨k1c, k1f⟩ := KK.out W0.drew.drew.drew (Below.refl _ _).drew.drew.drew
  have k1a : ∀ o, (W0.alloc o).drew.drew.drew.cell? ⟨g, 3, none⟩ = some hv := fun o => (KK.out _ ((Below.refl _ _).drew.drew.drew.alloc (Nat.le_refl _) o)).1
  go_region_law
    (first
      | (refine step_append_lies _ (by rfl) _ _ _ (by rfl) base 85 i0 _ 3 40 Try.underlying38 hi0 hz0 hz1 hz2 rfl (by omega) hv Ds.length (dlC Ds vs) (by rfl) (HO.out _ ((Below.refl _ _).drew.drew.drew.alloc (Nat.le_refl _) _)) ⟨W0.heap.size, 0, none⟩ 1 1 [.int .i64 sq, .slice A n c, .bool l] (by rfl) (by rfl) (World.news_of_block (cs := #[.int .i64 sq, .slice A n c, .bool l]) (t := 85) (fr := (0, 0)) (heap_alloc_new W0 _)) (by simp [Value.oneCell']) (by omega) (by unfold maxLen; omega) (by omega) (by have := HH.out.2.2.2.2.2.2.2.2.size; simp; omega) (W0.heap.size + 1) (by simp) ?_
         intro gg cap w5 hown5 hgrow hat hlt5
         have k5c : w5.cell? ⟨g, 3, none⟩ = some hv := (hgrow.cell_far ⟨g, 3, none⟩ (by simp; omega) hnbk).trans (KK.out _ ((Below.refl _ _).drew.drew.drew.alloc (Nat.le_refl _) _)).1
         have k5f : w5.frozen? ⟨g, 3, none⟩ = false := (hgrow.frozen_far ⟨g, 3, none⟩ (by simp; omega) hnbk).trans (KK.out _ ((Below.refl _ _).drew.drew.drew.alloc (Nat.le_refl _) _)).2
         have HP := Lib.hid (And.intro hown5 (And.intro hgrow (And.intro hat hlt5)))
         clear hown5 hgrow hat hlt5))
  all_goals
    have hF0 : ∀ k, cutF (putH F sq X l) (nx + ((0 : Nat) : Int)) k = putH F sq X l k := fun k => by
      rw [show nx + ((0 : Nat) : Int) = nx by simp]
      refine cutF_zero (fun k hk => ?_) k
      show (if k = sq then some (X, l) else F k) = none
      rw [if_neg (by omega)]
      cases e : F k with
      | none => rfl
      | some y => have := (HH.out.2.2.2.2.2.1 k y e).1; omega
    have hP := rrc_put (X := X) (l := l) HH.out.1 HH.out.2.1 HH.out.2.2.1 HH.out.2.2.2.1 HH.out.2.2.2.2.2.2.2.1 HP.out.1 HP.out.2.1 ((Below.refl _ _).drew.drew.drew.alloc (Nat.le_refl _) _)
    have hLX0 : ∀ q, lB (w5.setCell ⟨g, 3, none⟩ (.slice (some ⟨gg, 0, none⟩) (Ds.length + 1) cap)) g q → lB w g q ∨ w.heap.size ≤ q := by
      rintro q ⟨hv', hc', ho'⟩
      obtain ⟨r0, rR, _⟩ := hP.1
      have e3 := cell_of_row _ g 3 _ _ _ rR
      have hcs : (w5.setCell ⟨g, 3, none⟩ (.slice (some ⟨gg, 0, none⟩) (Ds.length + 1) cap)).cell? ⟨g, 3, none⟩ = some (.slice (some ⟨gg, 0, none⟩) (Ds.length + 1) cap) := World.cell?_setCell_same' _ _ _ (by rw [k5c]; rfl)
      rw [hcs] at hc'
      injection hc' with hc'
      subst hc'
      simp [Value.ownBlock] at ho'
      subst ho'
      rcases HP.out.2.2.1 with e | e
      · exact .inl ⟨hv, HWC.out, e⟩
      · right
        have h1 := hw0.size
        have h2 : W0.heap.size ≤ gg := by rw [e]; simp
        omega
    have HS0 := Lib.hid (show KpxR w g base st win nx (putH F sq X l) (.slice none 0 0) (w5.setCell ⟨g, 3, none⟩ (.slice (some ⟨gg, 0, none⟩) (Ds.length + 1) cap)) from
      ⟨0, Ds ++ [(sq, X, l)], fun i hi => by omega, by omega, by rw [show cutF (putH F sq X l) (nx + ((0 : Nat) : Int)) = putH F sq X l from funext hF0]; exact dsF_put HH.out.2.2.2.2.1 HH.out.2.2.2.2.2.2.1, by simp; omega, Lib.hid (by simpa using hP.1), dls_nil _ _, fun k hk => by simp [Value.ownBlock] at hk,
        (only_below HH.out.2.2.2.2.2.2.2.2).trans (hP.2.mono (fun k _ e => e.elim Or.inl (fun e => .inr ⟨hv, HWC.out, e⟩))), Lib.hid hLX0⟩)
    have HIN := Lib.hid (show InW (putH F sq X l) nx win from fun k y hk => by
      by_cases e : k = sq
      · omega
      · exact HH.out.2.2.2.2.2.1 k y (by have e2 : (if k = sq then some (X, l) else F k) = some y := hk; rwa [if_neg e] at e2))
    clear hF0 hP
    obtain ⟨F', hF'⟩ : ∃ F', F' = putH F sq X l := ⟨_, rfl⟩
    rw [← hF'] at HS0 HIN
    have HFP := Lib.hid hF'
    obtain ⟨w6, hw6⟩ : ∃ w6, w6 = w5.setCell ⟨g, 3, none⟩ (.slice (some ⟨gg, 0, none⟩) (Ds.length + 1) cap) := ⟨_, rfl⟩
    rw [← hw6] at HS0 ⊢
    clear hF' hw6 k5c k5f
    go_wp2
    go_loopw [6] (fun ov wr => KpxR w g base st win nx F' ov wr) (fun _ wr => (nx + win + 1 - intOf1 ((wr.cell? ⟨g, 2, none⟩).getD (.bool false))).toNat)
    case atStart => exact HS0.out
    case round =>
      obtain ⟨j, Dr, HJ, hjw, HD, hDl, HRr, HL, HNB, HO6, HLX⟩ := hrel
      obtain ⟨x, hx⟩ : ∃ x, x = nx + (j : Int) := ⟨_, rfl⟩
      rw [← hx] at HD HRr
      have HX := Lib.hid hx
      obtain ⟨RA, rc, b0, b1, b2, b3, bcap, bf, bgl, bel⟩ := rrc_cells HRr.out
      have HA := Lib.hid (has_any g base st win x x Dr wr HRr.out (by omega))
      have hex := held_iff HD.out x
      have hcx : cutF F' x x = F' x := by unfold cutF; rw [if_neg (by omega)]
      have HOO := Lib.hid HO6
      have HBE := Lib.hid bel
      clear hx bf bel HO6 c1 c2 k0 k1 k2 k1c k1f k1a HS0
      go_wp2_with fail
      refine HA.out.mono ?_
      rintro e w7 ⟨rfl, ⟨rfl, hno⟩ | ⟨i, hi, rfl, hyes, _⟩⟩
      · have HF0 := Lib.hid (show F' x = none from by
          by_cases e : F' x = none
          · exact e
          · obtain ⟨d, hd, e2⟩ := hex.2 (by rw [hcx]; exact e)
            obtain ⟨q, hq, rfl⟩ := List.mem_iff_getElem.1 hd
            exact absurd e2 (hno q hq))
        clear hno hex hcx
        go_wp2
        go_ret2
        show RetKpx w g base st win nx (putH F sq X l) _ _
        rw [← HFP.out]
        exact ⟨_, j, Dr, rfl, HJ.out, by rw [← HX.out]; exact HF0.out, hjw, by rw [← HX.out]; exact HD.out, hDl, by rw [← HX.out]; exact HRr.out, HL.out, HOO.out, HLX.out⟩
      · have hi1 : (0 : Int) ≤ (i : Int) := by omega
        go_wp2_with fail
        refine HA.out.mono ?_
        rintro e w8 ⟨rfl, ⟨rfl, hno⟩ | ⟨i2, hi2, rfl, hyes2, _⟩⟩
        · exact absurd hyes (hno i hi)
        have HC8 := Lib.hid b2
        clear hyes hi1 hex b3
        obtain ⟨gb, ecap, A1, n1, cc1, b3, hgbs, hgbb, hgbt, p0, p1, p2, hB1⟩ := rrc_elem HRr.out i2 hi2
        rw [hyes2] at p0
        obtain ⟨X1, hX1⟩ : ∃ X1, X1 = (Dr[i2]'hi2).2.1 := ⟨_, rfl⟩
        obtain ⟨l1, hl1⟩ : ∃ l1, l1 = (Dr[i2]'hi2).2.2 := ⟨_, rfl⟩
        rw [← hX1] at hB1
        rw [← hl1] at p2
        have HE := Lib.hid (And.intro hX1 (And.intro hl1 (And.intro hyes2 hB1)))
        obtain ⟨nr, hnr⟩ : ∃ nr, nr = Dr.length := ⟨_, rfl⟩
        rw [← hnr] at b3 hDl
        have HNR := Lib.hid hnr
        have i3 : (0 : Int) ≤ (i2 : Int) := by omega
        have i4 : (i2 : Int) < (nr : Int) := by omega
        have hj64 : j ≤ 64 := by omega
        have hs8 := HOO.out.size
        clear hX1 hl1 hyes2 hB1 hcx hnr
        go_wp2_with (at_builtin
                     go_must (refine wpList_append_dl rfl (.tmp 57) (.tmp 65) rfl w.heap.size _ _ rfl HL.out x A1 n1 cc1 l1 X1 (by simp [Act.eval]) HE.out.2.2.2 (by rw [dsOf_len]; omega) hs8 ?_))
        intro v9 w9 hD9 hO9 hB9
        have hFx : F' x = some (X1, l1) := by
          have e := HD.out.get _ (List.getElem_mem hi2)
          rw [HE.out.2.2.1] at e
          have e2 : cutF F' x x = F' x := by unfold cutF; rw [if_neg (by omega)]
          rw [e2] at e
          rw [e, HE.out.1, HE.out.2.1]
        have hxw := HIN.out x _ hFx
        have hN9 : NoB w8 (fun k => u6.ownBlock = some k) := by
          obtain ⟨us, u1, u2, _⟩ := HL.out
          exact nob_row u2 types_apart2
        have hg9 : ¬ u6.ownBlock = some g := by
          obtain ⟨q, qR, _⟩ := HRr.out
          exact fun e => dls_notc HL.out qR g e rfl
        have HR9 := Lib.hid (rrc_only2 HRr.out hO9 hN9 hg9 (fun k hk e => HNB.out k e hk))
        have HD9 := Lib.hid hD9
        have HO9 := Lib.hid (show Only (fun k => (k = g ∨ lB w g k) ∨ w.heap.size ≤ k) w w9 from (HOO.out.mono (fun _ _ e => .inl e)).trans (hO9.mono (fun k _ e => .inr (by obtain ⟨us, u1, u2, _⟩ := HL.out; exact (own_block u2 e).1))))
        have HFX := Lib.hid hFx
        have hs9 := hO9.size
        have h0i := Lib.hid (show InR w9 nr i2 Dr (.slice none 0 0) (.int .i64 0) w9 from ⟨0, rfl, Nat.zero_le _, dls_nil _ _, Below.refl _ _⟩)
        obtain ⟨SA, sc, s0, s1, s2, s3, scap, sf, sgl, sel⟩ := rrc_cells HR9.out
        rw [← HNR.out] at s3
        clear hFx hN9 hg9 hD9 hO9 sf sel hB9 b0 b1 b2 b3 p0 p1 p2 bgl
        go_wp2
        go_loopw [8, 72] (fun lv iv wv => InR w9 nr i2 Dr lv iv wv) (fun _ iv _ => nr - (intOf1 iv).toNat)
        case atStart => exact h0i.out
        case round =>
          obtain ⟨k, rfl, hk, HLI, hbi⟩ := hrel
          have HRI := Lib.hid (rrc_below HR9.out hbi)
          have HBI := Lib.hid hbi
          by_cases hkn : k < nr
          · have j1 : (0 : Int) ≤ (k : Int) := by omega
            have j2 : (k : Int) < (nr : Int) := by omega
            by_cases hki : k = i2
            · have HL5 := Lib.hid (show DlS wr w9.heap.size u8 (lfD Dr i2 (k + 1)) from by
                have e : lfD Dr i2 (k + 1) = lfD Dr i2 k := by simp only [lfD]; rw [if_pos hki]; simp
                rw [e]
                exact HLI.out)
              subst hki
              clear hbi
              go_wp2
              go_roundw
              case rel => exact ⟨k + 1, by go_num, by omega, HL5, HBI.out⟩
              case measure => simp [intOf1]; omega
            · have dn : ((k : Int) != (i2 : Int)) = true := by simp; omega
              obtain ⟨gb2, ecap2, A2, n2, cc2, q3, hgbs2, _, _, q0, q1, q2, hB2⟩ := rrc_elem HRI.out k (by rw [← HNR.out]; exact hkn)
              obtain ⟨y, hy⟩ : ∃ y, y = Dr[k]'(by rw [← HNR.out]; exact hkn) := ⟨_, rfl⟩
              rw [← hy] at q0 q2 hB2
              obtain ⟨ys, yX, yl⟩ := y
              simp only at q0 q2 hB2
              have HY := Lib.hid (And.intro hB2 (show lfD Dr i2 (k + 1) = lfD Dr i2 k ++ [(ys, yX, yl)] from by
                simp only [lfD]
                rw [if_neg hki, getD_dl (by rw [← HNR.out]; exact hkn), ← hy]))
              rw [← HNR.out] at q3
              have hln := lfD_len Dr i2 k
              have hsi := hbi.size
              clear hbi hy hB2
              go_wp2_with (at_builtin
                           go_must (refine wpList_append_dl rfl (.tmp 78) (.tmp 86) rfl w9.heap.size _ _ rfl HLI.out ys A2 n2 cc2 yl yX (by simp [Act.eval]) HY.out.1 (by omega) hsi ?_))
              intro v10 w10 hD10 hO10 _
              rw [← HY.out.2] at hD10
              have HD10 := Lib.hid hD10
              have HB10 := Lib.hid (dls_app_below HLI.out hO10 HBI.out hsi)
              clear hD10 hO10 hln
              go_wp2
              go_roundw
              case rel => exact ⟨k + 1, by go_num, by omega, HD10, HB10.out⟩
              case measure => simp [intOf1]; omega
          · obtain rfl : k = nr := by omega
            obtain ⟨LA, lc, e, _, _⟩ := dls_cells HLI.out
            subst e
            obtain ⟨RA2, rc2, b0, b1, b2, b3, bcap2, bf, bgl, _⟩ := rrc_cells HRI.out
            have bf3 := bf 3
            have bf2 := bf 2
            clear bf hbi
            have HQ := Lib.hid (show Rrc ((wr.setCell ⟨g, 3, none⟩ (.slice LA (lfD Dr i2 k).length lc)).setCell ⟨g, 2, none⟩ (.int .i64 (x + 1))) g base st win (x + 1) (lfD Dr i2 k) ∧ Only (fun q => q = g) wr ((wr.setCell ⟨g, 3, none⟩ (.slice LA (lfD Dr i2 k).length lc)).setCell ⟨g, 2, none⟩ (.int .i64 (x + 1))) from by
              obtain ⟨q, qR, _⟩ := HRI.out
              obtain ⟨r1, r2⟩ := rrc_set (base := base) qR (dls_base HLI.out (by omega))
              obtain ⟨r3, r4⟩ := rrc_next (nx' := x + 1) r1
              exact ⟨r3, r2.trans r4⟩)
            have HQ3 := Lib.hid (show ((wr.setCell ⟨g, 3, none⟩ (.slice LA (lfD Dr i2 k).length lc)).setCell ⟨g, 2, none⟩ (.int .i64 (x + 1))).cell? ⟨g, 3, none⟩ = some (.slice LA (lfD Dr i2 k).length lc) from by
              obtain ⟨q, qR, _⟩ := HRI.out
              have e1 : (wr.setCell ⟨g, 3, none⟩ (.slice LA (lfD Dr i2 k).length lc)).heap[g]? = some (.cells #[.int .i64 st, .int .i64 win, .int .i64 x, .slice LA (lfD Dr i2 k).length lc] 91 (0, 0)) := by rw [heap_setCell_same wr g 3 _ _ _ qR]; rfl
              have e2 : ((wr.setCell ⟨g, 3, none⟩ (.slice LA (lfD Dr i2 k).length lc)).setCell ⟨g, 2, none⟩ (.int .i64 (x + 1))).heap[g]? = some (.cells #[.int .i64 st, .int .i64 win, .int .i64 (x + 1), .slice LA (lfD Dr i2 k).length lc] 91 (0, 0)) := by rw [heap_setCell_same _ g 2 _ _ _ e1]; rfl
              exact cell_of_row _ _ _ _ _ _ e2)
            go_wp2
            go_roundw
            case rel =>
              have hj1 : nx + ((j + 1 : Nat) : Int) = x + 1 := by have := HX.out; push_cast; omega
              have hnr := HNR.out
              refine ⟨j + 1, lfD Dr i2 k, Lib.hid (fun i hi => ?_), by have := HX.out; push_cast; omega, Lib.hid ?_, by have := lfD_len Dr i2 k; omega, Lib.hid (by rw [hj1]; exact HQ.out.1), Lib.hid ?_, Lib.hid (fun q hq hl => ?_), ?_, Lib.hid (fun q hq => ?_)⟩
              · by_cases e : i = j
                · subst e
                  rw [← HX.out, HFX.out]
                  simp
                · exact HJ.out i (by omega)
              · rw [hj1, hnr]
                have e := dsF_left HD.out hi2 HE.out.2.2.1
                rwa [show cutF F' (x + 1) = fun q => if q = x then none else cutF F' x q from funext fun q => cutF_step F' x q]
              · rw [dlv_step HX.out HFX.out]
                have e := dls_below HD9.out HBI.out
                obtain ⟨q, qR, _⟩ := HRI.out
                exact dls_only e HQ.out.2 (nob_rc qR) (dls_notc e qR)
              · obtain ⟨hv', hc', ho'⟩ := hl
                rw [HQ3.out] at hc'
                injection hc' with hc'
                subst hc'
                obtain ⟨us, _, u2, _⟩ := HLI.out
                obtain ⟨ts, _, t2, _⟩ := HD9.out
                have := (own_block u2 ho').1
                have := (own_block t2 hq).2.1
                omega
              · exact (HO9.out.trans ((only_below HBI.out).trans (HQ.out.2.mono (fun _ _ e => .inl (.inl e))))).mono (fun q hq e => e.elim id (fun e => by omega))
              · obtain ⟨hv', hc', ho'⟩ := hq
                rw [HQ3.out] at hc'
                injection hc' with hc'
                subst hc'
                obtain ⟨us, _, u2, _⟩ := HLI.out
                have h1 := (own_block u2 ho').1
                have h2 := HO9.out.size
                right
                omega
            case measure =>
              obtain ⟨_, _, _, _, m2, _⟩ := rrc_cells HQ.out.1
              rw [HC8.out, m2]
              simp [intOf1]
              omega
/-- What keep, Take and GiveUp leave. -/
def KpCx (w : World) (g base : Nat) (st win nx : Int) (F : Hf) (ce : Int) (v : Value) (w' : World) : Prop :=
  (ce ≠ 0 ∧ v = .slice none 0 0 ∧ Below w.heap.size w w') ∨ (ce = 0 ∧ ∃ (m : Nat) (Ds : List Dl), (∀ i : Nat, i < m → F (nx + i) ≠ none) ∧ F (nx + m) = none ∧ (m : Int) ≤ win ∧ DsF Ds (cutF F (nx + m)) ∧ Ds.length ≤ 1024 ∧ Rrc w' g base st win (nx + m) Ds ∧
    DlS w' w.heap.size v (dsOf F nx m) ∧ Only (fun k => k = g ∨ lB w g k) w w' ∧ (∀ k, lB w' g k → lB w g k ∨ w.heap.size ≤ k))
def RetKpCx (w : World) (g base : Nat) (st win nx : Int) (F : Hf) (ce : Int) (e : Ending) (w' : World) : Prop :=
  ∃ v, e = .returned (.tuple #[v, .int .i64 ce]) ∧ KpCx w g base st win nx F ce v w'

theorem kpCx_only {w w' : World} {g base : Nat} {st win nx : Int} {F : Hf} {ce : Int} {v : Value} (h : KpCx w g base st win nx F ce v w') : Only (fun k => k = g ∨ lB w g k) w w' := by
  rcases h with ⟨_, _, h⟩ | ⟨_, _, _, _, _, _, _, _, _, _, h, _⟩
  · exact only_below h
  · exact h
theorem kpCx_from {w w1 : World} {g base : Nat} {st win nx : Int} {F : Hf} {ce : Int} {v : Value} {w' : World} (hb : Below w.heap.size w w1) (hg : g < w.heap.size) (h : KpCx w1 g base st win nx F ce v w') : KpCx w g base st win nx F ce v w' := by
  rcases h with ⟨h0, h1, h2⟩ | ⟨h0, m, Ds, h1, h2, h3, h4, h5, h6, h7, h8, h9⟩
  · exact .inl ⟨h0, h1, hb.trans (h2.mono hb.size)⟩
  · exact .inr ⟨h0, m, Ds, h1, h2, h3, h4, h5, h6, dls_base h7 hb.size, (only_below hb).trans (h8.mono (fun k hk e => e.elim Or.inl (fun e => .inr ((lB_below hb hg).1 e)))), fun k hk => (h9 k hk).elim (fun e => .inl ((lB_below hb hg).1 e)) (fun e => .inr (Nat.le_trans hb.size e))⟩

theorem keepx_any (g base : Nat) (st win nx sq : Int) (F : Hf) (Ds : List Dl) (X : List Nat) (l : Bool) (A : Option Addr) (n c : Nat) (w : World) (h : Rrc w g base st win nx Ds) (hD : DsF Ds F) (hF : InW F nx win) (hl : Ds.length ≤ 1000) (hnx : 0 ≤ nx ∧ nx ≤ 4294967296) (hw : 1 ≤ win ∧ win ≤ 64)
    (hsq : 0 ≤ sq ∧ sq ≤ 4294967295) (hX : Bd w (.slice A n c) X) (hbase : base ≤ w.heap.size) (ce : Int) (hce : holdE win nx F sq = ce) :
    Calls Try.prog 58 #[.pointer (some ⟨g, 0, none⟩), .agg #[.int .i64 sq, .slice A n c, .bool l]] w (RetKpCx w g base st win nx (putH F sq X l) ce) := by
  by_cases h0 : ce = 0
  · subst h0
    have h1 : nx ≤ sq := by
      apply Int.not_lt.1
      intro h
      simp [holdE, h] at hce
    have h2 : F sq = none := by
      apply Classical.byContradiction
      intro h
      simp [holdE, h, Int.not_lt.2 h1] at hce
    have h3 : sq < nx + win := by
      apply Int.not_le.1
      intro h
      simp [holdE, h, Int.not_lt.2 h1, h2] at hce
    refine (keepx_ok g base st win nx sq F Ds X l A n c w h hD hF hl hnx hw hsq h1 h2 h3 hX hbase).mono ?_
    rintro e w' ⟨v, m, Ds', rfl, q⟩
    exact ⟨v, rfl, .inr ⟨rfl, m, Ds', q⟩⟩
  · refine (keep_err g base st win nx sq F Ds l A n c w h hD (by omega) hnx hw hsq ce hce h0).mono ?_
    rintro e w' ⟨rfl, q⟩
    exact ⟨_, rfl, .inl ⟨h0, rfl, q⟩⟩


set_option maxRecDepth 100000 in
set_option maxHeartbeats 2000000 in
theorem rtakex_any (g base : Nat) (st win nx fst sq : Int) (F : Hf) (Ds : List Dl) (X : List Nat) (A : Option Addr) (n c B : Nat) (w : World) (h : Rrc w g base st win nx Ds) (hD : DsF Ds F) (hF : InW F nx win) (hl : Ds.length ≤ 1000) (hnx : 0 ≤ nx ∧ nx ≤ 4294967296) (hw : 1 ≤ win ∧ win ≤ 64)
    (hx : RB w B (.slice A n c) X) (hB : B ≤ w.heap.size) (hbase : base ≤ w.heap.size) (ce : Int) (hce : takeE st win nx F fst sq n = ce) :
    Calls Try.prog 14 #[.pointer (some ⟨g, 0, none⟩), .agg #[.int .i64 fst, .int .i64 sq, .slice A n c]] w (RetKpCx w g base st win nx (putH F sq X false) ce) := by
  obtain ⟨W0, HW0, hw0, HG, z0⟩ := F0ex w fst sq (.slice A n c)
  obtain ⟨k0, k1, k2, kf⟩ := fr_blk HG.out (Below.refl _ _)
  have hR0 := rrc_below h hw0
  have hglw : g < w.heap.size := by obtain ⟨_, _, _, _, _, _, _, _, h, _⟩ := rrc_cells h; exact h
  have HXL := Lib.hid hx.1.len
  have HX := Lib.hid (And.intro (hx.belowM hw0 hB) (Nat.le_trans hB hw0.size))
  have HR0 := Lib.hid (And.intro hR0 (And.intro hD hF))
  clear hx h hR0 hD hF
  unfold takeE at hce
  by_cases hok : okF fst sq n
  · rw [if_pos hok] at hce
    have HV := Lib.hid (refValidP true fst sq A n c (by rw [if_pos rfl]; exact hok) W0)
    by_cases hs : fst = st
    · subst hs
      rw [if_pos rfl] at hce
      have HC := Lib.hid hce
      have HOK := Lib.hid hok
      clear hce hok
      go_enter Try.func14, Try.ntmps14
      go_wp2_with fail
      rw [← HW0.out]
      refine HV.out.mono ?_
      rintro e w1 ⟨rfl, b1⟩
      have hR1 := rrc_below HR0.out.1 b1
      obtain ⟨RA, rc, c0, c1, c2, c3, hcap, cf, hgl, hel⟩ := rrc_cells hR1
      obtain ⟨k0', k1', k2', kf'⟩ := fr_blk HG.out b1
      have HB1 := Lib.hid b1
      have KK := Lib.hid (fun (w' : World) (hb : Below w1.heap.size w1 w') => (⟨(hb.cell (p := ⟨w.heap.size, 1, none⟩) (Nat.lt_of_lt_of_le z0 b1.size)).trans k1', (hb.cell (p := ⟨w.heap.size, 2, none⟩) (Nat.lt_of_lt_of_le z0 b1.size)).trans k2'⟩ : w'.cell? ⟨w.heap.size, 1, none⟩ = some (.int .i64 sq) ∧ w'.cell? ⟨w.heap.size, 2, none⟩ = some (.slice A n c)))
      have HR1 := Lib.hid hR1
      clear hcap cf hel b1 k0 k1 k2 kf kf' c1 c2 c3 hR1
      go_wp2_with fail
      go_region
      clear c0 k0' k1' k2'
      go_wp2_with fail
      have K1 := Lib.hid (KK.out w1.drew.drew (Below.refl _ _).drew.drew)
      have HX1 := Lib.hid (HX.out.1.belowM HB1.out HX.out.2)
      obtain ⟨k1c, k2c⟩ := K1.out
      go_region_held3 (fun w' => w'.cell? ⟨w.heap.size, 1, none⟩ = some (.int .i64 sq) ∧ w'.cell? ⟨w.heap.size, 2, none⟩ = some (.slice A n c))
        (first | with_reducible exact K5.out | with_reducible exact K3.out | with_reducible exact K1.out | exact KK.out _ ((Below.refl _ _).drew.alloc (Nat.le_refl _) _) | exact KK.out _ ((Below.refl _ _).alloc (Nat.le_refl _) _).drew | exact KK.out _ ((Below.refl _ _).drew.drew.alloc (Nat.le_refl _) _) | exact KK.out _ (Below.refl _ _).drew.drew | go_keep)
        (first
          | (go_at_call 59
             refine (joined_one (.slice A n c) X B _ (by exact ⟨HX1.out.1.drew.drew, HX1.out.2⟩) (by exact Nat.le_trans HX.out.2 HB1.out.size) (by have := HOK.out.2.2.2.2; have := HXL.out; omega)).mono ?_
             rintro e w3 ⟨v3, rfl, o3, b3⟩
             have f3 : Below w1.heap.size w1 w3 := below_un (below_un b3)
             obtain ⟨A3, c3', e3⟩ := (rb_of_owns o3).2.form
             subst e3
             have F3 := Lib.hid f3
             have K3 := Lib.hid (KK.out w3 F3.out)
             have O3 := Lib.hid (bd_owns o3)
             clear o3 b3 f3)
          | (go_at_call 58
             refine (keepx_any g base fst win nx sq F Ds X false A3 _ c3' _ (rrc_below HR1.out F3.out) HR0.out.2.1 HR0.out.2.2 hl hnx hw ⟨HOK.out.2.2.1, HOK.out.2.2.2.1⟩ O3.out (by have := HB1.out.size; have := F3.out.size; have := hw0.size; omega) ce HC.out).mono ?_
             rintro e w5 ⟨v5, rfl, q5⟩
             have hO5 := kpCx_only q5
             have hz3 : w.heap.size < w3.heap.size := Nat.lt_of_lt_of_le z0 (Nat.le_trans HB1.out.size F3.out.size)
             have hG3 := (F3.out.block w.heap.size (Nat.lt_of_lt_of_le z0 HB1.out.size)).trans ((HB1.out.block w.heap.size z0).trans HG.out)
             have hn5 : ¬ (w.heap.size = g ∨ lB w3 g w.heap.size) := fun e => e.elim (fun e => by omega) (lB_not (rrc_below HR1.out F3.out) hG3 (by decide))
             have K5 := Lib.hid (And.intro ((hO5.cell (p := ⟨w.heap.size, 1, none⟩) hz3 hn5).trans K3.out.1) ((hO5.cell (p := ⟨w.heap.size, 2, none⟩) hz3 hn5).trans K3.out.2))
             have Q5 := Lib.hid q5
             clear q5 hO5 hz3 hG3 hn5))
      go_wp2
      go_ret2
      exact ⟨_, rfl, kpCx_from (hw0.trans ((HB1.out.mono hw0.size).trans (F3.out.mono (Nat.le_trans hw0.size HB1.out.size)))) hglw Q5.out⟩
    · rw [if_neg hs] at hce
      subst hce
      have hd : (fst != st) = true := by simpa using hs
      clear hok
      go_enter Try.func14, Try.ntmps14
      go_wp2_with fail
      rw [← HW0.out]
      refine HV.out.mono ?_
      rintro e w1 ⟨rfl, b1⟩
      have hR1 := rrc_below HR0.out.1 b1
      obtain ⟨RA, rc, c0, c1, c2, c3, hcap, cf, hgl, hel⟩ := rrc_cells hR1
      obtain ⟨k0', k1', k2', kf'⟩ := fr_blk HG.out b1
      have HB1 := Lib.hid (hw0.trans (b1.mono hw0.size))
      clear hcap cf hel b1 k0 k1 k2 kf kf' c1 c2 c3 hR1
      go_wp2_with fail
      go_region
      go_wp2
      go_ret2
      exact ⟨_, rfl, .inl ⟨by omega, rfl, HB1.out.drew⟩⟩
  · rw [if_neg hok] at hce
    subst hce
    have HV := Lib.hid (refValidP false fst sq A n c (by simpa using hok) W0)
    clear hok
    go_enter Try.func14, Try.ntmps14
    go_wp2_with fail
    rw [← HW0.out]
    refine HV.out.mono ?_
    rintro e w1 ⟨rfl, b1⟩
    have HB1 := Lib.hid (hw0.trans (b1.mono hw0.size))
    clear b1
    go_wp2
    go_ret2
    exact ⟨_, rfl, .inl ⟨by omega, rfl, HB1.out⟩⟩
end Go.Proofs.Ytkakbeiehggkiaa
