/-
  The document's Echoes, of any samples and any detector.
-/
import Derived.Test.YtkcagifljelfoaaVAny
import Derived.Test.YtkcagifljelfoaaVRrun
namespace Go.Proofs.Ytkcagifljelfoaa
open Go.RowKit

theorem below_un {w w' : World} (h : Below w.drew.heap.size w.drew w') : Below w.heap.size w w' := ⟨h.os, h.tape, h.output, h.size, h.block⟩
theorem bel_ {w w1 w2 : World} (h : Below w.heap.size w w1) (h' : Below w1.heap.size w1 w2) : Below w.heap.size w w2 := h.trans (h'.mono h.size)

/-- The cells of a list of the call's own, in a row. -/
theorem SL.news {α : Type} {enc : α → List Int} {k : Nat} {e : TypeId} {w : World} {base g n c : Nat} {R : List α} (hk : ∀ a, (enc a).length = k) (h : SL enc k e w base (.slice (some ⟨g, 0, none⟩) n c) R) :
    ∀ j u, (ints (R.flatMap enc))[j]? = some u → w.cell? ((⟨g, 0, none⟩ : Addr).add j) = some u := by
  intro j u hj
  have hn : n = R.length := by
    rcases h.2 with ⟨h1, _⟩ | ⟨g, cap, cur, h1, _⟩
    · cases h1
    · injection h1
  subst hn
  have hlt : j < R.length * k := by
    have := (List.getElem?_eq_some_iff.1 hj).1
    rw [ints_len, fm_len hk] at this
    exact this
  rw [add_none, Nat.zero_add, World.ownsRow.cellAt h _ hlt, hj]
theorem SL.joined {α : Type} {enc : α → List Int} {k : Nat} {e : TypeId} {w' : World} {base : Nat} {v' : Value} {R M : List α} {n m : Nat} (hn : R.length = n) (hm : M.length = m)
    (ho : w'.ownsRow base e k v' (n + m) (ints (R.flatMap enc) ++ ints (M.flatMap enc))) : SL enc k e w' base v' (R ++ M) := by
  unfold SL
  have e1 : (R ++ M).length = n + m := by simp [hn, hm]
  have e2 : ints ((R ++ M).flatMap enc) = ints (R.flatMap enc) ++ ints (M.flatMap enc) := by rw [← ints_append]; simp
  rw [e1, e2]
  exact ho

set_option maxRecDepth 100000 in
set_option maxHeartbeats 1000000 in
theorem refEchoes_baddet (lv dp st dl : Int) (hd : ¬ okD ⟨lv, dp, st, dl⟩) (A : Option Addr) (n c : Nat) (w : World) :
    Calls Try.prog 18 #[.slice A n c, .agg #[.int .i64 lv, .int .i64 dp, .int .i64 st, .int .i64 dl]] w (RetEch w [] 31) := by
  obtain ⟨W0, hW0⟩ : ∃ W0, W0 = w.alloc (.cells #[.int .i64 lv, .int .i64 dp, .int .i64 st, .int .i64 dl] 42) := ⟨_, rfl⟩
  have hb0 : Below w.heap.size w W0 := by rw [hW0]; exact (Below.refl _ w).alloc (Nat.le_refl _) _
  have hVD := refDet_no lv dp st dl hd W0
  have HW := Lib.hid (And.intro hW0 hb0)
  clear hW0 hb0 hd
  go_enter Try.func18, Try.ntmps18
  go_wp2_with (go_at_call 20; rw [← HW.out.1]; refine hVD.mono ?_; rintro en w1 ⟨rfl, hb1⟩; have HB := Lib.hid hb1; clear hb1)
  go_ret2
  exact ⟨_, rfl, sr_nilE _, HW.out.2.trans (HB.out.mono HW.out.2.size)⟩

set_option maxRecDepth 100000 in
set_option maxHeartbeats 1000000 in
theorem refEchoes_none (lv dp st dl : Int) (hd : okD ⟨lv, dp, st, dl⟩) (A : Option Addr) (c : Nat) (w : World) :
    Calls Try.prog 18 #[.slice A 0 c, .agg #[.int .i64 lv, .int .i64 dp, .int .i64 st, .int .i64 dl]] w (RetEch w [] 0) := by
  obtain ⟨W0, hW0⟩ : ∃ W0, W0 = w.alloc (.cells #[.int .i64 lv, .int .i64 dp, .int .i64 st, .int .i64 dl] 42) := ⟨_, rfl⟩
  have hb0 : Below w.heap.size w W0 := by rw [hW0]; exact (Below.refl _ w).alloc (Nat.le_refl _) _
  have hVD := refDet_yes lv dp st dl hd W0
  have HW := Lib.hid (And.intro hW0 hb0)
  clear hW0 hb0 hd
  go_enter Try.func18, Try.ntmps18
  go_wp2_with (go_at_call 20; rw [← HW.out.1]; refine hVD.mono ?_; rintro en w1 ⟨rfl, hb1⟩; have HB := Lib.hid hb1; clear hb1)
  go_ret2
  exact ⟨_, rfl, sr_nilE _, HW.out.2.trans (HB.out.mono HW.out.2.size)⟩

set_option maxRecDepth 100000 in
set_option maxHeartbeats 1000000 in
theorem refEchoes_bad (zs : List Int) (hok : ¬ okZ zs) (lv dp st dl : Int) (hd : okD ⟨lv, dp, st, dl⟩) (A : Option Addr) (n c : Nat) (w : World) (hx : IW w w.heap.size (.slice A n c) zs) :
    Calls Try.prog 18 #[.slice A n c, .agg #[.int .i64 lv, .int .i64 dp, .int .i64 st, .int .i64 dl]] w (RetEch w [] 2) := by
  have hl := hx.len
  have hn0 : 0 < n := by
    rcases Nat.eq_zero_or_pos n with h | h
    · subst h
      exact absurd (by rw [List.eq_nil_of_length_eq_zero hl.symm]; exact okZ_nil) hok
    · exact h
  obtain ⟨W0, hW0⟩ : ∃ W0, W0 = w.alloc (.cells #[.int .i64 lv, .int .i64 dp, .int .i64 st, .int .i64 dl] 42) := ⟨_, rfl⟩
  have hb0 : Below w.heap.size w W0 := by rw [hW0]; exact (Below.refl _ w).alloc (Nat.le_refl _) _
  have hVD := refDet_yes lv dp st dl hd W0
  have HW := Lib.hid (And.intro hW0 (And.intro hb0 (And.intro hx hok)))
  clear hW0 hb0 hd hx hok hl
  go_enter Try.func18, Try.ntmps18
  go_wp2_with (go_at_call 20; rw [← HW.out.1]; refine hVD.mono ?_; rintro en w1 ⟨rfl, hb1⟩; have HB := Lib.hid hb1; clear hb1)
  have hb1 := HW.out.2.1.trans (HB.out.mono HW.out.2.1.size)
  refine (refBase_bad zs A n c _ w1 (HW.out.2.2.1.below hb1) (.inr HW.out.2.2.2)).mono ?_
  rintro en w2 ⟨rfl, rfl⟩
  go_wp2
  go_ret2
  exact ⟨_, rfl, sr_nilE _, hb1⟩

set_option maxRecDepth 100000 in
set_option maxHeartbeats 2000000 in
theorem refEchoes_ok (zs : List Int) (hok : okZ zs) (hne : zs ≠ []) (lv dp st dl : Int) (hd : okD ⟨lv, dp, st, dl⟩) (A : Option Addr) (n c : Nat) (w : World) (hx : IW w w.heap.size (.slice A n c) zs) :
    Calls Try.prog 18 #[.slice A n c, .agg #[.int .i64 lv, .int .i64 dp, .int .i64 st, .int .i64 dl]] w (RetEch w (echF zs ⟨lv, dp, st, dl⟩) 0) := by
  have hl := hx.len
  have hn : n ≤ 256 := by have := hok.1; omega
  have hn0 : 0 < n := by have := List.length_pos_iff.2 hne; omega
  obtain ⟨i0, hi0, hz0, hz1, hz2⟩ := info_parts infoE
  obtain ⟨W0, hW0⟩ : ∃ W0, W0 = w.alloc (.cells #[.int .i64 lv, .int .i64 dp, .int .i64 st, .int .i64 dl] 42) := ⟨_, rfl⟩
  have hb0 : Below w.heap.size w W0 := by rw [hW0]; exact (Below.refl _ w).alloc (Nat.le_refl _) _
  have g0 : W0.heap[w.heap.size]? = some (.cells #[.int .i64 lv, .int .i64 dp, .int .i64 st, .int .i64 dl] 42 (0, 0)) := by rw [hW0]; exact heap_alloc_new w _
  have hm : 0 ≤ med zs ∧ med zs ≤ 1023 := hok.2 _ (med_mem hne)
  obtain ⟨m, hmd⟩ : ∃ m, med zs = m := ⟨_, rfl⟩
  rw [hmd] at hm
  have hlv := hd.1
  have hlv2 := hd.2.1
  have hdp := hd.2.2.1
  have hdp2 := hd.2.2.2.1
  simp only at hlv hlv2 hdp hdp2
  have hVD := refDet_yes lv dp st dl hd W0
  have HX := Lib.hid (And.intro hx (And.intro hok (And.intro hne (And.intro hl (And.intro hb0 (And.intro g0 hmd))))))
  have HW0 := Lib.hid hW0
  clear hx hok hne hl hd hb0 hW0 g0 hmd
  go_enter Try.func18, Try.ntmps18
  go_wp2_with (go_at_call 20; rw [← HW0.out]; refine hVD.mono ?_; rintro en w1 ⟨rfl, hb1⟩; have HB := Lib.hid hb1; clear hb1)
  have hbw1 := HX.out.2.2.2.2.1.trans (HB.out.mono HX.out.2.2.2.2.1.size)
  have hx1 := HX.out.1.below hbw1
  have k1 : w1.heap[w.heap.size]? = some (.cells #[.int .i64 lv, .int .i64 dp, .int .i64 st, .int .i64 dl] 42 (0, 0)) := (HB.out.block _ (Array.getElem?_eq_some_iff.1 HX.out.2.2.2.2.2.1).1).trans HX.out.2.2.2.2.2.1
  have p0 : w1.cell? ⟨w.heap.size, 0, none⟩ = some (.int .i64 lv) := cell_of_row _ _ _ _ _ _ k1
  have hBa := refBase_ok zs A n c _ w1 hx1 HX.out.2.2.1 HX.out.2.1
  rw [HX.out.2.2.2.2.2.2] at hBa
  have hRu := refRuns_ok zs (m + lv) A n c w.heap.size w1 hx1 hbw1.size HX.out.2.1
  have HB1 := Lib.hid (And.intro hbw1 (And.intro k1 hx1))
  clear hbw1 hx1 k1
  refine hBa.mono ?_
  rintro en w' ⟨rfl, rfl⟩
  clear hBa
  obtain ⟨L, hL⟩ : ∃ L, runsK zs (m + lv) zs.length = L := ⟨_, rfl⟩
  rw [hL] at hRu
  have hLn : L.length ≤ 256 := by have := runsK_len zs (m + lv) zs.length; have := HX.out.2.2.2.1; rw [hL] at *; omega
  obtain ⟨NR, hNR⟩ : ∃ N, L.length = N := ⟨_, rfl⟩
  rw [hNR] at hLn
  have HL := Lib.hid (And.intro hL hNR)
  clear hL hNR
  have hwm : IntKind.i64.wrap (m + lv) = m + lv := by rw [IntKind.wrap_i64]; omega
  go_wp2_with (go_at_call 34; refine hRu.mono ?_; rintro en w3 ⟨rv, rfl, hS, hb3⟩; have k3 := (hb3.block _ (Array.getElem?_eq_some_iff.1 HB1.out.2.1).1).trans HB1.out.2.1; obtain ⟨AR, cR, hrv, hAR, hcR⟩ := hS.slice; rw [HL.out.2] at hrv hAR hcR; subst hrv; have HB3 := Lib.hid (And.intro hb3 (And.intro hS k3)); clear hb3 hS k3 p0)
  have hx3 : IW w3 w.heap.size (.slice A n c) zs := HB1.out.2.2.belowM HB3.out.1 HB1.out.1.size
  have HX3 := Lib.hid hx3
  have hw3 : w.heap.size ≤ w3.heap.size := Nat.le_trans HB1.out.1.size HB3.out.1.size
  clear hx3 hRu
  go_loopw [8, 11] (fun ov iv wr => ∃ j : Nat, iv = .int .i64 (j : Int) ∧ j ≤ L.length ∧ Hid (SL eoE 5 50 wr w3.heap.size ov (echR zs dp (m + lv) L j)) ∧ Below w3.heap.size w3 wr) (fun _ iv _ => NR - (intOf iv).toNat)
  case atStart => exact ⟨0, by simp, by omega, Lib.hid (SL.nil_ _ _ _ _ _), Below.refl _ _⟩
  case round =>
    obtain ⟨j, rfl, hjl, hR, hF⟩ := hrel
    have hjn : j ≤ NR := by rw [← HL.out.2]; exact hjl
    by_cases hlt : j < NR
    · have hjL : j < L.length := by rw [HL.out.2]; exact hlt
      obtain ⟨⟨x, y⟩, hxy⟩ : ∃ r, L[j]'hjL = r := ⟨_, rfl⟩
      have hp : x < y ∧ y ≤ n ∧ (echR zs dp (m + lv) L j).length ≤ x := by
        obtain ⟨hL1, _⟩ := HL.out
        subst hL1
        have a := runsK_chain zs (m + lv) zs.length j hjL
        have b := echR_len zs dp (m + lv) (m + lv) zs.length j hjL
        rw [hxy] at b
        simp only [hxy] at a
        exact ⟨a.1, by have := HX.out.2.2.2.1; omega, b⟩
      obtain ⟨hp1, hp2, hp3⟩ := hp
      have hSn := echR_succ (zs := zs) (drop := dp) (lv := m + lv) hjL
      rw [hxy, goneR_addR] at hSn
      have hlen := goneR_len zs dp (m + lv) (echR zs dp (m + lv) L j) hp3 hp1
      rw [goneR_addR] at hlen
      obtain ⟨R, hRd⟩ : ∃ R, echR zs dp (m + lv) L j = R := ⟨_, rfl⟩
      have hRun := refRun_ok zs HX.out.2.1 dp (m + lv) ⟨hdp, hdp2⟩ x y hp1 A n c w.heap.size hp2 wr.drew ((HX3.out.belowM hF hw3).drew) (Nat.le_trans hw3 hF.size)
      obtain ⟨M, hMd⟩ : ∃ M, goneR zs dp (m + lv) x y [] = M := ⟨_, rfl⟩
      have hM0 : 0 < M.length := by rw [← hMd]; simp [goneR]
      rw [hMd] at hRun hSn hlen
      rw [hRd] at hSn hlen hR hp3
      obtain ⟨gR, rfl, hg1, hg2⟩ := hAR (by omega)
      have c0 := HB3.out.2.1.cell rnE_len hjL (j := 0) (by omega)
      have c1 := HB3.out.2.1.cell rnE_len hjL (j := 1) (by omega)
      rw [hxy] at c0 c1
      have q0 : wr.cell? ⟨gR, j * 2, none⟩ = some (.int .i64 (x : Int)) := (hF.cell (p := ⟨gR, j * 2, none⟩) hg2).trans c0
      have q1 : wr.cell? ⟨gR, j * 2 + 1, none⟩ = some (.int .i64 (y : Int)) := (hF.cell (p := ⟨gR, j * 2 + 1, none⟩) hg2).trans c1
      have kd := (hF.block _ (Array.getElem?_eq_some_iff.1 HB3.out.2.2).1).trans HB3.out.2.2
      have kl := (Array.getElem?_eq_some_iff.1 kd).1
      have p0 : wr.cell? ⟨w.heap.size, 0, none⟩ = some (.int .i64 lv) := cell_of_row _ _ _ _ _ _ kd
      have p1 : wr.cell? ⟨w.heap.size, 1, none⟩ = some (.int .i64 dp) := cell_of_row _ _ _ _ _ _ kd
      have hgr : gR < wr.heap.size := Nat.lt_of_lt_of_le hg2 hF.size
      have KG := Lib.hid (fun (w' : World) (h : Below wr.heap.size wr w') => (show w'.cell? ⟨gR, j * 2, none⟩ = some (.int .i64 (x : Int)) ∧ w'.cell? ⟨gR, j * 2 + 1, none⟩ = some (.int .i64 (y : Int)) ∧ w'.cell? ⟨w.heap.size, 0, none⟩ = some (.int .i64 lv) ∧ w'.cell? ⟨w.heap.size, 1, none⟩ = some (.int .i64 dp) from
        ⟨(h.cell (p := ⟨gR, j * 2, none⟩) hgr).trans q0, (h.cell (p := ⟨gR, j * 2 + 1, none⟩) hgr).trans q1, (h.cell (p := ⟨w.heap.size, 0, none⟩) kl).trans p0, (h.cell (p := ⟨w.heap.size, 1, none⟩) kl).trans p1⟩))
      have KD := Lib.hid (KG.out _ (Below.refl wr.heap.size wr).drew)
      obtain ⟨AO, cO, rfl, hAO, hcO⟩ := hR.out.slice
      obtain ⟨NE, hNE⟩ : ∃ N, R.length = N := ⟨_, rfl⟩
      obtain ⟨NM, hNM⟩ : ∃ N, M.length = N := ⟨_, rfl⟩
      have hlen' : NE + NM ≤ y := by simp at hlen; omega
      rw [hNE] at hcO ⊢
      rw [hNM] at hM0
      have HN := Lib.hid (And.intro hNE (And.intro hNM hSn))
      have HR := Lib.hid (And.intro hR.out hF)
      unfold maxLen at hcO
      clear hR hF hSn hlen hNE hNM hxy c0 c1 q0 q1 p0 p1 kd hAO hAR hMd hRd hp3
      go_wp2
      go_region_held3 (fun w' => w'.cell? ⟨gR, j * 2, none⟩ = some (.int .i64 (x : Int)) ∧ w'.cell? ⟨gR, j * 2 + 1, none⟩ = some (.int .i64 (y : Int)) ∧ w'.cell? ⟨w.heap.size, 0, none⟩ = some (.int .i64 lv) ∧ w'.cell? ⟨w.heap.size, 1, none⟩ = some (.int .i64 dp))
        (first
          | (with_reducible exact KD.out)
          | (refine KG.out _ ?_
             with_reducible exact hb5)
          | go_keep)
        (first
          | (go_at_call 35
             refine hRun.mono ?_
             rintro en w5 ⟨mv, rfl, hM, hb5'⟩
             have hb5 : Below wr.heap.size wr w5 := below_un hb5'
             clear hb5'))
      obtain ⟨AM, cM, rfl, hAM, hcM⟩ := hM.slice
      rw [HN.out.2.1] at hAM hcM ⊢
      obtain ⟨gM, rfl, hgM1, hgM2⟩ := hAM hM0
      unfold maxLen at hcM
      have hS5 : SL eoE 5 50 w5 w3.heap.size (.slice AO R.length cO) R := HR.out.1.below hb5
      have hown : w5.ownsRow w3.heap.size 50 5 (.slice AO R.length cO) R.length (ints (R.flatMap eoE)) := hS5
      rw [HN.out.1] at hown hS5
      have hnews := SL.news eoE_len hM
      have hnl : (ints (M.flatMap eoE)).length = NM * 5 := by rw [ints_len, fm_len eoE_len, HN.out.2.1]
      have hone := ints_one (M.flatMap eoE)
      obtain ⟨FR, hFR⟩ : ∃ F, ints (R.flatMap eoE) = F := ⟨_, rfl⟩
      obtain ⟨FM, hFM⟩ : ∃ F, ints (M.flatMap eoE) = F := ⟨_, rfl⟩
      rw [hFR] at hown
      rw [hFM] at hnews hnl hone
      have hb35 : Below w3.heap.size w3 w5 := HR.out.2.trans (hb5.mono HR.out.2.size)
      have hsz5 := hb35.size
      have HA := Lib.hid (And.intro hown (And.intro hnews (And.intro hnl (And.intro hone (And.intro hFR (And.intro hFM (And.intro hb35 hS5)))))))
      clear hown hnews hnl hone hFR hFM hb35 hS5 hM hb5 KG KD hRun
      go_wp2_with (at_builtin
                   refine wpList_append_own_at _ rfl (.tmp 60) (.tmp 61) _ rfl w3.heap.size 50 i0 _ 5 40 Try.underlying43 hi0 hz0 hz1 hz2 rfl (by decide) _ NE _ rfl HA.out.1 ⟨gM, 0, none⟩ NM cM FM rfl HA.out.2.2.1 HA.out.2.1 HA.out.2.2.2.1 (by unfold maxLen; omega) (by omega) (by omega) ?_)
      intro v' w6 ho hg _ _
      have hSL : SL eoE 5 50 w6 w3.heap.size v' (R ++ M) := SL.joined HN.out.1 HN.out.2.1 (by rw [HA.out.2.2.2.2.1, HA.out.2.2.2.2.2.1]; exact ho)
      have hb36 : Below w3.heap.size w3 w6 := grown_belowB HA.out.2.2.2.2.2.2.1 (Nat.le_refl _) hg (fun k hk => (HA.out.2.2.2.2.2.2.2.lt k hk).1)
      have HZ := Lib.hid (And.intro hSL hb36)
      clear ho hg hSL hb36
      go_wp2
      go_roundw
      case rel => exact ⟨j + 1, by simp, by omega, Lib.hid (by rw [HN.out.2.2]; exact HZ.out.1), HZ.out.2⟩
      case measure => simp [intOf]; omega
    · obtain rfl : j = NR := by omega
      have hlen : (echR zs dp (m + lv) L j).length ≤ n := by
        obtain ⟨hL1, hN⟩ := HL.out
        rw [← hN, ← hL1, HX.out.2.2.2.1]
        exact echR_all zs dp (m + lv) (m + lv) zs.length
      have hres : echF zs ⟨lv, dp, st, dl⟩ = (echR zs dp (m + lv) L j).take 15 := by
        obtain ⟨hL1, hN⟩ := HL.out
        unfold echF
        simp only
        rw [HX.out.2.2.2.2.2.2, hL1, hN]
      obtain ⟨R, hRd⟩ : ∃ R, echR zs dp (m + lv) L j = R := ⟨_, rfl⟩
      have hR' := hR.out
      rw [hRd] at hR' hlen hres
      have hbf : Below w.heap.size w wr := HB1.out.1.trans ((HB3.out.1.mono HB1.out.1.size).trans (hF.mono hw3))
      obtain ⟨fA, fc, rfl, hfA, hfc⟩ := hR'.slice
      have HRR := Lib.hid (And.intro hres (And.intro hR' hbf))
      obtain ⟨NE, hNE⟩ : ∃ N, R.length = N := ⟨_, rfl⟩
      rw [hNE] at hfA hfc hlen ⊢
      have HN := Lib.hid hNE
      clear hres hR' hbf hR hRd hNE hAR hF
      unfold maxLen at hfc
      by_cases h15 : 15 < NE
      · obtain ⟨g, rfl, hg1, hg2⟩ := hfA (by omega)
        go_wp2
        go_ret2
        refine ⟨_, rfl, ?_, HRR.out.2.2⟩
        rw [HRR.out.1]
        exact SL.reads eoE_len HRR.out.2.1 (by rw [HN.out]; omega) hg2 (by rw [HN.out]; unfold maxLen; omega)
      · go_wp2
        go_ret2
        refine ⟨_, rfl, ?_, HRR.out.2.2⟩
        rw [HRR.out.1, List.take_of_length_le (by rw [HN.out]; omega)]
        have := SL.sr eoE_len HRR.out.2.1
        rwa [HN.out] at this

theorem refEchoes_all (zs : List Int) (lv dp st dl : Int) (A : Option Addr) (n c : Nat) (w : World) (hx : IW w w.heap.size (.slice A n c) zs) :
    Calls Try.prog 18 #[.slice A n c, .agg #[.int .i64 lv, .int .i64 dp, .int .i64 st, .int .i64 dl]] w (RetEch w (echA zs ⟨lv, dp, st, dl⟩) (echE zs ⟨lv, dp, st, dl⟩)) := by
  unfold echA echE
  by_cases hd : okD ⟨lv, dp, st, dl⟩
  · by_cases hz : okZ zs
    · rw [if_pos hd, if_pos ⟨hd, hz⟩, if_pos (.inr hz)]
      unfold echG
      by_cases h : zs = []
      · rw [if_pos h]
        have hl := hx.len
        rw [h] at hl
        simp at hl
        subst hl
        exact refEchoes_none lv dp st dl hd A c w
      · rw [if_neg h]
        exact refEchoes_ok zs hz h lv dp st dl hd A n c w hx
    · have hne : ¬ (zs = [] ∨ okZ zs) := fun h => h.elim (fun h => hz (by rw [h]; exact okZ_nil)) hz
      rw [if_pos hd, if_neg (fun h => hz h.2), if_neg hne]
      exact refEchoes_bad zs hz lv dp st dl hd A n c w hx
  · rw [if_neg hd, if_neg (fun h => hd h.1)]
    exact refEchoes_baddet lv dp st dl hd A n c w
end Go.Proofs.Ytkcagifljelfoaa
