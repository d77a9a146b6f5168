/-
  For any samples, any detector and any number the law WaveDelays returns true and leaves its arguments as they were: no condition.
-/
import Derived.Test.YtkcagifljelfoaaVAux
import Derived.Test.YtkcagifljelfoaaVDlt
namespace Go.Proofs.Ytkcagifljelfoaa.waveDelays
open Go.Proofs.Ytkcagifljelfoaa
open Go.ChangeShapes Go.WideShapes Go.ChangeAt Go.RowKit Go.Joins
set_option linter.unusedVariables false

theorem ech_beg {L : List Int} (hok : okZ L) (hne : L ≠ []) {d : De} (hd : okD d) {R : List Eo} (hR : echF L d = R) : ∀ k (h : k < R.length), goodE L L.length (R[k]'h) ∧ begE L (R[k]'h).fr (R[k]'h).lv ∧ 0 ≤ (R[k]'h).lv ∧ med L < (R[k]'h).lv := fun k h => by
  subst hR
  refine ⟨ech_goodF hd.2.2.1 rfl k h, echF_beg hd.2.2.1 _ (List.getElem_mem h), ?_⟩
  have h6 := ((echF_ch hd.2.2.1).2 k h).1.2.2.2.2.2.1
  have := (hok.2 _ (med_mem hne)).1
  have := hd.1
  omega
theorem okZ_la {L : List Int} {m : Nat} {b : Int} (h : okZ L) (hl : m + L.length ≤ 256) (hb : 0 ≤ b ∧ b ≤ 1023) : okZ (laZ L m b) := by
  refine ⟨by rw [laZ_len]; exact hl, fun x hx => ?_⟩
  unfold laZ at hx
  rcases List.mem_append.1 hx with hx | hx
  · obtain ⟨_, rfl⟩ := List.mem_replicate.1 hx
    exact hb
  · exact h.2 _ hx
theorem ilE_all (L : List Int) : L.flatMap ilE = L := by
  induction L with
  | nil => rfl
  | cons a l ih => rw [List.flatMap_cons, ih]; rfl
theorem iw_news {w : World} {B n c b o : Nat} {L : List Int} (hx : IW w B (.slice (some ⟨b, o, none⟩) n c) L) (hn : 0 < n) : ∀ j u, (ints (L.flatMap ilE))[j]? = some u → w.cell? ((⟨b, o, none⟩ : Addr).add j) = some u := fun j u hj => by
  obtain ⟨b', o', e, hb, hc⟩ := hx.at_ hn
  injection e with e
  injection e with e1 e2
  subst e1 e2
  rw [ilE_all] at hj
  have hl := hx.len
  have hjl : j < L.length := by
    rcases Nat.lt_or_ge j L.length with h | h
    · exact h
    · have : (ints L)[j]? = none := List.getElem?_eq_none (by rw [ints_len]; exact h)
      rw [this] at hj; cases hj
  rw [add_none, hc j (by omega), ith_lt hjl]
  simpa [ints, hjl] using hj
theorem cell_al1 {w : World} {p : Addr} {v : Value} (h : w.cell? p = some v) (o : Obj) : (w.alloc o).cell? p = some v := by
  have hp := block_lt_of_cell h
  rw [World.cell?_alloc_lt w o p hp]
  exact h
theorem cell_al2 {w : World} {p : Addr} {v : Value} (h : w.cell? p = some v) (o1 o2 : Obj) : ((w.alloc o1).alloc o2).cell? p = some v := cell_al1 (cell_al1 h o1) o2

set_option maxRecDepth 100000 in
set_option maxHeartbeats 8000000 in
theorem walk (A : Option Addr) (n c : Nat) (L : List Int) (lv dp st dl mo : Int) (hmo : 0 ≤ mo ∧ mo ≤ 255) (w : World) (hx : IW w w.heap.size (.slice A n c) L) :
    Calls Try.prog 9 #[.slice A n c, .agg #[.int .i64 lv, .int .i64 dp, .int .i64 st, .int .i64 dl], .int .u8 mo] w (RetB w true) := by
  obtain ⟨W0, hW0⟩ : ∃ W0, W0 = w.alloc (.cells #[.int .i64 lv, .int .i64 dp, .int .i64 st, .int .i64 dl] 42) := ⟨_, rfl⟩
  have hb0 : Below w.heap.size w W0 := by rw [hW0]; exact (Below.refl _ w).alloc (Nat.le_refl _) _
  have g0 : W0.heap[w.heap.size]? = some (.cells #[.int .i64 lv, .int .i64 dp, .int .i64 st, .int .i64 dl] 42 (0, 0)) := by rw [hW0]; exact heap_alloc_new w _
  have m0 : ∀ j v, (#[Value.int .i64 lv, .int .i64 dp, .int .i64 st, .int .i64 dl] : Array Value)[j]? = some v → (w.alloc (.cells #[.int .i64 lv, .int .i64 dp, .int .i64 st, .int .i64 dl] 42)).cell? ⟨w.heap.size, j, none⟩ = some v := fun j v h => built_cells w _ _ j v h
  have p0 := m0 0 _ rfl
  have p1 := m0 1 _ rfl
  have p2 := m0 2 _ rfl
  have p3 := m0 3 _ rfl
  have hl := Lib.hid hx.len
  have hcap := hx.cap
  unfold maxLen at hcap
  have hV := valid_any L A n c _ W0 (hx.below hb0)
  have HX := Lib.hid (And.intro hx (And.intro hb0 g0))
  have HW0 := Lib.hid hW0
  rw [HW0.out] at hV
  clear hx hb0 g0 hW0 m0
  unfold RetSame at hV
  have tw : IntKind.i64.wrap mo = mo := by rw [IntKind.wrap_i64]; omega
  have hm1 := Int.tmod_nonneg 100 hmo.1
  have hm2 := Int.tmod_lt_of_pos mo (show (0 : Int) < 100 by omega)
  obtain ⟨q, hq⟩ : ∃ q, Int.tmod mo 100 = q := ⟨_, rfl⟩
  rw [hq] at hm1 hm2
  obtain ⟨m, hqm⟩ : ∃ m : Nat, 1 + q = (m : Int) := ⟨(1 + q).toNat, by omega⟩
  have hm0 : 1 ≤ m := by omega
  have hm100 : m ≤ 100 := by omega
  by_cases hok : okZ L
  · rw [decide_eq_true hok] at hV
    have HO := Lib.hid hok
    have h256 : n ≤ 256 := by have := hok.1; have := hl.out; omega
    clear hok
    by_cases hd : okD ⟨lv, dp, st, dl⟩
    · have hF := fine_yes lv dp st dl hd W0
      have HD := Lib.hid hd
      clear hd
      rcases Nat.eq_zero_or_pos n with hn | hn
      · subst hn
        go_enter Try.func9, Try.ntmps9
        go_wp2_with (first
          | (go_at_call 26; refine hV.mono ?_; rintro en w' ⟨rfl, rfl⟩)
          | (go_at_call 27; rw [← HW0.out]; refine hF.mono ?_; rintro en w1 ⟨rfl, hb1⟩; have HB1 := Lib.hid (HX.out.2.1.trans (hb1.mono HX.out.2.1.size)); clear hb1 p0 p1 p2 p3))
        refine (first_any _).mono ?_
        rintro e w2 ⟨rfl, hb2⟩
        go_wp2
        go_ret
        exact ⟨rfl, HB1.out.trans (hb2.mono HB1.out.size)⟩
      · have hn0 : ((n : Int) == 0) = false := by simp; omega
        by_cases h25 : (256 : Int) < (n : Int) + (m : Int)
        · go_enter Try.func9, Try.ntmps9
          go_wp2_with (first
            | (go_at_call 26; refine hV.mono ?_; rintro en w' ⟨rfl, rfl⟩)
            | (go_at_call 27; rw [← HW0.out]; refine hF.mono ?_; rintro en w1 ⟨rfl, hb1⟩; have HB1 := Lib.hid (HX.out.2.1.trans (hb1.mono HX.out.2.1.size)); clear hb1 p0 p1 p2 p3))
          refine (first_any _).mono ?_
          rintro e w2 ⟨rfl, hb2⟩
          go_wp2
          go_ret
          exact ⟨rfl, HB1.out.trans (hb2.mono HB1.out.size)⟩
        · have hne : L ≠ [] := fun h => by have := hl.out; rw [h] at this; simp at this; omega
          have HNE := Lib.hid hne
          clear hne
          obtain ⟨i0, hi0, hz0, hz1, hz2⟩ := info_parts infoIl
          go_enter Try.func9, Try.ntmps9
          go_wp2_with (first
            | (go_at_call 26; refine hV.mono ?_; rintro en w' ⟨rfl, rfl⟩)
            | (go_at_call 27; rw [← HW0.out]; refine hF.mono ?_; rintro en w1 ⟨rfl, hb1⟩; have HB1 := Lib.hid (And.intro (HX.out.2.1.trans (hb1.mono HX.out.2.1.size)) ((hb1.block _ (Array.getElem?_eq_some_iff.1 HX.out.2.2).1).trans HX.out.2.2)); clear hb1 p0 p1 p2 p3))
          clear hV hF hn0 hq tw hmo hqm hm1 hm2
          have hmr := HO.out.2 _ (med_mem HNE.out)
          have hB := base_ok L A n c w1 ((HX.out.1.below HB1.out.1).more HB1.out.1.size) HNE.out HO.out
          obtain ⟨b, hb⟩ : ∃ b, med L = b := ⟨_, rfl⟩
          rw [hb] at hB hmr
          have HM := Lib.hid hb
          clear hb
          refine hB.mono ?_
          rintro en w2 ⟨rfl, hb2⟩
          have HB2 := Lib.hid (And.intro (HB1.out.1.trans (hb2.mono HB1.out.1.size)) ((hb2.block _ (Array.getElem?_eq_some_iff.1 HB1.out.2).1).trans HB1.out.2))
          clear hb2 hB HB1
          go_wp2
          go_loopw [10, 11] (fun uv iv wr => ∃ k : Nat, iv = .int .i64 (k : Int) ∧ k ≤ m ∧ Hid (SL ilE 1 3 wr w2.heap.size uv (List.replicate k b)) ∧ Below w2.heap.size w2 wr) (fun _ iv _ => m - (intOf iv).toNat)
          case atStart => exact ⟨0, rfl, Nat.zero_le _, Lib.hid (SL.nil_ _ _ _ _ _), Below.refl _ _⟩
          case round =>
            obtain ⟨k, rfl, hk, hS, hbw⟩ := hrel
            by_cases hlt : k < m
            · have hlen : (List.replicate k b).length = k := List.length_replicate
              obtain ⟨F, hF⟩ : ∃ F, ints ((List.replicate k b).flatMap ilE) = F := ⟨_, rfl⟩
              have hown : wr.ownsRow w2.heap.size 3 1 u10 (List.replicate k b).length (ints ((List.replicate k b).flatMap ilE)) := hS.out
              rw [hlen, hF] at hown
              have HC := Lib.hid (fun j u (hj : [Value.int .i64 b][j]? = some u) => laid_cells wr 3 [b] j u hj)
              have HF := Lib.hid (And.intro hlen hF)
              have HK := Lib.hid (And.intro hbw hS.out)
              have hbs := hbw.size
              clear hlen hF hbw hS
              go_wp2_with (at_builtin
                           refine wpList_append_own_at _ rfl (.tmp 67) (.tmp 69) _ rfl w2.heap.size 3 i0 _ 1 8 Try.underlying33 hi0 hz0 hz1 hz2 rfl (by decide) _ k _ rfl (hown.alloc _) ⟨wr.heap.size, 0, none⟩ 1 1 [.int .i64 b] rfl rfl HC.out (by intro u hu; simp at hu; subst hu; rfl) (by unfold maxLen; omega) (by omega) (by simp; omega) ?_)
              intro v' w3 ho hg _ _
              have HG := Lib.hid (SL.grows (enc := ilE) (k := 1) (a := b) HK.out.2 HK.out.1 (Nat.le_refl _) (Nat.le_refl _) _ HF.out rfl ho hg)
              clear ho hg hown
              go_wp2
              go_roundw
              case rel => exact ⟨k + 1, by simp, by omega, Lib.hid (by rw [List.replicate_succ']; exact HG.out.1), HG.out.2⟩
              case measure => simp [intOf]; omega
            · obtain rfl : k = m := by omega
              obtain ⟨Ab, ob, rfl, hAb, hcb⟩ := HX.out.1.at_ hn
              have hbr := HB2.out.1.trans (hbw.mono HB2.out.1.size)
              have hxr := HX.out.1.below hbr
              have hnews := iw_news hxr hn
              have hlen : (List.replicate k b).length = k := List.length_replicate
              have hnl : (ints (L.flatMap ilE)).length = n * 1 := by rw [ints_len, ilE_all, Nat.mul_one]; exact hl.out.symm
              have hone := ints_one (L.flatMap ilE)
              obtain ⟨F, hF⟩ : ∃ F, ints ((List.replicate k b).flatMap ilE) = F := ⟨_, rfl⟩
              obtain ⟨G, hG⟩ : ∃ G, ints (L.flatMap ilE) = G := ⟨_, rfl⟩
              have hown : wr.ownsRow w2.heap.size 3 1 u10 (List.replicate k b).length (ints ((List.replicate k b).flatMap ilE)) := hS.out
              rw [hlen, hF] at hown
              rw [hG] at hnews hnl hone
              have hbs := hbw.size
              have HK := Lib.hid (And.intro hbw (And.intro hS.out (And.intro hF (And.intro hG (And.intro hnews (And.intro hnl (And.intro hone hlen)))))))
              clear hcb hAb hxr hnews hnl hone hF hG hbw hS hbr hlt hk hlen
              go_wp2_with (at_builtin
                           refine wpList_append_own_at _ rfl (.tmp 71) (.tmp 72) _ rfl w2.heap.size 3 i0 _ 1 8 Try.underlying33 hi0 hz0 hz1 hz2 rfl (by decide) _ k _ rfl hown ⟨Ab, ob, none⟩ n c G rfl HK.out.2.2.2.2.2.1 HK.out.2.2.2.2.1 HK.out.2.2.2.2.2.2.1 (by unfold maxLen; omega) (by omega) (by omega) ?_)
              intro v' w3 ho hg _ _
              have hSL : SL ilE 1 3 w3 w2.heap.size v' (laZ L k b) := by
                show w3.ownsRow w2.heap.size 3 1 v' (laZ L k b).length (ints ((List.replicate k b ++ L).flatMap ilE))
                rw [laZ_len, List.flatMap_append, ints_append, HK.out.2.2.1, HK.out.2.2.2.1, ← hl.out]
                exact ho
              have hb23 : Below w2.heap.size w2 w3 := grown_belowB HK.out.1 (Nat.le_refl _) hg (fun k hk => (HK.out.2.1.lt k hk).1)
              obtain ⟨A2, c2, rfl, hi2⟩ := hSL.ilw
              have hb3 := HB2.out.1.trans (hb23.mono HB2.out.1.size)
              have kd := (hb23.block _ (Array.getElem?_eq_some_iff.1 HB2.out.2).1).trans HB2.out.2
              have HU := Lib.hid (okZ_la (m := k) HO.out (by have := hl.out; omega) hmr)
              obtain ⟨N2, hN2⟩ : ∃ N2, (laZ L k b).length = N2 := ⟨_, rfl⟩
              rw [hN2] at hi2 ⊢
              have HN2 := Lib.hid hN2
              have hE := echoes_ok L HO.out HNE.out lv dp st dl HD.out (some ⟨Ab, ob, none⟩) n c w3 ((HX.out.1.below hb3).more hb3.size)
              obtain ⟨R, hR, hRg, hRu⟩ : ∃ R, echF L ⟨lv, dp, st, dl⟩ = R ∧ (∀ i (h : i < R.length), goodE L L.length (R[i]'h) ∧ begE L (R[i]'h).fr (R[i]'h).lv ∧ 0 ≤ (R[i]'h).lv ∧ med L < (R[i]'h).lv) ∧ echF (laZ L k (med L)) ⟨lv, dp, st, dl⟩ = R.map (laE k) := ⟨_, rfl, ech_beg HO.out HNE.out HD.out rfl, echF_la HNE.out hm0 HD.out.1⟩
              rw [hR] at hE
              rw [HM.out] at hRg hRu
              have q0 : w3.cell? ⟨w.heap.size, 0, none⟩ = some (.int .i64 lv) := cell_of_row _ _ _ _ _ _ kd
              have q1 : w3.cell? ⟨w.heap.size, 1, none⟩ = some (.int .i64 dp) := cell_of_row _ _ _ _ _ _ kd
              have q2 : w3.cell? ⟨w.heap.size, 2, none⟩ = some (.int .i64 st) := cell_of_row _ _ _ _ _ _ kd
              have q3 : w3.cell? ⟨w.heap.size, 3, none⟩ = some (.int .i64 dl) := cell_of_row _ _ _ _ _ _ kd
              have HR := Lib.hid (And.intro hRg hRu)
              have HB3 := Lib.hid (And.intro hb3 (And.intro hi2 kd))
              clear hRg hRu hR hb3 hi2 kd hN2 ho hg hSL hb23 hown HK HB2
              go_wp2_with fail
              refine hE.mono ?_
              rintro en w4 ⟨v2, rfl, hs2, hb2⟩
              have kd2 := (hb2.block _ (Array.getElem?_eq_some_iff.1 HB3.out.2.2).1).trans HB3.out.2.2
              have hu2 := (HB3.out.2.1.below hb2).more hb2.size
              have hE2 := echoes_ok (laZ L k b) HU.out (fun h => by have := HN2.out; rw [laZ_len] at this; have h2 := laZ_len L k b; rw [h] at h2; simp at h2; omega) lv dp st dl HD.out A2 N2 c2 w4 hu2
              rw [HR.out.2] at hE2
              clear q0 q1 q2 q3 hE
              have q0 : w4.cell? ⟨w.heap.size, 0, none⟩ = some (.int .i64 lv) := cell_of_row _ _ _ _ _ _ kd2
              have q1 : w4.cell? ⟨w.heap.size, 1, none⟩ = some (.int .i64 dp) := cell_of_row _ _ _ _ _ _ kd2
              have q2 : w4.cell? ⟨w.heap.size, 2, none⟩ = some (.int .i64 st) := cell_of_row _ _ _ _ _ _ kd2
              have q3 : w4.cell? ⟨w.heap.size, 3, none⟩ = some (.int .i64 dl) := cell_of_row _ _ _ _ _ _ kd2
              have HB4 := Lib.hid (And.intro (HB3.out.1.trans (hb2.mono HB3.out.1.size)) (And.intro hs2 hu2))
              clear hb2 hs2 hu2 kd2
              go_wp2_with fail
              refine hE2.mono ?_
              rintro en w5 ⟨v3, rfl, hs3, hb3⟩
              obtain ⟨A3, c3, rfl, r1, r2, r3⟩ := HB4.out.2.1.below hb3
              obtain ⟨A4, c4, rfl, s1, s2, s3⟩ := hs3
              obtain ⟨NE, hNE⟩ : ∃ N, R.length = N := ⟨_, rfl⟩
              have HN := Lib.hid hNE
              have HS := Lib.hid (And.intro (HB4.out.1.trans (hb3.mono HB4.out.1.size)) (And.intro ((HB4.out.2.2.below hb3).more hb3.size) (And.intro r3 s3)))
              rw [List.length_map, hNE] at s1 ⊢
              rw [hNE] at r1
              unfold maxLen at r2 s2
              clear hE2 q0 q1 q2 q3 hb3 r3 s3 hNE
              go_wp2_with fail
              go_loopw [15] (fun iv wr => ∃ k : Nat, k ≤ NE ∧ iv = .int .i64 (k : Int) ∧ Below w5.heap.size w5 wr) (fun iv _ => NE - (intOf iv).toNat)
              case atStart => exact ⟨0, Nat.zero_le _, rfl, Below.refl _ _⟩
              case round =>
                obtain ⟨i, hi, rfl, hbw⟩ := hrel
                by_cases hlt : i < NE
                · have hiR : i < R.length := by rw [HN.out]; exact hlt
                  obtain ⟨⟨fr, to, pk, el, tp⟩, hed⟩ : ∃ e, R[i]'hiR = e := ⟨_, rfl⟩
                  have hg := HR.out.1 i hiR
                  rw [hed] at hg
                  obtain ⟨hg, hbg, hel, hbel⟩ := hg
                  simp only at hel hbel hbg
                  have htp : 0 ≤ tp ∧ tp ≤ 1023 := by
                    have h5 := hg.2.2.2.2
                    simp only at h5
                    rw [h5]
                    exact HO.out.ith (by have := hg.2.1; have := hg.2.2.1; simp only at *; omega)
                  have helt : el ≤ tp := by have := hg.2.2.2.1; have h5 := hg.2.2.2.2; simp only at *; omega
                  have hto : to ≤ 256 ∧ fr ≤ 256 ∧ pk ≤ 256 := by have := hg.1; have := hg.2.1; have := hg.2.2.1; have := HO.out.1; simp only at *; omega
                  obtain ⟨x1, x2, cc, y1, y2, hT1, hT2, hcs⟩ := time_delay L HO.out k (by omega) b HU.out fr to pk el tp tp hg hbg hbel
                  obtain ⟨F, hF⟩ : ∃ F, k + fr = F := ⟨_, rfl⟩
                  obtain ⟨T, hT⟩ : ∃ T, k + to = T := ⟨_, rfl⟩
                  obtain ⟨P, hP⟩ : ∃ P, k + pk = P := ⟨_, rfl⟩
                  rw [hF, hT, hP] at hT2
                  obtain ⟨g, o, rfl, hgw, hc⟩ := HS.out.2.2.1 (by rw [HN.out]; omega)
                  obtain ⟨g2, o2, rfl, hgw2, hc2⟩ := HS.out.2.2.2 (by rw [List.length_map, HN.out]; omega)
                  have f := fun j (hj : j < 5) => (hbw.cell (p := ⟨g, o + (i * 5 + j), none⟩) hgw).trans (hc i hiR j hj)
                  have f2 := fun j (hj : j < 5) => (hbw.cell (p := ⟨g2, o2 + (i * 5 + j), none⟩) hgw2).trans (hc2 i (by rw [List.length_map]; exact hiR) j hj)
                  simp only [hed] at f
                  simp only [List.getElem_map, hed, laE, hF, hT, hP] at f2
                  have a0 : wr.cell? ⟨g, o + i * 5, none⟩ = some (.int .i64 (fr : Int)) := by simpa [ints, eoE, Nat.add_assoc] using f 0 (by omega)
                  have a1 : wr.cell? ⟨g, o + i * 5 + 1, none⟩ = some (.int .i64 (to : Int)) := by simpa [ints, eoE, Nat.add_assoc] using f 1 (by omega)
                  have a2 : wr.cell? ⟨g, o + i * 5 + 2, none⟩ = some (.int .i64 (pk : Int)) := by simpa [ints, eoE, Nat.add_assoc] using f 2 (by omega)
                  have a3 : wr.cell? ⟨g, o + i * 5 + 3, none⟩ = some (.int .i64 el) := by simpa [ints, eoE, Nat.add_assoc] using f 3 (by omega)
                  have a4 : wr.cell? ⟨g, o + i * 5 + 4, none⟩ = some (.int .i64 tp) := by simpa [ints, eoE, Nat.add_assoc] using f 4 (by omega)
                  have b0 : wr.cell? ⟨g2, o2 + i * 5, none⟩ = some (.int .i64 (F : Int)) := by simpa [ints, eoE, Nat.add_assoc] using f2 0 (by omega)
                  have b1 : wr.cell? ⟨g2, o2 + i * 5 + 1, none⟩ = some (.int .i64 (T : Int)) := by simpa [ints, eoE, Nat.add_assoc] using f2 1 (by omega)
                  have b2 : wr.cell? ⟨g2, o2 + i * 5 + 2, none⟩ = some (.int .i64 (P : Int)) := by simpa [ints, eoE, Nat.add_assoc] using f2 2 (by omega)
                  have b3 : wr.cell? ⟨g2, o2 + i * 5 + 3, none⟩ = some (.int .i64 el) := by simpa [ints, eoE, Nat.add_assoc] using f2 3 (by omega)
                  have b4 : wr.cell? ⟨g2, o2 + i * 5 + 4, none⟩ = some (.int .i64 tp) := by simpa [ints, eoE, Nat.add_assoc] using f2 4 (by omega)
                  have e1 : (fr : Int) + (k : Int) = (F : Int) := by omega
                  have e2 : (to : Int) + (k : Int) = (T : Int) := by omega
                  have e3 : (pk : Int) + (k : Int) = (P : Int) := by omega
                  have e4 : F ≤ 512 ∧ T ≤ 512 ∧ P ≤ 512 := by omega
                  have HI := Lib.hid (And.intro hbw (And.intro hg (And.intro hT1 (And.intro hT2 hcs))))
                  clear hbw hg hT1 hT2 hcs f f2 hc hc2 hed hiR hF hT hP
                  go_wp2
                  have a0o := fun o1 => cell_al1 a0 o1
                  have a0p := fun o1 o2 => cell_al2 a0 o1 o2
                  have a1o := fun o1 => cell_al1 a1 o1
                  have a1p := fun o1 o2 => cell_al2 a1 o1 o2
                  have a2o := fun o1 => cell_al1 a2 o1
                  have a2p := fun o1 o2 => cell_al2 a2 o1 o2
                  have a3o := fun o1 => cell_al1 a3 o1
                  have a3p := fun o1 o2 => cell_al2 a3 o1 o2
                  have a4o := fun o1 => cell_al1 a4 o1
                  have a4p := fun o1 o2 => cell_al2 a4 o1 o2
                  have b0o := fun o1 => cell_al1 b0 o1
                  have b0p := fun o1 o2 => cell_al2 b0 o1 o2
                  have b1o := fun o1 => cell_al1 b1 o1
                  have b1p := fun o1 o2 => cell_al2 b1 o1 o2
                  have b2o := fun o1 => cell_al1 b2 o1
                  have b2p := fun o1 o2 => cell_al2 b2 o1 o2
                  have b3o := fun o1 => cell_al1 b3 o1
                  have b3p := fun o1 o2 => cell_al2 b3 o1 o2
                  have b4o := fun o1 => cell_al1 b4 o1
                  have b4p := fun o1 o2 => cell_al2 b4 o1 o2
                  go_region
                  · skip
                    obtain ⟨W5, hW5⟩ : ∃ W5, W5 = ((wr.alloc (.cells #[.int .i64 (fr : Int), .int .i64 (to : Int), .int .i64 (pk : Int), .int .i64 el, .int .i64 tp] 50)).alloc (.cells #[.int .i64 (F : Int), .int .i64 (T : Int), .int .i64 (P : Int), .int .i64 el, .int .i64 tp] 50)).drew := ⟨_, rfl⟩
                    rw [← hW5]
                    have hb5 : Below w5.heap.size w5 W5 := by rw [hW5]; exact ((HI.out.1.alloc HI.out.1.size _).alloc (Nat.le_trans HI.out.1.size (by simp)) _).drew
                    have kx : W5.heap[wr.heap.size]? = some (.cells #[.int .i64 (fr : Int), .int .i64 (to : Int), .int .i64 (pk : Int), .int .i64 el, .int .i64 tp] 50 (0, 0)) := by rw [hW5]; exact heap_alloc2_old _ _ _
                    have ky : W5.heap[wr.heap.size + 1]? = some (.cells #[.int .i64 (F : Int), .int .i64 (T : Int), .int .i64 (P : Int), .int .i64 el, .int .i64 tp] 50 (0, 0)) := by rw [hW5]; exact heap_alloc2_new _ _ _
                    clear a0o a0p a1o a1p a2o a2p a3o a3p a4o a4p b0o b0p b1o b1p b2o b2p b3o b3p b4o b4p a0 a1 a2 a3 a4 b0 b1 b2 b3 b4 hW5
                    obtain ⟨gx, hgx⟩ : ∃ g, wr.heap.size = g := ⟨_, rfl⟩
                    obtain ⟨gy, hgy⟩ : ∃ g, wr.heap.size + 1 = g := ⟨_, rfl⟩
                    rw [hgy, hgx]
                    rw [hgx] at kx
                    rw [hgy] at ky
                    clear hgx hgy
                    have xc0 : W5.cell? ⟨gx, 0, none⟩ = some (.int .i64 (fr : Int)) := cell_of_row _ _ _ _ _ _ kx
                    have xc1 : W5.cell? ⟨gx, 1, none⟩ = some (.int .i64 (to : Int)) := cell_of_row _ _ _ _ _ _ kx
                    have xc2 : W5.cell? ⟨gx, 2, none⟩ = some (.int .i64 (pk : Int)) := cell_of_row _ _ _ _ _ _ kx
                    have xc3 : W5.cell? ⟨gx, 3, none⟩ = some (.int .i64 el) := cell_of_row _ _ _ _ _ _ kx
                    have xc4 : W5.cell? ⟨gx, 4, none⟩ = some (.int .i64 tp) := cell_of_row _ _ _ _ _ _ kx
                    have yc0 : W5.cell? ⟨gy, 0, none⟩ = some (.int .i64 (F : Int)) := cell_of_row _ _ _ _ _ _ ky
                    have yc1 : W5.cell? ⟨gy, 1, none⟩ = some (.int .i64 (T : Int)) := cell_of_row _ _ _ _ _ _ ky
                    have yc2 : W5.cell? ⟨gy, 2, none⟩ = some (.int .i64 (P : Int)) := cell_of_row _ _ _ _ _ _ ky
                    have yc3 : W5.cell? ⟨gy, 3, none⟩ = some (.int .i64 el) := cell_of_row _ _ _ _ _ _ ky
                    have yc4 : W5.cell? ⟨gy, 4, none⟩ = some (.int .i64 tp) := cell_of_row _ _ _ _ _ _ ky
                    have H5 := Lib.hid (And.intro hb5 (And.intro kx ky))
                    clear hb5 kx ky
                    go_wp2_with fail
                    have hbw5 := HS.out.1.trans (H5.out.1.mono HS.out.1.size)
                    refine (HI.out.2.2.1 (some ⟨Ab, ob, none⟩) n c W5 ((HX.out.1.below hbw5).more hbw5.size)).mono ?_
                    rintro en w6 ⟨rfl, hb6⟩
                    clear hbw5 xc0 xc1 xc2 xc3 xc4 yc0 yc1 yc2 yc3 yc4
                    obtain ⟨W6, hW6⟩ : ∃ W6, W6 = w6.alloc (.cells #[.int .i64 x1, .int .i64 x2] 27) := ⟨_, rfl⟩
                    have hb6' : Below W5.heap.size W5 W6 := by rw [hW6]; exact hb6.alloc hb6.size _
                    have ks : W6.heap[w6.heap.size]? = some (.cells #[.int .i64 x1, .int .i64 x2] 27 (0, 0)) := by rw [hW6]; exact heap_alloc_new w6 _
                    have kx := (hb6'.block _ (Array.getElem?_eq_some_iff.1 H5.out.2.1).1).trans H5.out.2.1
                    have ky := (hb6'.block _ (Array.getElem?_eq_some_iff.1 H5.out.2.2).1).trans H5.out.2.2
                    have H6 := Lib.hid (And.intro (H5.out.1.trans (hb6'.mono H5.out.1.size)) (And.intro kx (And.intro ky (And.intro ks hW6))))
                    have yc0 : W6.cell? ⟨gy, 0, none⟩ = some (.int .i64 (F : Int)) := cell_of_row _ _ _ _ _ _ ky
                    have yc1 : W6.cell? ⟨gy, 1, none⟩ = some (.int .i64 (T : Int)) := cell_of_row _ _ _ _ _ _ ky
                    have yc2 : W6.cell? ⟨gy, 2, none⟩ = some (.int .i64 (P : Int)) := cell_of_row _ _ _ _ _ _ ky
                    have yc3 : W6.cell? ⟨gy, 3, none⟩ = some (.int .i64 el) := cell_of_row _ _ _ _ _ _ ky
                    have yc4 : W6.cell? ⟨gy, 4, none⟩ = some (.int .i64 tp) := cell_of_row _ _ _ _ _ _ ky
                    clear hb6 hb6' kx ky ks hW6 H5
                    rw [H6.out.2.2.2.2] at yc0 yc1 yc2 yc3 yc4
                    go_wp2_with fail
                    rw [← H6.out.2.2.2.2]
                    have hbu := H6.out.1
                    refine (HI.out.2.2.2.1 A2 N2 c2 W6 ((HS.out.2.1.below hbu).more hbu.size)).mono ?_
                    rintro en w7 ⟨rfl, hb7⟩
                    clear hbu yc0 yc1 yc2 yc3 yc4
                    obtain ⟨W7, hW7⟩ : ∃ W7, W7 = w7.alloc (.cells #[.int .i64 y1, .int .i64 y2] 27) := ⟨_, rfl⟩
                    have hb7' : Below W6.heap.size W6 W7 := by rw [hW7]; exact hb7.alloc hb7.size _
                    have ku : W7.heap[w7.heap.size]? = some (.cells #[.int .i64 y1, .int .i64 y2] 27 (0, 0)) := by rw [hW7]; exact heap_alloc_new w7 _
                    have kx := (hb7'.block _ (Array.getElem?_eq_some_iff.1 H6.out.2.1).1).trans H6.out.2.1
                    have ks := (hb7'.block _ (Array.getElem?_eq_some_iff.1 H6.out.2.2.2.1).1).trans H6.out.2.2.2.1
                    have H7 := Lib.hid (And.intro (H6.out.1.trans (hb7'.mono H6.out.1.size)) hW7)
                    have xc0 : W7.cell? ⟨gx, 0, none⟩ = some (.int .i64 (fr : Int)) := cell_of_row _ _ _ _ _ _ kx
                    have sc0 : W7.cell? ⟨w6.heap.size, 0, none⟩ = some (.int .i64 x1) := cell_of_row _ _ _ _ _ _ ks
                    have sc1 : W7.cell? ⟨w6.heap.size, 1, none⟩ = some (.int .i64 x2) := cell_of_row _ _ _ _ _ _ ks
                    have uc0 : W7.cell? ⟨w7.heap.size, 0, none⟩ = some (.int .i64 y1) := cell_of_row _ _ _ _ _ _ ku
                    have uc1 : W7.cell? ⟨w7.heap.size, 1, none⟩ = some (.int .i64 y2) := cell_of_row _ _ _ _ _ _ ku
                    clear hb7 hb7' kx ks ku hW7 H6
                    rw [H7.out.2] at xc0 sc0 sc1 uc0 uc1
                    have HF := Lib.hid (show Below w5.heap.size w5 (w7.alloc (.cells #[.int .i64 y1, .int .i64 y2] 27)) by rw [← H7.out.2]; exact H7.out.1)
                    rcases HI.out.2.2.2.2 with ⟨rfl, e5, e6, e7, e8, e9, e10⟩ | ⟨rfl, rfl⟩
                    · go_wp2_with fail
                      go_roundw
                      case rel => exact ⟨i + 1, by omega, by simp, HF.out⟩
                      case measure => simp [intOf]; omega
                    · go_wp2_with fail
                      go_roundw
                      case rel => exact ⟨i + 1, by omega, by simp, HF.out⟩
                      case measure => simp [intOf]; omega
                  · skip
                    obtain ⟨W5, hW5⟩ : ∃ W5, W5 = ((wr.alloc (.cells #[.int .i64 (F : Int), .int .i64 (T : Int), .int .i64 (P : Int), .int .i64 el, .int .i64 tp] 50)).alloc (.cells #[.int .i64 (fr : Int), .int .i64 (to : Int), .int .i64 (pk : Int), .int .i64 el, .int .i64 tp] 50)).drew := ⟨_, rfl⟩
                    rw [← hW5]
                    have hb5 : Below w5.heap.size w5 W5 := by rw [hW5]; exact ((HI.out.1.alloc HI.out.1.size _).alloc (Nat.le_trans HI.out.1.size (by simp)) _).drew
                    have kx : W5.heap[wr.heap.size + 1]? = some (.cells #[.int .i64 (fr : Int), .int .i64 (to : Int), .int .i64 (pk : Int), .int .i64 el, .int .i64 tp] 50 (0, 0)) := by rw [hW5]; exact heap_alloc2_new _ _ _
                    have ky : W5.heap[wr.heap.size]? = some (.cells #[.int .i64 (F : Int), .int .i64 (T : Int), .int .i64 (P : Int), .int .i64 el, .int .i64 tp] 50 (0, 0)) := by rw [hW5]; exact heap_alloc2_old _ _ _
                    clear a0o a0p a1o a1p a2o a2p a3o a3p a4o a4p b0o b0p b1o b1p b2o b2p b3o b3p b4o b4p a0 a1 a2 a3 a4 b0 b1 b2 b3 b4 hW5
                    obtain ⟨gx, hgx⟩ : ∃ g, wr.heap.size + 1 = g := ⟨_, rfl⟩
                    obtain ⟨gy, hgy⟩ : ∃ g, wr.heap.size = g := ⟨_, rfl⟩
                    rw [hgx, hgy]
                    rw [hgx] at kx
                    rw [hgy] at ky
                    clear hgx hgy
                    have xc0 : W5.cell? ⟨gx, 0, none⟩ = some (.int .i64 (fr : Int)) := cell_of_row _ _ _ _ _ _ kx
                    have xc1 : W5.cell? ⟨gx, 1, none⟩ = some (.int .i64 (to : Int)) := cell_of_row _ _ _ _ _ _ kx
                    have xc2 : W5.cell? ⟨gx, 2, none⟩ = some (.int .i64 (pk : Int)) := cell_of_row _ _ _ _ _ _ kx
                    have xc3 : W5.cell? ⟨gx, 3, none⟩ = some (.int .i64 el) := cell_of_row _ _ _ _ _ _ kx
                    have xc4 : W5.cell? ⟨gx, 4, none⟩ = some (.int .i64 tp) := cell_of_row _ _ _ _ _ _ kx
                    have yc0 : W5.cell? ⟨gy, 0, none⟩ = some (.int .i64 (F : Int)) := cell_of_row _ _ _ _ _ _ ky
                    have yc1 : W5.cell? ⟨gy, 1, none⟩ = some (.int .i64 (T : Int)) := cell_of_row _ _ _ _ _ _ ky
                    have yc2 : W5.cell? ⟨gy, 2, none⟩ = some (.int .i64 (P : Int)) := cell_of_row _ _ _ _ _ _ ky
                    have yc3 : W5.cell? ⟨gy, 3, none⟩ = some (.int .i64 el) := cell_of_row _ _ _ _ _ _ ky
                    have yc4 : W5.cell? ⟨gy, 4, none⟩ = some (.int .i64 tp) := cell_of_row _ _ _ _ _ _ ky
                    have H5 := Lib.hid (And.intro hb5 (And.intro kx ky))
                    clear hb5 kx ky
                    go_wp2_with fail
                    have hbw5 := HS.out.1.trans (H5.out.1.mono HS.out.1.size)
                    refine (HI.out.2.2.1 (some ⟨Ab, ob, none⟩) n c W5 ((HX.out.1.below hbw5).more hbw5.size)).mono ?_
                    rintro en w6 ⟨rfl, hb6⟩
                    clear hbw5 xc0 xc1 xc2 xc3 xc4 yc0 yc1 yc2 yc3 yc4
                    obtain ⟨W6, hW6⟩ : ∃ W6, W6 = w6.alloc (.cells #[.int .i64 x1, .int .i64 x2] 27) := ⟨_, rfl⟩
                    have hb6' : Below W5.heap.size W5 W6 := by rw [hW6]; exact hb6.alloc hb6.size _
                    have ks : W6.heap[w6.heap.size]? = some (.cells #[.int .i64 x1, .int .i64 x2] 27 (0, 0)) := by rw [hW6]; exact heap_alloc_new w6 _
                    have kx := (hb6'.block _ (Array.getElem?_eq_some_iff.1 H5.out.2.1).1).trans H5.out.2.1
                    have ky := (hb6'.block _ (Array.getElem?_eq_some_iff.1 H5.out.2.2).1).trans H5.out.2.2
                    have H6 := Lib.hid (And.intro (H5.out.1.trans (hb6'.mono H5.out.1.size)) (And.intro kx (And.intro ky (And.intro ks hW6))))
                    have yc0 : W6.cell? ⟨gy, 0, none⟩ = some (.int .i64 (F : Int)) := cell_of_row _ _ _ _ _ _ ky
                    have yc1 : W6.cell? ⟨gy, 1, none⟩ = some (.int .i64 (T : Int)) := cell_of_row _ _ _ _ _ _ ky
                    have yc2 : W6.cell? ⟨gy, 2, none⟩ = some (.int .i64 (P : Int)) := cell_of_row _ _ _ _ _ _ ky
                    have yc3 : W6.cell? ⟨gy, 3, none⟩ = some (.int .i64 el) := cell_of_row _ _ _ _ _ _ ky
                    have yc4 : W6.cell? ⟨gy, 4, none⟩ = some (.int .i64 tp) := cell_of_row _ _ _ _ _ _ ky
                    clear hb6 hb6' kx ky ks hW6 H5
                    rw [H6.out.2.2.2.2] at yc0 yc1 yc2 yc3 yc4
                    go_wp2_with fail
                    rw [← H6.out.2.2.2.2]
                    have hbu := H6.out.1
                    refine (HI.out.2.2.2.1 A2 N2 c2 W6 ((HS.out.2.1.below hbu).more hbu.size)).mono ?_
                    rintro en w7 ⟨rfl, hb7⟩
                    clear hbu yc0 yc1 yc2 yc3 yc4
                    obtain ⟨W7, hW7⟩ : ∃ W7, W7 = w7.alloc (.cells #[.int .i64 y1, .int .i64 y2] 27) := ⟨_, rfl⟩
                    have hb7' : Below W6.heap.size W6 W7 := by rw [hW7]; exact hb7.alloc hb7.size _
                    have ku : W7.heap[w7.heap.size]? = some (.cells #[.int .i64 y1, .int .i64 y2] 27 (0, 0)) := by rw [hW7]; exact heap_alloc_new w7 _
                    have kx := (hb7'.block _ (Array.getElem?_eq_some_iff.1 H6.out.2.1).1).trans H6.out.2.1
                    have ks := (hb7'.block _ (Array.getElem?_eq_some_iff.1 H6.out.2.2.2.1).1).trans H6.out.2.2.2.1
                    have H7 := Lib.hid (And.intro (H6.out.1.trans (hb7'.mono H6.out.1.size)) hW7)
                    have xc0 : W7.cell? ⟨gx, 0, none⟩ = some (.int .i64 (fr : Int)) := cell_of_row _ _ _ _ _ _ kx
                    have sc0 : W7.cell? ⟨w6.heap.size, 0, none⟩ = some (.int .i64 x1) := cell_of_row _ _ _ _ _ _ ks
                    have sc1 : W7.cell? ⟨w6.heap.size, 1, none⟩ = some (.int .i64 x2) := cell_of_row _ _ _ _ _ _ ks
                    have uc0 : W7.cell? ⟨w7.heap.size, 0, none⟩ = some (.int .i64 y1) := cell_of_row _ _ _ _ _ _ ku
                    have uc1 : W7.cell? ⟨w7.heap.size, 1, none⟩ = some (.int .i64 y2) := cell_of_row _ _ _ _ _ _ ku
                    clear hb7 hb7' kx ks ku hW7 H6
                    rw [H7.out.2] at xc0 sc0 sc1 uc0 uc1
                    have HF := Lib.hid (show Below w5.heap.size w5 (w7.alloc (.cells #[.int .i64 y1, .int .i64 y2] 27)) by rw [← H7.out.2]; exact H7.out.1)
                    rcases HI.out.2.2.2.2 with ⟨rfl, e5, e6, e7, e8, e9, e10⟩ | ⟨rfl, rfl⟩
                    · go_wp2_with fail
                      go_roundw
                      case rel => exact ⟨i + 1, by omega, by simp, HF.out⟩
                      case measure => simp [intOf]; omega
                    · go_wp2_with fail
                      go_roundw
                      case rel => exact ⟨i + 1, by omega, by simp, HF.out⟩
                      case measure => simp [intOf]; omega
                · obtain rfl : i = NE := by omega
                  have HBf := Lib.hid (HS.out.1.trans (hbw.mono HS.out.1.size))
                  clear hbw
                  go_wp2_with fail
                  refine (first_any _).mono ?_
                  rintro e w6 ⟨rfl, hb6⟩
                  go_wp2
                  go_ret
                  exact ⟨rfl, HBf.out.trans (hb6.mono HBf.out.size)⟩
    · have hF := fine_no lv dp st dl hd W0
      clear hd
      go_enter Try.func9, Try.ntmps9
      go_wp2_with (first
        | (go_at_call 26; refine hV.mono ?_; rintro en w' ⟨rfl, rfl⟩)
        | (go_at_call 27; rw [← HW0.out]; refine hF.mono ?_; rintro en w1 ⟨rfl, hb1⟩; have HB1 := Lib.hid (HX.out.2.1.trans (hb1.mono HX.out.2.1.size)); clear hb1 p0 p1 p2 p3))
      refine (first_any _).mono ?_
      rintro e w2 ⟨rfl, hb2⟩
      go_wp2
      go_ret
      exact ⟨rfl, HB1.out.trans (hb2.mono HB1.out.size)⟩
  · rw [decide_eq_false hok] at hV
    clear hok
    go_enter Try.func9, Try.ntmps9
    go_wp2_with (go_at_call 26; refine hV.mono ?_; rintro en w' ⟨rfl, rfl⟩)
    rw [← HW0.out]
    refine (first_any _).mono ?_
    rintro e w2 ⟨rfl, hb2⟩
    go_wp2
    go_ret
    exact ⟨rfl, HX.out.2.1.trans (hb2.mono HX.out.2.1.size)⟩
set_option maxRecDepth 100000 in
theorem lifted (os : Os) (started : os.Started) (H : Type) (enc : TypeId × Value → H) :
    ReturnsInHanded {} Try.checked os 9 .any (Rows.waveDelaysSpec.pre6 enc Try.prog Try.f9 Rows.waveDelaysRow.domain false) (Rows.waveDelaysSpec.post enc Try.prog Try.f9 false true false false) := by
  refine returnsInHanded_of_change (C := Try.checked) ownTry started (by kernel_rfl) Try.func9
    (ChangeSpec.witness6 (enc := enc) (C := Try.checked) false ⟨#[], #[.slice none 0 0, .agg #[.int .i64 0, .int .i64 0, .int .i64 0, .int .i64 0], .int .u8 0], []⟩ 8 (by kernel_rfl) (by kernel_rfl) (by kernel_rfl) (by kernel_rfl)) ?_
  intro W base args ds gs before hval0 hW hcnd _
  have hval : ∀ (j : Nat) t v, Try.f9.params[j]? = some t → args[j]? = some v → Value.okWide Try.prog W .any base t v := hval0
  have hW' := hW
  obtain ⟨p, q, hA0, hV, rfl, hfz, hnd⟩ := hW
  have hA : DataW.TrodAll enc Try.prog W 0 (fun _ => true) true Try.f9.params.toList args.toList ds p := hA0
  rw [Try.params9] at hA hval
  obtain ⟨v0, v1, v2, d0, d1, d2, p0, p1, p2, rfl, rfl, rfl, h0, h1, h2⟩ := trodAll_three hA
  obtain ⟨rfl, rfl⟩ := trodVars_none hV
  obtain ⟨A0, n0, c0, L0, rfl, hB0, hx0⟩ := open_numbers (hval 0 _ v0 rfl rfl) h0
  obtain ⟨lv, dp, st, dl, rfl⟩ := open_detector (hval 1 42 v1 rfl rfl) h1
  obtain ⟨mo, rfl, rfl, rfl, wx2⟩ := open_int Try.underlying5 (hval 2 _ v2 rfl rfl) h2
  clear hA0 hval0
  refine (walk A0 n0 c0 L0 lv dp st dl mo (bounds_u8 wx2) W hx0).mono fun e W' ⟨he, hg⟩ => ?_
  subst he
  exact ⟨_, rfl, post_reads laidOut (by kernel_rfl) hW' rfl (fun _ _ _ => trodAll_mk1 (shut_bool Try.underlying4 _)) (fun _ => rfl) rfl hg (ok_one (by kernel_rfl) rfl (okWide_bool_mk Try.underlying4 _))⟩

theorem over : Rows.waveDelaysRow.holds Try.pinned (OpenSpec.ofChange Rows.waveDelaysSpec) :=
  OpenClaim.holds_of_wide 9 Try.f9 rfl rfl rfl rfl rfl rfl rfl ⟨rfl, rfl, rfl, rfl, rfl⟩ rfl rfl rfl rfl rfl (by kernel_rfl) Try.func9 (by kernel_rfl)
    (of_decide_eq_true (by kernel_rfl)) (by unfold Func.isWrapper; first | (rw [if_pos (by decide +kernel)]; kernel_rfl) | (rw [if_neg (by decide +kernel)]; exact ⟨rfl, rfl⟩))
    (fun os started H enc _ => lifted os started H enc)

theorem proved : Rows.WaveDelaysSaid := over
end Go.Proofs.Ytkcagifljelfoaa.waveDelays
