/-
  The document's Transfer. Made by gen_trd.py.
-/
import Derived.Test.YtkakbeiehggkiaaH40
namespace Go.Proofs.Ytkakbeiehggkiaa
open Go.RowKit Go.Maps
attribute [local go_sem ↓] Go.wp_at_zero Go.wp_at_succ

def lenS : Value → Nat
  | .slice _ n _ => n
  | _ => 0
def RetTd (w : World) (T : Nat) (BB : List (List Nat)) (RR : List (List Ft)) (e : Ending) (w' : World) : Prop :=
  ∃ dv n, e = .returned (.tuple #[dv, .int .i64 ((n : Nat) : Int), .int .i64 0]) ∧ IsN T BB RR n ∧ DlS w' w.heap.size dv (trN T BB RR n).2.2.2 ∧ Below w.heap.size w w'
def OfX (w : World) (T n k a : Nat) (BB : List (List Nat)) (gs gr : Nat) (nx : Int) (F : Hf) (D : List Dl) (dv : Value) (wv : World) : Prop :=
  ∃ k1 : Nat, k ≤ k1 ∧ k1 ≤ n ∧ k1 ≤ a + T ∧ Hid (TrX w w.heap.size gs gr (T : Int) a (BB.take k1) nx F D dv wv)
def TdO (w : World) (T a k2 : Nat) (BB : List (List Nat)) (nx : Int) (F : Hf) (D : List Dl) (Ls : List (List Nat)) (dg : Value) (ps : List (Value × List Nat)) (ov iv : Value) (wv : World) : Prop :=
  ∃ i : Nat, i ≤ Ls.length ∧ iv = .int .i64 (i : Int) ∧ Hid (TxF w w.heap.size w.heap.size (w.heap.size + 1) a (T : Int) (BB.take k2) D.length (fcnt (Ls.take i)) (tkLs (T : Int) (nx, F, D) (Ls.take i)) ov wv) ∧ Hid (Dcs wv 0 0 dg ps)
def TdI (w w7 : World) (lo T a k2 : Nat) (BB : List (List Nat)) (d0 c7 : Nat) (s7 : Rp) (Gr : List Fr) (dg : Value) (ps : List (Value × List Nat)) (ov iv : Value) (wv : World) : Prop :=
  ∃ i : Nat, i ≤ Gr.length ∧ iv = .int .i64 (i : Int) ∧ Hid (TxF w w.heap.size w.heap.size (w.heap.size + 1) a (T : Int) (BB.take k2) d0 (c7 + i) (tkFs (T : Int) s7 (Gr.take i)) ov wv) ∧ Hid (Dcs wv 0 0 dg ps) ∧ Hid (Kept lo w7.heap.size w7 wv) ∧
    Hid (∀ k, ov.ownBlock = some k → k < lo ∨ w7.heap.size ≤ k) ∧ Hid (∀ k, lB wv (w.heap.size + 1) k → k < lo ∨ w7.heap.size ≤ k)
theorem dls_ov {w : World} {base : Nat} {v : Value} {Ds : List Dl} (h : DlS w base v Ds) (hi : Nat) : ∀ k, v.ownBlock = some k → k < w.heap.size ∨ hi ≤ k := fun k hk => .inl (dls_type h hk).2.1
theorem dv_not {w : World} {base : Nat} {v : Value} {Ds : List Dl} (h : DlS w base v Ds) {T : TypeId} (hT : T ≠ 85) : NoT w (fun k => v.ownBlock = some k) T := fun k cs hk e => by
  obtain ⟨_, _, c2, hc2⟩ := dls_type h e
  exact type_ne hk hc2 hT rfl
section
variable {w wr wr' : World} {base gs gr a : Nat} {T nx : Int} {Bs : List (List Nat)} {F : Hf} {D : List Dl} {dv : Value}
theorem lb_ov (h : TrX w base gs gr T a Bs nx F D dv wr) (hb : Below wr.heap.size wr wr') : ∀ k, lB wr' gr k → k < wr.heap.size ∨ wr'.heap.size ≤ k := fun k hk => by
  obtain ⟨Ds, h1, _⟩ := h.rrc
  exact .inl (lB_of h1 ((lB_below hb h.grl).1 hk)).2.1
theorem gr_not (h : TrX w base gs gr T a Bs nx F D dv wr) {Ty : TypeId} (h1 : Ty ≠ 91) (h2 : Ty ≠ 85) : NoT wr (fun k => k = gr ∨ lB wr gr k) Ty := fun k cs hk e => by
  obtain ⟨Ds, hr, _⟩ := h.rrc
  obtain ⟨cr, hcr⟩ := rrc_g hr
  exact e.elim (type_ne hk hcr h1) (lB_not hr hk h2)
theorem dv_no_gr (h : TrX w base gs gr T a Bs nx F D dv wr) : ¬ dv.ownBlock = some gr := fun e => by
  obtain ⟨Ds, hr, _⟩ := h.rrc
  obtain ⟨cr, hcr⟩ := rrc_g hr
  exact dv_not h.dls (by decide) gr cr hcr e
end
/-- The document's sender and receiver, just made. -/
theorem trX_start (w : World) (T : Nat) (BB : List (List Nat)) : TrX w w.heap.size w.heap.size (w.heap.size + 1) (T : Int) 0 (BB.take 0) 0 (fun _ => none) [] (.slice none 0 0)
    ((w.alloc (.cells #[.int .i64 0, .int .i64 (T : Int), .int .i64 0, .slice none 0 0] 101)).alloc (.cells #[.int .i64 0, .int .i64 (T : Int), .int .i64 0, .slice none 0 0] 91)) := by
  have b1 : Below w.heap.size w (w.alloc (.cells #[.int .i64 0, .int .i64 (T : Int), .int .i64 0, .slice none 0 0] 101)) := (Below.refl _ _).alloc (Nat.le_refl _) _
  have hz : (w.alloc (.cells #[.int .i64 0, .int .i64 (T : Int), .int .i64 0, .slice none 0 0] 101)).heap.size = w.heap.size + 1 := by simp
  have b2 := (Below.refl (w.alloc (.cells #[.int .i64 0, .int .i64 (T : Int), .int .i64 0, .slice none 0 0] 101)).heap.size (w.alloc (.cells #[.int .i64 0, .int .i64 (T : Int), .int .i64 0, .slice none 0 0] 101))).alloc (Nat.le_refl _) (.cells #[.int .i64 0, .int .i64 (T : Int), .int .i64 0, .slice none 0 0] 91)
  have hr := heap_alloc_new (w.alloc (.cells #[.int .i64 0, .int .i64 (T : Int), .int .i64 0, .slice none 0 0] 101)) (.cells #[.int .i64 0, .int .i64 (T : Int), .int .i64 0, .slice none 0 0] 91)
  rw [hz] at hr
  have h0 : Rsn (w.alloc (.cells #[.int .i64 0, .int .i64 (T : Int), .int .i64 0, .slice none 0 0] 101)) w.heap.size w.heap.size ((0 : Nat) : Int) (T : Int) 0 [] := ⟨_, heap_alloc_new w _, Nat.le_refl _, [], rfl, World.ownsRow_nil _ _ _ _, fun i h => by simp at h⟩
  refine ⟨by simpa using rsn_below h0 b2, ⟨[], ⟨_, hr, dls_nil _ _⟩, ⟨fun d h => by simp at h, fun k x h => (by cases h), List.Pairwise.nil⟩, by simp⟩, dls_nil _ _, fun k h => by simp [Value.ownBlock] at h, b1.trans (b2.mono b1.size), Nat.le_trans b1.size b2.size, by omega, Nat.le_refl _, by omega⟩

set_option maxRecDepth 100000 in
set_option maxHeartbeats 2000000 in
theorem dtransfer_ok (T n c m c2 : Nat) (A A2 : Option Addr) (X : Nat → List Nat) (V : Nat → Value) (RR : List (List Ft)) (w : World) (hF : ByF w A n X V) (hX : ∀ i, i < n → (X i).length ≤ 1024) (hn : n ≤ 24) (hT : 1 ≤ T ∧ T ≤ 64)
    (hR : RdL w A2 m RR) (hm : m ≤ 70) (hR8 : ∀ Fs ∈ RR, Fs.length ≤ 8) :
    Calls Try.prog 48 #[.slice A n c, .int .i64 (T : Int), .slice A2 m c2] w (RetTd w T ((List.range n).map X) RR) := by
  obtain ⟨BB, hBB⟩ : ∃ BB, BB = (List.range n).map X := ⟨_, rfl⟩
  have hBl : BB.length = n := by rw [hBB]; simp
  have hBX : ∀ Y ∈ BB, Y.length ≤ 1024 ∧ AllB Y := by
    intro Y hY
    rw [hBB] at hY
    obtain ⟨i, hi, rfl⟩ := List.mem_map.1 hY
    have hi' : i < n := by simpa using hi
    obtain ⟨_, _, _, _, _, _, _, _, hB, _⟩ := hF i hi'
    exact ⟨hX i hi', hB⟩
  rw [← hBB]
  have HA := Lib.hid (And.intro hF (And.intro hX (And.intro hR (And.intro hR8 (And.intro hBB (And.intro hBl hBX))))))
  have HS0 := Lib.hid (trX_start w T BB)
  have i0 : ¬ (T : Int) < 1 := by omega
  have i1 : ¬ (64 : Int) < (T : Int) := by omega
  have i2 : ¬ (256 : Int) < (n : Int) := by omega
  clear hF hX hR hR8 hBB hBl hBX
  go_enter Try.func48, Try.ntmps48
  go_wp2
  go_loop [41] (fun iv => ∃ k : Nat, k ≤ n ∧ iv = .int .i64 (k : Int)) (fun iv => n - (intOf1 iv).toNat)
  case atStart => exact ⟨0, Nat.zero_le _, rfl⟩
  case round =>
    obtain ⟨k, hk, rfl⟩ := hrel
    by_cases hkn : k < n
    · obtain ⟨b, o, A', c', rfl, hb, hcell, hv, _, _⟩ := HA.out.1 k hkn
      have h3 := HA.out.2.1 k hkn
      obtain ⟨L, hL⟩ : ∃ L, L = (X k).length := ⟨_, rfl⟩
      rw [hv, ← hL] at hcell
      rw [← hL] at h3
      have i4 : (k : Int) < (n : Int) := by omega
      have i5 : ¬ (1024 : Int) < (L : Int) := by omega
      clear hv hL
      go_wp2
      go_round
      case rel => exact ⟨k + 1, by omega, by go_num⟩
      case measure => simp [intOf1]; omega
    · obtain rfl : n = k := by omega
      obtain ⟨W2, hW2⟩ : ∃ W2, W2 = ((w.alloc (.cells #[.int .i64 0, .int .i64 (T : Int), .int .i64 0, .slice none 0 0] 101)).alloc (.cells #[.int .i64 0, .int .i64 (T : Int), .int .i64 0, .slice none 0 0] 91)) := ⟨_, rfl⟩
      have HW2 := Lib.hid hW2
      have HX0 := Lib.hid (show TxP w T BB RR w.heap.size (w.heap.size + 1) (.slice none 0 0) (.int .i64 0) W2 from ⟨0, 0, 0, 0, fun _ => none, [], by omega, Nat.zero_le _, rfl, Lib.hid ⟨rfl, by rw [hW2]; exact HS0.out, good_start (T : Int), by simp, Nat.le_refl _, by omega, fun i h => absurd h (by omega)⟩⟩)
      clear hW2
      go_wp2_with fail
      rw [← HW2.out]
      obtain ⟨gs, hgs⟩ : ∃ g, g = w.heap.size := ⟨_, rfl⟩
      go_loopw [12, 13] (fun dv iv wr => TxP w T BB RR w.heap.size (w.heap.size + 1) dv iv wr) (fun _ iv _ => 64 - (intOf1 iv).toNat)
      case atStart => exact HX0.out
      case round =>
        obtain ⟨j, k1, a, nx, F, D, hj, hk1, rfl, HR⟩ := hrel
        rw [HA.out.2.2.2.2.2.1] at hk1
        obtain ⟨Ds, hrc, hdsf, hdl⟩ := HR.out.2.1.rrc
        obtain ⟨RA, rc, r0, r1, r2, _⟩ := rrc_cells hrc
        obtain ⟨SA, sc, s0, s1, s2, s3, scap, sf, sgl, _⟩ := rsn_cells HR.out.2.1.rsn
        clear r0 r1 s0 s1 s2 sf
        by_cases hnx : nx < (n : Int)
        · by_cases hj64 : j < 64
          · have i6 : (j : Int) < 64 := by omega
            go_wp2_with fail
            obtain ⟨Ad0, cd0, ed0⟩ := dls_form HR.out.2.1.dls
            subst ed0
            obtain ⟨wo, hwo⟩ : ∃ x, x = wr := ⟨_, rfl⟩
            subst hwo
            have hakT : a ≤ k1 ∧ k1 ≤ a + T := ⟨HR.out.2.2.2.2.1, HR.out.2.2.2.2.2.1⟩
            have HO0 := Lib.hid (show OfX w T n k1 a BB w.heap.size (w.heap.size + 1) nx F D (.slice Ad0 D.length cd0) wo from ⟨k1, Nat.le_refl _, hk1, hakT.2, Lib.hid HR.out.2.1⟩)
            clear r2 s3 hrc hdsf hdl scap sgl
            go_loopw [15] (fun _ wv => OfX w T n k1 a BB w.heap.size (w.heap.size + 1) nx F D (.slice Ad0 D.length cd0) wv) (fun _ wv => n - lenS ((wv.cell? ⟨w.heap.size, 3, none⟩).getD (.bool false)))
            case atStart => exact HO0.out
            case round =>
              obtain ⟨k2, hk12, hk2n, hk2T, HV⟩ := hrel
              have hka : a ≤ k2 := by omega
              have hk0 : (BB.take k2).length = k2 := by rw [List.length_take, HA.out.2.2.2.2.2.1]; omega
              obtain ⟨SA2, sc2, _, _, _, t3, _, _, hsgl, _⟩ := rsn_cells HV.out.rsn
              rw [hk0] at t3
              by_cases h2 : k2 < n
              · obtain ⟨b, o, A', c', rfl, hb, hcell, hv, hXB, hr⟩ := HA.out.1 k2 h2
                have hXl := HA.out.2.1 k2 h2
                have hcell' := (HV.out.bel.cell (p := ⟨b, o + k2, none⟩) hb).trans hcell
                rw [hv] at hcell' hr
                obtain ⟨L, hL⟩ : ∃ L, L = (X k2).length := ⟨_, rfl⟩
                rw [← hL] at hcell' hr hXl
                have i7 : (k2 : Int) < (n : Int) := by omega
                by_cases hfull : a + T ≤ k2
                · have HOf := Lib.hid (roffer_full w.heap.size w.heap.size 0 a (T : Int) (BB.take k2) A' L c' wr HV.out.rsn hXl (by omega) (by omega))
                  have HKM := Lib.hid (show k2 = min BB.length (a + T) by rw [HA.out.2.2.2.2.2.1]; omega)
                  clear hcell hv hr hL hfull
                  go_wp2_with fail
                  refine HOf.out.mono ?_
                  rintro e w3 ⟨rfl, b3⟩
                  obtain ⟨W4, HW4, hw4, HG4, z4⟩ := U0ex w3
                  have HXW := Lib.hid ((HV.out.below b3).below hw4)
                  clear b3 hcell' t3 hw4
                  have hkl : (BB.take k2).length = k2 := by rw [List.length_take, HA.out.2.2.2.2.2.1]; omega
                  have hkA : k2 ≤ 4294967295 := by omega
                  have hkB : k2 - a ≤ 24 := by omega
                  have hkC : k2 ≤ 1024 := by omega
                  go_wp2_with fail
                  rw [← HW4.out]
                  refine (rpending_any w.heap.size w.heap.size 0 a (T : Int) (BB.take k2) _ HXW.out.rsn (by rw [hkl]; exact hkC) (fun i hi => (HA.out.2.2.2.2.2.2 _ (List.mem_of_mem_take (List.getElem_mem hi))).1)).mono ?_
                  rintro e w4 ⟨fv, rfl, hfd, b4⟩
                  rw [hkl] at hfd
                  have HX4 := Lib.hid (HXW.out.below b4)
                  obtain ⟨Fs, hFs⟩ : ∃ Fs, Fs = pF 0 a (BB.take k2) (k2 - a) := ⟨_, rfl⟩
                  rw [← hFs] at hfd
                  have HFD := Lib.hid (frd_frs hfd)
                  have HOKF := Lib.hid (show ∀ f ∈ Fs, okFr2 f by rw [hFs]; exact pkts_ok HA.out.2.2.2.2.2.2 a k2 hkA hka)
                  obtain ⟨Af, cf, ef⟩ := frs_form HFD.out
                  subst ef
                  have hFl : Fs.length = k2 - a := by rw [hFs, pF_len]
                  have HFS := Lib.hid hFs
                  obtain ⟨nf, hnf⟩ : ∃ nf, nf = Fs.length := ⟨_, rfl⟩
                  rw [← hnf]
                  have HNF := Lib.hid hnf
                  have hnb : nf ≤ 24 := by omega
                  clear hfd b4 hFs hFl hnf
                  go_wp2_with fail
                  go_loopw [16, 94] (fun lv iv wp => PkR w4 Fs lv iv wp) (fun _ iv _ => nf - (intOf1 iv).toNat)
                  case atStart => exact ⟨0, Nat.zero_le _, rfl, Lib.hid ⟨[], by simp, dcs_nil _ _ _, Below.refl _ _⟩⟩
                  case round =>
                    obtain ⟨i, hi, rfl, HP⟩ := hrel
                    rw [← HNF.out] at hi
                    by_cases hin : i < nf
                    · have hiF : i < Fs.length := by rw [← HNF.out]; exact hin
                      obtain ⟨ps, hps, hd, hbw⟩ := HP.out
                      have hpl : ps.length = i := by
                        have := congrArg List.length hps
                        rw [List.length_map, List.length_map, List.length_take] at this
                        omega
                      obtain ⟨gf, c3, A3, c3', e2, hgf, p0, p1, p2, hr⟩ := frs_at (frs_below HFD.out hbw) i hiF
                      injection e2 with e3 e4 e5
                      subst e3
                      clear e4 e5
                      obtain ⟨f, hf⟩ : ∃ f, f = Fs[i]'hiF := ⟨_, rfl⟩
                      have hfk : okFr2 f := HOKF.out f (by rw [hf]; exact List.getElem_mem _)
                      rw [← hf] at p0 p1 p2 hr
                      obtain ⟨st, sq, Y⟩ := f
                      simp only at p0 p1 p2 hr
                      obtain ⟨hok, hYB⟩ := hfk
                      simp only at hok hYB
                      obtain ⟨W5, HW5, hw5, HG5, z5⟩ := F0ex wr (st : Int) (sq : Int) (.slice A3 Y.length c3')
                      obtain ⟨g0, g1, g2, gf'⟩ := fr_blk HG5.out (Below.refl _ _)
                      have HPk := Lib.hid (refPack_ok st sq Y hYB A3 Y.length c3' wr.heap.size hok W5 (hr.belowM hw5 (Nat.le_refl _)) hw5.size)
                      have hlY : Y.length ≤ 1024 := hok.2.2.2.2
                      have hst : st < 256 := by have := hok.2.1; omega
                      obtain ⟨P, hP⟩ : ∃ P, P = packL st sq Y := ⟨_, rfl⟩
                      have hPl : P.length ≤ 1048576 := by rw [hP, packL_length]; omega
                      have hPB : AllB P := by rw [hP]; exact packL_all st sq Y hst hYB
                      have hstep : ps.map Prod.snd ++ [P] = (Fs.take (i + 1)).map packFr := by
                        rw [List.take_succ_eq_append_getElem hiF, List.map_append, hps, ← hf, hP]
                        rfl
                      rw [← hP] at HPk
                      have HK := Lib.hid (And.intro hstep (And.intro (dcs_below hd hw5) (And.intro (hbw.trans (hw5.mono hbw.size)) (And.intro hPB (And.intro hPl hpl)))))
                      have i7 : (i : Int) < (nf : Int) := by omega
                      obtain ⟨A0, c0, e0⟩ := dcs_form hd
                      subst e0
                      clear hps hd hbw hr hf hok hYB hP hPl hPB hstep hw5 HP hpl
                      go_wp2_with fail
                      rw [← HW5.out]
                      go_wp2_with fail
                      refine HPk.out.mono ?_
                      rintro e w6 ⟨v6, rfl, o6, b6⟩
                      obtain ⟨A6, c6, e6⟩ := (rb_of_owns o6).2.form
                      subst e6
                      have hEl : El w6 w4.heap.size (.slice A6 P.length c6, P) := ⟨owns_base o6 HK.out.2.2.1.size, HK.out.2.2.2.1, HK.out.2.2.2.2.1⟩
                      have HJ := Lib.hid (And.intro (dcs_below HK.out.2.1 b6) (And.intro (HK.out.2.2.1.trans (b6.mono HK.out.2.2.1.size)) hEl))
                      have hs6 := HJ.out.2.1.size
                      clear o6 b6 hEl
                      go_wp2_with (at_builtin
                                   refine wpList_append_dc rfl (.tmp 103) (.tmp 105) rfl w4.heap.size w4.heap.size _ _ rfl HJ.out.1 (.slice A6 P.length c6, P) HJ.out.2.2 rfl (by have := HK.out.2.2.2.2.2; omega) hs6 ?_
                                   intro v7 w7 hd hO
                                   have hb7 := dcs_only HJ.out.1 hO HJ.out.2.1 hs6
                                   have H7 := Lib.hid (And.intro hd hb7)
                                   clear hd hO hb7)
                      exact ⟨⟨i + 1, by rw [← HNF.out]; omega, by go_num, Lib.hid ⟨_, by rw [List.map_append]; exact HK.out.1, H7.out.1, H7.out.2⟩⟩, by simp [intOf1]; omega⟩
                    · obtain rfl : i = nf := by omega
                      obtain ⟨ps, hps, hd, hbw⟩ := HP.out
                      rw [HNF.out, List.take_length] at hps
                      have HX5 := Lib.hid (HX4.out.below hbw)
                      have HD5 := Lib.hid (And.intro hd (show ps.map Prod.snd = pkts BB a k2 by rw [hps, HFS.out]; rfl))
                      obtain ⟨Ap, cp, ep⟩ := dcs_form hd
                      subst ep
                      obtain ⟨w5, hw5⟩ : ∃ x, x = wr := ⟨_, rfl⟩
                      subst hw5
                      clear hps hd hbw HP
                      by_cases hjm : j < m
                      · have hjR : j < RR.length := by rw [HA.out.2.2.1.1]; exact hjm
                        obtain ⟨b2, o2, A9, c9, hA2, hb2, hc2, hft⟩ := HA.out.2.2.1.2 j hjR
                        subst hA2
                        obtain ⟨Gs, hGs⟩ : ∃ Gs, Gs = RR[j]'hjR := ⟨_, rfl⟩
                        rw [← hGs] at hc2 hft
                        have hG8 : Gs.length ≤ 8 := by rw [hGs]; exact HA.out.2.2.2.1 _ (List.getElem_mem _)
                        have hRj : RR[j]? = some Gs := by rw [hGs]; exact List.getElem?_eq_getElem hjR
                        have hc5 := (HX5.out.bel.cell (p := ⟨b2, o2 + j, none⟩) hb2).trans hc2
                        have hpl : ps.length = k2 - a := by
                          have h := congrArg List.length HD5.out.2
                          rw [List.length_map, pkts_len] at h
                          exact h
                        have HCy := Lib.hid (dcarry_any (c := cp) (inL_dcs HD5.out.1 HD5.out.2) (by rw [hpl]; exact Nat.le_trans hkB (by decide)) (fun Y hY => Nat.le_trans (pkts_size HA.out.2.2.2.2.2.2 a k2 hkA hka Y hY) (by omega)) A9 Gs.length c9 Gs (ftL_belowT hft HX5.out.bel) (by omega))
                        have i8 : (j : Int) < (m : Int) := by omega
                        obtain ⟨lf, hlf⟩ : ∃ l, l = Gs.length := ⟨_, rfl⟩
                        rw [← hlf] at hc5 HCy
                        have HLF := Lib.hid (And.intro hlf (And.intro hG8 hRj))
                        clear hc2 hft hGs hlf hG8 hRj hpl
                        go_wp2_with fail
                        refine HCy.out.mono ?_
                        rintro e w6 ⟨ps6, qv, hqs, rfl, hd6, b6⟩
                        have HX6 := Lib.hid (HX5.out.below b6)
                        have D6 := Lib.hid (dcs_base0 hd6)
                        clear hd6 b6
                        obtain ⟨Ls6, hLs⟩ : ∃ L, L = carried (RR[j]?) (pkts BB a k2) := ⟨_, rfl⟩
                        have hps6 := Lib.hid (show ps6.map Prod.snd = Ls6 by rw [hqs, hLs, HLF.out.2.2]; rfl)
                        have hll : Ls6.length ≤ 32 := by
                          have h := carried_len (R := RR[j]?) (Ls := pkts BB a k2) (fun Hs e => by rw [HLF.out.2.2] at e; injection e with e; rw [← e]; exact HLF.out.2.1)
                          rw [pkts_len] at h
                          rw [hLs]
                          omega
                        have hls := carried_size (R := RR[j]?) (pkts_size HA.out.2.2.2.2.2.2 a k2 hkA hka)
                        rw [← hLs] at hls
                        have hfc := fcnt_le Ls6 (fun L hL => Nat.le_trans (hls L hL) (by omega))
                        have HL6 := Lib.hid (And.intro hll (And.intro hls (And.intro (show fcnt Ls6 ≤ 3200 by omega) (And.intro HKM.out hLs))))
                        clear hLs hll hls hfc
                        clear hqs
                        obtain ⟨A6, c6, e6⟩ := dcs_form D6.out
                        subst e6
                        obtain ⟨nL, hnL⟩ : ∃ nL, nL = Ls6.length := ⟨_, rfl⟩
                        have hp6 : ps6.length = nL := by rw [hnL, ← hps6.out, List.length_map]
                        rw [hp6] at D6 ⊢
                        have HNL := Lib.hid hnL
                        have HP6 := Lib.hid hp6
                        have hnLb : nL ≤ 32 := by have := HL6.out.1; omega
                        have HDL := Lib.hid (show D.length ≤ 13107200 by have := HR.out.2.2.2.1; omega)
                        have HT0 := Lib.hid (show TxF w w.heap.size w.heap.size (w.heap.size + 1) a (T : Int) (BB.take k2) D.length (fcnt (Ls6.take 0)) (tkLs (T : Int) (nx, F, D) (Ls6.take 0)) (.slice Ad0 D.length cd0) w6 from ⟨by simpa [tkLs] using HX6.out, by simpa [tkLs] using HR.out.2.2.1, by simp [tkLs, fcnt]⟩)
                        clear hnL hp6
                        go_wp2_with fail
                        go_loopw [12, 120] (fun ov iv wv => TdO w T a k2 BB nx F D Ls6 (.slice A6 nL c6) ps6 ov iv wv) (fun _ iv _ => nL - (intOf1 iv).toNat)
                        case atStart => exact ⟨0, Nat.zero_le _, rfl, HT0, D6⟩
                        case round =>
                          obtain ⟨i, hi, rfl, HT, HDc⟩ := hrel
                          rw [← HNL.out] at hi
                          by_cases hin : i < nL
                          · have hiL : i < Ls6.length := by rw [← HNL.out]; exact hin
                            have hip : i < ps6.length := by rw [HP6.out]; exact hin
                            obtain ⟨gd, cd, ed, hgd, hcell⟩ := dcs_at HDc.out i hip
                            injection ed with ed1 ed2 ed3
                            subst ed1
                            have hel := HDc.out.els _ (List.getElem_mem hip)
                            obtain ⟨_, hrb⟩ := rb_of_owns hel.1
                            obtain ⟨A', c', hf⟩ := hrb.form
                            obtain ⟨Z, hZe⟩ : ∃ Z, Z = Ls6[i]'hiL := ⟨_, rfl⟩
                            have hZ2 : (ps6[i]'hip).2 = Z := by rw [hZe]; simp [← hps6.out]
                            rw [hZ2] at hf hrb
                            rw [hf] at hcell hrb
                            have hZB : AllB Z := by rw [← hZ2]; exact hel.2.1
                            have hZl : Z.length ≤ 1048576 := by rw [hZe]; exact Nat.le_trans (HL6.out.2.1 _ (List.getElem_mem _)) (by omega)
                            have i9 : (i : Int) < (nL : Int) := by omega
                            have HSc := Lib.hid (refScx_any Z hZB A' Z.length c' wr.heap.size hZl wr hrb (Nat.le_refl _))
                            have hst1 := tkLs_succ (T : Int) (nx, F, D) Ls6 i hiL
                            have hst2 := fcnt_succ Ls6 i hiL
                            rw [← hZe] at hst1 hst2
                            have HST := Lib.hid (And.intro hst1 hst2)
                            have hgrl := HT.out.1.grl
                            clear hel hrb hf hZe hZ2 hZB hZl hst1 hst2 ed2 ed3
                            go_wp2_with fail
                            refine HSc.out.mono ?_
                            rintro e w7 ⟨fv, rfl, hfs, b7⟩
                            obtain ⟨Gr, hGr⟩ : ∃ Gr, Gr = (scanF (Z.length + 1) Z).1 := ⟨_, rfl⟩
                            rw [← hGr] at hfs
                            obtain ⟨s7, hs7⟩ : ∃ s, s = tkLs (T : Int) (nx, F, D) (Ls6.take i) := ⟨_, rfl⟩
                            obtain ⟨c7, hc7⟩ : ∃ c, c = fcnt (Ls6.take i) := ⟨_, rfl⟩
                            have HTr := HT.out
                            rw [← hs7, ← hc7] at HTr
                            have HT1 := Lib.hid (show TxF w w.heap.size w.heap.size (w.heap.size + 1) a (T : Int) (BB.take k2) D.length (c7 + 0) (tkFs (T : Int) s7 (Gr.take 0)) _ w7 from by simpa [tkFs] using txF_below HTr b7)
                            have HDc1 := Lib.hid (dcs_below HDc.out b7)
                            have HO1 := Lib.hid (dls_ov HTr.1.dls w7.heap.size)
                            have HL1 := Lib.hid (lb_ov HTr.1 b7)
                            have HK1 := Lib.hid (show Kept wr.heap.size w7.heap.size w7 w7 from ⟨Nat.le_refl _, fun _ _ _ => rfl⟩)
                            have HFX := Lib.hid hfs
                            obtain ⟨Ag, cg, eg⟩ := frx_form hfs
                            subst eg
                            obtain ⟨ng, hng⟩ : ∃ ng, ng = Gr.length := ⟨_, rfl⟩
                            have hcb : c7 + ng ≤ 3200 := by
                              have h1 := HST.out.2
                              have h2 := fcnt_take Ls6 (i + 1)
                              have h3 := HL6.out.2.2.1
                              rw [← hc7, ← hGr, ← hng] at h1
                              omega
                            have hngb : ng ≤ 3200 := by omega
                            have hs71 := b7.size
                            have HNG := Lib.hid (And.intro hng hcb)
                            have HSS := Lib.hid (And.intro (show tkLs (T : Int) (nx, F, D) (Ls6.take (i + 1)) = tkFs (T : Int) s7 Gr by rw [hs7, hGr]; exact HST.out.1) (show fcnt (Ls6.take (i + 1)) = c7 + ng by rw [hc7, hng, hGr]; exact HST.out.2))
                            rw [← hng] at HFX ⊢
                            clear hfs b7 hGr hs7 hc7 hng hcb hcell HTr
                            go_wp2_with fail
                            obtain ⟨lo, hlo⟩ : ∃ lo, lo = wr.heap.size := ⟨_, rfl⟩
                            rw [← hlo] at HO1 HL1 HK1 HFX hs71 hgrl
                            clear hlo hgd HT HSc HDc
                            go_loopw [12, 134] (fun ov iv wv => TdI w w7 lo T a k2 BB D.length c7 s7 Gr (.slice (some ⟨gd, 0, none⟩) nL c6) ps6 ov iv wv) (fun _ iv _ => ng - (intOf1 iv).toNat)
                            case atStart => exact ⟨0, Nat.zero_le _, rfl, HT1, HDc1, HK1, HO1, HL1⟩
                            case round =>
                              obtain ⟨i2, hi2, rfl, HT2, HDc2, HK2, HO2, HL2⟩ := hrel
                              rw [← HNG.out.1] at hi2
                              by_cases hin2 : i2 < ng
                              · have hiG : i2 < Gr.length := by rw [← HNG.out.1]; exact hin2
                                have hstep := tkFs_succ (T : Int) s7 Gr i2 hiG
                                obtain ⟨gf, c8, A8, c8', e8, hgf, p0, p1, p2, hr⟩ := frx_at HFX.out HK2.out i2 hiG
                                injection e8 with e9 e10 e11
                                subst e9
                                clear e10 e11
                                obtain ⟨f, hf⟩ : ∃ f, f = Gr[i2]'hiG := ⟨_, rfl⟩
                                rw [← hf] at p0 p1 p2 hr hstep
                                obtain ⟨⟨nx1, F1, D1⟩, hs1'⟩ : ∃ s, s = tkFs (T : Int) s7 (Gr.take i2) := ⟨_, rfl⟩
                                have HTr := HT2.out
                                rw [← hs1'] at HTr hstep
                                obtain ⟨fst, sq, Y⟩ := f
                                simp only at p0 p1 p2 hr
                                obtain ⟨Ds1, hrc1, hdf1, hdl1⟩ := HTr.1.rrc
                                have hG1 : GoodR (T : Int) (nx1, F1, D1) := HTr.2.1
                                obtain ⟨ce, hce⟩ : ∃ ce, takeE 0 (T : Int) nx1 F1 (fst : Int) (sq : Int) Y.length = ce := ⟨_, rfl⟩
                                have HTk := Lib.hid (rtakex_any (w.heap.size + 1) w.heap.size 0 (T : Int) nx1 (fst : Int) (sq : Int) F1 Ds1 Y A8 Y.length c8' wr.heap.size wr hrc1 hdf1 hG1.1.inW (by have := dsF_small hdf1 hG1.1 (by omega); omega) ⟨hG1.2.1, hG1.2.2⟩ ⟨by omega, by omega⟩ hr (Nat.le_refl _) HTr.1.siz ce hce)
                                have i9 : (i2 : Int) < (ng : Int) := by omega
                                have HI := Lib.hid (And.intro hstep (And.intro HTr hce))
                                have hkz := HK2.out.1
                                obtain ⟨Ao, co, eo⟩ := dls_form HTr.1.dls
                                subst eo
                                clear hf hs1' hstep hr hce hrc1 hdf1 hdl1 hG1 HTr HT2
                                go_wp2_with fail
                                refine HTk.out.mono ?_
                                rintro e w9 ⟨v9, rfl, ⟨hc0, hv9, b9⟩ | ⟨hc0, mm, Ds9, q1, q2, q3, q4, q5, q6, q7, q8, q9⟩⟩
                                · subst hv9
                                  have HB9 := Lib.hid b9
                                  have HD9 := Lib.hid (dls_below HI.out.2.1.1.dls b9)
                                  have hs9 := b9.size
                                  clear b9
                                  go_wp2_with (at_builtin
                                               refine wpList_append_dls3 rfl (.tmp 146) (.tmp 147) rfl w.heap.size w.heap.size _ _ _ [] rfl HD9.out rfl (dls_nil _ _) (by have h1 : D1.length ≤ D.length + 64 * (c7 + i2) := HI.out.2.1.2.2; have := HNG.out.2; have := HDL.out; simp; omega) (Nat.le_trans HI.out.2.1.1.siz hs9) ?_
                                               intro v10 w10 hD10 hO10 hr10
                                               have H10 := Lib.hid (And.intro hD10 (And.intro hO10 hr10))
                                               clear hD10 hO10 hr10)
                                  have hno := txF_no (f := (fst, sq, Y)) HI.out.2.1 (by show takeE 0 (T : Int) nx1 F1 (fst : Int) (sq : Int) Y.length ≠ 0; rw [HI.out.2.2]; exact hc0) HB9.out H10.out.1 H10.out.2.1 H10.out.2.2
                                  have hdc : Dcs w10 0 0 _ ps6 := dcs_only' (dcs_below HDc2.out HB9.out) H10.out.2.1 (dv_not HD9.out (by decide)) (dv_not HD9.out (by decide))
                                  have hkp : Kept lo w7.heap.size w7 w10 := kept_only (kept_only HK2.out (only_below (S := fun _ => False) HB9.out) (fun _ h => absurd h id)) H10.out.2.1 HO2.out
                                  have hov := ov_next HO2.out H10.out.2.2 (Nat.le_trans hkz hs9)
                                  have hlb : ∀ k, lB w10 (w.heap.size + 1) k → k < lo ∨ w7.heap.size ≤ k := fun k hk => HL2.out k ((lB_below HB9.out HI.out.2.1.1.grl).1 ((lB_only H10.out.2.1 (Nat.lt_of_lt_of_le HI.out.2.1.1.grl hs9) (dv_no_gr (HI.out.2.1.1.below HB9.out))).1 hk))
                                  have HNN := Lib.hid (And.intro hno (And.intro hdc (And.intro hkp (And.intro hov hlb))))
                                  clear hno hdc hkp hov hlb
                                  exact ⟨⟨i2 + 1, by rw [← HNG.out.1]; omega, by go_num, Lib.hid (by rw [HI.out.1]; exact HNN.out.1), Lib.hid HNN.out.2.1, Lib.hid HNN.out.2.2.1, Lib.hid HNN.out.2.2.2.1, Lib.hid HNN.out.2.2.2.2⟩, by simp [intOf1]; omega⟩
                                · subst hc0
                                  have HQ := Lib.hid (And.intro q1 (And.intro q2 (And.intro q3 (And.intro q4 (And.intro q5 (And.intro q6 (And.intro q8 q9)))))))
                                  have hs9 : wr.heap.size ≤ w9.heap.size := q8.size
                                  have HX9 := Lib.hid (HI.out.2.1.1.took q8 q6 q4 q5 q9)
                                  have HE9 := Lib.hid q7
                                  obtain ⟨A10, c10, e10⟩ := dls_form q7
                                  subst e10
                                  have hmm : mm ≤ 64 := by omega
                                  clear q1 q2 q3 q4 q5 q6 q7 q8 q9
                                  go_wp2_with (at_builtin
                                               refine wpList_append_dls3 rfl (.tmp 146) (.tmp 147) rfl w.heap.size wr.heap.size _ _ _ _ rfl HX9.out.dls rfl HE9.out (by have h1 : D1.length ≤ D.length + 64 * (c7 + i2) := HI.out.2.1.2.2; have := HNG.out.2; have := HDL.out; rw [dsOf_len]; omega) HX9.out.siz ?_
                                               intro v10 w10 hD10 hO10 hr10
                                               have H10 := Lib.hid (And.intro hD10 (And.intro hO10 hr10))
                                               clear hD10 hO10 hr10)
                                  have hok := txF_ok (f := (fst, sq, Y)) (by omega : (T : Int) ≤ 64) HI.out.2.1 HI.out.2.2 HQ.out.1 HQ.out.2.1 HQ.out.2.2.1 HQ.out.2.2.2.1 HQ.out.2.2.2.2.1 HQ.out.2.2.2.2.2.1 HQ.out.2.2.2.2.2.2.1 HQ.out.2.2.2.2.2.2.2 H10.out.1 H10.out.2.1 H10.out.2.2
                                  have hdc : Dcs w10 0 0 _ ps6 := dcs_only' (dcs_only' HDc2.out HQ.out.2.2.2.2.2.2.1 (gr_not HI.out.2.1.1 (by decide) (by decide)) (gr_not HI.out.2.1.1 (by decide) (by decide))) H10.out.2.1 (dv_not HX9.out.dls (by decide)) (dv_not HX9.out.dls (by decide))
                                  have hkp : Kept lo w7.heap.size w7 w10 := kept_only (kept_only HK2.out HQ.out.2.2.2.2.2.2.1 (fun k e => e.elim (fun e => .inl (by omega)) (HL2.out k))) H10.out.2.1 HO2.out
                                  have hov := ov_next HO2.out H10.out.2.2 (Nat.le_trans hkz hs9)
                                  have hlb : ∀ k, lB w10 (w.heap.size + 1) k → k < lo ∨ w7.heap.size ≤ k := fun k hk => (HQ.out.2.2.2.2.2.2.2 k ((lB_only H10.out.2.1 HX9.out.grl (dv_no_gr HX9.out)).1 hk)).elim (HL2.out k) (fun e => .inr (Nat.le_trans hkz e))
                                  have HNN := Lib.hid (And.intro hok (And.intro hdc (And.intro hkp (And.intro hov hlb))))
                                  clear hok hdc hkp hov hlb
                                  exact ⟨⟨i2 + 1, by rw [← HNG.out.1]; omega, by go_num, Lib.hid (by rw [HI.out.1]; exact HNN.out.1), Lib.hid HNN.out.2.1, Lib.hid HNN.out.2.2.1, Lib.hid HNN.out.2.2.2.1, Lib.hid HNN.out.2.2.2.2⟩, by simp [intOf1]; omega⟩
                              · obtain rfl : i2 = ng := by omega
                                have hT := HT2.out
                                rw [HNG.out.1, List.take_length, ← HNG.out.1, ← HSS.out.1, ← HSS.out.2] at hT
                                have HTT := Lib.hid hT
                                clear hT HT2
                                go_wp2
                                exact ⟨⟨i + 1, by rw [← HNL.out]; omega, by go_num, HTT, HDc2⟩, by simp [intOf1]; omega⟩
                          · obtain rfl : i = nL := by omega
                            have hT := HT.out
                            rw [HNL.out, List.take_length] at hT
                            obtain ⟨⟨nx8, F8, D8⟩, hs8⟩ : ∃ s, s = tkLs (T : Int) (nx, F, D) Ls6 := ⟨_, rfl⟩
                            rw [← hs8] at hT
                            have HTT := Lib.hid (And.intro hT hs8)
                            obtain ⟨Ds8, hrc8, _, _⟩ := hT.1.rrc
                            obtain ⟨RA8, rc8, _, _, r28, _⟩ := rrc_cells hrc8
                            obtain ⟨A11, c11, e11⟩ := dls_form hT.1.dls
                            subst e11
                            have hGn : 0 ≤ nx8 := hT.2.1.2.1
                            clear hT HT hs8 hrc8
                            by_cases hack : (a : Int) ≤ nx8 ∧ nx8 ≤ (k2 : Int)
                            · obtain ⟨p, hp⟩ : ∃ p : Nat, nx8 = (p : Int) := ⟨nx8.toNat, by omega⟩
                              rw [hp] at r28
                              go_wp2_with fail
                              refine (rack_yes w.heap.size w.heap.size 0 a p (T : Int) (BB.take k2) wr HTT.out.1.1.rsn (by omega) (by rw [hkl]; omega)).mono ?_
                              rintro e w12 ⟨rfl, hS12, hO12⟩
                              have HX12 := Lib.hid (HTT.out.1.1.sent (hO12.mono (fun k _ e => .inl e)) hS12)
                              clear hS12 hO12
                              go_wp2
                              refine ⟨txP_next (a2 := p) (Ls := Ls6) HR.out.1 HL6.out.2.2.2.1 HL6.out.2.2.2.2 hka ?_ ?_ ?_ ?_ (by omega) HR.out.2.2.2.2.2.2 (by rw [HA.out.2.2.2.2.2.1]; exact hnx) (by go_num), by simp [intOf1]; omega⟩
                              · rw [← HTT.out.2, if_pos hack]; show p = nx8.toNat; omega
                              · rw [← HTT.out.2]; exact HX12.out
                              · rw [← HTT.out.2]; exact HTT.out.1.2.1
                              · rw [← HTT.out.2]; show D8.length ≤ _; have h1 : D8.length ≤ D.length + 64 * fcnt Ls6 := HTT.out.1.2.2; have := HL6.out.2.2.1; have := HR.out.2.2.2.1; omega
                            · go_wp2_with fail
                              refine (rack_no w.heap.size w.heap.size 0 a nx8 (T : Int) (BB.take k2) wr HTT.out.1.1.rsn (by rw [hkl]; omega)).mono ?_
                              rintro e w12 ⟨rfl, rfl⟩
                              go_wp2
                              refine ⟨txP_next (a2 := a) (Ls := Ls6) HR.out.1 HL6.out.2.2.2.1 HL6.out.2.2.2.2 hka ?_ ?_ ?_ ?_ (by omega) HR.out.2.2.2.2.2.2 (by rw [HA.out.2.2.2.2.2.1]; exact hnx) (by go_num), by simp [intOf1]; omega⟩
                              · rw [← HTT.out.2, if_neg hack]
                              · rw [← HTT.out.2]; exact HTT.out.1.1
                              · rw [← HTT.out.2]; exact HTT.out.1.2.1
                              · rw [← HTT.out.2]; show D8.length ≤ _; have h1 : D8.length ≤ D.length + 64 * fcnt Ls6 := HTT.out.1.2.2; have := HL6.out.2.2.1; have := HR.out.2.2.2.1; omega
                      · have i8 : ¬ (j : Int) < (m : Int) := by omega
                        have hRj : RR[j]? = none := List.getElem?_eq_none (by rw [HA.out.2.2.1.1]; omega)
                        obtain ⟨w6, hw6⟩ : ∃ x, x = w5 := ⟨_, rfl⟩
                        subst hw6
                        obtain ⟨ps6, hp6⟩ : ∃ x, x = ps := ⟨_, rfl⟩
                        subst hp6
                        have HX6 := HX5
                        have D6 := Lib.hid (dcs_base0 HD5.out.1)
                        obtain ⟨Ls6, hLs⟩ : ∃ L, L = carried (RR[j]?) (pkts BB a k2) := ⟨_, rfl⟩
                        have hps6 := Lib.hid (show ps6.map Prod.snd = Ls6 by rw [HD5.out.2, hLs, hRj]; rfl)
                        have hll : Ls6.length ≤ 32 := by
                          have h := carried_len (R := RR[j]?) (Ls := pkts BB a k2) (fun Hs e => by rw [hRj] at e; cases e)
                          rw [pkts_len] at h
                          rw [hLs]
                          omega
                        have hls := carried_size (R := RR[j]?) (pkts_size HA.out.2.2.2.2.2.2 a k2 hkA hka)
                        rw [← hLs] at hls
                        have hfc := fcnt_le Ls6 (fun L hL => Nat.le_trans (hls L hL) (by omega))
                        have HL6 := Lib.hid (And.intro hll (And.intro hls (And.intro (show fcnt Ls6 ≤ 3200 by omega) (And.intro HKM.out hLs))))
                        clear hLs hll hls hfc
                        clear hRj
                        obtain ⟨A6, hA6⟩ : ∃ x, x = Ap := ⟨_, rfl⟩
                        subst hA6
                        obtain ⟨c6, hc6⟩ : ∃ x, x = cp := ⟨_, rfl⟩
                        subst hc6
                        obtain ⟨nL, hnL⟩ : ∃ nL, nL = Ls6.length := ⟨_, rfl⟩
                        have hp6 : ps6.length = nL := by rw [hnL, ← hps6.out, List.length_map]
                        rw [hp6] at D6 ⊢
                        have HNL := Lib.hid hnL
                        have HP6 := Lib.hid hp6
                        have hnLb : nL ≤ 32 := by have := HL6.out.1; omega
                        have HDL := Lib.hid (show D.length ≤ 13107200 by have := HR.out.2.2.2.1; omega)
                        have HT0 := Lib.hid (show TxF w w.heap.size w.heap.size (w.heap.size + 1) a (T : Int) (BB.take k2) D.length (fcnt (Ls6.take 0)) (tkLs (T : Int) (nx, F, D) (Ls6.take 0)) (.slice Ad0 D.length cd0) w6 from ⟨by simpa [tkLs] using HX6.out, by simpa [tkLs] using HR.out.2.2.1, by simp [tkLs, fcnt]⟩)
                        clear hnL hp6
                        go_wp2_with fail
                        go_loopw [12, 120] (fun ov iv wv => TdO w T a k2 BB nx F D Ls6 (.slice A6 nL c6) ps6 ov iv wv) (fun _ iv _ => nL - (intOf1 iv).toNat)
                        case atStart => exact ⟨0, Nat.zero_le _, rfl, HT0, D6⟩
                        case round =>
                          obtain ⟨i, hi, rfl, HT, HDc⟩ := hrel
                          rw [← HNL.out] at hi
                          by_cases hin : i < nL
                          · have hiL : i < Ls6.length := by rw [← HNL.out]; exact hin
                            have hip : i < ps6.length := by rw [HP6.out]; exact hin
                            obtain ⟨gd, cd, ed, hgd, hcell⟩ := dcs_at HDc.out i hip
                            injection ed with ed1 ed2 ed3
                            subst ed1
                            have hel := HDc.out.els _ (List.getElem_mem hip)
                            obtain ⟨_, hrb⟩ := rb_of_owns hel.1
                            obtain ⟨A', c', hf⟩ := hrb.form
                            obtain ⟨Z, hZe⟩ : ∃ Z, Z = Ls6[i]'hiL := ⟨_, rfl⟩
                            have hZ2 : (ps6[i]'hip).2 = Z := by rw [hZe]; simp [← hps6.out]
                            rw [hZ2] at hf hrb
                            rw [hf] at hcell hrb
                            have hZB : AllB Z := by rw [← hZ2]; exact hel.2.1
                            have hZl : Z.length ≤ 1048576 := by rw [hZe]; exact Nat.le_trans (HL6.out.2.1 _ (List.getElem_mem _)) (by omega)
                            have i9 : (i : Int) < (nL : Int) := by omega
                            have HSc := Lib.hid (refScx_any Z hZB A' Z.length c' wr.heap.size hZl wr hrb (Nat.le_refl _))
                            have hst1 := tkLs_succ (T : Int) (nx, F, D) Ls6 i hiL
                            have hst2 := fcnt_succ Ls6 i hiL
                            rw [← hZe] at hst1 hst2
                            have HST := Lib.hid (And.intro hst1 hst2)
                            have hgrl := HT.out.1.grl
                            clear hel hrb hf hZe hZ2 hZB hZl hst1 hst2 ed2 ed3
                            go_wp2_with fail
                            refine HSc.out.mono ?_
                            rintro e w7 ⟨fv, rfl, hfs, b7⟩
                            obtain ⟨Gr, hGr⟩ : ∃ Gr, Gr = (scanF (Z.length + 1) Z).1 := ⟨_, rfl⟩
                            rw [← hGr] at hfs
                            obtain ⟨s7, hs7⟩ : ∃ s, s = tkLs (T : Int) (nx, F, D) (Ls6.take i) := ⟨_, rfl⟩
                            obtain ⟨c7, hc7⟩ : ∃ c, c = fcnt (Ls6.take i) := ⟨_, rfl⟩
                            have HTr := HT.out
                            rw [← hs7, ← hc7] at HTr
                            have HT1 := Lib.hid (show TxF w w.heap.size w.heap.size (w.heap.size + 1) a (T : Int) (BB.take k2) D.length (c7 + 0) (tkFs (T : Int) s7 (Gr.take 0)) _ w7 from by simpa [tkFs] using txF_below HTr b7)
                            have HDc1 := Lib.hid (dcs_below HDc.out b7)
                            have HO1 := Lib.hid (dls_ov HTr.1.dls w7.heap.size)
                            have HL1 := Lib.hid (lb_ov HTr.1 b7)
                            have HK1 := Lib.hid (show Kept wr.heap.size w7.heap.size w7 w7 from ⟨Nat.le_refl _, fun _ _ _ => rfl⟩)
                            have HFX := Lib.hid hfs
                            obtain ⟨Ag, cg, eg⟩ := frx_form hfs
                            subst eg
                            obtain ⟨ng, hng⟩ : ∃ ng, ng = Gr.length := ⟨_, rfl⟩
                            have hcb : c7 + ng ≤ 3200 := by
                              have h1 := HST.out.2
                              have h2 := fcnt_take Ls6 (i + 1)
                              have h3 := HL6.out.2.2.1
                              rw [← hc7, ← hGr, ← hng] at h1
                              omega
                            have hngb : ng ≤ 3200 := by omega
                            have hs71 := b7.size
                            have HNG := Lib.hid (And.intro hng hcb)
                            have HSS := Lib.hid (And.intro (show tkLs (T : Int) (nx, F, D) (Ls6.take (i + 1)) = tkFs (T : Int) s7 Gr by rw [hs7, hGr]; exact HST.out.1) (show fcnt (Ls6.take (i + 1)) = c7 + ng by rw [hc7, hng, hGr]; exact HST.out.2))
                            rw [← hng] at HFX ⊢
                            clear hfs b7 hGr hs7 hc7 hng hcb hcell HTr
                            go_wp2_with fail
                            obtain ⟨lo, hlo⟩ : ∃ lo, lo = wr.heap.size := ⟨_, rfl⟩
                            rw [← hlo] at HO1 HL1 HK1 HFX hs71 hgrl
                            clear hlo hgd HT HSc HDc
                            go_loopw [12, 134] (fun ov iv wv => TdI w w7 lo T a k2 BB D.length c7 s7 Gr (.slice (some ⟨gd, 0, none⟩) nL c6) ps6 ov iv wv) (fun _ iv _ => ng - (intOf1 iv).toNat)
                            case atStart => exact ⟨0, Nat.zero_le _, rfl, HT1, HDc1, HK1, HO1, HL1⟩
                            case round =>
                              obtain ⟨i2, hi2, rfl, HT2, HDc2, HK2, HO2, HL2⟩ := hrel
                              rw [← HNG.out.1] at hi2
                              by_cases hin2 : i2 < ng
                              · have hiG : i2 < Gr.length := by rw [← HNG.out.1]; exact hin2
                                have hstep := tkFs_succ (T : Int) s7 Gr i2 hiG
                                obtain ⟨gf, c8, A8, c8', e8, hgf, p0, p1, p2, hr⟩ := frx_at HFX.out HK2.out i2 hiG
                                injection e8 with e9 e10 e11
                                subst e9
                                clear e10 e11
                                obtain ⟨f, hf⟩ : ∃ f, f = Gr[i2]'hiG := ⟨_, rfl⟩
                                rw [← hf] at p0 p1 p2 hr hstep
                                obtain ⟨⟨nx1, F1, D1⟩, hs1'⟩ : ∃ s, s = tkFs (T : Int) s7 (Gr.take i2) := ⟨_, rfl⟩
                                have HTr := HT2.out
                                rw [← hs1'] at HTr hstep
                                obtain ⟨fst, sq, Y⟩ := f
                                simp only at p0 p1 p2 hr
                                obtain ⟨Ds1, hrc1, hdf1, hdl1⟩ := HTr.1.rrc
                                have hG1 : GoodR (T : Int) (nx1, F1, D1) := HTr.2.1
                                obtain ⟨ce, hce⟩ : ∃ ce, takeE 0 (T : Int) nx1 F1 (fst : Int) (sq : Int) Y.length = ce := ⟨_, rfl⟩
                                have HTk := Lib.hid (rtakex_any (w.heap.size + 1) w.heap.size 0 (T : Int) nx1 (fst : Int) (sq : Int) F1 Ds1 Y A8 Y.length c8' wr.heap.size wr hrc1 hdf1 hG1.1.inW (by have := dsF_small hdf1 hG1.1 (by omega); omega) ⟨hG1.2.1, hG1.2.2⟩ ⟨by omega, by omega⟩ hr (Nat.le_refl _) HTr.1.siz ce hce)
                                have i9 : (i2 : Int) < (ng : Int) := by omega
                                have HI := Lib.hid (And.intro hstep (And.intro HTr hce))
                                have hkz := HK2.out.1
                                obtain ⟨Ao, co, eo⟩ := dls_form HTr.1.dls
                                subst eo
                                clear hf hs1' hstep hr hce hrc1 hdf1 hdl1 hG1 HTr HT2
                                go_wp2_with fail
                                refine HTk.out.mono ?_
                                rintro e w9 ⟨v9, rfl, ⟨hc0, hv9, b9⟩ | ⟨hc0, mm, Ds9, q1, q2, q3, q4, q5, q6, q7, q8, q9⟩⟩
                                · subst hv9
                                  have HB9 := Lib.hid b9
                                  have HD9 := Lib.hid (dls_below HI.out.2.1.1.dls b9)
                                  have hs9 := b9.size
                                  clear b9
                                  go_wp2_with (at_builtin
                                               refine wpList_append_dls3 rfl (.tmp 146) (.tmp 147) rfl w.heap.size w.heap.size _ _ _ [] rfl HD9.out rfl (dls_nil _ _) (by have h1 : D1.length ≤ D.length + 64 * (c7 + i2) := HI.out.2.1.2.2; have := HNG.out.2; have := HDL.out; simp; omega) (Nat.le_trans HI.out.2.1.1.siz hs9) ?_
                                               intro v10 w10 hD10 hO10 hr10
                                               have H10 := Lib.hid (And.intro hD10 (And.intro hO10 hr10))
                                               clear hD10 hO10 hr10)
                                  have hno := txF_no (f := (fst, sq, Y)) HI.out.2.1 (by show takeE 0 (T : Int) nx1 F1 (fst : Int) (sq : Int) Y.length ≠ 0; rw [HI.out.2.2]; exact hc0) HB9.out H10.out.1 H10.out.2.1 H10.out.2.2
                                  have hdc : Dcs w10 0 0 _ ps6 := dcs_only' (dcs_below HDc2.out HB9.out) H10.out.2.1 (dv_not HD9.out (by decide)) (dv_not HD9.out (by decide))
                                  have hkp : Kept lo w7.heap.size w7 w10 := kept_only (kept_only HK2.out (only_below (S := fun _ => False) HB9.out) (fun _ h => absurd h id)) H10.out.2.1 HO2.out
                                  have hov := ov_next HO2.out H10.out.2.2 (Nat.le_trans hkz hs9)
                                  have hlb : ∀ k, lB w10 (w.heap.size + 1) k → k < lo ∨ w7.heap.size ≤ k := fun k hk => HL2.out k ((lB_below HB9.out HI.out.2.1.1.grl).1 ((lB_only H10.out.2.1 (Nat.lt_of_lt_of_le HI.out.2.1.1.grl hs9) (dv_no_gr (HI.out.2.1.1.below HB9.out))).1 hk))
                                  have HNN := Lib.hid (And.intro hno (And.intro hdc (And.intro hkp (And.intro hov hlb))))
                                  clear hno hdc hkp hov hlb
                                  exact ⟨⟨i2 + 1, by rw [← HNG.out.1]; omega, by go_num, Lib.hid (by rw [HI.out.1]; exact HNN.out.1), Lib.hid HNN.out.2.1, Lib.hid HNN.out.2.2.1, Lib.hid HNN.out.2.2.2.1, Lib.hid HNN.out.2.2.2.2⟩, by simp [intOf1]; omega⟩
                                · subst hc0
                                  have HQ := Lib.hid (And.intro q1 (And.intro q2 (And.intro q3 (And.intro q4 (And.intro q5 (And.intro q6 (And.intro q8 q9)))))))
                                  have hs9 : wr.heap.size ≤ w9.heap.size := q8.size
                                  have HX9 := Lib.hid (HI.out.2.1.1.took q8 q6 q4 q5 q9)
                                  have HE9 := Lib.hid q7
                                  obtain ⟨A10, c10, e10⟩ := dls_form q7
                                  subst e10
                                  have hmm : mm ≤ 64 := by omega
                                  clear q1 q2 q3 q4 q5 q6 q7 q8 q9
                                  go_wp2_with (at_builtin
                                               refine wpList_append_dls3 rfl (.tmp 146) (.tmp 147) rfl w.heap.size wr.heap.size _ _ _ _ rfl HX9.out.dls rfl HE9.out (by have h1 : D1.length ≤ D.length + 64 * (c7 + i2) := HI.out.2.1.2.2; have := HNG.out.2; have := HDL.out; rw [dsOf_len]; omega) HX9.out.siz ?_
                                               intro v10 w10 hD10 hO10 hr10
                                               have H10 := Lib.hid (And.intro hD10 (And.intro hO10 hr10))
                                               clear hD10 hO10 hr10)
                                  have hok := txF_ok (f := (fst, sq, Y)) (by omega : (T : Int) ≤ 64) HI.out.2.1 HI.out.2.2 HQ.out.1 HQ.out.2.1 HQ.out.2.2.1 HQ.out.2.2.2.1 HQ.out.2.2.2.2.1 HQ.out.2.2.2.2.2.1 HQ.out.2.2.2.2.2.2.1 HQ.out.2.2.2.2.2.2.2 H10.out.1 H10.out.2.1 H10.out.2.2
                                  have hdc : Dcs w10 0 0 _ ps6 := dcs_only' (dcs_only' HDc2.out HQ.out.2.2.2.2.2.2.1 (gr_not HI.out.2.1.1 (by decide) (by decide)) (gr_not HI.out.2.1.1 (by decide) (by decide))) H10.out.2.1 (dv_not HX9.out.dls (by decide)) (dv_not HX9.out.dls (by decide))
                                  have hkp : Kept lo w7.heap.size w7 w10 := kept_only (kept_only HK2.out HQ.out.2.2.2.2.2.2.1 (fun k e => e.elim (fun e => .inl (by omega)) (HL2.out k))) H10.out.2.1 HO2.out
                                  have hov := ov_next HO2.out H10.out.2.2 (Nat.le_trans hkz hs9)
                                  have hlb : ∀ k, lB w10 (w.heap.size + 1) k → k < lo ∨ w7.heap.size ≤ k := fun k hk => (HQ.out.2.2.2.2.2.2.2 k ((lB_only H10.out.2.1 HX9.out.grl (dv_no_gr HX9.out)).1 hk)).elim (HL2.out k) (fun e => .inr (Nat.le_trans hkz e))
                                  have HNN := Lib.hid (And.intro hok (And.intro hdc (And.intro hkp (And.intro hov hlb))))
                                  clear hok hdc hkp hov hlb
                                  exact ⟨⟨i2 + 1, by rw [← HNG.out.1]; omega, by go_num, Lib.hid (by rw [HI.out.1]; exact HNN.out.1), Lib.hid HNN.out.2.1, Lib.hid HNN.out.2.2.1, Lib.hid HNN.out.2.2.2.1, Lib.hid HNN.out.2.2.2.2⟩, by simp [intOf1]; omega⟩
                              · obtain rfl : i2 = ng := by omega
                                have hT := HT2.out
                                rw [HNG.out.1, List.take_length, ← HNG.out.1, ← HSS.out.1, ← HSS.out.2] at hT
                                have HTT := Lib.hid hT
                                clear hT HT2
                                go_wp2
                                exact ⟨⟨i + 1, by rw [← HNL.out]; omega, by go_num, HTT, HDc2⟩, by simp [intOf1]; omega⟩
                          · obtain rfl : i = nL := by omega
                            have hT := HT.out
                            rw [HNL.out, List.take_length] at hT
                            obtain ⟨⟨nx8, F8, D8⟩, hs8⟩ : ∃ s, s = tkLs (T : Int) (nx, F, D) Ls6 := ⟨_, rfl⟩
                            rw [← hs8] at hT
                            have HTT := Lib.hid (And.intro hT hs8)
                            obtain ⟨Ds8, hrc8, _, _⟩ := hT.1.rrc
                            obtain ⟨RA8, rc8, _, _, r28, _⟩ := rrc_cells hrc8
                            obtain ⟨A11, c11, e11⟩ := dls_form hT.1.dls
                            subst e11
                            have hGn : 0 ≤ nx8 := hT.2.1.2.1
                            clear hT HT hs8 hrc8
                            by_cases hack : (a : Int) ≤ nx8 ∧ nx8 ≤ (k2 : Int)
                            · obtain ⟨p, hp⟩ : ∃ p : Nat, nx8 = (p : Int) := ⟨nx8.toNat, by omega⟩
                              rw [hp] at r28
                              go_wp2_with fail
                              refine (rack_yes w.heap.size w.heap.size 0 a p (T : Int) (BB.take k2) wr HTT.out.1.1.rsn (by omega) (by rw [hkl]; omega)).mono ?_
                              rintro e w12 ⟨rfl, hS12, hO12⟩
                              have HX12 := Lib.hid (HTT.out.1.1.sent (hO12.mono (fun k _ e => .inl e)) hS12)
                              clear hS12 hO12
                              go_wp2
                              refine ⟨txP_next (a2 := p) (Ls := Ls6) HR.out.1 HL6.out.2.2.2.1 HL6.out.2.2.2.2 hka ?_ ?_ ?_ ?_ (by omega) HR.out.2.2.2.2.2.2 (by rw [HA.out.2.2.2.2.2.1]; exact hnx) (by go_num), by simp [intOf1]; omega⟩
                              · rw [← HTT.out.2, if_pos hack]; show p = nx8.toNat; omega
                              · rw [← HTT.out.2]; exact HX12.out
                              · rw [← HTT.out.2]; exact HTT.out.1.2.1
                              · rw [← HTT.out.2]; show D8.length ≤ _; have h1 : D8.length ≤ D.length + 64 * fcnt Ls6 := HTT.out.1.2.2; have := HL6.out.2.2.1; have := HR.out.2.2.2.1; omega
                            · go_wp2_with fail
                              refine (rack_no w.heap.size w.heap.size 0 a nx8 (T : Int) (BB.take k2) wr HTT.out.1.1.rsn (by rw [hkl]; omega)).mono ?_
                              rintro e w12 ⟨rfl, rfl⟩
                              go_wp2
                              refine ⟨txP_next (a2 := a) (Ls := Ls6) HR.out.1 HL6.out.2.2.2.1 HL6.out.2.2.2.2 hka ?_ ?_ ?_ ?_ (by omega) HR.out.2.2.2.2.2.2 (by rw [HA.out.2.2.2.2.2.1]; exact hnx) (by go_num), by simp [intOf1]; omega⟩
                              · rw [← HTT.out.2, if_neg hack]
                              · rw [← HTT.out.2]; exact HTT.out.1.1
                              · rw [← HTT.out.2]; exact HTT.out.1.2.1
                              · rw [← HTT.out.2]; show D8.length ≤ _; have h1 : D8.length ≤ D.length + 64 * fcnt Ls6 := HTT.out.1.2.2; have := HL6.out.2.2.1; have := HR.out.2.2.2.1; omega
                · have HOf := Lib.hid (roffer_ok w.heap.size w.heap.size 0 a (T : Int) (BB.take k2) (X k2) A' L c' w.heap.size wr HV.out.rsn (hr.belowM HV.out.bel (Nat.le_refl _)) HV.out.siz HV.out.siz hXl (by omega) (by omega))
                  have hnext : BB.take k2 ++ [X k2] = BB.take (k2 + 1) := by
                    rw [List.take_succ_eq_append_getElem (by rw [HA.out.2.2.2.2.2.1]; exact h2)]
                    congr 2
                    simp [HA.out.2.2.2.2.1]
                  have HNX := Lib.hid hnext
                  have hk2T1 : k2 + 1 ≤ a + T := by omega
                  clear hcell hv hr hL hfull hnext
                  go_wp2_with fail
                  refine HOf.out.mono ?_
                  rintro e w3 ⟨v3, rfl, hB3, hS3, hO3⟩
                  rw [HNX.out] at hS3
                  have HX3 := Lib.hid (HV.out.sent hO3 hS3)
                  obtain ⟨A3, c3, e3⟩ := (bd_rb hB3).form
                  subst e3
                  obtain ⟨SA3, sc3, _, _, _, t4, _, _, hsg3, _⟩ := rsn_cells hS3
                  have hk3 : (BB.take (k2 + 1)).length = k2 + 1 := by rw [List.length_take, HA.out.2.2.2.2.2.1]; omega
                  rw [hk3] at t4
                  have T3 := Lib.hid t3
                  have T4 := Lib.hid (fun o => ((Below.refl w3.heap.size w3).alloc (Nat.le_refl _) o).cell (p := ⟨w.heap.size, 3, none⟩) hsg3 |>.trans t4)
                  clear hB3 hS3 hO3 t3 t4 hcell'
                  go_wp2
                  refine ⟨⟨k2 + 1, by omega, by omega, hk2T1, Lib.hid (HX3.out.below ((Below.refl _ _).alloc (Nat.le_refl _) _))⟩, ?_⟩
                  rw [T3.out]
                  simp only [T4.out, Option.getD_some, lenS]
                  omega
              · obtain rfl : k2 = n := by omega
                have HKM := Lib.hid (show k2 = min BB.length (a + T) by rw [HA.out.2.2.2.2.2.1]; omega)
                have hkl : (BB.take k2).length = k2 := by rw [List.length_take, HA.out.2.2.2.2.2.1]; omega
                have hkA : k2 ≤ 4294967295 := by omega
                have hkB : k2 - a ≤ 24 := by omega
                have hkC : k2 ≤ 1024 := by omega
                go_wp2_with fail
                refine (rpending_any w.heap.size w.heap.size 0 a (T : Int) (BB.take k2) _ HV.out.rsn (by rw [hkl]; exact hkC) (fun i hi => (HA.out.2.2.2.2.2.2 _ (List.mem_of_mem_take (List.getElem_mem hi))).1)).mono ?_
                rintro e w4 ⟨fv, rfl, hfd, b4⟩
                rw [hkl] at hfd
                have HX4 := Lib.hid (HV.out.below b4)
                obtain ⟨Fs, hFs⟩ : ∃ Fs, Fs = pF 0 a (BB.take k2) (k2 - a) := ⟨_, rfl⟩
                rw [← hFs] at hfd
                have HFD := Lib.hid (frd_frs hfd)
                have HOKF := Lib.hid (show ∀ f ∈ Fs, okFr2 f by rw [hFs]; exact pkts_ok HA.out.2.2.2.2.2.2 a k2 hkA hka)
                obtain ⟨Af, cf, ef⟩ := frs_form HFD.out
                subst ef
                have hFl : Fs.length = k2 - a := by rw [hFs, pF_len]
                have HFS := Lib.hid hFs
                obtain ⟨nf, hnf⟩ : ∃ nf, nf = Fs.length := ⟨_, rfl⟩
                rw [← hnf]
                have HNF := Lib.hid hnf
                have hnb : nf ≤ 24 := by omega
                clear hfd b4 hFs hFl hnf
                go_wp2_with fail
                go_loopw [16, 94] (fun lv iv wp => PkR w4 Fs lv iv wp) (fun _ iv _ => nf - (intOf1 iv).toNat)
                case atStart => exact ⟨0, Nat.zero_le _, rfl, Lib.hid ⟨[], by simp, dcs_nil _ _ _, Below.refl _ _⟩⟩
                case round =>
                  obtain ⟨i, hi, rfl, HP⟩ := hrel
                  rw [← HNF.out] at hi
                  by_cases hin : i < nf
                  · have hiF : i < Fs.length := by rw [← HNF.out]; exact hin
                    obtain ⟨ps, hps, hd, hbw⟩ := HP.out
                    have hpl : ps.length = i := by
                      have := congrArg List.length hps
                      rw [List.length_map, List.length_map, List.length_take] at this
                      omega
                    obtain ⟨gf, c3, A3, c3', e2, hgf, p0, p1, p2, hr⟩ := frs_at (frs_below HFD.out hbw) i hiF
                    injection e2 with e3 e4 e5
                    subst e3
                    clear e4 e5
                    obtain ⟨f, hf⟩ : ∃ f, f = Fs[i]'hiF := ⟨_, rfl⟩
                    have hfk : okFr2 f := HOKF.out f (by rw [hf]; exact List.getElem_mem _)
                    rw [← hf] at p0 p1 p2 hr
                    obtain ⟨st, sq, Y⟩ := f
                    simp only at p0 p1 p2 hr
                    obtain ⟨hok, hYB⟩ := hfk
                    simp only at hok hYB
                    obtain ⟨W5, HW5, hw5, HG5, z5⟩ := F0ex wr (st : Int) (sq : Int) (.slice A3 Y.length c3')
                    obtain ⟨g0, g1, g2, gf'⟩ := fr_blk HG5.out (Below.refl _ _)
                    have HPk := Lib.hid (refPack_ok st sq Y hYB A3 Y.length c3' wr.heap.size hok W5 (hr.belowM hw5 (Nat.le_refl _)) hw5.size)
                    have hlY : Y.length ≤ 1024 := hok.2.2.2.2
                    have hst : st < 256 := by have := hok.2.1; omega
                    obtain ⟨P, hP⟩ : ∃ P, P = packL st sq Y := ⟨_, rfl⟩
                    have hPl : P.length ≤ 1048576 := by rw [hP, packL_length]; omega
                    have hPB : AllB P := by rw [hP]; exact packL_all st sq Y hst hYB
                    have hstep : ps.map Prod.snd ++ [P] = (Fs.take (i + 1)).map packFr := by
                      rw [List.take_succ_eq_append_getElem hiF, List.map_append, hps, ← hf, hP]
                      rfl
                    rw [← hP] at HPk
                    have HK := Lib.hid (And.intro hstep (And.intro (dcs_below hd hw5) (And.intro (hbw.trans (hw5.mono hbw.size)) (And.intro hPB (And.intro hPl hpl)))))
                    have i7 : (i : Int) < (nf : Int) := by omega
                    obtain ⟨A0, c0, e0⟩ := dcs_form hd
                    subst e0
                    clear hps hd hbw hr hf hok hYB hP hPl hPB hstep hw5 HP hpl
                    go_wp2_with fail
                    rw [← HW5.out]
                    go_wp2_with fail
                    refine HPk.out.mono ?_
                    rintro e w6 ⟨v6, rfl, o6, b6⟩
                    obtain ⟨A6, c6, e6⟩ := (rb_of_owns o6).2.form
                    subst e6
                    have hEl : El w6 w4.heap.size (.slice A6 P.length c6, P) := ⟨owns_base o6 HK.out.2.2.1.size, HK.out.2.2.2.1, HK.out.2.2.2.2.1⟩
                    have HJ := Lib.hid (And.intro (dcs_below HK.out.2.1 b6) (And.intro (HK.out.2.2.1.trans (b6.mono HK.out.2.2.1.size)) hEl))
                    have hs6 := HJ.out.2.1.size
                    clear o6 b6 hEl
                    go_wp2_with (at_builtin
                                 refine wpList_append_dc rfl (.tmp 103) (.tmp 105) rfl w4.heap.size w4.heap.size _ _ rfl HJ.out.1 (.slice A6 P.length c6, P) HJ.out.2.2 rfl (by have := HK.out.2.2.2.2.2; omega) hs6 ?_
                                 intro v7 w7 hd hO
                                 have hb7 := dcs_only HJ.out.1 hO HJ.out.2.1 hs6
                                 have H7 := Lib.hid (And.intro hd hb7)
                                 clear hd hO hb7)
                    exact ⟨⟨i + 1, by rw [← HNF.out]; omega, by go_num, Lib.hid ⟨_, by rw [List.map_append]; exact HK.out.1, H7.out.1, H7.out.2⟩⟩, by simp [intOf1]; omega⟩
                  · obtain rfl : i = nf := by omega
                    obtain ⟨ps, hps, hd, hbw⟩ := HP.out
                    rw [HNF.out, List.take_length] at hps
                    have HX5 := Lib.hid (HX4.out.below hbw)
                    have HD5 := Lib.hid (And.intro hd (show ps.map Prod.snd = pkts BB a k2 by rw [hps, HFS.out]; rfl))
                    obtain ⟨Ap, cp, ep⟩ := dcs_form hd
                    subst ep
                    obtain ⟨w5, hw5⟩ : ∃ x, x = wr := ⟨_, rfl⟩
                    subst hw5
                    clear hps hd hbw HP
                    by_cases hjm : j < m
                    · have hjR : j < RR.length := by rw [HA.out.2.2.1.1]; exact hjm
                      obtain ⟨b2, o2, A9, c9, hA2, hb2, hc2, hft⟩ := HA.out.2.2.1.2 j hjR
                      subst hA2
                      obtain ⟨Gs, hGs⟩ : ∃ Gs, Gs = RR[j]'hjR := ⟨_, rfl⟩
                      rw [← hGs] at hc2 hft
                      have hG8 : Gs.length ≤ 8 := by rw [hGs]; exact HA.out.2.2.2.1 _ (List.getElem_mem _)
                      have hRj : RR[j]? = some Gs := by rw [hGs]; exact List.getElem?_eq_getElem hjR
                      have hc5 := (HX5.out.bel.cell (p := ⟨b2, o2 + j, none⟩) hb2).trans hc2
                      have hpl : ps.length = k2 - a := by
                        have h := congrArg List.length HD5.out.2
                        rw [List.length_map, pkts_len] at h
                        exact h
                      have HCy := Lib.hid (dcarry_any (c := cp) (inL_dcs HD5.out.1 HD5.out.2) (by rw [hpl]; exact Nat.le_trans hkB (by decide)) (fun Y hY => Nat.le_trans (pkts_size HA.out.2.2.2.2.2.2 a k2 hkA hka Y hY) (by omega)) A9 Gs.length c9 Gs (ftL_belowT hft HX5.out.bel) (by omega))
                      have i8 : (j : Int) < (m : Int) := by omega
                      obtain ⟨lf, hlf⟩ : ∃ l, l = Gs.length := ⟨_, rfl⟩
                      rw [← hlf] at hc5 HCy
                      have HLF := Lib.hid (And.intro hlf (And.intro hG8 hRj))
                      clear hc2 hft hGs hlf hG8 hRj hpl
                      go_wp2_with fail
                      refine HCy.out.mono ?_
                      rintro e w6 ⟨ps6, qv, hqs, rfl, hd6, b6⟩
                      have HX6 := Lib.hid (HX5.out.below b6)
                      have D6 := Lib.hid (dcs_base0 hd6)
                      clear hd6 b6
                      obtain ⟨Ls6, hLs⟩ : ∃ L, L = carried (RR[j]?) (pkts BB a k2) := ⟨_, rfl⟩
                      have hps6 := Lib.hid (show ps6.map Prod.snd = Ls6 by rw [hqs, hLs, HLF.out.2.2]; rfl)
                      have hll : Ls6.length ≤ 32 := by
                        have h := carried_len (R := RR[j]?) (Ls := pkts BB a k2) (fun Hs e => by rw [HLF.out.2.2] at e; injection e with e; rw [← e]; exact HLF.out.2.1)
                        rw [pkts_len] at h
                        rw [hLs]
                        omega
                      have hls := carried_size (R := RR[j]?) (pkts_size HA.out.2.2.2.2.2.2 a k2 hkA hka)
                      rw [← hLs] at hls
                      have hfc := fcnt_le Ls6 (fun L hL => Nat.le_trans (hls L hL) (by omega))
                      have HL6 := Lib.hid (And.intro hll (And.intro hls (And.intro (show fcnt Ls6 ≤ 3200 by omega) (And.intro HKM.out hLs))))
                      clear hLs hll hls hfc
                      clear hqs
                      obtain ⟨A6, c6, e6⟩ := dcs_form D6.out
                      subst e6
                      obtain ⟨nL, hnL⟩ : ∃ nL, nL = Ls6.length := ⟨_, rfl⟩
                      have hp6 : ps6.length = nL := by rw [hnL, ← hps6.out, List.length_map]
                      rw [hp6] at D6 ⊢
                      have HNL := Lib.hid hnL
                      have HP6 := Lib.hid hp6
                      have hnLb : nL ≤ 32 := by have := HL6.out.1; omega
                      have HDL := Lib.hid (show D.length ≤ 13107200 by have := HR.out.2.2.2.1; omega)
                      have HT0 := Lib.hid (show TxF w w.heap.size w.heap.size (w.heap.size + 1) a (T : Int) (BB.take k2) D.length (fcnt (Ls6.take 0)) (tkLs (T : Int) (nx, F, D) (Ls6.take 0)) (.slice Ad0 D.length cd0) w6 from ⟨by simpa [tkLs] using HX6.out, by simpa [tkLs] using HR.out.2.2.1, by simp [tkLs, fcnt]⟩)
                      clear hnL hp6
                      go_wp2_with fail
                      go_loopw [12, 120] (fun ov iv wv => TdO w T a k2 BB nx F D Ls6 (.slice A6 nL c6) ps6 ov iv wv) (fun _ iv _ => nL - (intOf1 iv).toNat)
                      case atStart => exact ⟨0, Nat.zero_le _, rfl, HT0, D6⟩
                      case round =>
                        obtain ⟨i, hi, rfl, HT, HDc⟩ := hrel
                        rw [← HNL.out] at hi
                        by_cases hin : i < nL
                        · have hiL : i < Ls6.length := by rw [← HNL.out]; exact hin
                          have hip : i < ps6.length := by rw [HP6.out]; exact hin
                          obtain ⟨gd, cd, ed, hgd, hcell⟩ := dcs_at HDc.out i hip
                          injection ed with ed1 ed2 ed3
                          subst ed1
                          have hel := HDc.out.els _ (List.getElem_mem hip)
                          obtain ⟨_, hrb⟩ := rb_of_owns hel.1
                          obtain ⟨A', c', hf⟩ := hrb.form
                          obtain ⟨Z, hZe⟩ : ∃ Z, Z = Ls6[i]'hiL := ⟨_, rfl⟩
                          have hZ2 : (ps6[i]'hip).2 = Z := by rw [hZe]; simp [← hps6.out]
                          rw [hZ2] at hf hrb
                          rw [hf] at hcell hrb
                          have hZB : AllB Z := by rw [← hZ2]; exact hel.2.1
                          have hZl : Z.length ≤ 1048576 := by rw [hZe]; exact Nat.le_trans (HL6.out.2.1 _ (List.getElem_mem _)) (by omega)
                          have i9 : (i : Int) < (nL : Int) := by omega
                          have HSc := Lib.hid (refScx_any Z hZB A' Z.length c' wr.heap.size hZl wr hrb (Nat.le_refl _))
                          have hst1 := tkLs_succ (T : Int) (nx, F, D) Ls6 i hiL
                          have hst2 := fcnt_succ Ls6 i hiL
                          rw [← hZe] at hst1 hst2
                          have HST := Lib.hid (And.intro hst1 hst2)
                          have hgrl := HT.out.1.grl
                          clear hel hrb hf hZe hZ2 hZB hZl hst1 hst2 ed2 ed3
                          go_wp2_with fail
                          refine HSc.out.mono ?_
                          rintro e w7 ⟨fv, rfl, hfs, b7⟩
                          obtain ⟨Gr, hGr⟩ : ∃ Gr, Gr = (scanF (Z.length + 1) Z).1 := ⟨_, rfl⟩
                          rw [← hGr] at hfs
                          obtain ⟨s7, hs7⟩ : ∃ s, s = tkLs (T : Int) (nx, F, D) (Ls6.take i) := ⟨_, rfl⟩
                          obtain ⟨c7, hc7⟩ : ∃ c, c = fcnt (Ls6.take i) := ⟨_, rfl⟩
                          have HTr := HT.out
                          rw [← hs7, ← hc7] at HTr
                          have HT1 := Lib.hid (show TxF w w.heap.size w.heap.size (w.heap.size + 1) a (T : Int) (BB.take k2) D.length (c7 + 0) (tkFs (T : Int) s7 (Gr.take 0)) _ w7 from by simpa [tkFs] using txF_below HTr b7)
                          have HDc1 := Lib.hid (dcs_below HDc.out b7)
                          have HO1 := Lib.hid (dls_ov HTr.1.dls w7.heap.size)
                          have HL1 := Lib.hid (lb_ov HTr.1 b7)
                          have HK1 := Lib.hid (show Kept wr.heap.size w7.heap.size w7 w7 from ⟨Nat.le_refl _, fun _ _ _ => rfl⟩)
                          have HFX := Lib.hid hfs
                          obtain ⟨Ag, cg, eg⟩ := frx_form hfs
                          subst eg
                          obtain ⟨ng, hng⟩ : ∃ ng, ng = Gr.length := ⟨_, rfl⟩
                          have hcb : c7 + ng ≤ 3200 := by
                            have h1 := HST.out.2
                            have h2 := fcnt_take Ls6 (i + 1)
                            have h3 := HL6.out.2.2.1
                            rw [← hc7, ← hGr, ← hng] at h1
                            omega
                          have hngb : ng ≤ 3200 := by omega
                          have hs71 := b7.size
                          have HNG := Lib.hid (And.intro hng hcb)
                          have HSS := Lib.hid (And.intro (show tkLs (T : Int) (nx, F, D) (Ls6.take (i + 1)) = tkFs (T : Int) s7 Gr by rw [hs7, hGr]; exact HST.out.1) (show fcnt (Ls6.take (i + 1)) = c7 + ng by rw [hc7, hng, hGr]; exact HST.out.2))
                          rw [← hng] at HFX ⊢
                          clear hfs b7 hGr hs7 hc7 hng hcb hcell HTr
                          go_wp2_with fail
                          obtain ⟨lo, hlo⟩ : ∃ lo, lo = wr.heap.size := ⟨_, rfl⟩
                          rw [← hlo] at HO1 HL1 HK1 HFX hs71 hgrl
                          clear hlo hgd HT HSc HDc
                          go_loopw [12, 134] (fun ov iv wv => TdI w w7 lo T a k2 BB D.length c7 s7 Gr (.slice (some ⟨gd, 0, none⟩) nL c6) ps6 ov iv wv) (fun _ iv _ => ng - (intOf1 iv).toNat)
                          case atStart => exact ⟨0, Nat.zero_le _, rfl, HT1, HDc1, HK1, HO1, HL1⟩
                          case round =>
                            obtain ⟨i2, hi2, rfl, HT2, HDc2, HK2, HO2, HL2⟩ := hrel
                            rw [← HNG.out.1] at hi2
                            by_cases hin2 : i2 < ng
                            · have hiG : i2 < Gr.length := by rw [← HNG.out.1]; exact hin2
                              have hstep := tkFs_succ (T : Int) s7 Gr i2 hiG
                              obtain ⟨gf, c8, A8, c8', e8, hgf, p0, p1, p2, hr⟩ := frx_at HFX.out HK2.out i2 hiG
                              injection e8 with e9 e10 e11
                              subst e9
                              clear e10 e11
                              obtain ⟨f, hf⟩ : ∃ f, f = Gr[i2]'hiG := ⟨_, rfl⟩
                              rw [← hf] at p0 p1 p2 hr hstep
                              obtain ⟨⟨nx1, F1, D1⟩, hs1'⟩ : ∃ s, s = tkFs (T : Int) s7 (Gr.take i2) := ⟨_, rfl⟩
                              have HTr := HT2.out
                              rw [← hs1'] at HTr hstep
                              obtain ⟨fst, sq, Y⟩ := f
                              simp only at p0 p1 p2 hr
                              obtain ⟨Ds1, hrc1, hdf1, hdl1⟩ := HTr.1.rrc
                              have hG1 : GoodR (T : Int) (nx1, F1, D1) := HTr.2.1
                              obtain ⟨ce, hce⟩ : ∃ ce, takeE 0 (T : Int) nx1 F1 (fst : Int) (sq : Int) Y.length = ce := ⟨_, rfl⟩
                              have HTk := Lib.hid (rtakex_any (w.heap.size + 1) w.heap.size 0 (T : Int) nx1 (fst : Int) (sq : Int) F1 Ds1 Y A8 Y.length c8' wr.heap.size wr hrc1 hdf1 hG1.1.inW (by have := dsF_small hdf1 hG1.1 (by omega); omega) ⟨hG1.2.1, hG1.2.2⟩ ⟨by omega, by omega⟩ hr (Nat.le_refl _) HTr.1.siz ce hce)
                              have i9 : (i2 : Int) < (ng : Int) := by omega
                              have HI := Lib.hid (And.intro hstep (And.intro HTr hce))
                              have hkz := HK2.out.1
                              obtain ⟨Ao, co, eo⟩ := dls_form HTr.1.dls
                              subst eo
                              clear hf hs1' hstep hr hce hrc1 hdf1 hdl1 hG1 HTr HT2
                              go_wp2_with fail
                              refine HTk.out.mono ?_
                              rintro e w9 ⟨v9, rfl, ⟨hc0, hv9, b9⟩ | ⟨hc0, mm, Ds9, q1, q2, q3, q4, q5, q6, q7, q8, q9⟩⟩
                              · subst hv9
                                have HB9 := Lib.hid b9
                                have HD9 := Lib.hid (dls_below HI.out.2.1.1.dls b9)
                                have hs9 := b9.size
                                clear b9
                                go_wp2_with (at_builtin
                                             refine wpList_append_dls3 rfl (.tmp 146) (.tmp 147) rfl w.heap.size w.heap.size _ _ _ [] rfl HD9.out rfl (dls_nil _ _) (by have h1 : D1.length ≤ D.length + 64 * (c7 + i2) := HI.out.2.1.2.2; have := HNG.out.2; have := HDL.out; simp; omega) (Nat.le_trans HI.out.2.1.1.siz hs9) ?_
                                             intro v10 w10 hD10 hO10 hr10
                                             have H10 := Lib.hid (And.intro hD10 (And.intro hO10 hr10))
                                             clear hD10 hO10 hr10)
                                have hno := txF_no (f := (fst, sq, Y)) HI.out.2.1 (by show takeE 0 (T : Int) nx1 F1 (fst : Int) (sq : Int) Y.length ≠ 0; rw [HI.out.2.2]; exact hc0) HB9.out H10.out.1 H10.out.2.1 H10.out.2.2
                                have hdc : Dcs w10 0 0 _ ps6 := dcs_only' (dcs_below HDc2.out HB9.out) H10.out.2.1 (dv_not HD9.out (by decide)) (dv_not HD9.out (by decide))
                                have hkp : Kept lo w7.heap.size w7 w10 := kept_only (kept_only HK2.out (only_below (S := fun _ => False) HB9.out) (fun _ h => absurd h id)) H10.out.2.1 HO2.out
                                have hov := ov_next HO2.out H10.out.2.2 (Nat.le_trans hkz hs9)
                                have hlb : ∀ k, lB w10 (w.heap.size + 1) k → k < lo ∨ w7.heap.size ≤ k := fun k hk => HL2.out k ((lB_below HB9.out HI.out.2.1.1.grl).1 ((lB_only H10.out.2.1 (Nat.lt_of_lt_of_le HI.out.2.1.1.grl hs9) (dv_no_gr (HI.out.2.1.1.below HB9.out))).1 hk))
                                have HNN := Lib.hid (And.intro hno (And.intro hdc (And.intro hkp (And.intro hov hlb))))
                                clear hno hdc hkp hov hlb
                                exact ⟨⟨i2 + 1, by rw [← HNG.out.1]; omega, by go_num, Lib.hid (by rw [HI.out.1]; exact HNN.out.1), Lib.hid HNN.out.2.1, Lib.hid HNN.out.2.2.1, Lib.hid HNN.out.2.2.2.1, Lib.hid HNN.out.2.2.2.2⟩, by simp [intOf1]; omega⟩
                              · subst hc0
                                have HQ := Lib.hid (And.intro q1 (And.intro q2 (And.intro q3 (And.intro q4 (And.intro q5 (And.intro q6 (And.intro q8 q9)))))))
                                have hs9 : wr.heap.size ≤ w9.heap.size := q8.size
                                have HX9 := Lib.hid (HI.out.2.1.1.took q8 q6 q4 q5 q9)
                                have HE9 := Lib.hid q7
                                obtain ⟨A10, c10, e10⟩ := dls_form q7
                                subst e10
                                have hmm : mm ≤ 64 := by omega
                                clear q1 q2 q3 q4 q5 q6 q7 q8 q9
                                go_wp2_with (at_builtin
                                             refine wpList_append_dls3 rfl (.tmp 146) (.tmp 147) rfl w.heap.size wr.heap.size _ _ _ _ rfl HX9.out.dls rfl HE9.out (by have h1 : D1.length ≤ D.length + 64 * (c7 + i2) := HI.out.2.1.2.2; have := HNG.out.2; have := HDL.out; rw [dsOf_len]; omega) HX9.out.siz ?_
                                             intro v10 w10 hD10 hO10 hr10
                                             have H10 := Lib.hid (And.intro hD10 (And.intro hO10 hr10))
                                             clear hD10 hO10 hr10)
                                have hok := txF_ok (f := (fst, sq, Y)) (by omega : (T : Int) ≤ 64) HI.out.2.1 HI.out.2.2 HQ.out.1 HQ.out.2.1 HQ.out.2.2.1 HQ.out.2.2.2.1 HQ.out.2.2.2.2.1 HQ.out.2.2.2.2.2.1 HQ.out.2.2.2.2.2.2.1 HQ.out.2.2.2.2.2.2.2 H10.out.1 H10.out.2.1 H10.out.2.2
                                have hdc : Dcs w10 0 0 _ ps6 := dcs_only' (dcs_only' HDc2.out HQ.out.2.2.2.2.2.2.1 (gr_not HI.out.2.1.1 (by decide) (by decide)) (gr_not HI.out.2.1.1 (by decide) (by decide))) H10.out.2.1 (dv_not HX9.out.dls (by decide)) (dv_not HX9.out.dls (by decide))
                                have hkp : Kept lo w7.heap.size w7 w10 := kept_only (kept_only HK2.out HQ.out.2.2.2.2.2.2.1 (fun k e => e.elim (fun e => .inl (by omega)) (HL2.out k))) H10.out.2.1 HO2.out
                                have hov := ov_next HO2.out H10.out.2.2 (Nat.le_trans hkz hs9)
                                have hlb : ∀ k, lB w10 (w.heap.size + 1) k → k < lo ∨ w7.heap.size ≤ k := fun k hk => (HQ.out.2.2.2.2.2.2.2 k ((lB_only H10.out.2.1 HX9.out.grl (dv_no_gr HX9.out)).1 hk)).elim (HL2.out k) (fun e => .inr (Nat.le_trans hkz e))
                                have HNN := Lib.hid (And.intro hok (And.intro hdc (And.intro hkp (And.intro hov hlb))))
                                clear hok hdc hkp hov hlb
                                exact ⟨⟨i2 + 1, by rw [← HNG.out.1]; omega, by go_num, Lib.hid (by rw [HI.out.1]; exact HNN.out.1), Lib.hid HNN.out.2.1, Lib.hid HNN.out.2.2.1, Lib.hid HNN.out.2.2.2.1, Lib.hid HNN.out.2.2.2.2⟩, by simp [intOf1]; omega⟩
                            · obtain rfl : i2 = ng := by omega
                              have hT := HT2.out
                              rw [HNG.out.1, List.take_length, ← HNG.out.1, ← HSS.out.1, ← HSS.out.2] at hT
                              have HTT := Lib.hid hT
                              clear hT HT2
                              go_wp2
                              exact ⟨⟨i + 1, by rw [← HNL.out]; omega, by go_num, HTT, HDc2⟩, by simp [intOf1]; omega⟩
                        · obtain rfl : i = nL := by omega
                          have hT := HT.out
                          rw [HNL.out, List.take_length] at hT
                          obtain ⟨⟨nx8, F8, D8⟩, hs8⟩ : ∃ s, s = tkLs (T : Int) (nx, F, D) Ls6 := ⟨_, rfl⟩
                          rw [← hs8] at hT
                          have HTT := Lib.hid (And.intro hT hs8)
                          obtain ⟨Ds8, hrc8, _, _⟩ := hT.1.rrc
                          obtain ⟨RA8, rc8, _, _, r28, _⟩ := rrc_cells hrc8
                          obtain ⟨A11, c11, e11⟩ := dls_form hT.1.dls
                          subst e11
                          have hGn : 0 ≤ nx8 := hT.2.1.2.1
                          clear hT HT hs8 hrc8
                          by_cases hack : (a : Int) ≤ nx8 ∧ nx8 ≤ (k2 : Int)
                          · obtain ⟨p, hp⟩ : ∃ p : Nat, nx8 = (p : Int) := ⟨nx8.toNat, by omega⟩
                            rw [hp] at r28
                            go_wp2_with fail
                            refine (rack_yes w.heap.size w.heap.size 0 a p (T : Int) (BB.take k2) wr HTT.out.1.1.rsn (by omega) (by rw [hkl]; omega)).mono ?_
                            rintro e w12 ⟨rfl, hS12, hO12⟩
                            have HX12 := Lib.hid (HTT.out.1.1.sent (hO12.mono (fun k _ e => .inl e)) hS12)
                            clear hS12 hO12
                            go_wp2
                            refine ⟨txP_next (a2 := p) (Ls := Ls6) HR.out.1 HL6.out.2.2.2.1 HL6.out.2.2.2.2 hka ?_ ?_ ?_ ?_ (by omega) HR.out.2.2.2.2.2.2 (by rw [HA.out.2.2.2.2.2.1]; exact hnx) (by go_num), by simp [intOf1]; omega⟩
                            · rw [← HTT.out.2, if_pos hack]; show p = nx8.toNat; omega
                            · rw [← HTT.out.2]; exact HX12.out
                            · rw [← HTT.out.2]; exact HTT.out.1.2.1
                            · rw [← HTT.out.2]; show D8.length ≤ _; have h1 : D8.length ≤ D.length + 64 * fcnt Ls6 := HTT.out.1.2.2; have := HL6.out.2.2.1; have := HR.out.2.2.2.1; omega
                          · go_wp2_with fail
                            refine (rack_no w.heap.size w.heap.size 0 a nx8 (T : Int) (BB.take k2) wr HTT.out.1.1.rsn (by rw [hkl]; omega)).mono ?_
                            rintro e w12 ⟨rfl, rfl⟩
                            go_wp2
                            refine ⟨txP_next (a2 := a) (Ls := Ls6) HR.out.1 HL6.out.2.2.2.1 HL6.out.2.2.2.2 hka ?_ ?_ ?_ ?_ (by omega) HR.out.2.2.2.2.2.2 (by rw [HA.out.2.2.2.2.2.1]; exact hnx) (by go_num), by simp [intOf1]; omega⟩
                            · rw [← HTT.out.2, if_neg hack]
                            · rw [← HTT.out.2]; exact HTT.out.1.1
                            · rw [← HTT.out.2]; exact HTT.out.1.2.1
                            · rw [← HTT.out.2]; show D8.length ≤ _; have h1 : D8.length ≤ D.length + 64 * fcnt Ls6 := HTT.out.1.2.2; have := HL6.out.2.2.1; have := HR.out.2.2.2.1; omega
                    · have i8 : ¬ (j : Int) < (m : Int) := by omega
                      have hRj : RR[j]? = none := List.getElem?_eq_none (by rw [HA.out.2.2.1.1]; omega)
                      obtain ⟨w6, hw6⟩ : ∃ x, x = w5 := ⟨_, rfl⟩
                      subst hw6
                      obtain ⟨ps6, hp6⟩ : ∃ x, x = ps := ⟨_, rfl⟩
                      subst hp6
                      have HX6 := HX5
                      have D6 := Lib.hid (dcs_base0 HD5.out.1)
                      obtain ⟨Ls6, hLs⟩ : ∃ L, L = carried (RR[j]?) (pkts BB a k2) := ⟨_, rfl⟩
                      have hps6 := Lib.hid (show ps6.map Prod.snd = Ls6 by rw [HD5.out.2, hLs, hRj]; rfl)
                      have hll : Ls6.length ≤ 32 := by
                        have h := carried_len (R := RR[j]?) (Ls := pkts BB a k2) (fun Hs e => by rw [hRj] at e; cases e)
                        rw [pkts_len] at h
                        rw [hLs]
                        omega
                      have hls := carried_size (R := RR[j]?) (pkts_size HA.out.2.2.2.2.2.2 a k2 hkA hka)
                      rw [← hLs] at hls
                      have hfc := fcnt_le Ls6 (fun L hL => Nat.le_trans (hls L hL) (by omega))
                      have HL6 := Lib.hid (And.intro hll (And.intro hls (And.intro (show fcnt Ls6 ≤ 3200 by omega) (And.intro HKM.out hLs))))
                      clear hLs hll hls hfc
                      clear hRj
                      obtain ⟨A6, hA6⟩ : ∃ x, x = Ap := ⟨_, rfl⟩
                      subst hA6
                      obtain ⟨c6, hc6⟩ : ∃ x, x = cp := ⟨_, rfl⟩
                      subst hc6
                      obtain ⟨nL, hnL⟩ : ∃ nL, nL = Ls6.length := ⟨_, rfl⟩
                      have hp6 : ps6.length = nL := by rw [hnL, ← hps6.out, List.length_map]
                      rw [hp6] at D6 ⊢
                      have HNL := Lib.hid hnL
                      have HP6 := Lib.hid hp6
                      have hnLb : nL ≤ 32 := by have := HL6.out.1; omega
                      have HDL := Lib.hid (show D.length ≤ 13107200 by have := HR.out.2.2.2.1; omega)
                      have HT0 := Lib.hid (show TxF w w.heap.size w.heap.size (w.heap.size + 1) a (T : Int) (BB.take k2) D.length (fcnt (Ls6.take 0)) (tkLs (T : Int) (nx, F, D) (Ls6.take 0)) (.slice Ad0 D.length cd0) w6 from ⟨by simpa [tkLs] using HX6.out, by simpa [tkLs] using HR.out.2.2.1, by simp [tkLs, fcnt]⟩)
                      clear hnL hp6
                      go_wp2_with fail
                      go_loopw [12, 120] (fun ov iv wv => TdO w T a k2 BB nx F D Ls6 (.slice A6 nL c6) ps6 ov iv wv) (fun _ iv _ => nL - (intOf1 iv).toNat)
                      case atStart => exact ⟨0, Nat.zero_le _, rfl, HT0, D6⟩
                      case round =>
                        obtain ⟨i, hi, rfl, HT, HDc⟩ := hrel
                        rw [← HNL.out] at hi
                        by_cases hin : i < nL
                        · have hiL : i < Ls6.length := by rw [← HNL.out]; exact hin
                          have hip : i < ps6.length := by rw [HP6.out]; exact hin
                          obtain ⟨gd, cd, ed, hgd, hcell⟩ := dcs_at HDc.out i hip
                          injection ed with ed1 ed2 ed3
                          subst ed1
                          have hel := HDc.out.els _ (List.getElem_mem hip)
                          obtain ⟨_, hrb⟩ := rb_of_owns hel.1
                          obtain ⟨A', c', hf⟩ := hrb.form
                          obtain ⟨Z, hZe⟩ : ∃ Z, Z = Ls6[i]'hiL := ⟨_, rfl⟩
                          have hZ2 : (ps6[i]'hip).2 = Z := by rw [hZe]; simp [← hps6.out]
                          rw [hZ2] at hf hrb
                          rw [hf] at hcell hrb
                          have hZB : AllB Z := by rw [← hZ2]; exact hel.2.1
                          have hZl : Z.length ≤ 1048576 := by rw [hZe]; exact Nat.le_trans (HL6.out.2.1 _ (List.getElem_mem _)) (by omega)
                          have i9 : (i : Int) < (nL : Int) := by omega
                          have HSc := Lib.hid (refScx_any Z hZB A' Z.length c' wr.heap.size hZl wr hrb (Nat.le_refl _))
                          have hst1 := tkLs_succ (T : Int) (nx, F, D) Ls6 i hiL
                          have hst2 := fcnt_succ Ls6 i hiL
                          rw [← hZe] at hst1 hst2
                          have HST := Lib.hid (And.intro hst1 hst2)
                          have hgrl := HT.out.1.grl
                          clear hel hrb hf hZe hZ2 hZB hZl hst1 hst2 ed2 ed3
                          go_wp2_with fail
                          refine HSc.out.mono ?_
                          rintro e w7 ⟨fv, rfl, hfs, b7⟩
                          obtain ⟨Gr, hGr⟩ : ∃ Gr, Gr = (scanF (Z.length + 1) Z).1 := ⟨_, rfl⟩
                          rw [← hGr] at hfs
                          obtain ⟨s7, hs7⟩ : ∃ s, s = tkLs (T : Int) (nx, F, D) (Ls6.take i) := ⟨_, rfl⟩
                          obtain ⟨c7, hc7⟩ : ∃ c, c = fcnt (Ls6.take i) := ⟨_, rfl⟩
                          have HTr := HT.out
                          rw [← hs7, ← hc7] at HTr
                          have HT1 := Lib.hid (show TxF w w.heap.size w.heap.size (w.heap.size + 1) a (T : Int) (BB.take k2) D.length (c7 + 0) (tkFs (T : Int) s7 (Gr.take 0)) _ w7 from by simpa [tkFs] using txF_below HTr b7)
                          have HDc1 := Lib.hid (dcs_below HDc.out b7)
                          have HO1 := Lib.hid (dls_ov HTr.1.dls w7.heap.size)
                          have HL1 := Lib.hid (lb_ov HTr.1 b7)
                          have HK1 := Lib.hid (show Kept wr.heap.size w7.heap.size w7 w7 from ⟨Nat.le_refl _, fun _ _ _ => rfl⟩)
                          have HFX := Lib.hid hfs
                          obtain ⟨Ag, cg, eg⟩ := frx_form hfs
                          subst eg
                          obtain ⟨ng, hng⟩ : ∃ ng, ng = Gr.length := ⟨_, rfl⟩
                          have hcb : c7 + ng ≤ 3200 := by
                            have h1 := HST.out.2
                            have h2 := fcnt_take Ls6 (i + 1)
                            have h3 := HL6.out.2.2.1
                            rw [← hc7, ← hGr, ← hng] at h1
                            omega
                          have hngb : ng ≤ 3200 := by omega
                          have hs71 := b7.size
                          have HNG := Lib.hid (And.intro hng hcb)
                          have HSS := Lib.hid (And.intro (show tkLs (T : Int) (nx, F, D) (Ls6.take (i + 1)) = tkFs (T : Int) s7 Gr by rw [hs7, hGr]; exact HST.out.1) (show fcnt (Ls6.take (i + 1)) = c7 + ng by rw [hc7, hng, hGr]; exact HST.out.2))
                          rw [← hng] at HFX ⊢
                          clear hfs b7 hGr hs7 hc7 hng hcb hcell HTr
                          go_wp2_with fail
                          obtain ⟨lo, hlo⟩ : ∃ lo, lo = wr.heap.size := ⟨_, rfl⟩
                          rw [← hlo] at HO1 HL1 HK1 HFX hs71 hgrl
                          clear hlo hgd HT HSc HDc
                          go_loopw [12, 134] (fun ov iv wv => TdI w w7 lo T a k2 BB D.length c7 s7 Gr (.slice (some ⟨gd, 0, none⟩) nL c6) ps6 ov iv wv) (fun _ iv _ => ng - (intOf1 iv).toNat)
                          case atStart => exact ⟨0, Nat.zero_le _, rfl, HT1, HDc1, HK1, HO1, HL1⟩
                          case round =>
                            obtain ⟨i2, hi2, rfl, HT2, HDc2, HK2, HO2, HL2⟩ := hrel
                            rw [← HNG.out.1] at hi2
                            by_cases hin2 : i2 < ng
                            · have hiG : i2 < Gr.length := by rw [← HNG.out.1]; exact hin2
                              have hstep := tkFs_succ (T : Int) s7 Gr i2 hiG
                              obtain ⟨gf, c8, A8, c8', e8, hgf, p0, p1, p2, hr⟩ := frx_at HFX.out HK2.out i2 hiG
                              injection e8 with e9 e10 e11
                              subst e9
                              clear e10 e11
                              obtain ⟨f, hf⟩ : ∃ f, f = Gr[i2]'hiG := ⟨_, rfl⟩
                              rw [← hf] at p0 p1 p2 hr hstep
                              obtain ⟨⟨nx1, F1, D1⟩, hs1'⟩ : ∃ s, s = tkFs (T : Int) s7 (Gr.take i2) := ⟨_, rfl⟩
                              have HTr := HT2.out
                              rw [← hs1'] at HTr hstep
                              obtain ⟨fst, sq, Y⟩ := f
                              simp only at p0 p1 p2 hr
                              obtain ⟨Ds1, hrc1, hdf1, hdl1⟩ := HTr.1.rrc
                              have hG1 : GoodR (T : Int) (nx1, F1, D1) := HTr.2.1
                              obtain ⟨ce, hce⟩ : ∃ ce, takeE 0 (T : Int) nx1 F1 (fst : Int) (sq : Int) Y.length = ce := ⟨_, rfl⟩
                              have HTk := Lib.hid (rtakex_any (w.heap.size + 1) w.heap.size 0 (T : Int) nx1 (fst : Int) (sq : Int) F1 Ds1 Y A8 Y.length c8' wr.heap.size wr hrc1 hdf1 hG1.1.inW (by have := dsF_small hdf1 hG1.1 (by omega); omega) ⟨hG1.2.1, hG1.2.2⟩ ⟨by omega, by omega⟩ hr (Nat.le_refl _) HTr.1.siz ce hce)
                              have i9 : (i2 : Int) < (ng : Int) := by omega
                              have HI := Lib.hid (And.intro hstep (And.intro HTr hce))
                              have hkz := HK2.out.1
                              obtain ⟨Ao, co, eo⟩ := dls_form HTr.1.dls
                              subst eo
                              clear hf hs1' hstep hr hce hrc1 hdf1 hdl1 hG1 HTr HT2
                              go_wp2_with fail
                              refine HTk.out.mono ?_
                              rintro e w9 ⟨v9, rfl, ⟨hc0, hv9, b9⟩ | ⟨hc0, mm, Ds9, q1, q2, q3, q4, q5, q6, q7, q8, q9⟩⟩
                              · subst hv9
                                have HB9 := Lib.hid b9
                                have HD9 := Lib.hid (dls_below HI.out.2.1.1.dls b9)
                                have hs9 := b9.size
                                clear b9
                                go_wp2_with (at_builtin
                                             refine wpList_append_dls3 rfl (.tmp 146) (.tmp 147) rfl w.heap.size w.heap.size _ _ _ [] rfl HD9.out rfl (dls_nil _ _) (by have h1 : D1.length ≤ D.length + 64 * (c7 + i2) := HI.out.2.1.2.2; have := HNG.out.2; have := HDL.out; simp; omega) (Nat.le_trans HI.out.2.1.1.siz hs9) ?_
                                             intro v10 w10 hD10 hO10 hr10
                                             have H10 := Lib.hid (And.intro hD10 (And.intro hO10 hr10))
                                             clear hD10 hO10 hr10)
                                have hno := txF_no (f := (fst, sq, Y)) HI.out.2.1 (by show takeE 0 (T : Int) nx1 F1 (fst : Int) (sq : Int) Y.length ≠ 0; rw [HI.out.2.2]; exact hc0) HB9.out H10.out.1 H10.out.2.1 H10.out.2.2
                                have hdc : Dcs w10 0 0 _ ps6 := dcs_only' (dcs_below HDc2.out HB9.out) H10.out.2.1 (dv_not HD9.out (by decide)) (dv_not HD9.out (by decide))
                                have hkp : Kept lo w7.heap.size w7 w10 := kept_only (kept_only HK2.out (only_below (S := fun _ => False) HB9.out) (fun _ h => absurd h id)) H10.out.2.1 HO2.out
                                have hov := ov_next HO2.out H10.out.2.2 (Nat.le_trans hkz hs9)
                                have hlb : ∀ k, lB w10 (w.heap.size + 1) k → k < lo ∨ w7.heap.size ≤ k := fun k hk => HL2.out k ((lB_below HB9.out HI.out.2.1.1.grl).1 ((lB_only H10.out.2.1 (Nat.lt_of_lt_of_le HI.out.2.1.1.grl hs9) (dv_no_gr (HI.out.2.1.1.below HB9.out))).1 hk))
                                have HNN := Lib.hid (And.intro hno (And.intro hdc (And.intro hkp (And.intro hov hlb))))
                                clear hno hdc hkp hov hlb
                                exact ⟨⟨i2 + 1, by rw [← HNG.out.1]; omega, by go_num, Lib.hid (by rw [HI.out.1]; exact HNN.out.1), Lib.hid HNN.out.2.1, Lib.hid HNN.out.2.2.1, Lib.hid HNN.out.2.2.2.1, Lib.hid HNN.out.2.2.2.2⟩, by simp [intOf1]; omega⟩
                              · subst hc0
                                have HQ := Lib.hid (And.intro q1 (And.intro q2 (And.intro q3 (And.intro q4 (And.intro q5 (And.intro q6 (And.intro q8 q9)))))))
                                have hs9 : wr.heap.size ≤ w9.heap.size := q8.size
                                have HX9 := Lib.hid (HI.out.2.1.1.took q8 q6 q4 q5 q9)
                                have HE9 := Lib.hid q7
                                obtain ⟨A10, c10, e10⟩ := dls_form q7
                                subst e10
                                have hmm : mm ≤ 64 := by omega
                                clear q1 q2 q3 q4 q5 q6 q7 q8 q9
                                go_wp2_with (at_builtin
                                             refine wpList_append_dls3 rfl (.tmp 146) (.tmp 147) rfl w.heap.size wr.heap.size _ _ _ _ rfl HX9.out.dls rfl HE9.out (by have h1 : D1.length ≤ D.length + 64 * (c7 + i2) := HI.out.2.1.2.2; have := HNG.out.2; have := HDL.out; rw [dsOf_len]; omega) HX9.out.siz ?_
                                             intro v10 w10 hD10 hO10 hr10
                                             have H10 := Lib.hid (And.intro hD10 (And.intro hO10 hr10))
                                             clear hD10 hO10 hr10)
                                have hok := txF_ok (f := (fst, sq, Y)) (by omega : (T : Int) ≤ 64) HI.out.2.1 HI.out.2.2 HQ.out.1 HQ.out.2.1 HQ.out.2.2.1 HQ.out.2.2.2.1 HQ.out.2.2.2.2.1 HQ.out.2.2.2.2.2.1 HQ.out.2.2.2.2.2.2.1 HQ.out.2.2.2.2.2.2.2 H10.out.1 H10.out.2.1 H10.out.2.2
                                have hdc : Dcs w10 0 0 _ ps6 := dcs_only' (dcs_only' HDc2.out HQ.out.2.2.2.2.2.2.1 (gr_not HI.out.2.1.1 (by decide) (by decide)) (gr_not HI.out.2.1.1 (by decide) (by decide))) H10.out.2.1 (dv_not HX9.out.dls (by decide)) (dv_not HX9.out.dls (by decide))
                                have hkp : Kept lo w7.heap.size w7 w10 := kept_only (kept_only HK2.out HQ.out.2.2.2.2.2.2.1 (fun k e => e.elim (fun e => .inl (by omega)) (HL2.out k))) H10.out.2.1 HO2.out
                                have hov := ov_next HO2.out H10.out.2.2 (Nat.le_trans hkz hs9)
                                have hlb : ∀ k, lB w10 (w.heap.size + 1) k → k < lo ∨ w7.heap.size ≤ k := fun k hk => (HQ.out.2.2.2.2.2.2.2 k ((lB_only H10.out.2.1 HX9.out.grl (dv_no_gr HX9.out)).1 hk)).elim (HL2.out k) (fun e => .inr (Nat.le_trans hkz e))
                                have HNN := Lib.hid (And.intro hok (And.intro hdc (And.intro hkp (And.intro hov hlb))))
                                clear hok hdc hkp hov hlb
                                exact ⟨⟨i2 + 1, by rw [← HNG.out.1]; omega, by go_num, Lib.hid (by rw [HI.out.1]; exact HNN.out.1), Lib.hid HNN.out.2.1, Lib.hid HNN.out.2.2.1, Lib.hid HNN.out.2.2.2.1, Lib.hid HNN.out.2.2.2.2⟩, by simp [intOf1]; omega⟩
                            · obtain rfl : i2 = ng := by omega
                              have hT := HT2.out
                              rw [HNG.out.1, List.take_length, ← HNG.out.1, ← HSS.out.1, ← HSS.out.2] at hT
                              have HTT := Lib.hid hT
                              clear hT HT2
                              go_wp2
                              exact ⟨⟨i + 1, by rw [← HNL.out]; omega, by go_num, HTT, HDc2⟩, by simp [intOf1]; omega⟩
                        · obtain rfl : i = nL := by omega
                          have hT := HT.out
                          rw [HNL.out, List.take_length] at hT
                          obtain ⟨⟨nx8, F8, D8⟩, hs8⟩ : ∃ s, s = tkLs (T : Int) (nx, F, D) Ls6 := ⟨_, rfl⟩
                          rw [← hs8] at hT
                          have HTT := Lib.hid (And.intro hT hs8)
                          obtain ⟨Ds8, hrc8, _, _⟩ := hT.1.rrc
                          obtain ⟨RA8, rc8, _, _, r28, _⟩ := rrc_cells hrc8
                          obtain ⟨A11, c11, e11⟩ := dls_form hT.1.dls
                          subst e11
                          have hGn : 0 ≤ nx8 := hT.2.1.2.1
                          clear hT HT hs8 hrc8
                          by_cases hack : (a : Int) ≤ nx8 ∧ nx8 ≤ (k2 : Int)
                          · obtain ⟨p, hp⟩ : ∃ p : Nat, nx8 = (p : Int) := ⟨nx8.toNat, by omega⟩
                            rw [hp] at r28
                            go_wp2_with fail
                            refine (rack_yes w.heap.size w.heap.size 0 a p (T : Int) (BB.take k2) wr HTT.out.1.1.rsn (by omega) (by rw [hkl]; omega)).mono ?_
                            rintro e w12 ⟨rfl, hS12, hO12⟩
                            have HX12 := Lib.hid (HTT.out.1.1.sent (hO12.mono (fun k _ e => .inl e)) hS12)
                            clear hS12 hO12
                            go_wp2
                            refine ⟨txP_next (a2 := p) (Ls := Ls6) HR.out.1 HL6.out.2.2.2.1 HL6.out.2.2.2.2 hka ?_ ?_ ?_ ?_ (by omega) HR.out.2.2.2.2.2.2 (by rw [HA.out.2.2.2.2.2.1]; exact hnx) (by go_num), by simp [intOf1]; omega⟩
                            · rw [← HTT.out.2, if_pos hack]; show p = nx8.toNat; omega
                            · rw [← HTT.out.2]; exact HX12.out
                            · rw [← HTT.out.2]; exact HTT.out.1.2.1
                            · rw [← HTT.out.2]; show D8.length ≤ _; have h1 : D8.length ≤ D.length + 64 * fcnt Ls6 := HTT.out.1.2.2; have := HL6.out.2.2.1; have := HR.out.2.2.2.1; omega
                          · go_wp2_with fail
                            refine (rack_no w.heap.size w.heap.size 0 a nx8 (T : Int) (BB.take k2) wr HTT.out.1.1.rsn (by rw [hkl]; omega)).mono ?_
                            rintro e w12 ⟨rfl, rfl⟩
                            go_wp2
                            refine ⟨txP_next (a2 := a) (Ls := Ls6) HR.out.1 HL6.out.2.2.2.1 HL6.out.2.2.2.2 hka ?_ ?_ ?_ ?_ (by omega) HR.out.2.2.2.2.2.2 (by rw [HA.out.2.2.2.2.2.1]; exact hnx) (by go_num), by simp [intOf1]; omega⟩
                            · rw [← HTT.out.2, if_neg hack]
                            · rw [← HTT.out.2]; exact HTT.out.1.1
                            · rw [← HTT.out.2]; exact HTT.out.1.2.1
                            · rw [← HTT.out.2]; show D8.length ≤ _; have h1 : D8.length ≤ D.length + 64 * fcnt Ls6 := HTT.out.1.2.2; have := HL6.out.2.2.1; have := HR.out.2.2.2.1; omega
          · obtain rfl : j = 64 := by omega
            go_wp2
            go_ret3
            refine ⟨_, _, rfl, ⟨by omega, HR.out.2.2.2.2.2.2, ?_⟩, ?_, HR.out.2.1.bel⟩
            · rw [HR.out.1, HA.out.2.2.2.2.2.1]; first | exact .inl rfl | exact .inr (by show ¬ nx < _; omega)
            · rw [HR.out.1]; exact HR.out.2.1.dls
        · go_wp2
          go_ret3
          refine ⟨_, _, rfl, ⟨by omega, HR.out.2.2.2.2.2.2, ?_⟩, ?_, HR.out.2.1.bel⟩
          · rw [HR.out.1, HA.out.2.2.2.2.2.1]; first | exact .inl rfl | exact .inr (by show ¬ nx < _; omega)
          · rw [HR.out.1]; exact HR.out.2.1.dls
end Go.Proofs.Ytkakbeiehggkiaa
