/-
  The law's own walk of a transfer: whether a round makes frames that were not sent. Made by gen_tfo.py.
-/
import Derived.Test.YtkakbeiehggkiaaH41
import Derived.Test.YtkakbeiehggkiaaH43
import Derived.Test.YtkakbeiehggkiaaH08
import Derived.Test.YtkakbeiehggkiaaH36
import Derived.BigQuiet
namespace Go.Proofs.Ytkakbeiehggkiaa
open Go.RowKit Go.Maps
attribute [local go_sem ↓] Go.wp_at_zero Go.wp_at_succ

theorem strB_inj {X Y : List Nat} (hX : AllB X) (hY : AllB Y) (h : strB X = strB Y) : X = Y := by
  have h1 : (strB X).data.toList = (strB Y).data.toList := by rw [h]
  unfold strB at h1
  rw [strOfNums_data, strOfNums_data, List.map_map, List.map_map] at h1
  have hl : X.length = Y.length := by
    have := congrArg List.length h1
    simpa using this
  apply List.ext_getElem hl
  intro i h2 h3
  have h4 := congrArg (fun L => L[i]?) h1
  simp only [List.getElem?_map, List.getElem?_eq_getElem h2, List.getElem?_eq_getElem h3, Option.map_some, Option.some.injEq, Function.comp] at h4
  have h5 := congrArg UInt8.toNat h4
  have h6 := hX _ (List.getElem_mem h2)
  have h7 := hY _ (List.getElem_mem h3)
  simp at h5
  omega

theorem eq_of_toL {S S' : ByteArray} (h : (S.toList == S'.toList) = true) : S = S' := by
  have h1 := eq_of_beq h
  rw [ByteArray.toList_eq, ByteArray.toList_eq] at h1
  apply ByteArray.ext
  apply Array.ext'
  exact h1
theorem AllB.dropF {L : List Nat} (h : AllB L) (k : Nat) : AllB (L.drop k) := fun x hx => h x (List.mem_of_mem_drop hx)
/-- The bodies of the frames that Scan finds are bytes. -/
theorem scanF_all : ∀ (k : Nat) (L : List Nat), AllB L → ∀ f ∈ (scanF k L).1, AllB f.2.2
  | 0, L, _, f, hf => by simp [scanF] at hf
  | k + 1, L, h, f, hf => by
    by_cases h21 : upE L = 21
    · rw [scanF_short h21] at hf; simp at hf
    · by_cases h0 : upE L = 0
      · rw [scanF_ok h0] at hf
        rcases List.mem_cons.1 hf with e | e
        · subst e
          show AllB (upX L)
          unfold upX
          rw [if_pos h0]
          exact h.sl _ _
        · exact scanF_all k _ (h.dropF _) f e
      · rw [scanF_skip h21 h0] at hf
        exact scanF_all k _ (h.dropF _) f hf

theorem bdnT {B : Nat} {a w : World} (h : Below B a w) (n : Nat) : Below B a (w.drewN n) := h.trans ⟨rfl, rfl, rfl, Nat.le_refl _, fun _ _ => rfl⟩
def RetFo (w : World) (T : Nat) (BB : List (List Nat)) (RR : List (List Ft)) (e : Ending) (w' : World) : Prop :=
  ∃ b n, e = .returned (.bool b) ∧ Below w.heap.size w w' ∧ (b = false → IsN T BB RR n ∧ ∀ i, i < n → Honest T BB RR i)
def TyF (w : World) (gs gr a : Nat) (T : Int) (Bs : List (List Nat)) (s : Rp) (wr : World) : Prop :=
  TrX w w.heap.size gs gr T a Bs s.1 s.2.1 [] (.slice none 0 0) wr ∧ GoodR T s
def TyP (w : World) (T : Nat) (BB : List (List Nat)) (RR : List (List Ft)) (gs gr : Nat) (iv : Value) (wr : World) : Prop :=
  ∃ (j k a : Nat) (nx : Int) (F : Hf) (D : List Dl), j ≤ 64 ∧ k ≤ BB.length ∧ iv = .int .i64 (j : Int) ∧
    Hid (trN T BB RR j = (a, (nx, F, D)) ∧ TyF w gs gr a (T : Int) (BB.take k) (nx, F, D) wr ∧ a ≤ k ∧ k ≤ a + T ∧ (∀ i, i < j → (trN T BB RR i).2.1 < (BB.length : Int)) ∧ ∀ i, i < j → Honest T BB RR i)
def OfY (w : World) (T n k a : Nat) (BB : List (List Nat)) (gs gr : Nat) (nx : Int) (F : Hf) (wv : World) : Prop :=
  ∃ k1 : Nat, k ≤ k1 ∧ k1 ≤ n ∧ k1 ≤ a + T ∧ Hid (TrX w w.heap.size gs gr (T : Int) a (BB.take k1) nx F [] (.slice none 0 0) wv)
def TyO (w : World) (gs gr T a k2 : Nat) (BB : List (List Nat)) (s : Rp) (Ls : List (List Nat)) (dg : Value) (ps : List (Value × List Nat)) (iv : Value) (wv : World) : Prop :=
  ∃ i : Nat, i ≤ Ls.length ∧ iv = .int .i64 (i : Int) ∧ Hid (TyF w gs gr a (T : Int) (BB.take k2) (tkLs (T : Int) s (Ls.take i)) wv) ∧ Hid (Dcs wv 0 0 dg ps) ∧ Hid (∀ L ∈ Ls.take i, ∀ f ∈ (scanF (L.length + 1) L).1, SentF BB k2 f)
def TyI (w w7 : World) (gs gr lo T a k2 : Nat) (BB : List (List Nat)) (s7 : Rp) (Gr : List Fr) (dg : Value) (ps : List (Value × List Nat)) (iv : Value) (wv : World) : Prop :=
  ∃ i : Nat, i ≤ Gr.length ∧ iv = .int .i64 (i : Int) ∧ Hid (TyF w gs gr a (T : Int) (BB.take k2) (tkFs (T : Int) s7 (Gr.take i)) wv) ∧ Hid (Dcs wv 0 0 dg ps) ∧ Hid (Kept lo w7.heap.size w7 wv) ∧
    Hid (∀ k, lB wv gr k → k < lo ∨ w7.heap.size ≤ k) ∧ Hid (∀ f ∈ Gr.take i, SentF BB k2 f)
theorem tyF_below {w wr wr' : World} {gs gr a : Nat} {T : Int} {Bs : List (List Nat)} {s : Rp} (h : TyF w gs gr a T Bs s wr) (hb : Below wr.heap.size wr wr') : TyF w gs gr a T Bs s wr' := ⟨h.1.below hb, h.2⟩
theorem tyF_no {w wr w3 : World} {gs gr a : Nat} {T nx : Int} {F : Hf} {D : List Dl} {Bs : List (List Nat)} {f : Fr} (h : TyF w gs gr a T Bs (nx, F, D) wr) (hE : takeE 0 T nx F (f.1 : Int) (f.2.1 : Int) f.2.2.length ≠ 0) (b3 : Below wr.heap.size wr w3) : TyF w gs gr a T Bs (tkS T (nx, F, D) f) w3 := by
  rw [tkS_no hE]
  exact tyF_below h b3
theorem tyF_ok {w wr w3 : World} {gs gr a m : Nat} {T nx : Int} {F : Hf} {D : List Dl} {Bs : List (List Nat)} {Ds : List Dl} {f : Fr} (hT : T ≤ 64) (h : TyF w gs gr a T Bs (nx, F, D) wr)
    (hE : takeE 0 T nx F (f.1 : Int) (f.2.1 : Int) f.2.2.length = 0) (q1 : ∀ i : Nat, i < m → putH F (f.2.1 : Int) f.2.2 false (nx + i) ≠ none) (q2 : putH F (f.2.1 : Int) f.2.2 false (nx + m) = none) (q3 : (m : Int) ≤ T) (q4 : DsF Ds (cutF (putH F (f.2.1 : Int) f.2.2 false) (nx + m))) (q5 : Ds.length ≤ 1024)
    (q6 : Rrc w3 gr w.heap.size 0 T (nx + m) Ds) (q8 : Only (fun k => k = gr ∨ lB wr gr k) wr w3) (q9 : ∀ k, lB w3 gr k → lB wr gr k ∨ wr.heap.size ≤ k) : TyF w gs gr a T Bs (tkS T (nx, F, D) f) w3 := by
  obtain ⟨h1, h2⟩ := h
  rw [tkS_ok hT hE q1 q2 q3]
  exact ⟨h1.took q8 q6 q4 q5 q9, goodR_ok h2 hE q1 q2⟩
theorem tyP_next {w wr : World} {T j k' a a2 : Nat} {nx : Int} {F : Hf} {D : List Dl} {BB : List (List Nat)} {RR : List (List Ft)} {gs gr : Nat} {Ls : List (List Nat)}
    (h0 : trN T BB RR j = (a, (nx, F, D))) (hk : k' = min BB.length (a + T)) (hL : Ls = carried (RR[j]?) (pkts BB a k')) (ha : a ≤ k') (ha2 : a2 = if (a : Int) ≤ (tkLs (T : Int) (nx, F, D) Ls).1 ∧ (tkLs (T : Int) (nx, F, D) Ls).1 ≤ (k' : Int) then (tkLs (T : Int) (nx, F, D) Ls).1.toNat else a)
    (hW : TyF w gs gr a2 (T : Int) (BB.take k') (tkLs (T : Int) (nx, F, D) Ls) wr) (hj : j + 1 ≤ 64)
    (hi : ∀ i, i < j → (trN T BB RR i).2.1 < (BB.length : Int)) (hh : ∀ i, i < j → Honest T BB RR i) (hs : ∀ L ∈ Ls, ∀ f ∈ (scanF (L.length + 1) L).1, SentF BB k' f) (hnx : nx < (BB.length : Int)) {iv : Value} (hiv : iv = .int .i64 ((j + 1 : Nat) : Int)) : TyP w T BB RR gs gr iv wr := by
  have hst : trN T BB RR (j + 1) = (a2, tkLs (T : Int) (nx, F, D) Ls) := by
    show trStep T BB (RR[j]?) (trN T BB RR j) = _
    rw [h0]
    unfold trStep
    simp only
    rw [← hk, ← hL, ha2]
  obtain ⟨⟨n2, F2, D2⟩, hr⟩ : ∃ r, r = tkLs (T : Int) (nx, F, D) Ls := ⟨_, rfl⟩
  rw [← hr] at hst hW ha2
  have hle : a ≤ a2 ∧ a2 ≤ k' := by
    rw [ha2]
    split <;> omega
  refine ⟨j + 1, k', a2, n2, F2, D2, hj, by omega, hiv, Lib.hid ⟨hst, hW, hle.2, by omega, fun i hij => ?_, fun i hij => ?_⟩⟩
  · by_cases e : i = j
    · subst e; rw [h0]; exact hnx
    · exact hi i (by omega)
  · by_cases e : i = j
    · subst e
      unfold Honest
      rw [h0]
      show ∀ L ∈ carried (RR[i]?) (pkts BB a (min BB.length (a + T))), ∀ f ∈ (scanF (L.length + 1) L).1, SentF BB (min BB.length (a + T)) f
      rw [← hk, ← hL]
      exact hs
    · exact hh i (by omega)

set_option maxRecDepth 100000 in
set_option maxHeartbeats 16000000 in
theorem foreign_ok (T n c m c2 : Nat) (A A2 : Option Addr) (X : Nat → List Nat) (V : Nat → Value) (RR : List (List Ft)) (w : World) (hF : ByF w A n X V) (hX : ∀ i, i < n → (X i).length ≤ 1024) (hn : n ≤ 24) (hT : 1 ≤ T ∧ T ≤ 64)
    (hR : RdL w A2 m RR) (hm : m ≤ 70) (hR8 : ∀ i (h : i < RR.length), i < 64 → (RR[i]'h).length ≤ 8) :
    Calls Try.prog 50 #[.slice A n c, .int .i64 (T : Int), .slice A2 m c2] w (RetFo w T ((List.range n).map X) RR) := by
  obtain ⟨BB, hBB⟩ : ∃ BB, BB = (List.range n).map X := ⟨_, rfl⟩
  have hBl : BB.length = n := by rw [hBB]; simp
  have hBX : ∀ Y ∈ BB, Y.length ≤ 1024 ∧ AllB Y := by
    intro Y hY
    rw [hBB] at hY
    obtain ⟨i, hi, rfl⟩ := List.mem_map.1 hY
    have hi' : i < n := by simpa using hi
    obtain ⟨_, _, _, _, _, _, _, _, hB, _⟩ := hF i hi'
    exact ⟨hX i hi', hB⟩
  rw [← hBB]
  have HA := Lib.hid (And.intro hF (And.intro hX (And.intro hR (And.intro hR8 (And.intro hBB (And.intro hBl hBX))))))
  have HNS := Lib.hid (rnewS_yes 0 (T : Int) w ⟨⟨by omega, by omega⟩, by omega, by omega⟩)
  have hT64 : (T : Int) ≤ 64 := by omega
  clear hF hX hR hR8 hBB hBl hBX
  go_enter Try.func50, Try.ntmps50
  go_wp2_with fail
  refine HNS.out.mono ?_
  rintro e w1 ⟨gs, rfl, hS1, hgs, hgs2, b1⟩
  have HNR := Lib.hid (rnew_yes 0 (T : Int) 0 w1 ⟨⟨by omega, by omega⟩, ⟨by omega, by omega⟩, by omega, by omega⟩)
  go_wp2_with fail
  refine HNR.out.mono ?_
  rintro e w2 ⟨gr, rfl, hR2, hgr, hgr2, b2⟩
  have hW2 : TrX w w.heap.size gs gr (T : Int) 0 (BB.take 0) 0 (fun _ => none) [] (.slice none 0 0) w2 :=
    ⟨by simpa using rsn_below (hS1 w.heap.size) b2, ⟨[], hR2 w.heap.size, ⟨fun d h => by simp at h, fun k x h => (by cases h), List.Pairwise.nil⟩, by simp⟩, dls_nil _ _, fun k h => by simp [Value.ownBlock] at h, b1.trans (b2.mono b1.size), Nat.le_trans b1.size b2.size, by omega, hgs, Nat.le_trans b1.size hgr⟩
  have HX0 := Lib.hid (show TyP w T BB RR gs gr (.int .i64 0) w2 from ⟨0, 0, 0, 0, fun _ => none, [], by omega, Nat.zero_le _, rfl, Lib.hid ⟨rfl, ⟨hW2, good_start (T : Int)⟩, Nat.le_refl _, by omega, fun i h => absurd h (by omega), fun i h => absurd h (by omega)⟩⟩)
  clear hS1 hgs hgs2 b1 hR2 hgr hgr2 b2 hW2
  go_wp2_with fail
  go_loopw [11] (fun iv wr => TyP w T BB RR gs gr iv wr) (fun iv _ => 64 - (intOf1 iv).toNat)
  case atStart => exact HX0.out
  case round =>
    obtain ⟨j, k1, a, nx, F, D, hj, hk1, rfl, HR⟩ := hrel
    rw [HA.out.2.2.2.2.2.1] at hk1
    obtain ⟨Ds, hrc, hdsf, hdl⟩ := HR.out.2.1.1.rrc
    obtain ⟨RA, rc, r0, r1, r2, _⟩ := rrc_cells hrc
    obtain ⟨SA, sc, s0, s1, s2, s3, scap, sf, sgl, _⟩ := rsn_cells HR.out.2.1.1.rsn
    clear r0 r1 s0 s1 s2 sf
    by_cases hj64 : j < 64
    · have i6 : (j : Int) < 64 := by omega
      by_cases hnx : nx < (n : Int)
      · have hnx' : nx < (n : Int) := hnx
        go_wp2_with fail
        obtain ⟨wo, hwo⟩ : ∃ x, x = wr := ⟨_, rfl⟩
        subst hwo
        have hakT : a ≤ k1 ∧ k1 ≤ a + T := ⟨HR.out.2.2.1, HR.out.2.2.2.1⟩
        have HO0 := Lib.hid (show OfY w T n k1 a BB gs gr nx F wo from ⟨k1, Nat.le_refl _, hk1, hakT.2, Lib.hid HR.out.2.1.1⟩)
        clear r2 s3 hrc hdsf hdl scap sgl
        go_loopw [13] (fun _ wv => OfY w T n k1 a BB gs gr nx F wv) (fun _ wv => n - lenS ((wv.cell? ⟨gs, 3, none⟩).getD (.bool false)))
        case atStart => exact HO0.out
        case round =>
          obtain ⟨k2, hk12, hk2n, hk2T, HV⟩ := hrel
          have hka : a ≤ k2 := by omega
          have hk0 : (BB.take k2).length = k2 := by rw [List.length_take, HA.out.2.2.2.2.2.1]; omega
          obtain ⟨SA2, sc2, _, _, _, t3, _, _, hsgl, _⟩ := rsn_cells HV.out.rsn
          rw [hk0] at t3
          by_cases h2 : k2 < n
          · obtain ⟨b, o, A', c', rfl, hb, hcell, hv, hXB, hr⟩ := HA.out.1 k2 h2
            have hXl := HA.out.2.1 k2 h2
            have hcell' := (HV.out.bel.cell (p := ⟨b, o + k2, none⟩) hb).trans hcell
            rw [hv] at hcell' hr
            obtain ⟨L, hL⟩ : ∃ L, L = (X k2).length := ⟨_, rfl⟩
            rw [← hL] at hcell' hr hXl
            have i7 : (k2 : Int) < (n : Int) := by omega
            by_cases hfull : a + T ≤ k2
            · as_aux_lemma =>
              have HOf := Lib.hid (roffer_full gs w.heap.size 0 a (T : Int) (BB.take k2) A' L c' wr HV.out.rsn hXl (by omega) (by omega))
              have HKM := Lib.hid (show k2 = min BB.length (a + T) by rw [HA.out.2.2.2.2.2.1]; omega)
              clear hcell hv hr hL hfull
              go_wp2_with fail
              refine HOf.out.mono ?_
              rintro e w3 ⟨rfl, b3⟩
              obtain ⟨W4, HW4, hw4, HG4, z4⟩ := U0ex w3
              have HXW := Lib.hid ((HV.out.below b3).below hw4)
              clear b3 hcell' t3 hw4
              have hkl : (BB.take k2).length = k2 := by rw [List.length_take, HA.out.2.2.2.2.2.1]; omega
              have hkA : k2 ≤ 4294967295 := by omega
              have hkB : k2 - a ≤ 24 := by omega
              have hkC : k2 ≤ 1024 := by omega
              go_wp2_with fail
              rw [← HW4.out]
              refine (rpending_any gs w.heap.size 0 a (T : Int) (BB.take k2) _ HXW.out.rsn (by rw [hkl]; exact hkC) (fun i hi => (HA.out.2.2.2.2.2.2 _ (List.mem_of_mem_take (List.getElem_mem hi))).1)).mono ?_
              rintro e w4 ⟨fv, rfl, hfd, b4⟩
              rw [hkl] at hfd
              have HX4 := Lib.hid (HXW.out.below b4)
              obtain ⟨Fs, hFs⟩ : ∃ Fs, Fs = pF 0 a (BB.take k2) (k2 - a) := ⟨_, rfl⟩
              rw [← hFs] at hfd
              have HFD := Lib.hid (frd_frs hfd)
              have HOKF := Lib.hid (show ∀ f ∈ Fs, okFr2 f by rw [hFs]; exact pkts_ok HA.out.2.2.2.2.2.2 a k2 hkA hka)
              obtain ⟨Af, cf, ef⟩ := frs_form HFD.out
              subst ef
              have hFl : Fs.length = k2 - a := by rw [hFs, pF_len]
              have HFS := Lib.hid hFs
              obtain ⟨nf, hnf⟩ : ∃ nf, nf = Fs.length := ⟨_, rfl⟩
              rw [← hnf]
              have HNF := Lib.hid hnf
              have hnb : nf ≤ 24 := by omega
              clear hfd b4 hFs hFl hnf
              go_wp2_with fail
              go_loopw [14, 74] (fun lv iv wp => PkR w4 Fs lv iv wp) (fun _ iv _ => nf - (intOf1 iv).toNat)
              case atStart => exact ⟨0, Nat.zero_le _, rfl, Lib.hid ⟨[], by simp, dcs_nil _ _ _, Below.refl _ _⟩⟩
              case round =>
                obtain ⟨i, hi, rfl, HP⟩ := hrel
                rw [← HNF.out] at hi
                by_cases hin : i < nf
                · as_aux_lemma =>
                  have hiF : i < Fs.length := by rw [← HNF.out]; exact hin
                  obtain ⟨ps, hps, hd, hbw⟩ := HP.out
                  have hpl : ps.length = i := by
                    have := congrArg List.length hps
                    rw [List.length_map, List.length_map, List.length_take] at this
                    omega
                  obtain ⟨gf, c3, A3, c3', e2, hgf, p0, p1, p2, hr⟩ := frs_at (frs_below HFD.out hbw) i hiF
                  injection e2 with e3 e4 e5
                  subst e3
                  clear e4 e5
                  obtain ⟨f, hf⟩ : ∃ f, f = Fs[i]'hiF := ⟨_, rfl⟩
                  have hfk : okFr2 f := HOKF.out f (by rw [hf]; exact List.getElem_mem _)
                  rw [← hf] at p0 p1 p2 hr
                  obtain ⟨st, sq, Y⟩ := f
                  simp only at p0 p1 p2 hr
                  obtain ⟨hok, hYB⟩ := hfk
                  simp only at hok hYB
                  obtain ⟨W5, HW5, hw5, HG5, z5⟩ := F0ex wr (st : Int) (sq : Int) (.slice A3 Y.length c3')
                  obtain ⟨g0, g1, g2, gf'⟩ := fr_blk HG5.out (Below.refl _ _)
                  have HPk := Lib.hid (refPack_ok st sq Y hYB A3 Y.length c3' wr.heap.size hok W5 (hr.belowM hw5 (Nat.le_refl _)) hw5.size)
                  have hlY : Y.length ≤ 1024 := hok.2.2.2.2
                  have hst : st < 256 := by have := hok.2.1; omega
                  obtain ⟨P, hP⟩ : ∃ P, P = packL st sq Y := ⟨_, rfl⟩
                  have hPl : P.length ≤ 1048576 := by rw [hP, packL_length]; omega
                  have hPB : AllB P := by rw [hP]; exact packL_all st sq Y hst hYB
                  have hstep : ps.map Prod.snd ++ [P] = (Fs.take (i + 1)).map packFr := by
                    rw [List.take_succ_eq_append_getElem hiF, List.map_append, hps, ← hf, hP]
                    rfl
                  rw [← hP] at HPk
                  have HK := Lib.hid (And.intro hstep (And.intro (dcs_below hd hw5) (And.intro (hbw.trans (hw5.mono hbw.size)) (And.intro hPB (And.intro hPl hpl)))))
                  have i7 : (i : Int) < (nf : Int) := by omega
                  obtain ⟨A0, c0, e0⟩ := dcs_form hd
                  subst e0
                  clear hps hd hbw hr hf hok hYB hP hPl hPB hstep hw5 HP hpl
                  go_wp2_with fail
                  rw [← HW5.out]
                  go_wp2_with fail
                  refine HPk.out.mono ?_
                  rintro e w6 ⟨v6, rfl, o6, b6⟩
                  obtain ⟨A6, c6, e6⟩ := (rb_of_owns o6).2.form
                  subst e6
                  have hEl : El w6 w4.heap.size (.slice A6 P.length c6, P) := ⟨owns_base o6 HK.out.2.2.1.size, HK.out.2.2.2.1, HK.out.2.2.2.2.1⟩
                  have HJ := Lib.hid (And.intro (dcs_below HK.out.2.1 b6) (And.intro (HK.out.2.2.1.trans (b6.mono HK.out.2.2.1.size)) hEl))
                  have hs6 := HJ.out.2.1.size
                  clear o6 b6 hEl
                  go_wp2_with (at_builtin
                               refine wpList_append_dc rfl (.tmp 83) (.tmp 85) rfl w4.heap.size w4.heap.size _ _ rfl HJ.out.1 (.slice A6 P.length c6, P) HJ.out.2.2 rfl (by have := HK.out.2.2.2.2.2; omega) hs6 ?_
                               intro v7 w7 hd hO
                               have hb7 := dcs_only HJ.out.1 hO HJ.out.2.1 hs6
                               have H7 := Lib.hid (And.intro hd hb7)
                               clear hd hO hb7)
                  exact ⟨⟨i + 1, by rw [← HNF.out]; omega, by go_num, Lib.hid ⟨_, by rw [List.map_append]; exact HK.out.1, H7.out.1, H7.out.2⟩⟩, by simp [intOf1]; omega⟩
                · as_aux_lemma =>
                  obtain rfl : i = nf := by omega
                  obtain ⟨ps, hps, hd, hbw⟩ := HP.out
                  rw [HNF.out, List.take_length] at hps
                  have HX5 := Lib.hid (HX4.out.below hbw)
                  have HD5 := Lib.hid (And.intro hd (show ps.map Prod.snd = pkts BB a k2 by rw [hps, HFS.out]; rfl))
                  obtain ⟨Ap, cp, ep⟩ := dcs_form hd
                  subst ep
                  obtain ⟨w5, hw5⟩ : ∃ x, x = wr := ⟨_, rfl⟩
                  subst hw5
                  clear hps hd hbw HP
                  by_cases hjm : j < m
                  · as_aux_lemma =>
                    have hjR : j < RR.length := by rw [HA.out.2.2.1.1]; exact hjm
                    obtain ⟨b2, o2, A9, c9, hA2, hb2, hc2, hft⟩ := HA.out.2.2.1.2 j hjR
                    subst hA2
                    obtain ⟨Gs, hGs⟩ : ∃ Gs, Gs = RR[j]'hjR := ⟨_, rfl⟩
                    rw [← hGs] at hc2 hft
                    have hG8 : Gs.length ≤ 8 := by rw [hGs]; exact HA.out.2.2.2.1 j hjR hj64
                    have hRj : RR[j]? = some Gs := by rw [hGs]; exact List.getElem?_eq_getElem hjR
                    have hc5 := (HX5.out.bel.cell (p := ⟨b2, o2 + j, none⟩) hb2).trans hc2
                    have hpl : ps.length = k2 - a := by
                      have h := congrArg List.length HD5.out.2
                      rw [List.length_map, pkts_len] at h
                      exact h
                    have HCy := Lib.hid (dcarry_any (c := cp) (inL_dcs HD5.out.1 HD5.out.2) (by rw [hpl]; exact Nat.le_trans hkB (by decide)) (fun Y hY => Nat.le_trans (pkts_size HA.out.2.2.2.2.2.2 a k2 hkA hka Y hY) (by omega)) A9 Gs.length c9 Gs (ftL_belowT hft HX5.out.bel) (by omega))
                    have i8 : (j : Int) < (m : Int) := by omega
                    obtain ⟨lf, hlf⟩ : ∃ l, l = Gs.length := ⟨_, rfl⟩
                    rw [← hlf] at hc5 HCy
                    have HLF := Lib.hid (And.intro hlf (And.intro hG8 hRj))
                    clear hc2 hft hGs hlf hG8 hRj hpl
                    go_wp2_with fail
                    refine HCy.out.mono ?_
                    rintro e w6 ⟨ps6, qv, hqs, rfl, hd6, b6⟩
                    have HX6 := Lib.hid (HX5.out.below b6)
                    have D6 := Lib.hid (dcs_base0 hd6)
                    clear hd6 b6
                    obtain ⟨Ls6, hLs⟩ : ∃ L, L = carried (RR[j]?) (pkts BB a k2) := ⟨_, rfl⟩
                    have hps6 := Lib.hid (show ps6.map Prod.snd = Ls6 by rw [hqs, hLs, HLF.out.2.2]; rfl)
                    have hll : Ls6.length ≤ 32 := by
                      have h := carried_len (R := RR[j]?) (Ls := pkts BB a k2) (fun Hs e => by rw [HLF.out.2.2] at e; injection e with e; rw [← e]; exact HLF.out.2.1)
                      rw [pkts_len] at h
                      rw [hLs]
                      omega
                    have hls := carried_size (R := RR[j]?) (pkts_size HA.out.2.2.2.2.2.2 a k2 hkA hka)
                    rw [← hLs] at hls
                    have HL6 := Lib.hid (And.intro hll (And.intro hls (And.intro HKM.out hLs)))
                    clear hLs hll hls
                    clear hqs
                    obtain ⟨A6, c6, e6⟩ := dcs_form D6.out
                    subst e6
                    obtain ⟨nL, hnL⟩ : ∃ nL, nL = Ls6.length := ⟨_, rfl⟩
                    have hp6 : ps6.length = nL := by rw [hnL, ← hps6.out, List.length_map]
                    rw [hp6] at D6 ⊢
                    have HNL := Lib.hid hnL
                    have HP6 := Lib.hid hp6
                    have hnLb : nL ≤ 32 := by have := HL6.out.1; omega
                    have HT0 := Lib.hid (show TyF w gs gr a (T : Int) (BB.take k2) (tkLs (T : Int) (nx, F, D) (Ls6.take 0)) w6 from ⟨by simpa [tkLs] using HX6.out, by simpa [tkLs] using HR.out.2.1.2⟩)
                    clear hnL hp6
                    go_wp2_with fail
                    go_loopw [100] (fun iv wv => TyO w gs gr T a k2 BB (nx, F, D) Ls6 (.slice A6 nL c6) ps6 iv wv) (fun iv _ => nL - (intOf1 iv).toNat)
                    case atStart => exact ⟨0, Nat.zero_le _, rfl, HT0, D6, Lib.hid (fun L h => by simp at h)⟩
                    case round =>
                      obtain ⟨i, hi, rfl, HT, HDc, HS0⟩ := hrel
                      rw [← HNL.out] at hi
                      by_cases hin : i < nL
                      · as_aux_lemma =>
                        have hiL : i < Ls6.length := by rw [← HNL.out]; exact hin
                        have hip : i < ps6.length := by rw [HP6.out]; exact hin
                        obtain ⟨gd, cd, ed, hgd, hcell⟩ := dcs_at HDc.out i hip
                        injection ed with ed1 ed2 ed3
                        subst ed1
                        have hel := HDc.out.els _ (List.getElem_mem hip)
                        obtain ⟨_, hrb⟩ := rb_of_owns hel.1
                        obtain ⟨A', c', hf⟩ := hrb.form
                        obtain ⟨Z, hZe⟩ : ∃ Z, Z = Ls6[i]'hiL := ⟨_, rfl⟩
                        have hZ2 : (ps6[i]'hip).2 = Z := by rw [hZe]; simp [← hps6.out]
                        rw [hZ2] at hf hrb
                        rw [hf] at hcell hrb
                        have hZB : AllB Z := by rw [← hZ2]; exact hel.2.1
                        have hZl : Z.length ≤ 1048576 := by rw [hZe]; exact Nat.le_trans (HL6.out.2.1 _ (List.getElem_mem _)) (by omega)
                        have i9 : (i : Int) < (nL : Int) := by omega
                        have HSc := Lib.hid (refScx_any Z hZB A' Z.length c' wr.heap.size hZl wr hrb (Nat.le_refl _))
                        have hst1 := tkLs_succ (T : Int) (nx, F, D) Ls6 i hiL
                        rw [← hZe] at hst1
                        have HST := Lib.hid hst1
                        have HLT := Lib.hid (show Ls6.take (i + 1) = Ls6.take i ++ [Z] by rw [List.take_succ_eq_append_getElem hiL, hZe])
                        have HZL := Lib.hid (show Z.length ≤ 1200 by rw [hZe]; exact Nat.le_trans (HL6.out.2.1 _ (List.getElem_mem _)) (by omega))
                        have HZB := Lib.hid hZB
                        clear hel hrb hf hZe hZ2 hZB hZl hst1 ed2 ed3
                        go_wp2_with fail
                        refine HSc.out.mono ?_
                        rintro e w7 ⟨fv, rfl, hfs, b7⟩
                        obtain ⟨Gr, hGr⟩ : ∃ Gr, Gr = (scanF (Z.length + 1) Z).1 := ⟨_, rfl⟩
                        rw [← hGr] at hfs
                        obtain ⟨s7, hs7⟩ : ∃ s, s = tkLs (T : Int) (nx, F, D) (Ls6.take i) := ⟨_, rfl⟩
                        have HTr := HT.out
                        rw [← hs7] at HTr
                        have HT1 := Lib.hid (show TyF w gs gr a (T : Int) (BB.take k2) (tkFs (T : Int) s7 (Gr.take 0)) w7 from by simpa [tkFs] using tyF_below HTr b7)
                        have HDc1 := Lib.hid (dcs_below HDc.out b7)
                        have HL1 := Lib.hid (lb_ov HTr.1 b7)
                        have HK1 := Lib.hid (show Kept wr.heap.size w7.heap.size w7 w7 from ⟨Nat.le_refl _, fun _ _ _ => rfl⟩)
                        have HFX := Lib.hid hfs
                        obtain ⟨Ag, cg, eg⟩ := frx_form hfs
                        subst eg
                        obtain ⟨ng, hng⟩ : ∃ ng, ng = Gr.length := ⟨_, rfl⟩
                        have hngb : ng ≤ 3200 := by
                          have h1 := scanF_len (Z.length + 1) Z
                          rw [← hGr, ← hng] at h1
                          have := HZL.out
                          omega
                        have hs71 := b7.size
                        have hgrl := HTr.1.grl
                        have HNG := Lib.hid hng
                        have HSS := Lib.hid (show tkLs (T : Int) (nx, F, D) (Ls6.take (i + 1)) = tkFs (T : Int) s7 Gr by rw [hs7, hGr]; exact HST.out)
                        have HGR := Lib.hid hGr
                        rw [← hng] at HFX ⊢
                        clear hfs b7 hGr hs7 hng hcell HTr
                        go_wp2_with fail
                        obtain ⟨lo, hlo⟩ : ∃ lo, lo = wr.heap.size := ⟨_, rfl⟩
                        rw [← hlo] at HL1 HK1 HFX hs71 hgrl
                        have HLO := Lib.hid hgrl
                        clear hgrl
                        clear hlo hgd HT HSc HDc
                        go_loopw [114] (fun iv wv => TyI w w7 gs gr lo T a k2 BB s7 Gr (.slice (some ⟨gd, 0, none⟩) nL c6) ps6 iv wv) (fun iv _ => ng - (intOf1 iv).toNat)
                        case atStart => exact ⟨0, Nat.zero_le _, rfl, HT1, HDc1, HK1, HL1, Lib.hid (fun f h => by simp at h)⟩
                        case round =>
                          obtain ⟨i2, hi2, rfl, HT2, HDc2, HK2, HL2, HS2⟩ := hrel
                          rw [← HNG.out] at hi2
                          by_cases hin2 : i2 < ng
                          · as_aux_lemma =>
                            have hiG : i2 < Gr.length := by rw [← HNG.out]; exact hin2
                            have hstep := tkFs_succ (T : Int) s7 Gr i2 hiG
                            obtain ⟨gf, c8, A8, c8', e8, hgf, p0, p1, p2, hr⟩ := frx_at HFX.out HK2.out i2 hiG
                            injection e8 with e9 e10 e11
                            subst e9
                            clear e10 e11
                            obtain ⟨f, hf⟩ : ∃ f, f = Gr[i2]'hiG := ⟨_, rfl⟩
                            rw [← hf] at p0 p1 p2 hr hstep
                            have HFE := Lib.hid (And.intro (show Gr.take (i2 + 1) = Gr.take i2 ++ [f] by rw [List.take_succ_eq_append_getElem hiG, hf]) (show AllB f.2.2 from scanF_all _ Z HZB.out f (by rw [← HGR.out, hf]; exact List.getElem_mem _)))
                            obtain ⟨⟨nx1, F1, D1⟩, hs1'⟩ : ∃ s, s = tkFs (T : Int) s7 (Gr.take i2) := ⟨_, rfl⟩
                            have HTr := HT2.out
                            rw [← hs1'] at HTr hstep
                            obtain ⟨fst, sq, Y⟩ := f
                            simp only at p0 p1 p2 hr
                            obtain ⟨W5, HW5, hw5, HG5, z5⟩ := F0ex wr (fst : Int) (sq : Int) (.slice A8 Y.length c8')
                            obtain ⟨g0, g1, g2, gf'⟩ := fr_blk HG5.out (Below.refl _ _)
                            have hrY : ∀ n, RB (W5.drewN n) wr.heap.size (.slice A8 Y.length c8') Y := fun n => hr.belowM (bdnT hw5 n) (Nat.le_refl _)
                            have TY := fun n => run_string_bytes (hrY n).1
                            obtain ⟨SB, sb, _, _, _, u3, usc, _, ugl, uel⟩ := rsn_cells (tyF_below HTr hw5).1.rsn
                            have hk0 : (BB.take k2).length = k2 := by rw [List.length_take, HA.out.2.2.2.2.2.1]; omega
                            rw [hk0] at u3 usc
                            have i9 : (i2 : Int) < (ng : Int) := by omega
                            have HBX := Lib.hid (show ∀ n, Below w.heap.size w (W5.drewN n) from fun n => HTr.1.bel.trans ((bdnT hw5 n).mono HTr.1.siz))
                            have HI := Lib.hid (And.intro hstep (And.intro hw5 (And.intro hrY HTr)))
                            have hkz := HK2.out.1
                            obtain ⟨SY, hSY⟩ : ∃ S, S = strB Y := ⟨_, rfl⟩
                            rw [← hSY] at TY
                            have HSY := Lib.hid hSY
                            clear hf hs1' hstep hr HT2 gf' hw5 hrY hSY HTr
                            by_cases hst : fst = 0
                            · have HF0 := Lib.hid hst
                              have q1 : ((fst : Int) != 0) = false := by simp [hst]
                              clear hst
                              by_cases hsq : sq < k2
                              · obtain ⟨gb, AE, ce0, hSB, hgb, hce, hBd⟩ := uel sq (by rw [hk0]; exact hsq)
                                subst hSB
                                obtain ⟨E, hE⟩ : ∃ E, E = (BB.take k2)[sq]'(by rw [hk0]; exact hsq) := ⟨_, rfl⟩
                                rw [← hE] at hce hBd
                                have TE := fun n => run_string_bytes ((bd_rb hBd).belowM (bdnT (Below.refl _ _) n) (Nat.le_refl _)).1
                                obtain ⟨SE, hSE⟩ : ∃ S, S = strB E := ⟨_, rfl⟩
                                rw [← hSE] at TE
                                obtain ⟨lE, hlE⟩ : ∃ l, l = E.length := ⟨_, rfl⟩
                                rw [← hlE] at hce TE
                                have HSE := Lib.hid (And.intro hSE hE)
                                have q2 : (sq : Int) < (k2 : Int) := by omega
                                have q2' : ¬ (k2 : Int) ≤ (sq : Int) := by omega
                                have q3 : (0 : Int) ≤ (sq : Int) := by omega
                                clear uel hBd hSE hE hlE ugl
                                by_cases hne : (SE.toList == SY.toList) = false
                                · go_wp2_with fail
                                  rw [← HW5.out]
                                  go_quiet (fail)
                                  go_wp2
                                  go_ret
                                  exact ⟨true, 0, rfl, HBX.out _, fun h => by cases h⟩
                                · as_aux_lemma =>
                                  have e2 : SE = SY := eq_of_toL (by simpa using hne)
                                  clear hne
                                  subst e2
                                  have HSN := Lib.hid (show SentF BB k2 (fst, sq, Y) from ⟨HF0.out, hsq, by
                                    have h1 : E = BB.getD sq [] := by
                                      rw [HSE.out.2]
                                      have : sq < BB.length := by rw [HA.out.2.2.2.2.2.1]; omega
                                      simp [List.getD, this]
                                    have h2 : AllB E := by
                                      rw [HSE.out.2]
                                      exact (HA.out.2.2.2.2.2.2 _ (List.mem_of_mem_take (List.getElem_mem _))).2
                                    have e3 : strB E = strB Y := HSE.out.1.symm.trans HSY.out
                                    rw [← h1]
                                    exact (strB_inj h2 HFE.out.2 e3).symm⟩)
                                  have hne2 : (SE != SE) = false := by
                                    have := strEqZ SE
                                    simp [bne, this]
                                  go_wp2_with fail
                                  rw [← HW5.out]
                                  go_quiet (fail)
                                  obtain ⟨W6, hW6⟩ : ∃ W6, W6 = W5.drewN nq := ⟨_, rfl⟩
                                  rw [← hW6]
                                  have hd6 : Below wr.heap.size wr W6 := by rw [hW6]; exact bdnT HI.out.2.1 nq
                                  have y0 : W6.cell? ⟨wr.heap.size, 0, none⟩ = some (.int .i64 (fst : Int)) := by rw [hW6]; exact g0
                                  have y1 : W6.cell? ⟨wr.heap.size, 1, none⟩ = some (.int .i64 (sq : Int)) := by rw [hW6]; exact g1
                                  have y2 : W6.cell? ⟨wr.heap.size, 2, none⟩ = some (.slice A8 Y.length c8') := by rw [hW6]; exact g2
                                  have hrY6 : RB W6 wr.heap.size (.slice A8 Y.length c8') Y := by rw [hW6]; exact HI.out.2.2.1 nq
                                  have HTy := Lib.hid (tyF_below HI.out.2.2.2 hd6)
                                  obtain ⟨Ds1, hrc1, hdf1, hdl1⟩ := HTy.out.1.rrc
                                  have hG1 : GoodR (T : Int) (nx1, F1, D1) := HTy.out.2
                                  obtain ⟨ce, hce'⟩ : ∃ ce, takeE 0 (T : Int) nx1 F1 (fst : Int) (sq : Int) Y.length = ce := ⟨_, rfl⟩
                                  have HTk := Lib.hid (rtakex_any gr w.heap.size 0 (T : Int) nx1 (fst : Int) (sq : Int) F1 Ds1 Y A8 Y.length c8' wr.heap.size W6 hrc1 hdf1 hG1.1.inW (by have := dsF_small hdf1 hG1.1 (by omega); omega) ⟨hG1.2.1, hG1.2.2⟩ ⟨by omega, by omega⟩ hrY6 hd6.size HTy.out.1.siz ce hce')
                                  have HCE := Lib.hid hce'
                                  have hHL : ∀ k, lB W6 gr k → k < lo ∨ w7.heap.size ≤ k := fun k hk => HL2.out k ((lB_below hd6 HI.out.2.2.2.1.grl).1 hk)
                                  have HLx := Lib.hid hHL
                                  have HKx := Lib.hid (kept_only HK2.out (only_below (S := fun _ => False) hd6) (fun _ h => absurd h id))
                                  have HDx := Lib.hid (dcs_below HDc2.out hd6)
                                  have hz5 : wr.heap.size ≤ W6.heap.size := hd6.size
                                  clear hrc1 hdf1 hdl1 hG1 hce' hHL hW6 hd6 hrY6 g0 g1 g2
                                  go_wp2_with fail
                                  refine HTk.out.mono ?_
                                  rintro e w9 ⟨v9, rfl, ⟨hc0, hv9, b9⟩ | ⟨hc0, mm, Ds9, q1, q2, q3, q4, q5, q6, q7, q8, q9⟩⟩
                                  · as_aux_lemma =>
                                    have hno := tyF_no (f := (fst, sq, Y)) HTy.out (by show takeE 0 (T : Int) nx1 F1 (fst : Int) (sq : Int) Y.length ≠ 0; rw [HCE.out]; exact hc0) b9
                                    have hdc : Dcs w9 0 0 _ ps6 := dcs_below HDx.out b9
                                    have hkp : Kept lo w7.heap.size w7 w9 := kept_only HKx.out (only_below (S := fun _ => False) b9) (fun _ h => absurd h id)
                                    have hlb : ∀ k, lB w9 gr k → k < lo ∨ w7.heap.size ≤ k := fun k hk => HLx.out k ((lB_below b9 HTy.out.1.grl).1 hk)
                                    have HNN := Lib.hid (And.intro hno (And.intro hdc (And.intro hkp hlb)))
                                    clear hno hdc hkp hlb b9 hv9
                                    go_wp2
                                    exact ⟨⟨i2 + 1, by rw [← HNG.out]; omega, by go_num, Lib.hid (by rw [HI.out.1]; exact HNN.out.1), Lib.hid HNN.out.2.1, Lib.hid HNN.out.2.2.1, Lib.hid HNN.out.2.2.2, Lib.hid (by
                                      rw [HFE.out.1]
                                      intro g hg
                                      rcases List.mem_append.1 hg with h | h
                                      · exact HS2.out g h
                                      · simp at h
                                        subst h
                                        exact HSN.out)⟩, by simp [intOf1]; omega⟩
                                  · as_aux_lemma =>
                                    subst hc0
                                    have hok := tyF_ok (f := (fst, sq, Y)) (by omega : (T : Int) ≤ 64) HTy.out HCE.out q1 q2 q3 q4 q5 q6 q8 q9
                                    have hdc : Dcs w9 0 0 _ ps6 := dcs_only' HDx.out q8 (gr_not HTy.out.1 (by decide) (by decide)) (gr_not HTy.out.1 (by decide) (by decide))
                                    have hkp : Kept lo w7.heap.size w7 w9 := kept_only HKx.out q8 (fun k e => e.elim (fun e => .inl (by have := HLO.out; omega)) (HLx.out k))
                                    have hlb : ∀ k, lB w9 gr k → k < lo ∨ w7.heap.size ≤ k := fun k hk => (q9 k hk).elim (HLx.out k) (fun e => .inr (Nat.le_trans (Nat.le_trans hkz hz5) e))
                                    have HNN := Lib.hid (And.intro hok (And.intro hdc (And.intro hkp hlb)))
                                    clear hok hdc hkp hlb q1 q2 q3 q4 q5 q6 q7 q8 q9
                                    go_wp2
                                    exact ⟨⟨i2 + 1, by rw [← HNG.out]; omega, by go_num, Lib.hid (by rw [HI.out.1]; exact HNN.out.1), Lib.hid HNN.out.2.1, Lib.hid HNN.out.2.2.1, Lib.hid HNN.out.2.2.2, Lib.hid (by
                                      rw [HFE.out.1]
                                      intro g hg
                                      rcases List.mem_append.1 hg with h | h
                                      · exact HS2.out g h
                                      · simp at h
                                        subst h
                                        exact HSN.out)⟩, by simp [intOf1]; omega⟩
                              · have q2 : (k2 : Int) ≤ (sq : Int) := by omega
                                have q2' : ¬ (sq : Int) < (k2 : Int) := by omega
                                clear uel ugl hk0
                                go_wp2_with fail
                                rw [← HW5.out]
                                go_quiet (fail)
                                go_wp2
                                go_ret
                                exact ⟨true, 0, rfl, HBX.out _, fun h => by cases h⟩
                            · have q1 : ((fst : Int) != 0) = true := by simp; omega
                              clear uel ugl hk0
                              go_wp2_with fail
                              rw [← HW5.out]
                              go_quiet (fail)
                              go_wp2
                              go_ret
                              exact ⟨true, 0, rfl, HBX.out _, fun h => by cases h⟩
                          · obtain rfl : i2 = ng := by omega
                            have hT := HT2.out
                            have hS := HS2.out
                            rw [HNG.out, List.take_length, ← HSS.out] at hT
                            rw [HNG.out, List.take_length] at hS
                            have HTT := Lib.hid hT
                            have HSN := Lib.hid hS
                            clear hT HT2 hS
                            go_wp2
                            exact ⟨⟨i + 1, by rw [← HNL.out]; omega, by go_num, HTT, HDc2, Lib.hid (by
                              rw [HLT.out]
                              intro L hL
                              rcases List.mem_append.1 hL with h | h
                              · exact HS0.out L h
                              · simp at h
                                subst h
                                rw [← HGR.out]
                                exact HSN.out)⟩, by simp [intOf1]; omega⟩
                      · as_aux_lemma =>
                        obtain rfl : i = nL := by omega
                        have hT := HT.out
                        have hS := HS0.out
                        rw [HNL.out, List.take_length] at hT hS
                        obtain ⟨⟨nx8, F8, D8⟩, hs8⟩ : ∃ s, s = tkLs (T : Int) (nx, F, D) Ls6 := ⟨_, rfl⟩
                        rw [← hs8] at hT
                        have HTT := Lib.hid (And.intro hT hs8)
                        have HSS := Lib.hid hS
                        obtain ⟨Ds8, hrc8, _, _⟩ := hT.1.rrc
                        obtain ⟨RA8, rc8, _, _, r28, _⟩ := rrc_cells hrc8
                        have hGn : 0 ≤ nx8 := hT.2.2.1
                        clear hT HT hs8 hrc8 hS
                        by_cases hack : (a : Int) ≤ nx8 ∧ nx8 ≤ (k2 : Int)
                        · obtain ⟨p, hp⟩ : ∃ p : Nat, nx8 = (p : Int) := ⟨nx8.toNat, by omega⟩
                          rw [hp] at r28
                          go_wp2_with fail
                          refine (rack_yes gs w.heap.size 0 a p (T : Int) (BB.take k2) wr HTT.out.1.1.rsn (by omega) (by rw [hkl]; omega)).mono ?_
                          rintro e w12 ⟨rfl, hS12, hO12⟩
                          have HX12 := Lib.hid (HTT.out.1.1.sent (hO12.mono (fun k _ e => .inl e)) hS12)
                          clear hS12 hO12
                          go_wp2
                          refine ⟨tyP_next (a2 := p) (Ls := Ls6) HR.out.1 HL6.out.2.2.1 HL6.out.2.2.2 hka ?_ ?_ (by omega) HR.out.2.2.2.2.1 HR.out.2.2.2.2.2 HSS.out (by rw [HA.out.2.2.2.2.2.1]; exact hnx') (by go_num), by simp [intOf1]; omega⟩
                          · rw [← HTT.out.2, if_pos hack]; show p = nx8.toNat; omega
                          · rw [← HTT.out.2]; exact ⟨HX12.out, HTT.out.1.2⟩
                        · go_wp2_with fail
                          refine (rack_no gs w.heap.size 0 a nx8 (T : Int) (BB.take k2) wr HTT.out.1.1.rsn (by rw [hkl]; omega)).mono ?_
                          rintro e w12 ⟨rfl, rfl⟩
                          go_wp2
                          refine ⟨tyP_next (a2 := a) (Ls := Ls6) HR.out.1 HL6.out.2.2.1 HL6.out.2.2.2 hka ?_ ?_ (by omega) HR.out.2.2.2.2.1 HR.out.2.2.2.2.2 HSS.out (by rw [HA.out.2.2.2.2.2.1]; exact hnx') (by go_num), by simp [intOf1]; omega⟩
                          · rw [← HTT.out.2, if_neg hack]
                          · rw [← HTT.out.2]; exact HTT.out.1
                  · as_aux_lemma =>
                    have i8 : ¬ (j : Int) < (m : Int) := by omega
                    have hRj : RR[j]? = none := List.getElem?_eq_none (by rw [HA.out.2.2.1.1]; omega)
                    obtain ⟨w6, hw6⟩ : ∃ x, x = w5 := ⟨_, rfl⟩
                    subst hw6
                    obtain ⟨ps6, hp6⟩ : ∃ x, x = ps := ⟨_, rfl⟩
                    subst hp6
                    have HX6 := HX5
                    have D6 := Lib.hid (dcs_base0 HD5.out.1)
                    obtain ⟨Ls6, hLs⟩ : ∃ L, L = carried (RR[j]?) (pkts BB a k2) := ⟨_, rfl⟩
                    have hps6 := Lib.hid (show ps6.map Prod.snd = Ls6 by rw [HD5.out.2, hLs, hRj]; rfl)
                    have hll : Ls6.length ≤ 32 := by
                      have h := carried_len (R := RR[j]?) (Ls := pkts BB a k2) (fun Hs e => by rw [hRj] at e; cases e)
                      rw [pkts_len] at h
                      rw [hLs]
                      omega
                    have hls := carried_size (R := RR[j]?) (pkts_size HA.out.2.2.2.2.2.2 a k2 hkA hka)
                    rw [← hLs] at hls
                    have HL6 := Lib.hid (And.intro hll (And.intro hls (And.intro HKM.out hLs)))
                    clear hLs hll hls
                    clear hRj
                    obtain ⟨A6, hA6⟩ : ∃ x, x = Ap := ⟨_, rfl⟩
                    subst hA6
                    obtain ⟨c6, hc6⟩ : ∃ x, x = cp := ⟨_, rfl⟩
                    subst hc6
                    obtain ⟨nL, hnL⟩ : ∃ nL, nL = Ls6.length := ⟨_, rfl⟩
                    have hp6 : ps6.length = nL := by rw [hnL, ← hps6.out, List.length_map]
                    rw [hp6] at D6 ⊢
                    have HNL := Lib.hid hnL
                    have HP6 := Lib.hid hp6
                    have hnLb : nL ≤ 32 := by have := HL6.out.1; omega
                    have HT0 := Lib.hid (show TyF w gs gr a (T : Int) (BB.take k2) (tkLs (T : Int) (nx, F, D) (Ls6.take 0)) w6 from ⟨by simpa [tkLs] using HX6.out, by simpa [tkLs] using HR.out.2.1.2⟩)
                    clear hnL hp6
                    go_wp2_with fail
                    go_loopw [100] (fun iv wv => TyO w gs gr T a k2 BB (nx, F, D) Ls6 (.slice A6 nL c6) ps6 iv wv) (fun iv _ => nL - (intOf1 iv).toNat)
                    case atStart => exact ⟨0, Nat.zero_le _, rfl, HT0, D6, Lib.hid (fun L h => by simp at h)⟩
                    case round =>
                      obtain ⟨i, hi, rfl, HT, HDc, HS0⟩ := hrel
                      rw [← HNL.out] at hi
                      by_cases hin : i < nL
                      · as_aux_lemma =>
                        have hiL : i < Ls6.length := by rw [← HNL.out]; exact hin
                        have hip : i < ps6.length := by rw [HP6.out]; exact hin
                        obtain ⟨gd, cd, ed, hgd, hcell⟩ := dcs_at HDc.out i hip
                        injection ed with ed1 ed2 ed3
                        subst ed1
                        have hel := HDc.out.els _ (List.getElem_mem hip)
                        obtain ⟨_, hrb⟩ := rb_of_owns hel.1
                        obtain ⟨A', c', hf⟩ := hrb.form
                        obtain ⟨Z, hZe⟩ : ∃ Z, Z = Ls6[i]'hiL := ⟨_, rfl⟩
                        have hZ2 : (ps6[i]'hip).2 = Z := by rw [hZe]; simp [← hps6.out]
                        rw [hZ2] at hf hrb
                        rw [hf] at hcell hrb
                        have hZB : AllB Z := by rw [← hZ2]; exact hel.2.1
                        have hZl : Z.length ≤ 1048576 := by rw [hZe]; exact Nat.le_trans (HL6.out.2.1 _ (List.getElem_mem _)) (by omega)
                        have i9 : (i : Int) < (nL : Int) := by omega
                        have HSc := Lib.hid (refScx_any Z hZB A' Z.length c' wr.heap.size hZl wr hrb (Nat.le_refl _))
                        have hst1 := tkLs_succ (T : Int) (nx, F, D) Ls6 i hiL
                        rw [← hZe] at hst1
                        have HST := Lib.hid hst1
                        have HLT := Lib.hid (show Ls6.take (i + 1) = Ls6.take i ++ [Z] by rw [List.take_succ_eq_append_getElem hiL, hZe])
                        have HZL := Lib.hid (show Z.length ≤ 1200 by rw [hZe]; exact Nat.le_trans (HL6.out.2.1 _ (List.getElem_mem _)) (by omega))
                        have HZB := Lib.hid hZB
                        clear hel hrb hf hZe hZ2 hZB hZl hst1 ed2 ed3
                        go_wp2_with fail
                        refine HSc.out.mono ?_
                        rintro e w7 ⟨fv, rfl, hfs, b7⟩
                        obtain ⟨Gr, hGr⟩ : ∃ Gr, Gr = (scanF (Z.length + 1) Z).1 := ⟨_, rfl⟩
                        rw [← hGr] at hfs
                        obtain ⟨s7, hs7⟩ : ∃ s, s = tkLs (T : Int) (nx, F, D) (Ls6.take i) := ⟨_, rfl⟩
                        have HTr := HT.out
                        rw [← hs7] at HTr
                        have HT1 := Lib.hid (show TyF w gs gr a (T : Int) (BB.take k2) (tkFs (T : Int) s7 (Gr.take 0)) w7 from by simpa [tkFs] using tyF_below HTr b7)
                        have HDc1 := Lib.hid (dcs_below HDc.out b7)
                        have HL1 := Lib.hid (lb_ov HTr.1 b7)
                        have HK1 := Lib.hid (show Kept wr.heap.size w7.heap.size w7 w7 from ⟨Nat.le_refl _, fun _ _ _ => rfl⟩)
                        have HFX := Lib.hid hfs
                        obtain ⟨Ag, cg, eg⟩ := frx_form hfs
                        subst eg
                        obtain ⟨ng, hng⟩ : ∃ ng, ng = Gr.length := ⟨_, rfl⟩
                        have hngb : ng ≤ 3200 := by
                          have h1 := scanF_len (Z.length + 1) Z
                          rw [← hGr, ← hng] at h1
                          have := HZL.out
                          omega
                        have hs71 := b7.size
                        have hgrl := HTr.1.grl
                        have HNG := Lib.hid hng
                        have HSS := Lib.hid (show tkLs (T : Int) (nx, F, D) (Ls6.take (i + 1)) = tkFs (T : Int) s7 Gr by rw [hs7, hGr]; exact HST.out)
                        have HGR := Lib.hid hGr
                        rw [← hng] at HFX ⊢
                        clear hfs b7 hGr hs7 hng hcell HTr
                        go_wp2_with fail
                        obtain ⟨lo, hlo⟩ : ∃ lo, lo = wr.heap.size := ⟨_, rfl⟩
                        rw [← hlo] at HL1 HK1 HFX hs71 hgrl
                        have HLO := Lib.hid hgrl
                        clear hgrl
                        clear hlo hgd HT HSc HDc
                        go_loopw [114] (fun iv wv => TyI w w7 gs gr lo T a k2 BB s7 Gr (.slice (some ⟨gd, 0, none⟩) nL c6) ps6 iv wv) (fun iv _ => ng - (intOf1 iv).toNat)
                        case atStart => exact ⟨0, Nat.zero_le _, rfl, HT1, HDc1, HK1, HL1, Lib.hid (fun f h => by simp at h)⟩
                        case round =>
                          obtain ⟨i2, hi2, rfl, HT2, HDc2, HK2, HL2, HS2⟩ := hrel
                          rw [← HNG.out] at hi2
                          by_cases hin2 : i2 < ng
                          · as_aux_lemma =>
                            have hiG : i2 < Gr.length := by rw [← HNG.out]; exact hin2
                            have hstep := tkFs_succ (T : Int) s7 Gr i2 hiG
                            obtain ⟨gf, c8, A8, c8', e8, hgf, p0, p1, p2, hr⟩ := frx_at HFX.out HK2.out i2 hiG
                            injection e8 with e9 e10 e11
                            subst e9
                            clear e10 e11
                            obtain ⟨f, hf⟩ : ∃ f, f = Gr[i2]'hiG := ⟨_, rfl⟩
                            rw [← hf] at p0 p1 p2 hr hstep
                            have HFE := Lib.hid (And.intro (show Gr.take (i2 + 1) = Gr.take i2 ++ [f] by rw [List.take_succ_eq_append_getElem hiG, hf]) (show AllB f.2.2 from scanF_all _ Z HZB.out f (by rw [← HGR.out, hf]; exact List.getElem_mem _)))
                            obtain ⟨⟨nx1, F1, D1⟩, hs1'⟩ : ∃ s, s = tkFs (T : Int) s7 (Gr.take i2) := ⟨_, rfl⟩
                            have HTr := HT2.out
                            rw [← hs1'] at HTr hstep
                            obtain ⟨fst, sq, Y⟩ := f
                            simp only at p0 p1 p2 hr
                            obtain ⟨W5, HW5, hw5, HG5, z5⟩ := F0ex wr (fst : Int) (sq : Int) (.slice A8 Y.length c8')
                            obtain ⟨g0, g1, g2, gf'⟩ := fr_blk HG5.out (Below.refl _ _)
                            have hrY : ∀ n, RB (W5.drewN n) wr.heap.size (.slice A8 Y.length c8') Y := fun n => hr.belowM (bdnT hw5 n) (Nat.le_refl _)
                            have TY := fun n => run_string_bytes (hrY n).1
                            obtain ⟨SB, sb, _, _, _, u3, usc, _, ugl, uel⟩ := rsn_cells (tyF_below HTr hw5).1.rsn
                            have hk0 : (BB.take k2).length = k2 := by rw [List.length_take, HA.out.2.2.2.2.2.1]; omega
                            rw [hk0] at u3 usc
                            have i9 : (i2 : Int) < (ng : Int) := by omega
                            have HBX := Lib.hid (show ∀ n, Below w.heap.size w (W5.drewN n) from fun n => HTr.1.bel.trans ((bdnT hw5 n).mono HTr.1.siz))
                            have HI := Lib.hid (And.intro hstep (And.intro hw5 (And.intro hrY HTr)))
                            have hkz := HK2.out.1
                            obtain ⟨SY, hSY⟩ : ∃ S, S = strB Y := ⟨_, rfl⟩
                            rw [← hSY] at TY
                            have HSY := Lib.hid hSY
                            clear hf hs1' hstep hr HT2 gf' hw5 hrY hSY HTr
                            by_cases hst : fst = 0
                            · have HF0 := Lib.hid hst
                              have q1 : ((fst : Int) != 0) = false := by simp [hst]
                              clear hst
                              by_cases hsq : sq < k2
                              · obtain ⟨gb, AE, ce0, hSB, hgb, hce, hBd⟩ := uel sq (by rw [hk0]; exact hsq)
                                subst hSB
                                obtain ⟨E, hE⟩ : ∃ E, E = (BB.take k2)[sq]'(by rw [hk0]; exact hsq) := ⟨_, rfl⟩
                                rw [← hE] at hce hBd
                                have TE := fun n => run_string_bytes ((bd_rb hBd).belowM (bdnT (Below.refl _ _) n) (Nat.le_refl _)).1
                                obtain ⟨SE, hSE⟩ : ∃ S, S = strB E := ⟨_, rfl⟩
                                rw [← hSE] at TE
                                obtain ⟨lE, hlE⟩ : ∃ l, l = E.length := ⟨_, rfl⟩
                                rw [← hlE] at hce TE
                                have HSE := Lib.hid (And.intro hSE hE)
                                have q2 : (sq : Int) < (k2 : Int) := by omega
                                have q2' : ¬ (k2 : Int) ≤ (sq : Int) := by omega
                                have q3 : (0 : Int) ≤ (sq : Int) := by omega
                                clear uel hBd hSE hE hlE ugl
                                by_cases hne : (SE.toList == SY.toList) = false
                                · go_wp2_with fail
                                  rw [← HW5.out]
                                  go_quiet (fail)
                                  go_wp2
                                  go_ret
                                  exact ⟨true, 0, rfl, HBX.out _, fun h => by cases h⟩
                                · as_aux_lemma =>
                                  have e2 : SE = SY := eq_of_toL (by simpa using hne)
                                  clear hne
                                  subst e2
                                  have HSN := Lib.hid (show SentF BB k2 (fst, sq, Y) from ⟨HF0.out, hsq, by
                                    have h1 : E = BB.getD sq [] := by
                                      rw [HSE.out.2]
                                      have : sq < BB.length := by rw [HA.out.2.2.2.2.2.1]; omega
                                      simp [List.getD, this]
                                    have h2 : AllB E := by
                                      rw [HSE.out.2]
                                      exact (HA.out.2.2.2.2.2.2 _ (List.mem_of_mem_take (List.getElem_mem _))).2
                                    have e3 : strB E = strB Y := HSE.out.1.symm.trans HSY.out
                                    rw [← h1]
                                    exact (strB_inj h2 HFE.out.2 e3).symm⟩)
                                  have hne2 : (SE != SE) = false := by
                                    have := strEqZ SE
                                    simp [bne, this]
                                  go_wp2_with fail
                                  rw [← HW5.out]
                                  go_quiet (fail)
                                  obtain ⟨W6, hW6⟩ : ∃ W6, W6 = W5.drewN nq := ⟨_, rfl⟩
                                  rw [← hW6]
                                  have hd6 : Below wr.heap.size wr W6 := by rw [hW6]; exact bdnT HI.out.2.1 nq
                                  have y0 : W6.cell? ⟨wr.heap.size, 0, none⟩ = some (.int .i64 (fst : Int)) := by rw [hW6]; exact g0
                                  have y1 : W6.cell? ⟨wr.heap.size, 1, none⟩ = some (.int .i64 (sq : Int)) := by rw [hW6]; exact g1
                                  have y2 : W6.cell? ⟨wr.heap.size, 2, none⟩ = some (.slice A8 Y.length c8') := by rw [hW6]; exact g2
                                  have hrY6 : RB W6 wr.heap.size (.slice A8 Y.length c8') Y := by rw [hW6]; exact HI.out.2.2.1 nq
                                  have HTy := Lib.hid (tyF_below HI.out.2.2.2 hd6)
                                  obtain ⟨Ds1, hrc1, hdf1, hdl1⟩ := HTy.out.1.rrc
                                  have hG1 : GoodR (T : Int) (nx1, F1, D1) := HTy.out.2
                                  obtain ⟨ce, hce'⟩ : ∃ ce, takeE 0 (T : Int) nx1 F1 (fst : Int) (sq : Int) Y.length = ce := ⟨_, rfl⟩
                                  have HTk := Lib.hid (rtakex_any gr w.heap.size 0 (T : Int) nx1 (fst : Int) (sq : Int) F1 Ds1 Y A8 Y.length c8' wr.heap.size W6 hrc1 hdf1 hG1.1.inW (by have := dsF_small hdf1 hG1.1 (by omega); omega) ⟨hG1.2.1, hG1.2.2⟩ ⟨by omega, by omega⟩ hrY6 hd6.size HTy.out.1.siz ce hce')
                                  have HCE := Lib.hid hce'
                                  have hHL : ∀ k, lB W6 gr k → k < lo ∨ w7.heap.size ≤ k := fun k hk => HL2.out k ((lB_below hd6 HI.out.2.2.2.1.grl).1 hk)
                                  have HLx := Lib.hid hHL
                                  have HKx := Lib.hid (kept_only HK2.out (only_below (S := fun _ => False) hd6) (fun _ h => absurd h id))
                                  have HDx := Lib.hid (dcs_below HDc2.out hd6)
                                  have hz5 : wr.heap.size ≤ W6.heap.size := hd6.size
                                  clear hrc1 hdf1 hdl1 hG1 hce' hHL hW6 hd6 hrY6 g0 g1 g2
                                  go_wp2_with fail
                                  refine HTk.out.mono ?_
                                  rintro e w9 ⟨v9, rfl, ⟨hc0, hv9, b9⟩ | ⟨hc0, mm, Ds9, q1, q2, q3, q4, q5, q6, q7, q8, q9⟩⟩
                                  · as_aux_lemma =>
                                    have hno := tyF_no (f := (fst, sq, Y)) HTy.out (by show takeE 0 (T : Int) nx1 F1 (fst : Int) (sq : Int) Y.length ≠ 0; rw [HCE.out]; exact hc0) b9
                                    have hdc : Dcs w9 0 0 _ ps6 := dcs_below HDx.out b9
                                    have hkp : Kept lo w7.heap.size w7 w9 := kept_only HKx.out (only_below (S := fun _ => False) b9) (fun _ h => absurd h id)
                                    have hlb : ∀ k, lB w9 gr k → k < lo ∨ w7.heap.size ≤ k := fun k hk => HLx.out k ((lB_below b9 HTy.out.1.grl).1 hk)
                                    have HNN := Lib.hid (And.intro hno (And.intro hdc (And.intro hkp hlb)))
                                    clear hno hdc hkp hlb b9 hv9
                                    go_wp2
                                    exact ⟨⟨i2 + 1, by rw [← HNG.out]; omega, by go_num, Lib.hid (by rw [HI.out.1]; exact HNN.out.1), Lib.hid HNN.out.2.1, Lib.hid HNN.out.2.2.1, Lib.hid HNN.out.2.2.2, Lib.hid (by
                                      rw [HFE.out.1]
                                      intro g hg
                                      rcases List.mem_append.1 hg with h | h
                                      · exact HS2.out g h
                                      · simp at h
                                        subst h
                                        exact HSN.out)⟩, by simp [intOf1]; omega⟩
                                  · as_aux_lemma =>
                                    subst hc0
                                    have hok := tyF_ok (f := (fst, sq, Y)) (by omega : (T : Int) ≤ 64) HTy.out HCE.out q1 q2 q3 q4 q5 q6 q8 q9
                                    have hdc : Dcs w9 0 0 _ ps6 := dcs_only' HDx.out q8 (gr_not HTy.out.1 (by decide) (by decide)) (gr_not HTy.out.1 (by decide) (by decide))
                                    have hkp : Kept lo w7.heap.size w7 w9 := kept_only HKx.out q8 (fun k e => e.elim (fun e => .inl (by have := HLO.out; omega)) (HLx.out k))
                                    have hlb : ∀ k, lB w9 gr k → k < lo ∨ w7.heap.size ≤ k := fun k hk => (q9 k hk).elim (HLx.out k) (fun e => .inr (Nat.le_trans (Nat.le_trans hkz hz5) e))
                                    have HNN := Lib.hid (And.intro hok (And.intro hdc (And.intro hkp hlb)))
                                    clear hok hdc hkp hlb q1 q2 q3 q4 q5 q6 q7 q8 q9
                                    go_wp2
                                    exact ⟨⟨i2 + 1, by rw [← HNG.out]; omega, by go_num, Lib.hid (by rw [HI.out.1]; exact HNN.out.1), Lib.hid HNN.out.2.1, Lib.hid HNN.out.2.2.1, Lib.hid HNN.out.2.2.2, Lib.hid (by
                                      rw [HFE.out.1]
                                      intro g hg
                                      rcases List.mem_append.1 hg with h | h
                                      · exact HS2.out g h
                                      · simp at h
                                        subst h
                                        exact HSN.out)⟩, by simp [intOf1]; omega⟩
                              · have q2 : (k2 : Int) ≤ (sq : Int) := by omega
                                have q2' : ¬ (sq : Int) < (k2 : Int) := by omega
                                clear uel ugl hk0
                                go_wp2_with fail
                                rw [← HW5.out]
                                go_quiet (fail)
                                go_wp2
                                go_ret
                                exact ⟨true, 0, rfl, HBX.out _, fun h => by cases h⟩
                            · have q1 : ((fst : Int) != 0) = true := by simp; omega
                              clear uel ugl hk0
                              go_wp2_with fail
                              rw [← HW5.out]
                              go_quiet (fail)
                              go_wp2
                              go_ret
                              exact ⟨true, 0, rfl, HBX.out _, fun h => by cases h⟩
                          · obtain rfl : i2 = ng := by omega
                            have hT := HT2.out
                            have hS := HS2.out
                            rw [HNG.out, List.take_length, ← HSS.out] at hT
                            rw [HNG.out, List.take_length] at hS
                            have HTT := Lib.hid hT
                            have HSN := Lib.hid hS
                            clear hT HT2 hS
                            go_wp2
                            exact ⟨⟨i + 1, by rw [← HNL.out]; omega, by go_num, HTT, HDc2, Lib.hid (by
                              rw [HLT.out]
                              intro L hL
                              rcases List.mem_append.1 hL with h | h
                              · exact HS0.out L h
                              · simp at h
                                subst h
                                rw [← HGR.out]
                                exact HSN.out)⟩, by simp [intOf1]; omega⟩
                      · as_aux_lemma =>
                        obtain rfl : i = nL := by omega
                        have hT := HT.out
                        have hS := HS0.out
                        rw [HNL.out, List.take_length] at hT hS
                        obtain ⟨⟨nx8, F8, D8⟩, hs8⟩ : ∃ s, s = tkLs (T : Int) (nx, F, D) Ls6 := ⟨_, rfl⟩
                        rw [← hs8] at hT
                        have HTT := Lib.hid (And.intro hT hs8)
                        have HSS := Lib.hid hS
                        obtain ⟨Ds8, hrc8, _, _⟩ := hT.1.rrc
                        obtain ⟨RA8, rc8, _, _, r28, _⟩ := rrc_cells hrc8
                        have hGn : 0 ≤ nx8 := hT.2.2.1
                        clear hT HT hs8 hrc8 hS
                        by_cases hack : (a : Int) ≤ nx8 ∧ nx8 ≤ (k2 : Int)
                        · obtain ⟨p, hp⟩ : ∃ p : Nat, nx8 = (p : Int) := ⟨nx8.toNat, by omega⟩
                          rw [hp] at r28
                          go_wp2_with fail
                          refine (rack_yes gs w.heap.size 0 a p (T : Int) (BB.take k2) wr HTT.out.1.1.rsn (by omega) (by rw [hkl]; omega)).mono ?_
                          rintro e w12 ⟨rfl, hS12, hO12⟩
                          have HX12 := Lib.hid (HTT.out.1.1.sent (hO12.mono (fun k _ e => .inl e)) hS12)
                          clear hS12 hO12
                          go_wp2
                          refine ⟨tyP_next (a2 := p) (Ls := Ls6) HR.out.1 HL6.out.2.2.1 HL6.out.2.2.2 hka ?_ ?_ (by omega) HR.out.2.2.2.2.1 HR.out.2.2.2.2.2 HSS.out (by rw [HA.out.2.2.2.2.2.1]; exact hnx') (by go_num), by simp [intOf1]; omega⟩
                          · rw [← HTT.out.2, if_pos hack]; show p = nx8.toNat; omega
                          · rw [← HTT.out.2]; exact ⟨HX12.out, HTT.out.1.2⟩
                        · go_wp2_with fail
                          refine (rack_no gs w.heap.size 0 a nx8 (T : Int) (BB.take k2) wr HTT.out.1.1.rsn (by rw [hkl]; omega)).mono ?_
                          rintro e w12 ⟨rfl, rfl⟩
                          go_wp2
                          refine ⟨tyP_next (a2 := a) (Ls := Ls6) HR.out.1 HL6.out.2.2.1 HL6.out.2.2.2 hka ?_ ?_ (by omega) HR.out.2.2.2.2.1 HR.out.2.2.2.2.2 HSS.out (by rw [HA.out.2.2.2.2.2.1]; exact hnx') (by go_num), by simp [intOf1]; omega⟩
                          · rw [← HTT.out.2, if_neg hack]
                          · rw [← HTT.out.2]; exact HTT.out.1
            · as_aux_lemma =>
              have HOf := Lib.hid (roffer_ok gs w.heap.size 0 a (T : Int) (BB.take k2) (X k2) A' L c' w.heap.size wr HV.out.rsn (hr.belowM HV.out.bel (Nat.le_refl _)) HV.out.siz HV.out.siz hXl (by omega) (by omega))
              have hnext : BB.take k2 ++ [X k2] = BB.take (k2 + 1) := by
                rw [List.take_succ_eq_append_getElem (by rw [HA.out.2.2.2.2.2.1]; exact h2)]
                congr 2
                simp [HA.out.2.2.2.2.1]
              have HNX := Lib.hid hnext
              have hk2T1 : k2 + 1 ≤ a + T := by omega
              clear hcell hv hr hL hfull hnext
              go_wp2_with fail
              refine HOf.out.mono ?_
              rintro e w3 ⟨v3, rfl, hB3, hS3, hO3⟩
              rw [HNX.out] at hS3
              have HX3 := Lib.hid (HV.out.sent hO3 hS3)
              obtain ⟨A3, c3, e3⟩ := (bd_rb hB3).form
              subst e3
              obtain ⟨SA3, sc3, _, _, _, t4, _, _, hsg3, _⟩ := rsn_cells hS3
              have hk3 : (BB.take (k2 + 1)).length = k2 + 1 := by rw [List.length_take, HA.out.2.2.2.2.2.1]; omega
              rw [hk3] at t4
              have T3 := Lib.hid t3
              have T4 := Lib.hid (fun o => ((Below.refl w3.heap.size w3).alloc (Nat.le_refl _) o).cell (p := ⟨gs, 3, none⟩) hsg3 |>.trans t4)
              clear hB3 hS3 hO3 t3 t4 hcell'
              go_wp2
              refine ⟨⟨k2 + 1, by omega, by omega, hk2T1, Lib.hid (HX3.out.below ((Below.refl _ _).alloc (Nat.le_refl _) _))⟩, ?_⟩
              rw [T3.out]
              simp only [T4.out, Option.getD_some, lenS]
              omega
          · as_aux_lemma =>
            obtain rfl : k2 = n := by omega
            have HKM := Lib.hid (show k2 = min BB.length (a + T) by rw [HA.out.2.2.2.2.2.1]; omega)
            have hkl : (BB.take k2).length = k2 := by rw [List.length_take, HA.out.2.2.2.2.2.1]; omega
            have hkA : k2 ≤ 4294967295 := by omega
            have hkB : k2 - a ≤ 24 := by omega
            have hkC : k2 ≤ 1024 := by omega
            go_wp2_with fail
            refine (rpending_any gs w.heap.size 0 a (T : Int) (BB.take k2) _ HV.out.rsn (by rw [hkl]; exact hkC) (fun i hi => (HA.out.2.2.2.2.2.2 _ (List.mem_of_mem_take (List.getElem_mem hi))).1)).mono ?_
            rintro e w4 ⟨fv, rfl, hfd, b4⟩
            rw [hkl] at hfd
            have HX4 := Lib.hid (HV.out.below b4)
            obtain ⟨Fs, hFs⟩ : ∃ Fs, Fs = pF 0 a (BB.take k2) (k2 - a) := ⟨_, rfl⟩
            rw [← hFs] at hfd
            have HFD := Lib.hid (frd_frs hfd)
            have HOKF := Lib.hid (show ∀ f ∈ Fs, okFr2 f by rw [hFs]; exact pkts_ok HA.out.2.2.2.2.2.2 a k2 hkA hka)
            obtain ⟨Af, cf, ef⟩ := frs_form HFD.out
            subst ef
            have hFl : Fs.length = k2 - a := by rw [hFs, pF_len]
            have HFS := Lib.hid hFs
            obtain ⟨nf, hnf⟩ : ∃ nf, nf = Fs.length := ⟨_, rfl⟩
            rw [← hnf]
            have HNF := Lib.hid hnf
            have hnb : nf ≤ 24 := by omega
            clear hfd b4 hFs hFl hnf
            go_wp2_with fail
            go_loopw [14, 74] (fun lv iv wp => PkR w4 Fs lv iv wp) (fun _ iv _ => nf - (intOf1 iv).toNat)
            case atStart => exact ⟨0, Nat.zero_le _, rfl, Lib.hid ⟨[], by simp, dcs_nil _ _ _, Below.refl _ _⟩⟩
            case round =>
              obtain ⟨i, hi, rfl, HP⟩ := hrel
              rw [← HNF.out] at hi
              by_cases hin : i < nf
              · as_aux_lemma =>
                have hiF : i < Fs.length := by rw [← HNF.out]; exact hin
                obtain ⟨ps, hps, hd, hbw⟩ := HP.out
                have hpl : ps.length = i := by
                  have := congrArg List.length hps
                  rw [List.length_map, List.length_map, List.length_take] at this
                  omega
                obtain ⟨gf, c3, A3, c3', e2, hgf, p0, p1, p2, hr⟩ := frs_at (frs_below HFD.out hbw) i hiF
                injection e2 with e3 e4 e5
                subst e3
                clear e4 e5
                obtain ⟨f, hf⟩ : ∃ f, f = Fs[i]'hiF := ⟨_, rfl⟩
                have hfk : okFr2 f := HOKF.out f (by rw [hf]; exact List.getElem_mem _)
                rw [← hf] at p0 p1 p2 hr
                obtain ⟨st, sq, Y⟩ := f
                simp only at p0 p1 p2 hr
                obtain ⟨hok, hYB⟩ := hfk
                simp only at hok hYB
                obtain ⟨W5, HW5, hw5, HG5, z5⟩ := F0ex wr (st : Int) (sq : Int) (.slice A3 Y.length c3')
                obtain ⟨g0, g1, g2, gf'⟩ := fr_blk HG5.out (Below.refl _ _)
                have HPk := Lib.hid (refPack_ok st sq Y hYB A3 Y.length c3' wr.heap.size hok W5 (hr.belowM hw5 (Nat.le_refl _)) hw5.size)
                have hlY : Y.length ≤ 1024 := hok.2.2.2.2
                have hst : st < 256 := by have := hok.2.1; omega
                obtain ⟨P, hP⟩ : ∃ P, P = packL st sq Y := ⟨_, rfl⟩
                have hPl : P.length ≤ 1048576 := by rw [hP, packL_length]; omega
                have hPB : AllB P := by rw [hP]; exact packL_all st sq Y hst hYB
                have hstep : ps.map Prod.snd ++ [P] = (Fs.take (i + 1)).map packFr := by
                  rw [List.take_succ_eq_append_getElem hiF, List.map_append, hps, ← hf, hP]
                  rfl
                rw [← hP] at HPk
                have HK := Lib.hid (And.intro hstep (And.intro (dcs_below hd hw5) (And.intro (hbw.trans (hw5.mono hbw.size)) (And.intro hPB (And.intro hPl hpl)))))
                have i7 : (i : Int) < (nf : Int) := by omega
                obtain ⟨A0, c0, e0⟩ := dcs_form hd
                subst e0
                clear hps hd hbw hr hf hok hYB hP hPl hPB hstep hw5 HP hpl
                go_wp2_with fail
                rw [← HW5.out]
                go_wp2_with fail
                refine HPk.out.mono ?_
                rintro e w6 ⟨v6, rfl, o6, b6⟩
                obtain ⟨A6, c6, e6⟩ := (rb_of_owns o6).2.form
                subst e6
                have hEl : El w6 w4.heap.size (.slice A6 P.length c6, P) := ⟨owns_base o6 HK.out.2.2.1.size, HK.out.2.2.2.1, HK.out.2.2.2.2.1⟩
                have HJ := Lib.hid (And.intro (dcs_below HK.out.2.1 b6) (And.intro (HK.out.2.2.1.trans (b6.mono HK.out.2.2.1.size)) hEl))
                have hs6 := HJ.out.2.1.size
                clear o6 b6 hEl
                go_wp2_with (at_builtin
                             refine wpList_append_dc rfl (.tmp 83) (.tmp 85) rfl w4.heap.size w4.heap.size _ _ rfl HJ.out.1 (.slice A6 P.length c6, P) HJ.out.2.2 rfl (by have := HK.out.2.2.2.2.2; omega) hs6 ?_
                             intro v7 w7 hd hO
                             have hb7 := dcs_only HJ.out.1 hO HJ.out.2.1 hs6
                             have H7 := Lib.hid (And.intro hd hb7)
                             clear hd hO hb7)
                exact ⟨⟨i + 1, by rw [← HNF.out]; omega, by go_num, Lib.hid ⟨_, by rw [List.map_append]; exact HK.out.1, H7.out.1, H7.out.2⟩⟩, by simp [intOf1]; omega⟩
              · as_aux_lemma =>
                obtain rfl : i = nf := by omega
                obtain ⟨ps, hps, hd, hbw⟩ := HP.out
                rw [HNF.out, List.take_length] at hps
                have HX5 := Lib.hid (HX4.out.below hbw)
                have HD5 := Lib.hid (And.intro hd (show ps.map Prod.snd = pkts BB a k2 by rw [hps, HFS.out]; rfl))
                obtain ⟨Ap, cp, ep⟩ := dcs_form hd
                subst ep
                obtain ⟨w5, hw5⟩ : ∃ x, x = wr := ⟨_, rfl⟩
                subst hw5
                clear hps hd hbw HP
                by_cases hjm : j < m
                · as_aux_lemma =>
                  have hjR : j < RR.length := by rw [HA.out.2.2.1.1]; exact hjm
                  obtain ⟨b2, o2, A9, c9, hA2, hb2, hc2, hft⟩ := HA.out.2.2.1.2 j hjR
                  subst hA2
                  obtain ⟨Gs, hGs⟩ : ∃ Gs, Gs = RR[j]'hjR := ⟨_, rfl⟩
                  rw [← hGs] at hc2 hft
                  have hG8 : Gs.length ≤ 8 := by rw [hGs]; exact HA.out.2.2.2.1 j hjR hj64
                  have hRj : RR[j]? = some Gs := by rw [hGs]; exact List.getElem?_eq_getElem hjR
                  have hc5 := (HX5.out.bel.cell (p := ⟨b2, o2 + j, none⟩) hb2).trans hc2
                  have hpl : ps.length = k2 - a := by
                    have h := congrArg List.length HD5.out.2
                    rw [List.length_map, pkts_len] at h
                    exact h
                  have HCy := Lib.hid (dcarry_any (c := cp) (inL_dcs HD5.out.1 HD5.out.2) (by rw [hpl]; exact Nat.le_trans hkB (by decide)) (fun Y hY => Nat.le_trans (pkts_size HA.out.2.2.2.2.2.2 a k2 hkA hka Y hY) (by omega)) A9 Gs.length c9 Gs (ftL_belowT hft HX5.out.bel) (by omega))
                  have i8 : (j : Int) < (m : Int) := by omega
                  obtain ⟨lf, hlf⟩ : ∃ l, l = Gs.length := ⟨_, rfl⟩
                  rw [← hlf] at hc5 HCy
                  have HLF := Lib.hid (And.intro hlf (And.intro hG8 hRj))
                  clear hc2 hft hGs hlf hG8 hRj hpl
                  go_wp2_with fail
                  refine HCy.out.mono ?_
                  rintro e w6 ⟨ps6, qv, hqs, rfl, hd6, b6⟩
                  have HX6 := Lib.hid (HX5.out.below b6)
                  have D6 := Lib.hid (dcs_base0 hd6)
                  clear hd6 b6
                  obtain ⟨Ls6, hLs⟩ : ∃ L, L = carried (RR[j]?) (pkts BB a k2) := ⟨_, rfl⟩
                  have hps6 := Lib.hid (show ps6.map Prod.snd = Ls6 by rw [hqs, hLs, HLF.out.2.2]; rfl)
                  have hll : Ls6.length ≤ 32 := by
                    have h := carried_len (R := RR[j]?) (Ls := pkts BB a k2) (fun Hs e => by rw [HLF.out.2.2] at e; injection e with e; rw [← e]; exact HLF.out.2.1)
                    rw [pkts_len] at h
                    rw [hLs]
                    omega
                  have hls := carried_size (R := RR[j]?) (pkts_size HA.out.2.2.2.2.2.2 a k2 hkA hka)
                  rw [← hLs] at hls
                  have HL6 := Lib.hid (And.intro hll (And.intro hls (And.intro HKM.out hLs)))
                  clear hLs hll hls
                  clear hqs
                  obtain ⟨A6, c6, e6⟩ := dcs_form D6.out
                  subst e6
                  obtain ⟨nL, hnL⟩ : ∃ nL, nL = Ls6.length := ⟨_, rfl⟩
                  have hp6 : ps6.length = nL := by rw [hnL, ← hps6.out, List.length_map]
                  rw [hp6] at D6 ⊢
                  have HNL := Lib.hid hnL
                  have HP6 := Lib.hid hp6
                  have hnLb : nL ≤ 32 := by have := HL6.out.1; omega
                  have HT0 := Lib.hid (show TyF w gs gr a (T : Int) (BB.take k2) (tkLs (T : Int) (nx, F, D) (Ls6.take 0)) w6 from ⟨by simpa [tkLs] using HX6.out, by simpa [tkLs] using HR.out.2.1.2⟩)
                  clear hnL hp6
                  go_wp2_with fail
                  go_loopw [100] (fun iv wv => TyO w gs gr T a k2 BB (nx, F, D) Ls6 (.slice A6 nL c6) ps6 iv wv) (fun iv _ => nL - (intOf1 iv).toNat)
                  case atStart => exact ⟨0, Nat.zero_le _, rfl, HT0, D6, Lib.hid (fun L h => by simp at h)⟩
                  case round =>
                    obtain ⟨i, hi, rfl, HT, HDc, HS0⟩ := hrel
                    rw [← HNL.out] at hi
                    by_cases hin : i < nL
                    · as_aux_lemma =>
                      have hiL : i < Ls6.length := by rw [← HNL.out]; exact hin
                      have hip : i < ps6.length := by rw [HP6.out]; exact hin
                      obtain ⟨gd, cd, ed, hgd, hcell⟩ := dcs_at HDc.out i hip
                      injection ed with ed1 ed2 ed3
                      subst ed1
                      have hel := HDc.out.els _ (List.getElem_mem hip)
                      obtain ⟨_, hrb⟩ := rb_of_owns hel.1
                      obtain ⟨A', c', hf⟩ := hrb.form
                      obtain ⟨Z, hZe⟩ : ∃ Z, Z = Ls6[i]'hiL := ⟨_, rfl⟩
                      have hZ2 : (ps6[i]'hip).2 = Z := by rw [hZe]; simp [← hps6.out]
                      rw [hZ2] at hf hrb
                      rw [hf] at hcell hrb
                      have hZB : AllB Z := by rw [← hZ2]; exact hel.2.1
                      have hZl : Z.length ≤ 1048576 := by rw [hZe]; exact Nat.le_trans (HL6.out.2.1 _ (List.getElem_mem _)) (by omega)
                      have i9 : (i : Int) < (nL : Int) := by omega
                      have HSc := Lib.hid (refScx_any Z hZB A' Z.length c' wr.heap.size hZl wr hrb (Nat.le_refl _))
                      have hst1 := tkLs_succ (T : Int) (nx, F, D) Ls6 i hiL
                      rw [← hZe] at hst1
                      have HST := Lib.hid hst1
                      have HLT := Lib.hid (show Ls6.take (i + 1) = Ls6.take i ++ [Z] by rw [List.take_succ_eq_append_getElem hiL, hZe])
                      have HZL := Lib.hid (show Z.length ≤ 1200 by rw [hZe]; exact Nat.le_trans (HL6.out.2.1 _ (List.getElem_mem _)) (by omega))
                      have HZB := Lib.hid hZB
                      clear hel hrb hf hZe hZ2 hZB hZl hst1 ed2 ed3
                      go_wp2_with fail
                      refine HSc.out.mono ?_
                      rintro e w7 ⟨fv, rfl, hfs, b7⟩
                      obtain ⟨Gr, hGr⟩ : ∃ Gr, Gr = (scanF (Z.length + 1) Z).1 := ⟨_, rfl⟩
                      rw [← hGr] at hfs
                      obtain ⟨s7, hs7⟩ : ∃ s, s = tkLs (T : Int) (nx, F, D) (Ls6.take i) := ⟨_, rfl⟩
                      have HTr := HT.out
                      rw [← hs7] at HTr
                      have HT1 := Lib.hid (show TyF w gs gr a (T : Int) (BB.take k2) (tkFs (T : Int) s7 (Gr.take 0)) w7 from by simpa [tkFs] using tyF_below HTr b7)
                      have HDc1 := Lib.hid (dcs_below HDc.out b7)
                      have HL1 := Lib.hid (lb_ov HTr.1 b7)
                      have HK1 := Lib.hid (show Kept wr.heap.size w7.heap.size w7 w7 from ⟨Nat.le_refl _, fun _ _ _ => rfl⟩)
                      have HFX := Lib.hid hfs
                      obtain ⟨Ag, cg, eg⟩ := frx_form hfs
                      subst eg
                      obtain ⟨ng, hng⟩ : ∃ ng, ng = Gr.length := ⟨_, rfl⟩
                      have hngb : ng ≤ 3200 := by
                        have h1 := scanF_len (Z.length + 1) Z
                        rw [← hGr, ← hng] at h1
                        have := HZL.out
                        omega
                      have hs71 := b7.size
                      have hgrl := HTr.1.grl
                      have HNG := Lib.hid hng
                      have HSS := Lib.hid (show tkLs (T : Int) (nx, F, D) (Ls6.take (i + 1)) = tkFs (T : Int) s7 Gr by rw [hs7, hGr]; exact HST.out)
                      have HGR := Lib.hid hGr
                      rw [← hng] at HFX ⊢
                      clear hfs b7 hGr hs7 hng hcell HTr
                      go_wp2_with fail
                      obtain ⟨lo, hlo⟩ : ∃ lo, lo = wr.heap.size := ⟨_, rfl⟩
                      rw [← hlo] at HL1 HK1 HFX hs71 hgrl
                      have HLO := Lib.hid hgrl
                      clear hgrl
                      clear hlo hgd HT HSc HDc
                      go_loopw [114] (fun iv wv => TyI w w7 gs gr lo T a k2 BB s7 Gr (.slice (some ⟨gd, 0, none⟩) nL c6) ps6 iv wv) (fun iv _ => ng - (intOf1 iv).toNat)
                      case atStart => exact ⟨0, Nat.zero_le _, rfl, HT1, HDc1, HK1, HL1, Lib.hid (fun f h => by simp at h)⟩
                      case round =>
                        obtain ⟨i2, hi2, rfl, HT2, HDc2, HK2, HL2, HS2⟩ := hrel
                        rw [← HNG.out] at hi2
                        by_cases hin2 : i2 < ng
                        · as_aux_lemma =>
                          have hiG : i2 < Gr.length := by rw [← HNG.out]; exact hin2
                          have hstep := tkFs_succ (T : Int) s7 Gr i2 hiG
                          obtain ⟨gf, c8, A8, c8', e8, hgf, p0, p1, p2, hr⟩ := frx_at HFX.out HK2.out i2 hiG
                          injection e8 with e9 e10 e11
                          subst e9
                          clear e10 e11
                          obtain ⟨f, hf⟩ : ∃ f, f = Gr[i2]'hiG := ⟨_, rfl⟩
                          rw [← hf] at p0 p1 p2 hr hstep
                          have HFE := Lib.hid (And.intro (show Gr.take (i2 + 1) = Gr.take i2 ++ [f] by rw [List.take_succ_eq_append_getElem hiG, hf]) (show AllB f.2.2 from scanF_all _ Z HZB.out f (by rw [← HGR.out, hf]; exact List.getElem_mem _)))
                          obtain ⟨⟨nx1, F1, D1⟩, hs1'⟩ : ∃ s, s = tkFs (T : Int) s7 (Gr.take i2) := ⟨_, rfl⟩
                          have HTr := HT2.out
                          rw [← hs1'] at HTr hstep
                          obtain ⟨fst, sq, Y⟩ := f
                          simp only at p0 p1 p2 hr
                          obtain ⟨W5, HW5, hw5, HG5, z5⟩ := F0ex wr (fst : Int) (sq : Int) (.slice A8 Y.length c8')
                          obtain ⟨g0, g1, g2, gf'⟩ := fr_blk HG5.out (Below.refl _ _)
                          have hrY : ∀ n, RB (W5.drewN n) wr.heap.size (.slice A8 Y.length c8') Y := fun n => hr.belowM (bdnT hw5 n) (Nat.le_refl _)
                          have TY := fun n => run_string_bytes (hrY n).1
                          obtain ⟨SB, sb, _, _, _, u3, usc, _, ugl, uel⟩ := rsn_cells (tyF_below HTr hw5).1.rsn
                          have hk0 : (BB.take k2).length = k2 := by rw [List.length_take, HA.out.2.2.2.2.2.1]; omega
                          rw [hk0] at u3 usc
                          have i9 : (i2 : Int) < (ng : Int) := by omega
                          have HBX := Lib.hid (show ∀ n, Below w.heap.size w (W5.drewN n) from fun n => HTr.1.bel.trans ((bdnT hw5 n).mono HTr.1.siz))
                          have HI := Lib.hid (And.intro hstep (And.intro hw5 (And.intro hrY HTr)))
                          have hkz := HK2.out.1
                          obtain ⟨SY, hSY⟩ : ∃ S, S = strB Y := ⟨_, rfl⟩
                          rw [← hSY] at TY
                          have HSY := Lib.hid hSY
                          clear hf hs1' hstep hr HT2 gf' hw5 hrY hSY HTr
                          by_cases hst : fst = 0
                          · have HF0 := Lib.hid hst
                            have q1 : ((fst : Int) != 0) = false := by simp [hst]
                            clear hst
                            by_cases hsq : sq < k2
                            · obtain ⟨gb, AE, ce0, hSB, hgb, hce, hBd⟩ := uel sq (by rw [hk0]; exact hsq)
                              subst hSB
                              obtain ⟨E, hE⟩ : ∃ E, E = (BB.take k2)[sq]'(by rw [hk0]; exact hsq) := ⟨_, rfl⟩
                              rw [← hE] at hce hBd
                              have TE := fun n => run_string_bytes ((bd_rb hBd).belowM (bdnT (Below.refl _ _) n) (Nat.le_refl _)).1
                              obtain ⟨SE, hSE⟩ : ∃ S, S = strB E := ⟨_, rfl⟩
                              rw [← hSE] at TE
                              obtain ⟨lE, hlE⟩ : ∃ l, l = E.length := ⟨_, rfl⟩
                              rw [← hlE] at hce TE
                              have HSE := Lib.hid (And.intro hSE hE)
                              have q2 : (sq : Int) < (k2 : Int) := by omega
                              have q2' : ¬ (k2 : Int) ≤ (sq : Int) := by omega
                              have q3 : (0 : Int) ≤ (sq : Int) := by omega
                              clear uel hBd hSE hE hlE ugl
                              by_cases hne : (SE.toList == SY.toList) = false
                              · go_wp2_with fail
                                rw [← HW5.out]
                                go_quiet (fail)
                                go_wp2
                                go_ret
                                exact ⟨true, 0, rfl, HBX.out _, fun h => by cases h⟩
                              · as_aux_lemma =>
                                have e2 : SE = SY := eq_of_toL (by simpa using hne)
                                clear hne
                                subst e2
                                have HSN := Lib.hid (show SentF BB k2 (fst, sq, Y) from ⟨HF0.out, hsq, by
                                  have h1 : E = BB.getD sq [] := by
                                    rw [HSE.out.2]
                                    have : sq < BB.length := by rw [HA.out.2.2.2.2.2.1]; omega
                                    simp [List.getD, this]
                                  have h2 : AllB E := by
                                    rw [HSE.out.2]
                                    exact (HA.out.2.2.2.2.2.2 _ (List.mem_of_mem_take (List.getElem_mem _))).2
                                  have e3 : strB E = strB Y := HSE.out.1.symm.trans HSY.out
                                  rw [← h1]
                                  exact (strB_inj h2 HFE.out.2 e3).symm⟩)
                                have hne2 : (SE != SE) = false := by
                                  have := strEqZ SE
                                  simp [bne, this]
                                go_wp2_with fail
                                rw [← HW5.out]
                                go_quiet (fail)
                                obtain ⟨W6, hW6⟩ : ∃ W6, W6 = W5.drewN nq := ⟨_, rfl⟩
                                rw [← hW6]
                                have hd6 : Below wr.heap.size wr W6 := by rw [hW6]; exact bdnT HI.out.2.1 nq
                                have y0 : W6.cell? ⟨wr.heap.size, 0, none⟩ = some (.int .i64 (fst : Int)) := by rw [hW6]; exact g0
                                have y1 : W6.cell? ⟨wr.heap.size, 1, none⟩ = some (.int .i64 (sq : Int)) := by rw [hW6]; exact g1
                                have y2 : W6.cell? ⟨wr.heap.size, 2, none⟩ = some (.slice A8 Y.length c8') := by rw [hW6]; exact g2
                                have hrY6 : RB W6 wr.heap.size (.slice A8 Y.length c8') Y := by rw [hW6]; exact HI.out.2.2.1 nq
                                have HTy := Lib.hid (tyF_below HI.out.2.2.2 hd6)
                                obtain ⟨Ds1, hrc1, hdf1, hdl1⟩ := HTy.out.1.rrc
                                have hG1 : GoodR (T : Int) (nx1, F1, D1) := HTy.out.2
                                obtain ⟨ce, hce'⟩ : ∃ ce, takeE 0 (T : Int) nx1 F1 (fst : Int) (sq : Int) Y.length = ce := ⟨_, rfl⟩
                                have HTk := Lib.hid (rtakex_any gr w.heap.size 0 (T : Int) nx1 (fst : Int) (sq : Int) F1 Ds1 Y A8 Y.length c8' wr.heap.size W6 hrc1 hdf1 hG1.1.inW (by have := dsF_small hdf1 hG1.1 (by omega); omega) ⟨hG1.2.1, hG1.2.2⟩ ⟨by omega, by omega⟩ hrY6 hd6.size HTy.out.1.siz ce hce')
                                have HCE := Lib.hid hce'
                                have hHL : ∀ k, lB W6 gr k → k < lo ∨ w7.heap.size ≤ k := fun k hk => HL2.out k ((lB_below hd6 HI.out.2.2.2.1.grl).1 hk)
                                have HLx := Lib.hid hHL
                                have HKx := Lib.hid (kept_only HK2.out (only_below (S := fun _ => False) hd6) (fun _ h => absurd h id))
                                have HDx := Lib.hid (dcs_below HDc2.out hd6)
                                have hz5 : wr.heap.size ≤ W6.heap.size := hd6.size
                                clear hrc1 hdf1 hdl1 hG1 hce' hHL hW6 hd6 hrY6 g0 g1 g2
                                go_wp2_with fail
                                refine HTk.out.mono ?_
                                rintro e w9 ⟨v9, rfl, ⟨hc0, hv9, b9⟩ | ⟨hc0, mm, Ds9, q1, q2, q3, q4, q5, q6, q7, q8, q9⟩⟩
                                · as_aux_lemma =>
                                  have hno := tyF_no (f := (fst, sq, Y)) HTy.out (by show takeE 0 (T : Int) nx1 F1 (fst : Int) (sq : Int) Y.length ≠ 0; rw [HCE.out]; exact hc0) b9
                                  have hdc : Dcs w9 0 0 _ ps6 := dcs_below HDx.out b9
                                  have hkp : Kept lo w7.heap.size w7 w9 := kept_only HKx.out (only_below (S := fun _ => False) b9) (fun _ h => absurd h id)
                                  have hlb : ∀ k, lB w9 gr k → k < lo ∨ w7.heap.size ≤ k := fun k hk => HLx.out k ((lB_below b9 HTy.out.1.grl).1 hk)
                                  have HNN := Lib.hid (And.intro hno (And.intro hdc (And.intro hkp hlb)))
                                  clear hno hdc hkp hlb b9 hv9
                                  go_wp2
                                  exact ⟨⟨i2 + 1, by rw [← HNG.out]; omega, by go_num, Lib.hid (by rw [HI.out.1]; exact HNN.out.1), Lib.hid HNN.out.2.1, Lib.hid HNN.out.2.2.1, Lib.hid HNN.out.2.2.2, Lib.hid (by
                                    rw [HFE.out.1]
                                    intro g hg
                                    rcases List.mem_append.1 hg with h | h
                                    · exact HS2.out g h
                                    · simp at h
                                      subst h
                                      exact HSN.out)⟩, by simp [intOf1]; omega⟩
                                · as_aux_lemma =>
                                  subst hc0
                                  have hok := tyF_ok (f := (fst, sq, Y)) (by omega : (T : Int) ≤ 64) HTy.out HCE.out q1 q2 q3 q4 q5 q6 q8 q9
                                  have hdc : Dcs w9 0 0 _ ps6 := dcs_only' HDx.out q8 (gr_not HTy.out.1 (by decide) (by decide)) (gr_not HTy.out.1 (by decide) (by decide))
                                  have hkp : Kept lo w7.heap.size w7 w9 := kept_only HKx.out q8 (fun k e => e.elim (fun e => .inl (by have := HLO.out; omega)) (HLx.out k))
                                  have hlb : ∀ k, lB w9 gr k → k < lo ∨ w7.heap.size ≤ k := fun k hk => (q9 k hk).elim (HLx.out k) (fun e => .inr (Nat.le_trans (Nat.le_trans hkz hz5) e))
                                  have HNN := Lib.hid (And.intro hok (And.intro hdc (And.intro hkp hlb)))
                                  clear hok hdc hkp hlb q1 q2 q3 q4 q5 q6 q7 q8 q9
                                  go_wp2
                                  exact ⟨⟨i2 + 1, by rw [← HNG.out]; omega, by go_num, Lib.hid (by rw [HI.out.1]; exact HNN.out.1), Lib.hid HNN.out.2.1, Lib.hid HNN.out.2.2.1, Lib.hid HNN.out.2.2.2, Lib.hid (by
                                    rw [HFE.out.1]
                                    intro g hg
                                    rcases List.mem_append.1 hg with h | h
                                    · exact HS2.out g h
                                    · simp at h
                                      subst h
                                      exact HSN.out)⟩, by simp [intOf1]; omega⟩
                            · have q2 : (k2 : Int) ≤ (sq : Int) := by omega
                              have q2' : ¬ (sq : Int) < (k2 : Int) := by omega
                              clear uel ugl hk0
                              go_wp2_with fail
                              rw [← HW5.out]
                              go_quiet (fail)
                              go_wp2
                              go_ret
                              exact ⟨true, 0, rfl, HBX.out _, fun h => by cases h⟩
                          · have q1 : ((fst : Int) != 0) = true := by simp; omega
                            clear uel ugl hk0
                            go_wp2_with fail
                            rw [← HW5.out]
                            go_quiet (fail)
                            go_wp2
                            go_ret
                            exact ⟨true, 0, rfl, HBX.out _, fun h => by cases h⟩
                        · obtain rfl : i2 = ng := by omega
                          have hT := HT2.out
                          have hS := HS2.out
                          rw [HNG.out, List.take_length, ← HSS.out] at hT
                          rw [HNG.out, List.take_length] at hS
                          have HTT := Lib.hid hT
                          have HSN := Lib.hid hS
                          clear hT HT2 hS
                          go_wp2
                          exact ⟨⟨i + 1, by rw [← HNL.out]; omega, by go_num, HTT, HDc2, Lib.hid (by
                            rw [HLT.out]
                            intro L hL
                            rcases List.mem_append.1 hL with h | h
                            · exact HS0.out L h
                            · simp at h
                              subst h
                              rw [← HGR.out]
                              exact HSN.out)⟩, by simp [intOf1]; omega⟩
                    · as_aux_lemma =>
                      obtain rfl : i = nL := by omega
                      have hT := HT.out
                      have hS := HS0.out
                      rw [HNL.out, List.take_length] at hT hS
                      obtain ⟨⟨nx8, F8, D8⟩, hs8⟩ : ∃ s, s = tkLs (T : Int) (nx, F, D) Ls6 := ⟨_, rfl⟩
                      rw [← hs8] at hT
                      have HTT := Lib.hid (And.intro hT hs8)
                      have HSS := Lib.hid hS
                      obtain ⟨Ds8, hrc8, _, _⟩ := hT.1.rrc
                      obtain ⟨RA8, rc8, _, _, r28, _⟩ := rrc_cells hrc8
                      have hGn : 0 ≤ nx8 := hT.2.2.1
                      clear hT HT hs8 hrc8 hS
                      by_cases hack : (a : Int) ≤ nx8 ∧ nx8 ≤ (k2 : Int)
                      · obtain ⟨p, hp⟩ : ∃ p : Nat, nx8 = (p : Int) := ⟨nx8.toNat, by omega⟩
                        rw [hp] at r28
                        go_wp2_with fail
                        refine (rack_yes gs w.heap.size 0 a p (T : Int) (BB.take k2) wr HTT.out.1.1.rsn (by omega) (by rw [hkl]; omega)).mono ?_
                        rintro e w12 ⟨rfl, hS12, hO12⟩
                        have HX12 := Lib.hid (HTT.out.1.1.sent (hO12.mono (fun k _ e => .inl e)) hS12)
                        clear hS12 hO12
                        go_wp2
                        refine ⟨tyP_next (a2 := p) (Ls := Ls6) HR.out.1 HL6.out.2.2.1 HL6.out.2.2.2 hka ?_ ?_ (by omega) HR.out.2.2.2.2.1 HR.out.2.2.2.2.2 HSS.out (by rw [HA.out.2.2.2.2.2.1]; exact hnx') (by go_num), by simp [intOf1]; omega⟩
                        · rw [← HTT.out.2, if_pos hack]; show p = nx8.toNat; omega
                        · rw [← HTT.out.2]; exact ⟨HX12.out, HTT.out.1.2⟩
                      · go_wp2_with fail
                        refine (rack_no gs w.heap.size 0 a nx8 (T : Int) (BB.take k2) wr HTT.out.1.1.rsn (by rw [hkl]; omega)).mono ?_
                        rintro e w12 ⟨rfl, rfl⟩
                        go_wp2
                        refine ⟨tyP_next (a2 := a) (Ls := Ls6) HR.out.1 HL6.out.2.2.1 HL6.out.2.2.2 hka ?_ ?_ (by omega) HR.out.2.2.2.2.1 HR.out.2.2.2.2.2 HSS.out (by rw [HA.out.2.2.2.2.2.1]; exact hnx') (by go_num), by simp [intOf1]; omega⟩
                        · rw [← HTT.out.2, if_neg hack]
                        · rw [← HTT.out.2]; exact HTT.out.1
                · as_aux_lemma =>
                  have i8 : ¬ (j : Int) < (m : Int) := by omega
                  have hRj : RR[j]? = none := List.getElem?_eq_none (by rw [HA.out.2.2.1.1]; omega)
                  obtain ⟨w6, hw6⟩ : ∃ x, x = w5 := ⟨_, rfl⟩
                  subst hw6
                  obtain ⟨ps6, hp6⟩ : ∃ x, x = ps := ⟨_, rfl⟩
                  subst hp6
                  have HX6 := HX5
                  have D6 := Lib.hid (dcs_base0 HD5.out.1)
                  obtain ⟨Ls6, hLs⟩ : ∃ L, L = carried (RR[j]?) (pkts BB a k2) := ⟨_, rfl⟩
                  have hps6 := Lib.hid (show ps6.map Prod.snd = Ls6 by rw [HD5.out.2, hLs, hRj]; rfl)
                  have hll : Ls6.length ≤ 32 := by
                    have h := carried_len (R := RR[j]?) (Ls := pkts BB a k2) (fun Hs e => by rw [hRj] at e; cases e)
                    rw [pkts_len] at h
                    rw [hLs]
                    omega
                  have hls := carried_size (R := RR[j]?) (pkts_size HA.out.2.2.2.2.2.2 a k2 hkA hka)
                  rw [← hLs] at hls
                  have HL6 := Lib.hid (And.intro hll (And.intro hls (And.intro HKM.out hLs)))
                  clear hLs hll hls
                  clear hRj
                  obtain ⟨A6, hA6⟩ : ∃ x, x = Ap := ⟨_, rfl⟩
                  subst hA6
                  obtain ⟨c6, hc6⟩ : ∃ x, x = cp := ⟨_, rfl⟩
                  subst hc6
                  obtain ⟨nL, hnL⟩ : ∃ nL, nL = Ls6.length := ⟨_, rfl⟩
                  have hp6 : ps6.length = nL := by rw [hnL, ← hps6.out, List.length_map]
                  rw [hp6] at D6 ⊢
                  have HNL := Lib.hid hnL
                  have HP6 := Lib.hid hp6
                  have hnLb : nL ≤ 32 := by have := HL6.out.1; omega
                  have HT0 := Lib.hid (show TyF w gs gr a (T : Int) (BB.take k2) (tkLs (T : Int) (nx, F, D) (Ls6.take 0)) w6 from ⟨by simpa [tkLs] using HX6.out, by simpa [tkLs] using HR.out.2.1.2⟩)
                  clear hnL hp6
                  go_wp2_with fail
                  go_loopw [100] (fun iv wv => TyO w gs gr T a k2 BB (nx, F, D) Ls6 (.slice A6 nL c6) ps6 iv wv) (fun iv _ => nL - (intOf1 iv).toNat)
                  case atStart => exact ⟨0, Nat.zero_le _, rfl, HT0, D6, Lib.hid (fun L h => by simp at h)⟩
                  case round =>
                    obtain ⟨i, hi, rfl, HT, HDc, HS0⟩ := hrel
                    rw [← HNL.out] at hi
                    by_cases hin : i < nL
                    · as_aux_lemma =>
                      have hiL : i < Ls6.length := by rw [← HNL.out]; exact hin
                      have hip : i < ps6.length := by rw [HP6.out]; exact hin
                      obtain ⟨gd, cd, ed, hgd, hcell⟩ := dcs_at HDc.out i hip
                      injection ed with ed1 ed2 ed3
                      subst ed1
                      have hel := HDc.out.els _ (List.getElem_mem hip)
                      obtain ⟨_, hrb⟩ := rb_of_owns hel.1
                      obtain ⟨A', c', hf⟩ := hrb.form
                      obtain ⟨Z, hZe⟩ : ∃ Z, Z = Ls6[i]'hiL := ⟨_, rfl⟩
                      have hZ2 : (ps6[i]'hip).2 = Z := by rw [hZe]; simp [← hps6.out]
                      rw [hZ2] at hf hrb
                      rw [hf] at hcell hrb
                      have hZB : AllB Z := by rw [← hZ2]; exact hel.2.1
                      have hZl : Z.length ≤ 1048576 := by rw [hZe]; exact Nat.le_trans (HL6.out.2.1 _ (List.getElem_mem _)) (by omega)
                      have i9 : (i : Int) < (nL : Int) := by omega
                      have HSc := Lib.hid (refScx_any Z hZB A' Z.length c' wr.heap.size hZl wr hrb (Nat.le_refl _))
                      have hst1 := tkLs_succ (T : Int) (nx, F, D) Ls6 i hiL
                      rw [← hZe] at hst1
                      have HST := Lib.hid hst1
                      have HLT := Lib.hid (show Ls6.take (i + 1) = Ls6.take i ++ [Z] by rw [List.take_succ_eq_append_getElem hiL, hZe])
                      have HZL := Lib.hid (show Z.length ≤ 1200 by rw [hZe]; exact Nat.le_trans (HL6.out.2.1 _ (List.getElem_mem _)) (by omega))
                      have HZB := Lib.hid hZB
                      clear hel hrb hf hZe hZ2 hZB hZl hst1 ed2 ed3
                      go_wp2_with fail
                      refine HSc.out.mono ?_
                      rintro e w7 ⟨fv, rfl, hfs, b7⟩
                      obtain ⟨Gr, hGr⟩ : ∃ Gr, Gr = (scanF (Z.length + 1) Z).1 := ⟨_, rfl⟩
                      rw [← hGr] at hfs
                      obtain ⟨s7, hs7⟩ : ∃ s, s = tkLs (T : Int) (nx, F, D) (Ls6.take i) := ⟨_, rfl⟩
                      have HTr := HT.out
                      rw [← hs7] at HTr
                      have HT1 := Lib.hid (show TyF w gs gr a (T : Int) (BB.take k2) (tkFs (T : Int) s7 (Gr.take 0)) w7 from by simpa [tkFs] using tyF_below HTr b7)
                      have HDc1 := Lib.hid (dcs_below HDc.out b7)
                      have HL1 := Lib.hid (lb_ov HTr.1 b7)
                      have HK1 := Lib.hid (show Kept wr.heap.size w7.heap.size w7 w7 from ⟨Nat.le_refl _, fun _ _ _ => rfl⟩)
                      have HFX := Lib.hid hfs
                      obtain ⟨Ag, cg, eg⟩ := frx_form hfs
                      subst eg
                      obtain ⟨ng, hng⟩ : ∃ ng, ng = Gr.length := ⟨_, rfl⟩
                      have hngb : ng ≤ 3200 := by
                        have h1 := scanF_len (Z.length + 1) Z
                        rw [← hGr, ← hng] at h1
                        have := HZL.out
                        omega
                      have hs71 := b7.size
                      have hgrl := HTr.1.grl
                      have HNG := Lib.hid hng
                      have HSS := Lib.hid (show tkLs (T : Int) (nx, F, D) (Ls6.take (i + 1)) = tkFs (T : Int) s7 Gr by rw [hs7, hGr]; exact HST.out)
                      have HGR := Lib.hid hGr
                      rw [← hng] at HFX ⊢
                      clear hfs b7 hGr hs7 hng hcell HTr
                      go_wp2_with fail
                      obtain ⟨lo, hlo⟩ : ∃ lo, lo = wr.heap.size := ⟨_, rfl⟩
                      rw [← hlo] at HL1 HK1 HFX hs71 hgrl
                      have HLO := Lib.hid hgrl
                      clear hgrl
                      clear hlo hgd HT HSc HDc
                      go_loopw [114] (fun iv wv => TyI w w7 gs gr lo T a k2 BB s7 Gr (.slice (some ⟨gd, 0, none⟩) nL c6) ps6 iv wv) (fun iv _ => ng - (intOf1 iv).toNat)
                      case atStart => exact ⟨0, Nat.zero_le _, rfl, HT1, HDc1, HK1, HL1, Lib.hid (fun f h => by simp at h)⟩
                      case round =>
                        obtain ⟨i2, hi2, rfl, HT2, HDc2, HK2, HL2, HS2⟩ := hrel
                        rw [← HNG.out] at hi2
                        by_cases hin2 : i2 < ng
                        · as_aux_lemma =>
                          have hiG : i2 < Gr.length := by rw [← HNG.out]; exact hin2
                          have hstep := tkFs_succ (T : Int) s7 Gr i2 hiG
                          obtain ⟨gf, c8, A8, c8', e8, hgf, p0, p1, p2, hr⟩ := frx_at HFX.out HK2.out i2 hiG
                          injection e8 with e9 e10 e11
                          subst e9
                          clear e10 e11
                          obtain ⟨f, hf⟩ : ∃ f, f = Gr[i2]'hiG := ⟨_, rfl⟩
                          rw [← hf] at p0 p1 p2 hr hstep
                          have HFE := Lib.hid (And.intro (show Gr.take (i2 + 1) = Gr.take i2 ++ [f] by rw [List.take_succ_eq_append_getElem hiG, hf]) (show AllB f.2.2 from scanF_all _ Z HZB.out f (by rw [← HGR.out, hf]; exact List.getElem_mem _)))
                          obtain ⟨⟨nx1, F1, D1⟩, hs1'⟩ : ∃ s, s = tkFs (T : Int) s7 (Gr.take i2) := ⟨_, rfl⟩
                          have HTr := HT2.out
                          rw [← hs1'] at HTr hstep
                          obtain ⟨fst, sq, Y⟩ := f
                          simp only at p0 p1 p2 hr
                          obtain ⟨W5, HW5, hw5, HG5, z5⟩ := F0ex wr (fst : Int) (sq : Int) (.slice A8 Y.length c8')
                          obtain ⟨g0, g1, g2, gf'⟩ := fr_blk HG5.out (Below.refl _ _)
                          have hrY : ∀ n, RB (W5.drewN n) wr.heap.size (.slice A8 Y.length c8') Y := fun n => hr.belowM (bdnT hw5 n) (Nat.le_refl _)
                          have TY := fun n => run_string_bytes (hrY n).1
                          obtain ⟨SB, sb, _, _, _, u3, usc, _, ugl, uel⟩ := rsn_cells (tyF_below HTr hw5).1.rsn
                          have hk0 : (BB.take k2).length = k2 := by rw [List.length_take, HA.out.2.2.2.2.2.1]; omega
                          rw [hk0] at u3 usc
                          have i9 : (i2 : Int) < (ng : Int) := by omega
                          have HBX := Lib.hid (show ∀ n, Below w.heap.size w (W5.drewN n) from fun n => HTr.1.bel.trans ((bdnT hw5 n).mono HTr.1.siz))
                          have HI := Lib.hid (And.intro hstep (And.intro hw5 (And.intro hrY HTr)))
                          have hkz := HK2.out.1
                          obtain ⟨SY, hSY⟩ : ∃ S, S = strB Y := ⟨_, rfl⟩
                          rw [← hSY] at TY
                          have HSY := Lib.hid hSY
                          clear hf hs1' hstep hr HT2 gf' hw5 hrY hSY HTr
                          by_cases hst : fst = 0
                          · have HF0 := Lib.hid hst
                            have q1 : ((fst : Int) != 0) = false := by simp [hst]
                            clear hst
                            by_cases hsq : sq < k2
                            · obtain ⟨gb, AE, ce0, hSB, hgb, hce, hBd⟩ := uel sq (by rw [hk0]; exact hsq)
                              subst hSB
                              obtain ⟨E, hE⟩ : ∃ E, E = (BB.take k2)[sq]'(by rw [hk0]; exact hsq) := ⟨_, rfl⟩
                              rw [← hE] at hce hBd
                              have TE := fun n => run_string_bytes ((bd_rb hBd).belowM (bdnT (Below.refl _ _) n) (Nat.le_refl _)).1
                              obtain ⟨SE, hSE⟩ : ∃ S, S = strB E := ⟨_, rfl⟩
                              rw [← hSE] at TE
                              obtain ⟨lE, hlE⟩ : ∃ l, l = E.length := ⟨_, rfl⟩
                              rw [← hlE] at hce TE
                              have HSE := Lib.hid (And.intro hSE hE)
                              have q2 : (sq : Int) < (k2 : Int) := by omega
                              have q2' : ¬ (k2 : Int) ≤ (sq : Int) := by omega
                              have q3 : (0 : Int) ≤ (sq : Int) := by omega
                              clear uel hBd hSE hE hlE ugl
                              by_cases hne : (SE.toList == SY.toList) = false
                              · go_wp2_with fail
                                rw [← HW5.out]
                                go_quiet (fail)
                                go_wp2
                                go_ret
                                exact ⟨true, 0, rfl, HBX.out _, fun h => by cases h⟩
                              · as_aux_lemma =>
                                have e2 : SE = SY := eq_of_toL (by simpa using hne)
                                clear hne
                                subst e2
                                have HSN := Lib.hid (show SentF BB k2 (fst, sq, Y) from ⟨HF0.out, hsq, by
                                  have h1 : E = BB.getD sq [] := by
                                    rw [HSE.out.2]
                                    have : sq < BB.length := by rw [HA.out.2.2.2.2.2.1]; omega
                                    simp [List.getD, this]
                                  have h2 : AllB E := by
                                    rw [HSE.out.2]
                                    exact (HA.out.2.2.2.2.2.2 _ (List.mem_of_mem_take (List.getElem_mem _))).2
                                  have e3 : strB E = strB Y := HSE.out.1.symm.trans HSY.out
                                  rw [← h1]
                                  exact (strB_inj h2 HFE.out.2 e3).symm⟩)
                                have hne2 : (SE != SE) = false := by
                                  have := strEqZ SE
                                  simp [bne, this]
                                go_wp2_with fail
                                rw [← HW5.out]
                                go_quiet (fail)
                                obtain ⟨W6, hW6⟩ : ∃ W6, W6 = W5.drewN nq := ⟨_, rfl⟩
                                rw [← hW6]
                                have hd6 : Below wr.heap.size wr W6 := by rw [hW6]; exact bdnT HI.out.2.1 nq
                                have y0 : W6.cell? ⟨wr.heap.size, 0, none⟩ = some (.int .i64 (fst : Int)) := by rw [hW6]; exact g0
                                have y1 : W6.cell? ⟨wr.heap.size, 1, none⟩ = some (.int .i64 (sq : Int)) := by rw [hW6]; exact g1
                                have y2 : W6.cell? ⟨wr.heap.size, 2, none⟩ = some (.slice A8 Y.length c8') := by rw [hW6]; exact g2
                                have hrY6 : RB W6 wr.heap.size (.slice A8 Y.length c8') Y := by rw [hW6]; exact HI.out.2.2.1 nq
                                have HTy := Lib.hid (tyF_below HI.out.2.2.2 hd6)
                                obtain ⟨Ds1, hrc1, hdf1, hdl1⟩ := HTy.out.1.rrc
                                have hG1 : GoodR (T : Int) (nx1, F1, D1) := HTy.out.2
                                obtain ⟨ce, hce'⟩ : ∃ ce, takeE 0 (T : Int) nx1 F1 (fst : Int) (sq : Int) Y.length = ce := ⟨_, rfl⟩
                                have HTk := Lib.hid (rtakex_any gr w.heap.size 0 (T : Int) nx1 (fst : Int) (sq : Int) F1 Ds1 Y A8 Y.length c8' wr.heap.size W6 hrc1 hdf1 hG1.1.inW (by have := dsF_small hdf1 hG1.1 (by omega); omega) ⟨hG1.2.1, hG1.2.2⟩ ⟨by omega, by omega⟩ hrY6 hd6.size HTy.out.1.siz ce hce')
                                have HCE := Lib.hid hce'
                                have hHL : ∀ k, lB W6 gr k → k < lo ∨ w7.heap.size ≤ k := fun k hk => HL2.out k ((lB_below hd6 HI.out.2.2.2.1.grl).1 hk)
                                have HLx := Lib.hid hHL
                                have HKx := Lib.hid (kept_only HK2.out (only_below (S := fun _ => False) hd6) (fun _ h => absurd h id))
                                have HDx := Lib.hid (dcs_below HDc2.out hd6)
                                have hz5 : wr.heap.size ≤ W6.heap.size := hd6.size
                                clear hrc1 hdf1 hdl1 hG1 hce' hHL hW6 hd6 hrY6 g0 g1 g2
                                go_wp2_with fail
                                refine HTk.out.mono ?_
                                rintro e w9 ⟨v9, rfl, ⟨hc0, hv9, b9⟩ | ⟨hc0, mm, Ds9, q1, q2, q3, q4, q5, q6, q7, q8, q9⟩⟩
                                · as_aux_lemma =>
                                  have hno := tyF_no (f := (fst, sq, Y)) HTy.out (by show takeE 0 (T : Int) nx1 F1 (fst : Int) (sq : Int) Y.length ≠ 0; rw [HCE.out]; exact hc0) b9
                                  have hdc : Dcs w9 0 0 _ ps6 := dcs_below HDx.out b9
                                  have hkp : Kept lo w7.heap.size w7 w9 := kept_only HKx.out (only_below (S := fun _ => False) b9) (fun _ h => absurd h id)
                                  have hlb : ∀ k, lB w9 gr k → k < lo ∨ w7.heap.size ≤ k := fun k hk => HLx.out k ((lB_below b9 HTy.out.1.grl).1 hk)
                                  have HNN := Lib.hid (And.intro hno (And.intro hdc (And.intro hkp hlb)))
                                  clear hno hdc hkp hlb b9 hv9
                                  go_wp2
                                  exact ⟨⟨i2 + 1, by rw [← HNG.out]; omega, by go_num, Lib.hid (by rw [HI.out.1]; exact HNN.out.1), Lib.hid HNN.out.2.1, Lib.hid HNN.out.2.2.1, Lib.hid HNN.out.2.2.2, Lib.hid (by
                                    rw [HFE.out.1]
                                    intro g hg
                                    rcases List.mem_append.1 hg with h | h
                                    · exact HS2.out g h
                                    · simp at h
                                      subst h
                                      exact HSN.out)⟩, by simp [intOf1]; omega⟩
                                · as_aux_lemma =>
                                  subst hc0
                                  have hok := tyF_ok (f := (fst, sq, Y)) (by omega : (T : Int) ≤ 64) HTy.out HCE.out q1 q2 q3 q4 q5 q6 q8 q9
                                  have hdc : Dcs w9 0 0 _ ps6 := dcs_only' HDx.out q8 (gr_not HTy.out.1 (by decide) (by decide)) (gr_not HTy.out.1 (by decide) (by decide))
                                  have hkp : Kept lo w7.heap.size w7 w9 := kept_only HKx.out q8 (fun k e => e.elim (fun e => .inl (by have := HLO.out; omega)) (HLx.out k))
                                  have hlb : ∀ k, lB w9 gr k → k < lo ∨ w7.heap.size ≤ k := fun k hk => (q9 k hk).elim (HLx.out k) (fun e => .inr (Nat.le_trans (Nat.le_trans hkz hz5) e))
                                  have HNN := Lib.hid (And.intro hok (And.intro hdc (And.intro hkp hlb)))
                                  clear hok hdc hkp hlb q1 q2 q3 q4 q5 q6 q7 q8 q9
                                  go_wp2
                                  exact ⟨⟨i2 + 1, by rw [← HNG.out]; omega, by go_num, Lib.hid (by rw [HI.out.1]; exact HNN.out.1), Lib.hid HNN.out.2.1, Lib.hid HNN.out.2.2.1, Lib.hid HNN.out.2.2.2, Lib.hid (by
                                    rw [HFE.out.1]
                                    intro g hg
                                    rcases List.mem_append.1 hg with h | h
                                    · exact HS2.out g h
                                    · simp at h
                                      subst h
                                      exact HSN.out)⟩, by simp [intOf1]; omega⟩
                            · have q2 : (k2 : Int) ≤ (sq : Int) := by omega
                              have q2' : ¬ (sq : Int) < (k2 : Int) := by omega
                              clear uel ugl hk0
                              go_wp2_with fail
                              rw [← HW5.out]
                              go_quiet (fail)
                              go_wp2
                              go_ret
                              exact ⟨true, 0, rfl, HBX.out _, fun h => by cases h⟩
                          · have q1 : ((fst : Int) != 0) = true := by simp; omega
                            clear uel ugl hk0
                            go_wp2_with fail
                            rw [← HW5.out]
                            go_quiet (fail)
                            go_wp2
                            go_ret
                            exact ⟨true, 0, rfl, HBX.out _, fun h => by cases h⟩
                        · obtain rfl : i2 = ng := by omega
                          have hT := HT2.out
                          have hS := HS2.out
                          rw [HNG.out, List.take_length, ← HSS.out] at hT
                          rw [HNG.out, List.take_length] at hS
                          have HTT := Lib.hid hT
                          have HSN := Lib.hid hS
                          clear hT HT2 hS
                          go_wp2
                          exact ⟨⟨i + 1, by rw [← HNL.out]; omega, by go_num, HTT, HDc2, Lib.hid (by
                            rw [HLT.out]
                            intro L hL
                            rcases List.mem_append.1 hL with h | h
                            · exact HS0.out L h
                            · simp at h
                              subst h
                              rw [← HGR.out]
                              exact HSN.out)⟩, by simp [intOf1]; omega⟩
                    · as_aux_lemma =>
                      obtain rfl : i = nL := by omega
                      have hT := HT.out
                      have hS := HS0.out
                      rw [HNL.out, List.take_length] at hT hS
                      obtain ⟨⟨nx8, F8, D8⟩, hs8⟩ : ∃ s, s = tkLs (T : Int) (nx, F, D) Ls6 := ⟨_, rfl⟩
                      rw [← hs8] at hT
                      have HTT := Lib.hid (And.intro hT hs8)
                      have HSS := Lib.hid hS
                      obtain ⟨Ds8, hrc8, _, _⟩ := hT.1.rrc
                      obtain ⟨RA8, rc8, _, _, r28, _⟩ := rrc_cells hrc8
                      have hGn : 0 ≤ nx8 := hT.2.2.1
                      clear hT HT hs8 hrc8 hS
                      by_cases hack : (a : Int) ≤ nx8 ∧ nx8 ≤ (k2 : Int)
                      · obtain ⟨p, hp⟩ : ∃ p : Nat, nx8 = (p : Int) := ⟨nx8.toNat, by omega⟩
                        rw [hp] at r28
                        go_wp2_with fail
                        refine (rack_yes gs w.heap.size 0 a p (T : Int) (BB.take k2) wr HTT.out.1.1.rsn (by omega) (by rw [hkl]; omega)).mono ?_
                        rintro e w12 ⟨rfl, hS12, hO12⟩
                        have HX12 := Lib.hid (HTT.out.1.1.sent (hO12.mono (fun k _ e => .inl e)) hS12)
                        clear hS12 hO12
                        go_wp2
                        refine ⟨tyP_next (a2 := p) (Ls := Ls6) HR.out.1 HL6.out.2.2.1 HL6.out.2.2.2 hka ?_ ?_ (by omega) HR.out.2.2.2.2.1 HR.out.2.2.2.2.2 HSS.out (by rw [HA.out.2.2.2.2.2.1]; exact hnx') (by go_num), by simp [intOf1]; omega⟩
                        · rw [← HTT.out.2, if_pos hack]; show p = nx8.toNat; omega
                        · rw [← HTT.out.2]; exact ⟨HX12.out, HTT.out.1.2⟩
                      · go_wp2_with fail
                        refine (rack_no gs w.heap.size 0 a nx8 (T : Int) (BB.take k2) wr HTT.out.1.1.rsn (by rw [hkl]; omega)).mono ?_
                        rintro e w12 ⟨rfl, rfl⟩
                        go_wp2
                        refine ⟨tyP_next (a2 := a) (Ls := Ls6) HR.out.1 HL6.out.2.2.1 HL6.out.2.2.2 hka ?_ ?_ (by omega) HR.out.2.2.2.2.1 HR.out.2.2.2.2.2 HSS.out (by rw [HA.out.2.2.2.2.2.1]; exact hnx') (by go_num), by simp [intOf1]; omega⟩
                        · rw [← HTT.out.2, if_neg hack]
                        · rw [← HTT.out.2]; exact HTT.out.1
      · go_wp2
        go_ret
        refine ⟨false, _, rfl, HR.out.2.1.1.bel, fun _ => ⟨⟨by omega, HR.out.2.2.2.2.1, ?_⟩, HR.out.2.2.2.2.2⟩⟩
        rw [HR.out.1, HA.out.2.2.2.2.2.1]; first | exact .inl rfl | exact .inr (by show ¬ nx < _; omega)
    · obtain rfl : j = 64 := by omega
      go_wp2
      go_ret
      refine ⟨false, _, rfl, HR.out.2.1.1.bel, fun _ => ⟨⟨by omega, HR.out.2.2.2.2.1, ?_⟩, HR.out.2.2.2.2.2⟩⟩
      rw [HR.out.1, HA.out.2.2.2.2.2.1]; first | exact .inl rfl | exact .inr (by show ¬ nx < _; omega)
end Go.Proofs.Ytkakbeiehggkiaa
