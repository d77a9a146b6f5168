/-
  The program's Transfer. Made by gen_trf.py.
  Big and Pack, the document's.
-/
import Derived.Test.YtkakbeiehggkiaaH34
import Derived.Test.YtkakbeiehggkiaaH33
import Derived.Test.YtkakbeiehggkiaaH19
namespace Go.Proofs.Ytkakbeiehggkiaa
open Go.RowKit Go.Maps
attribute [local go_sem ↓] Go.wp_at_zero Go.wp_at_succ

def TrP (w : World) (T : Nat) (BB : List (List Nat)) (RR : List (List Ft)) (gs ms gr mr : Nat) (dv ov iv : Value) (wr : World) : Prop :=
  ∃ (j k a N : Nat) (nx : Int) (F : Hf) (D : List Dl), j ≤ 64 ∧ k ≤ BB.length ∧ iv = .int .i64 (j : Int) ∧ ov = .int .i64 (k : Int) ∧
    Hid (trN T BB RR j = (a, (nx, F, D)) ∧ TrW w w.heap.size gs ms gr mr (T : Int) a (BB.take k) N nx F D dv wr ∧ GoodR (T : Int) (nx, F, D) ∧ D.length + N ≤ 4000 * j ∧ a ≤ k ∧ k ≤ a + T ∧ ∀ i, i < j → (trN T BB RR i).2.1 < (BB.length : Int))
def RetTr (w : World) (T : Nat) (BB : List (List Nat)) (RR : List (List Ft)) (e : Ending) (w' : World) : Prop :=
  ∃ dv n, e = .returned (.tuple #[dv, .int .i64 ((n : Nat) : Int), .int .i64 0]) ∧ IsN T BB RR n ∧ DlS w' w.heap.size dv (trN T BB RR n).2.2.2 ∧ Below w.heap.size w w' ∧ (trN T BB RR n).2.2.2.length ≤ 256000

theorem dcs_base0 {w : World} {lb eb : Nat} {v : Value} {ps : List (Value × List Nat)} (h : Dcs w lb eb v ps) : Dcs w 0 0 v ps := by
  have h1 := dcs_lb h (Nat.zero_le _)
  exact ⟨h1.own, fun p hp => ⟨owns_base (h1.els p hp).1 (Nat.zero_le _), (h1.els p hp).2⟩⟩
theorem min_room {n a T k jo nk : Nat} (h1 : n - k = nk) (h2 : jo ≤ nk) (h3 : jo = 0 ∨ (k : Int) + jo ≤ a + T) (h4 : jo = nk ∨ (a : Int) + T ≤ k + jo) (h5 : k ≤ a + T) (h6 : k ≤ n) : k + jo = min n (a + T) := by omega
theorem min_room2 {n a k jo nk k1 : Nat} (h1 : n - k = nk) (h2 : jo ≤ nk) (h6 : k ≤ n) (h7 : a ≤ k) (h8 : k1 = k + jo) : k1 ≤ n ∧ a ≤ k1 := by omega
theorem good_start (T : Int) : GoodR T (0, fun _ => none, []) := ⟨fun k x h => (by cases h), Int.le_refl _, by show (0 : Int) ≤ 4294967296; omega⟩
/-- The end of a round. -/
theorem trP_next {w wr : World} {T j k' a N' a2 : Nat} {nx : Int} {F : Hf} {D : List Dl} {BB : List (List Nat)} {RR : List (List Ft)} {gs ms gr mr : Nat} {dv : Value} {Ls : List (List Nat)}
    (h0 : trN T BB RR j = (a, (nx, F, D))) (hk : k' = min BB.length (a + T)) (hL : Ls = carried (RR[j]?) (pkts BB a k')) (ha : a ≤ k') (ha2 : a2 = if (a : Int) ≤ (tkLs (T : Int) (nx, F, []) Ls).1 ∧ (tkLs (T : Int) (nx, F, []) Ls).1 ≤ (k' : Int) then (tkLs (T : Int) (nx, F, []) Ls).1.toNat else a)
    (hW : TrW w w.heap.size gs ms gr mr (T : Int) a2 (BB.take k') N' (tkLs (T : Int) (nx, F, []) Ls).1 (tkLs (T : Int) (nx, F, []) Ls).2.1 (D ++ (tkLs (T : Int) (nx, F, []) Ls).2.2) dv wr) (hG : GoodR (T : Int) (tkLs (T : Int) (nx, F, []) Ls)) (hD : D.length + (tkLs (T : Int) (nx, F, []) Ls).2.2.length + N' ≤ 4000 * (j + 1)) (hj : j + 1 ≤ 64)
    (hi : ∀ i, i < j → (trN T BB RR i).2.1 < (BB.length : Int)) (hnx : nx < (BB.length : Int)) {ov iv : Value} (hov : ov = .int .i64 (k' : Int)) (hiv : iv = .int .i64 ((j + 1 : Nat) : Int)) : TrP w T BB RR gs ms gr mr dv ov iv wr := by
  have hs : trN T BB RR (j + 1) = (a2, ((tkLs (T : Int) (nx, F, []) Ls).1, (tkLs (T : Int) (nx, F, []) Ls).2.1, D ++ (tkLs (T : Int) (nx, F, []) Ls).2.2)) := by
    show trStep T BB (RR[j]?) (trN T BB RR j) = _
    rw [h0]
    unfold trStep
    simp only
    rw [← hk, ← hL, tkLs_app (T : Int) Ls nx F D, ha2]
  have hle : a ≤ a2 ∧ a2 ≤ k' := by
    rw [ha2]
    split <;> omega
  refine ⟨j + 1, k', a2, N', _, _, _, hj, by omega, hiv, hov, Lib.hid ⟨hs, hW, hG, by rw [List.length_append]; exact hD, hle.2, by omega, fun i hij => ?_⟩⟩
  by_cases e : i = j
  · subst e; rw [h0]; exact hnx
  · exact hi i (by omega)

set_option maxRecDepth 100000 in
set_option maxHeartbeats 2000000 in
theorem transfer_ok (T n c m c2 : Nat) (A A2 : Option Addr) (X : Nat → List Nat) (V : Nat → Value) (RR : List (List Ft)) (w : World) (hF : ByF w A n X V) (hX : ∀ i, i < n → (X i).length ≤ 1024) (hn : n ≤ 24) (hnc : n ≤ c) (hT : 1 ≤ T ∧ T ≤ 64)
    (hR : RdL w A2 m RR) (hm : m ≤ 70) (hR8 : ∀ i (h : i < RR.length), i < 64 → (RR[i]'h).length ≤ 8) :
    Calls Try.prog 47 #[.slice A n c, .int .i64 (T : Int), .slice A2 m c2] w (RetTr w T ((List.range n).map X) RR) := by
  obtain ⟨BB, hBB⟩ : ∃ BB, BB = (List.range n).map X := ⟨_, rfl⟩
  have hBl : BB.length = n := by rw [hBB]; simp
  have hBX : ∀ Y ∈ BB, Y.length ≤ 1024 ∧ AllB Y := by
    intro Y hY
    rw [hBB] at hY
    obtain ⟨i, hi, rfl⟩ := List.mem_map.1 hY
    have hi' : i < n := by simpa using hi
    obtain ⟨_, _, _, _, _, _, _, _, hB, _⟩ := hF i hi'
    exact ⟨hX i hi', hB⟩
  rw [← hBB]
  have HV := Lib.hid (validWindow_yes (T : Int) w ⟨by omega, by omega⟩)
  have HVB := Lib.hid (validBodies_yes A n c X V w hF hX (by omega))
  have HNS := Lib.hid (newS_yes 0 (T : Int) w ⟨⟨by omega, by omega⟩, by omega, by omega⟩)
  have HA := Lib.hid (And.intro hF (And.intro hX (And.intro hR (And.intro hR8 (And.intro hBB (And.intro hBl (And.intro hBX hnc)))))))
  have hn0 : (n : Int) ≤ 24 := by omega
  have hTi : (1 : Int) ≤ (T : Int) ∧ (T : Int) ≤ 64 := by omega
  clear hF hX hR hR8 hBB hBl hBX
  go_enter Try.func47, Try.ntmps47
  go_wp2_with fail
  refine HV.out.mono ?_
  rintro e w1 ⟨rfl, rfl⟩
  go_wp2_with fail
  refine HVB.out.mono ?_
  rintro e w1 ⟨rfl, rfl⟩
  go_wp2_with fail
  refine HNS.out.mono ?_
  rintro e w1 ⟨gs, ms, rfl, hS1, hgs, hms, b1⟩
  have hS1' : Snd w1 gs ms ((0 : Nat) : Int) (T : Int) 0 [] := hS1
  have hap := snd_apart hS1
  have H1 := Lib.hid (And.intro hS1' (And.intro hgs (And.intro hms b1)))
  clear hS1 hS1' hgs hms b1
  go_wp2_with fail
  refine (new_yes 0 (T : Int) 0 w1 ⟨⟨by omega, by omega⟩, ⟨by omega, by omega⟩, by omega, by omega⟩).mono ?_
  rintro e w2 ⟨gr, mr, rfl, hR2, hgr, hmr, b2⟩
  have hW2 : TrW w w.heap.size gs ms gr mr (T : Int) 0 (BB.take 0) 0 0 (fun _ => none) [] (.slice none 0 0) w2 :=
    ⟨by simpa using snd_below H1.out.1 b2, hR2, dls_nil _ _, H1.out.2.2.2.trans (b2.mono H1.out.2.2.2.size), Nat.le_trans H1.out.2.2.2.size b2.size, ⟨by omega, by omega, by omega, by omega⟩, H1.out.2.1, H1.out.2.2.1, Nat.le_trans H1.out.2.2.2.size hgr, Nat.le_trans H1.out.2.2.2.size hmr⟩
  have H0 := Lib.hid (show TrP w T BB RR gs ms gr mr (.slice none 0 0) (.int .i64 0) (.int .i64 0) w2 from
    ⟨0, 0, 0, 0, 0, fun _ => none, [], by omega, Nat.zero_le _, rfl, rfl, Lib.hid ⟨rfl, hW2, good_start (T : Int), by simp, Nat.le_refl _, by omega, fun i h => absurd h (by omega)⟩⟩)
  clear hR2 hgr hmr b2 hW2
  go_wp2_with fail
  go_loopw [13, 14, 15] (fun dv ov iv wr => TrP w T BB RR gs ms gr mr dv ov iv wr) (fun _ _ iv _ => 64 - (intOf1 iv).toNat)
  case atStart => exact H0.out
  case round =>
    obtain ⟨j, k, a, N, nx, F, D, hj, hk, rfl, rfl, HR⟩ := hrel
    rw [HA.out.2.2.2.2.2.1] at hk
    by_cases hj64 : j < 64
    · have i1 : (j : Int) < 64 := by omega
      have HNx := Lib.hid (next_any gr mr N 0 (T : Int) nx F wr HR.out.2.1.rcv hTi.1)
      by_cases hnx : nx < (n : Int)
      · have hn1 : 0 < n := by have h0 : 0 ≤ nx := HR.out.2.2.1.2.1; omega
        obtain ⟨b, o, _, _, hA0, _⟩ := HA.out.1 0 hn1
        subst hA0
        have hak : a ≤ k ∧ k ≤ a + T := ⟨HR.out.2.2.2.2.1, HR.out.2.2.2.2.2.1⟩
        obtain ⟨AD, hAD⟩ : ∃ AD, (if c = k then (some ⟨b, o, none⟩ : Option Addr) else some ⟨b, o + k, none⟩) = AD := ⟨_, rfl⟩
        obtain ⟨nk, hnk⟩ : ∃ nk, n - k = nk := ⟨_, rfl⟩
        obtain ⟨ck, hck⟩ : ∃ ck, c - k = ck := ⟨_, rfl⟩
        have hsh := byF_shift HA.out.1 hk hnc hAD
        rw [hnk] at hsh
        have hk0 : (BB.take k).length = k := by rw [List.length_take, HA.out.2.2.2.2.2.1]; omega
        have HOf := Lib.hid (offer_all gs ms a nk ck (T : Int) (BB.take k) AD _ _ w wr HR.out.2.1.snd hTi.1 hsh HR.out.2.1.bel HR.out.2.1.apt.2.1 HR.out.2.1.apt.2.2.1 (fun i hi => HA.out.2.1 (k + i) (by omega)) (by omega))
        have i5 : (k : Int) ≤ (n : Int) := by omega
        obtain ⟨Ad0, cd0, ed0⟩ := dls_form HR.out.2.1.dls
        subst ed0
        clear hsh
        go_wp2_with fail
        refine HNx.out.mono ?_
        rintro e w3 ⟨rfl, rfl⟩
        go_wp2_with fail
        refine HOf.out.mono ?_
        rintro e w3 ⟨jo, hjo, rfl, hS3, hO3, hf1, hf2⟩
        rw [hk0] at hf1 hf2
        have hbt : BB.take k ++ (List.range jo).map (fun i => X (k + i)) = BB.take (k + jo) := by rw [HA.out.2.2.2.2.1]; exact take_shift X n k jo (by omega)
        rw [hbt] at hS3
        obtain ⟨k1, hk1'⟩ : ∃ k1, k1 = k + jo := ⟨_, rfl⟩
        have hkm : k1 = min BB.length (a + T) := by rw [HA.out.2.2.2.2.2.1, hk1']; exact min_room hnk hjo hf1 hf2 hak.2 hk
        rw [← hk1'] at hS3
        have W3 := Lib.hid (HR.out.2.1.sent hO3 hS3)
        have hkl : (BB.take k1).length = k1 := by rw [List.length_take, HA.out.2.2.2.2.2.1]; omega
        have HKM := Lib.hid hkm
        have hk1n : k1 ≤ n ∧ a ≤ k1 := min_room2 hnk hjo hk hak.1 hk1'
        have hjob : jo ≤ 24 := by omega
        have hkA : k1 ≤ 4294967295 := by omega
        have hkB : k1 - a ≤ 24 := by omega
        have hkC : k1 ≤ 1024 := by omega
        have HK1 := Lib.hid hk1'
        clear hS3 hO3 hbt hkm hf1 hf2 hAD hnk hck hjo hak hk1'
        go_wp2_with fail
        refine (pending_any gs ms 0 a (T : Int) (BB.take k1) w3 W3.out.snd hTi.1 (by rw [hkl]; exact hkC) (fun i hi => (HA.out.2.2.2.2.2.2.1 _ (List.mem_of_mem_take (List.getElem_mem hi))).1)).mono ?_
        rintro e w4 ⟨fv, rfl, hfd, b4⟩
        rw [hkl] at hfd
        have W4 := Lib.hid (W3.out.below b4)
        have HFD := Lib.hid (frd_frs hfd)
        obtain ⟨Af, cf, ef⟩ := frs_form HFD.out
        subst ef
        clear hfd b4
        go_wp2_with fail
        refine (pack_all w3.heap.size _ _ w4 HFD.out (pkts_ok HA.out.2.2.2.2.2.2.1 a k1 hkA hk1n.2) (by rw [pF_len]; exact Nat.le_trans hkB (by decide))).mono ?_
        rintro e w5 ⟨ps, pv, hps, rfl, hd5, b5⟩
        have W5 := Lib.hid (W4.out.below b5)
        have HD5 := Lib.hid (And.intro hd5 (show ps.map Prod.snd = pkts BB a k1 from hps))
        obtain ⟨Ap, cp, ep⟩ := dcs_form hd5
        subst ep
        have hpl : ps.length = k1 - a := by
          have h := congrArg List.length HD5.out.2
          rw [List.length_map, pkts_len] at h
          exact h
        have HPL := Lib.hid hpl
        clear hd5 hps b5 hpl
        by_cases hjm : j < m
        · have hjR : j < RR.length := by rw [HA.out.2.2.1.1]; exact hjm
          obtain ⟨b2, o2, A3, c3, hA2, hb2, hc2, hft⟩ := HA.out.2.2.1.2 j hjR
          subst hA2
          obtain ⟨Fs, hFs⟩ : ∃ Fs, Fs = RR[j]'hjR := ⟨_, rfl⟩
          rw [← hFs] at hc2 hft
          have hF8 : Fs.length ≤ 8 := by rw [hFs]; exact HA.out.2.2.2.1 j hjR hj64
          have hRj : RR[j]? = some Fs := by rw [hFs]; exact List.getElem?_eq_getElem hjR
          have hc5 := (W5.out.bel.cell (p := ⟨b2, o2 + j, none⟩) hb2).trans hc2
          have hCy := carry_any (c := cp) (inL_dcs HD5.out.1 HD5.out.2) (by rw [HPL.out]; exact Nat.le_trans hkB (by decide)) (fun Y hY => Nat.le_trans (pkts_size HA.out.2.2.2.2.2.2.1 a k1 hkA hk1n.2 Y hY) (by omega)) A3 Fs.length c3 Fs (ftL_belowT hft W5.out.bel) (by omega)
          have HCy := Lib.hid hCy
          have i6 : (j : Int) < (m : Int) := by omega
          obtain ⟨lf, hlf⟩ : ∃ l, l = Fs.length := ⟨_, rfl⟩
          rw [← hlf] at hc5 HCy
          have HLF := Lib.hid (And.intro hlf (And.intro hF8 hRj))
          clear hc2 hft hCy hFs hlf hF8 hRj
          go_wp2_with fail
          refine HCy.out.mono ?_
          rintro e w6 ⟨ps6, hqs, qv, rfl, hch, b6⟩
          have W6 := Lib.hid (W5.out.below b6)
          obtain ⟨Ls6, hLs⟩ : ∃ L, L = carried (RR[j]?) (pkts BB a k1) := ⟨_, rfl⟩
          have hps6 := Lib.hid (show ps6.map Prod.snd = Ls6 by rw [hqs, hLs, HLF.out.2.2]; rfl)
          have D6 := Lib.hid (dcs_base0 (dcs_chs hch))
          have hll : Ls6.length ≤ 32 := by
            have h := carried_len (R := RR[j]?) (Ls := pkts BB a k1) (fun Gs e => by rw [HLF.out.2.2] at e; injection e with e; rw [← e]; exact HLF.out.2.1)
            rw [pkts_len] at h
            rw [hLs]
            omega
          have hls := carried_size (R := RR[j]?) (pkts_size HA.out.2.2.2.2.2.2.1 a k1 hkA hk1n.2)
          rw [← hLs] at hls
          have hfc := fcnt_le Ls6 (fun L hL => Nat.le_trans (hls L hL) (by omega))
          have HL6 := Lib.hid (And.intro hll (And.intro hls (And.intro (show fcnt Ls6 ≤ 3200 by omega) (And.intro HKM.out hLs))))
          obtain ⟨A6, c6, e6⟩ := dcs_form D6.out
          subst e6
          clear hqs hch b6 hLs hll hls hfc
          go_wp2_with fail
          refine (take_all gr mr N (T : Int) nx F Ls6 _ ps6 w6 W6.out.rcv HR.out.2.2.1 hTi D6.out hps6.out (by have := HL6.out.1; omega) (fun L hL => Nat.le_trans (HL6.out.2.1 L hL) (by omega)) (by have := HL6.out.2.2.1; have := HR.out.2.2.2.1; omega)).mono ?_
          rintro e w7 ⟨dv7, rfl, N', h1, h2, hG7, h4, h5⟩
          obtain ⟨r7, hr7⟩ : ∃ r, r = tkLs (T : Int) (nx, F, []) Ls6 := ⟨_, rfl⟩
          rw [← hr7] at h1 h2 hG7 h4
          have W7 := Lib.hid (W6.out.took h5 h1)
          have H7 := Lib.hid (And.intro hr7 (And.intro h2 (And.intro hG7 h4)))
          obtain ⟨A7, c7, e7⟩ := dls_form h2
          subst e7
          have hs7 := W7.out.siz
          clear h1 h2 hG7 h4 h5 hr7
          go_wp2_with (at_builtin
                       refine wpList_append_dls rfl (.tmp 66) (.tmp 69) rfl w.heap.size w6.heap.size _ _ _ _ rfl W7.out.dls rfl H7.out.2.1 (by have := HL6.out.2.2.1; have := HR.out.2.2.2.1; have := H7.out.2.2.2; omega) hs7 ?_
                       intro v8 w8 hD8 hO8
                       have W8 := Lib.hid (W7.out.app hO8 hD8)
                       clear hD8 hO8)
          refine (next_any gr mr N' 0 (T : Int) r7.1 r7.2.1 w8 W8.out.rcv hTi.1).mono ?_
          rintro e w9 ⟨rfl, rfl⟩
          have hk1 : (BB.take k1).length = k1 := by rw [List.length_take, HA.out.2.2.2.2.2.1]; omega
          by_cases hack : (a : Int) ≤ r7.1 ∧ r7.1 ≤ (k1 : Int)
          · obtain ⟨p, hp⟩ : ∃ p : Nat, r7.1 = (p : Int) := ⟨r7.1.toNat, by omega⟩
            rw [hp]
            go_wp2_with fail
            refine (ack_yes gs ms 0 a p (T : Int) (BB.take k1) w8 W8.out.snd hTi.1 (by omega) (by omega) (by omega)).mono ?_
            rintro e w10 ⟨rfl, hS10, hO10⟩
            have W10 := Lib.hid (W8.out.sent hO10 hS10)
            clear hS10 hO10
            go_wp2
            refine ⟨trP_next (a2 := p) (N' := N') HR.out.1 HL6.out.2.2.2.1 HL6.out.2.2.2.2 (by omega) ?_ ?_ ?_ ?_ (by omega) HR.out.2.2.2.2.2.2 (by rw [HA.out.2.2.2.2.2.1]; exact hnx) (by rw [HK1.out]; go_num) (by go_num), by simp [intOf1]; omega⟩
            · rw [← H7.out.1, if_pos hack, hp]; omega
            · rw [← H7.out.1]; exact W10.out
            · rw [← H7.out.1]; exact H7.out.2.2.1
            · rw [← H7.out.1]; have := HL6.out.2.2.1; have := HR.out.2.2.2.1; have := H7.out.2.2.2; omega
          · go_wp2_with fail
            refine (ack_no gs ms 0 a r7.1 (T : Int) (BB.take k1) w8 W8.out.snd hTi.1 (by omega)).mono ?_
            rintro e w10 ⟨rfl, rfl⟩
            go_wp2
            refine ⟨trP_next (a2 := a) (N' := N') HR.out.1 HL6.out.2.2.2.1 HL6.out.2.2.2.2 (by omega) ?_ ?_ ?_ ?_ (by omega) HR.out.2.2.2.2.2.2 (by rw [HA.out.2.2.2.2.2.1]; exact hnx) (by rw [HK1.out]; go_num) (by go_num), by simp [intOf1]; omega⟩
            · rw [← H7.out.1, if_neg hack]
            · rw [← H7.out.1]; exact W8.out
            · rw [← H7.out.1]; exact H7.out.2.2.1
            · rw [← H7.out.1]; have := HL6.out.2.2.1; have := HR.out.2.2.2.1; have := H7.out.2.2.2; omega
        · have i6 : ¬ (j : Int) < (m : Int) := by omega
          have hRj : RR[j]? = none := List.getElem?_eq_none (by rw [HA.out.2.2.1.1]; omega)
          obtain ⟨w6, hw6⟩ : ∃ x, x = w5 := ⟨_, rfl⟩
          subst hw6
          obtain ⟨ps6, hp6⟩ : ∃ x, x = ps := ⟨_, rfl⟩
          subst hp6
          have W6 := W5
          obtain ⟨Ls6, hLs⟩ : ∃ L, L = carried (RR[j]?) (pkts BB a k1) := ⟨_, rfl⟩
          have hps6 := Lib.hid (show ps6.map Prod.snd = Ls6 by rw [HD5.out.2, hLs, hRj]; rfl)
          have D6 := Lib.hid (dcs_base0 HD5.out.1)
          have hll : Ls6.length ≤ 32 := by
            have h := congrArg List.length hps6.out
            rw [List.length_map, HPL.out] at h
            omega
          have hls := carried_size (R := RR[j]?) (pkts_size HA.out.2.2.2.2.2.2.1 a k1 hkA hk1n.2)
          rw [← hLs] at hls
          have hfc := fcnt_le Ls6 (fun L hL => Nat.le_trans (hls L hL) (by omega))
          have HL6 := Lib.hid (And.intro hll (And.intro hls (And.intro (show fcnt Ls6 ≤ 3200 by omega) (And.intro HKM.out hLs))))
          clear hLs hll hls hfc hRj
          go_wp2_with fail
          refine (take_all gr mr N (T : Int) nx F Ls6 _ ps6 w6 W6.out.rcv HR.out.2.2.1 hTi D6.out hps6.out (by have := HL6.out.1; omega) (fun L hL => Nat.le_trans (HL6.out.2.1 L hL) (by omega)) (by have := HL6.out.2.2.1; have := HR.out.2.2.2.1; omega)).mono ?_
          rintro e w7 ⟨dv7, rfl, N', h1, h2, hG7, h4, h5⟩
          obtain ⟨r7, hr7⟩ : ∃ r, r = tkLs (T : Int) (nx, F, []) Ls6 := ⟨_, rfl⟩
          rw [← hr7] at h1 h2 hG7 h4
          have W7 := Lib.hid (W6.out.took h5 h1)
          have H7 := Lib.hid (And.intro hr7 (And.intro h2 (And.intro hG7 h4)))
          obtain ⟨A7, c7, e7⟩ := dls_form h2
          subst e7
          have hs7 := W7.out.siz
          clear h1 h2 hG7 h4 h5 hr7
          go_wp2_with (at_builtin
                       refine wpList_append_dls rfl (.tmp 66) (.tmp 69) rfl w.heap.size w6.heap.size _ _ _ _ rfl W7.out.dls rfl H7.out.2.1 (by have := HL6.out.2.2.1; have := HR.out.2.2.2.1; have := H7.out.2.2.2; omega) hs7 ?_
                       intro v8 w8 hD8 hO8
                       have W8 := Lib.hid (W7.out.app hO8 hD8)
                       clear hD8 hO8)
          refine (next_any gr mr N' 0 (T : Int) r7.1 r7.2.1 w8 W8.out.rcv hTi.1).mono ?_
          rintro e w9 ⟨rfl, rfl⟩
          have hk1 : (BB.take k1).length = k1 := by rw [List.length_take, HA.out.2.2.2.2.2.1]; omega
          by_cases hack : (a : Int) ≤ r7.1 ∧ r7.1 ≤ (k1 : Int)
          · obtain ⟨p, hp⟩ : ∃ p : Nat, r7.1 = (p : Int) := ⟨r7.1.toNat, by omega⟩
            rw [hp]
            go_wp2_with fail
            refine (ack_yes gs ms 0 a p (T : Int) (BB.take k1) w8 W8.out.snd hTi.1 (by omega) (by omega) (by omega)).mono ?_
            rintro e w10 ⟨rfl, hS10, hO10⟩
            have W10 := Lib.hid (W8.out.sent hO10 hS10)
            clear hS10 hO10
            go_wp2
            refine ⟨trP_next (a2 := p) (N' := N') HR.out.1 HL6.out.2.2.2.1 HL6.out.2.2.2.2 (by omega) ?_ ?_ ?_ ?_ (by omega) HR.out.2.2.2.2.2.2 (by rw [HA.out.2.2.2.2.2.1]; exact hnx) (by rw [HK1.out]; go_num) (by go_num), by simp [intOf1]; omega⟩
            · rw [← H7.out.1, if_pos hack, hp]; omega
            · rw [← H7.out.1]; exact W10.out
            · rw [← H7.out.1]; exact H7.out.2.2.1
            · rw [← H7.out.1]; have := HL6.out.2.2.1; have := HR.out.2.2.2.1; have := H7.out.2.2.2; omega
          · go_wp2_with fail
            refine (ack_no gs ms 0 a r7.1 (T : Int) (BB.take k1) w8 W8.out.snd hTi.1 (by omega)).mono ?_
            rintro e w10 ⟨rfl, rfl⟩
            go_wp2
            refine ⟨trP_next (a2 := a) (N' := N') HR.out.1 HL6.out.2.2.2.1 HL6.out.2.2.2.2 (by omega) ?_ ?_ ?_ ?_ (by omega) HR.out.2.2.2.2.2.2 (by rw [HA.out.2.2.2.2.2.1]; exact hnx) (by rw [HK1.out]; go_num) (by go_num), by simp [intOf1]; omega⟩
            · rw [← H7.out.1, if_neg hack]
            · rw [← H7.out.1]; exact W8.out
            · rw [← H7.out.1]; exact H7.out.2.2.1
            · rw [← H7.out.1]; have := HL6.out.2.2.1; have := HR.out.2.2.2.1; have := H7.out.2.2.2; omega
      · go_wp2_with fail
        refine HNx.out.mono ?_
        rintro e w3 ⟨rfl, rfl⟩
        go_wp2
        go_ret3
        refine ⟨_, _, rfl, ⟨by omega, HR.out.2.2.2.2.2.2, ?_⟩, ?_, HR.out.2.1.bel, ?_⟩
        · rw [HR.out.1, HA.out.2.2.2.2.2.1]; first | exact .inl rfl | exact .inr (by show ¬ nx < _; omega)
        · rw [HR.out.1]; exact HR.out.2.1.dls
        · rw [HR.out.1]; show D.length ≤ _; have := HR.out.2.2.2.1; omega
    · obtain rfl : j = 64 := by omega
      go_wp2
      go_ret3
      refine ⟨_, _, rfl, ⟨by omega, HR.out.2.2.2.2.2.2, ?_⟩, ?_, HR.out.2.1.bel, ?_⟩
      · rw [HR.out.1, HA.out.2.2.2.2.2.1]; first | exact .inl rfl | exact .inr (by show ¬ nx < _; omega)
      · rw [HR.out.1]; exact HR.out.2.1.dls
      · rw [HR.out.1]; show D.length ≤ _; have := HR.out.2.2.2.1; omega
end Go.Proofs.Ytkakbeiehggkiaa

namespace Go.Proofs.Ytkakbeiehggkiaa
open Go.RowKit

theorem bebI_get (N k i j : Nat) (h : j < i) : nth (bebI N k i) j = N / 2 ^ (8 * (k - 1 - j)) % 256 := by
  rw [nth_lt (by rw [bebI_len]; exact h)]
  simp [bebI]
/-- What stands when the last k - j bytes are laid. -/
def bigL (N k j : Nat) : List Nat := List.replicate j 0 ++ (beb N k).drop j
theorem bigL_len (N k j : Nat) (h : j ≤ k) : (bigL N k j).length = k := by
  unfold bigL; rw [List.length_append, List.length_replicate, List.length_drop, beb_len]; omega
theorem bigL_step (N k j : Nat) (h : j < k) : (bigL N k (j + 1)).set j (N / 2 ^ (8 * (k - 1 - j)) % 256) = bigL N k j := by
  unfold bigL
  have e : (beb N k).drop j = nth (beb N k) j :: (beb N k).drop (j + 1) := by
    rw [nth_lt (by rw [beb_len]; exact h), ← List.drop_eq_getElem_cons]
  rw [e, List.set_append_left _ _ (by simp)]
  have e2 : nth (beb N k) j = N / 2 ^ (8 * (k - 1 - j)) % 256 := bebI_get N k k j h
  rw [e2, List.replicate_succ', List.set_append_right _ _ (by simp)]
  simp

def BigRel (w : World) (N k : Nat) (nv iv : Value) (wr : World) : Prop :=
  ∃ j : Nat, j ≤ k ∧ iv = .int .i64 ((j : Int) - 1) ∧ nv = .int .u64 ((N / 2 ^ (8 * (k - j)) : Nat) : Int) ∧ Row .u8 wr w.heap.size 5 (bigL N k j) ∧ Below w.heap.size w wr

set_option maxRecDepth 100000 in
set_option maxHeartbeats 400000 in
theorem bigw_any (N k : Nat) (hk : k ≤ 4) (hN : N < 4294967296) (w : World) :
    Calls Try.prog 84 #[.int .u64 (N : Int), .int .i64 (k : Int)] w (RetOwn w (beb N k)) := by
  obtain ⟨i0, hi0, hz0, hz1, hz2⟩ := info_parts infoB
  go_enter Try.func84, Try.ntmps84
  go_wp2_with (at_make
               refine wpList_make_room _ rfl (.tmp 7) (.tmp 7) _ rfl 5 i0 Try.underlying33 hi0 hz0 hz1 .i64 .i64 _ _ k k rfl rfl (by rfl) (by rfl) (Nat.le_refl _) (by rw [hz2]; omega) (by omega) ?_)
  intro w1 hrow hb1 hs1
  have HR := Lib.hid (And.intro hrow hb1)
  clear hrow hb1 hs1
  go_wp2
  go_loopw [0, 6] (fun nv iv wr => BigRel w N k nv iv wr) (fun _ iv _ => (intOf1 iv + 1).toNat)
  case atStart =>
    refine ⟨k, Nat.le_refl _, rfl, by simp, ?_, HR.out.2⟩
    have e : bigL N k k = List.replicate k 0 := by unfold bigL; rw [List.drop_of_length_le (by rw [beb_len]; exact Nat.le_refl _), List.append_nil]
    rw [e]; exact HR.out.1
  case round =>
    obtain ⟨j, hj, rfl, rfl, hrow, hbw⟩ := hrel
    by_cases hj0 : j = 0
    · subst hj0
      have hneg : ¬ (0 : Int) ≤ ((0 : Nat) : Int) - 1 := by omega
      go_wp2
      go_ret
      have e : bigL N k 0 = beb N k := by unfold bigL; simp
      rw [e] at hrow
      refine ⟨_, rfl, ?_, hbw⟩
      have := owns_of_row (L := beb N k) (post := []) (n := k) (c := k) (base := w.heap.size) (by simpa using hrow) (Nat.le_refl _) (by rw [beb_len]) (by rw [beb_len]; rfl) (by unfold maxLen; omega)
      rw [beb_len]; exact this
    · obtain ⟨t, rfl⟩ : ∃ t, j = t + 1 := ⟨j - 1, by omega⟩
      have et : ((t + 1 : Nat) : Int) - 1 = (t : Int) := by omega
      rw [et]
      obtain ⟨q, hq⟩ : ∃ q, q = N / 2 ^ (8 * (k - (t + 1))) := ⟨_, rfl⟩
      have hqN : q < 4294967296 := by rw [hq]; exact Nat.lt_of_le_of_lt (Nat.div_le_self _ _) hN
      rw [← hq]
      have hfz : wr.frozen? ⟨w.heap.size, t, none⟩ = false := hrow.frozen t
      have hcl : wr.cell? ⟨w.heap.size, t, none⟩ = some (.int .u8 (nth (bigL N k (t + 1)) t : Nat)) := hrow.cell (by rw [bigL_len _ _ _ hj]; omega)
      have htk : t < k := by omega
      have e2 : IntKind.u8.wrap ((q : Int) % 256) = ((q % 256 : Nat) : Int) := by rw [IntKind.wrap_u8]; omega
      have HQ := Lib.hid hq
      have HRR := Lib.hid (And.intro hrow hbw)
      clear hq hrow hbw et hj0
      go_wp2
      go_roundw
      case rel =>
        refine ⟨t, by omega, rfl, ?_, ?_, HRR.out.2.setCell (Nat.le_refl _) _⟩
        · have e : k - t = (k - (t + 1)) + 1 := by omega
          have e3 : N / 2 ^ (8 * (k - t)) = q / 256 := by rw [e, Nat.mul_add, Nat.pow_add, ← Nat.div_div_eq_div_mul, ← HQ.out]
          rw [e3]
          go_num
        · have := HRR.out.1.set t (q % 256)
          have e : (bigL N k (t + 1)).set t (q % 256) = bigL N k t := by
            have := bigL_step N k t htk
            rw [show k - 1 - t = k - (t + 1) from by omega, ← HQ.out] at this
            exact this
          rw [e] at this
          have e4 : ((q % 256 : Nat) : Int) = (q : Int) % 256 := by omega
          first
            | exact this
            | (rw [e4] at this; exact this)
      case measure => simp [intOf1] <;> omega
end Go.Proofs.Ytkakbeiehggkiaa
