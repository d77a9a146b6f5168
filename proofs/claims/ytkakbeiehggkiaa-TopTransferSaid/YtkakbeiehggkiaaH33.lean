/-
  validFrame; Pack of a valid frame, the program's.
  The program's offer, pack and validBodies.
  The program's pack and validBodies.
  What a transfer does, as functions: its rounds.
-/
import Derived.Test.YtkakbeiehggkiaaH20
import Derived.Test.YtkakbeiehggkiaaH06
import Derived.Test.YtkakbeiehggkiaaH32
namespace Go.Proofs.Ytkakbeiehggkiaa
open Go.RowKit

def packHead (st sq : Nat) (X : List Nat) : List Nat := [165, st] ++ beb sq 4 ++ beb X.length 2 ++ X
def packL (st sq : Nat) (X : List Nat) : List Nat := packHead st sq X ++ beb (crc (packHead st sq X)) 4

theorem rb_two (wr : World) (e : TypeId) (x y : Nat) : RB (wr.alloc (.cells #[.int .u8 (x : Int), .int .u8 (y : Int)] e)) (wr.heap.size + 1) (.slice (some ⟨wr.heap.size, 0, none⟩) 2 2) [x, y] := by
  refine ⟨RW.mk rfl (Nat.le_refl _) (by simp [maxLen]) (fun _ => ⟨wr.heap.size, 0, rfl, by omega, fun j hj => ?_⟩), nz_some⟩
  rw [Nat.zero_add]
  match j, hj with
  | 0, _ => exact built_cells wr _ e 0 _ rfl
  | 1, _ => exact built_cells wr _ e 1 _ rfl

theorem AllB.append {X Y : List Nat} (h1 : AllB X) (h2 : AllB Y) : AllB (X ++ Y) := fun x hx => (List.mem_append.1 hx).elim (h1 x) (h2 x)

set_option maxRecDepth 100000 in
set_option maxHeartbeats 1000000 in
theorem pack_ok (st sq : Nat) (X : List Nat) (hXb : AllB X) (A : Option Addr) (n c B : Nat) (hok : okF st sq n) (w : World) (hx : RB w B (.slice A n c) X) (hB : B ≤ w.heap.size) :
    Calls Try.prog 82 #[.agg #[.int .i64 (st : Int), .int .i64 (sq : Int), .slice A n c]] w (RetNum w (packL st sq X)) := by
  obtain ⟨i0, hi0, hz0, hz1, hz2⟩ := info_parts infoB
  obtain ⟨W0, HW0, hw0, HG, z0⟩ := F0ex w st sq (.slice A n c)
  have HOK := Lib.hid hok
  have HX := Lib.hid (hx.belowM (B' := w.heap.size) hw0 hB)
  have HXL := Lib.hid hx.1.len
  have hn : n ≤ 1024 := hok.2.2.2.2
  have hst : st < 256 := by have := hok.2.1; omega
  have hsq : sq < 4294967296 := by have := hok.2.2.2.1; omega
  have hWst : IntKind.u8.wrap (st : Int) = (st : Int) := by rw [IntKind.wrap_u8]; omega
  have HXB := Lib.hid hXb
  have hBW : B ≤ W0.heap.size := Nat.le_trans hB (Nat.le_of_lt z0)
  clear hx hok hXb
  obtain ⟨k0, k1, k2, kf⟩ := fr_blk HG.out (Below.refl _ _)
  go_enter Try.func82, Try.ntmps82
  go_wp2_with fail
  rw [← HW0.out]
  refine (validFrame_yes st sq A n c HOK.out _).mono ?_
  rintro e w1 ⟨rfl, b1⟩
  clear k0 k1 k2 kf
  obtain ⟨k0, k1, k2, kf⟩ := fr_blk HG.out b1
  have B1 := Lib.hid b1
  have hs1 := b1.size
  clear b1
  go_wp2_with (at_make
               refine wpList_make_room _ rfl (.const (.int .i64 0)) (.tmp 12) _ rfl 5 i0 Try.underlying33 hi0 hz0 hz1 .i64 .i64 0 _ 0 (8 + n + 4) rfl rfl rfl (by omega) (by omega) (by rw [hz2]; omega) (by omega) ?_)
  intro w2 hrow b2 hs2
  have o2 := owns_of_row (L := []) (n := 0) (c := 8 + n + 4) (base := W0.heap.size) (by simpa using hrow) hs1 rfl (by simp) (by unfold maxLen; omega)
  have f2 : Below W0.heap.size W0 w2 := belW B1.out b2
  clear k0 k1 k2 kf
  obtain ⟨k0, k1, k2, kf⟩ := fr_blk HG.out f2
  have hs2' := f2.size
  have O2 := Lib.hid (And.intro o2 f2)
  clear hrow b2 o2 f2 hs2
  have OC : RB (w2.alloc (.cells #[.int .u8 165, .int .u8 (st : Int)] 5)) (w2.heap.size + 1) (.slice (some ⟨w2.heap.size, 0, none⟩) 2 2) [165, st] := by
    have h := rb_two w2 5 165 st
    have e : ((165 : Nat) : Int) = 165 := rfl
    rw [e] at h
    exact h
  go_wp2_with (at_builtin
               refine wpList_append_bytes rfl (.tmp 14) (.tmp 18) rfl W0.heap.size (w2.heap.size + 1) _ _ [] rfl (O2.out.1.alloc _) _ [165, st] rfl OC (by simp) (by simp; omega) ?_)
  intro v3 w3 o3 g3
  have f3 : Below W0.heap.size W0 w3 := grown_belowB (O2.out.2.alloc (by omega) _) (Nat.le_refl _) g3 (ownBlock_ge O2.out.1)
  clear k0 k1 k2 kf OC
  obtain ⟨k0, k1, k2, kf⟩ := fr_blk HG.out f3
  have O3 := Lib.hid (And.intro o3 f3)
  clear o3 g3 f3
  go_wp2_with fail
  refine (appendFixed_any sq 4 W0.heap.size (by omega) hsq [165, st] (by simp) v3 w3 (by simpa using O3.out.1) O3.out.2.size).mono ?_
  rintro e w4 ⟨v4, rfl, o4, b4, hs4⟩
  have f4 : Below W0.heap.size W0 w4 := O3.out.2.trans b4
  clear k0 k1 k2 kf
  obtain ⟨k0, k1, k2, kf⟩ := fr_blk HG.out f4
  have O4 := Lib.hid (And.intro o4 f4)
  clear o4 b4 hs4 f4
  go_wp2_with fail
  refine (appendFixed_any n 2 W0.heap.size (by omega) (by omega) ([165, st] ++ beb sq 4) (by simp [beb_len]) v4 w4 O4.out.1 O4.out.2.size).mono ?_
  rintro e w5 ⟨v5, rfl, o5, b5, hs5⟩
  have f5 : Below W0.heap.size W0 w5 := O4.out.2.trans b5
  clear k0 k1 k2 kf
  obtain ⟨k0, k1, k2, kf⟩ := fr_blk HG.out f5
  have X5 := HX.out.belowM f5 hBW
  have hs5' := f5.size
  have O5 := Lib.hid (And.intro o5 (And.intro f5 X5))
  clear o5 b5 hs5 f5 X5
  go_wp2_with (at_builtin
               refine wpList_append_bytes rfl (.tmp 29) (.tmp 31) rfl W0.heap.size B _ _ ([165, st] ++ beb sq 4 ++ beb n 2) rfl O5.out.1 _ X rfl O5.out.2.2 (by rw [← HXL.out]; simp [beb_len]; omega) hs5' ?_)
  intro v6 w6 o6 g6
  have f6 : Below W0.heap.size W0 w6 := grown_belowB O5.out.2.1 (Nat.le_refl _) g6 (ownBlock_ge O5.out.1)
  have ehead : 165 :: st :: (beb sq 4 ++ (beb n 2 ++ X)) = packHead st sq X := by unfold packHead; rw [← HXL.out]; simp
  rw [ehead] at o6
  have hlen : (beb sq 4).length + (beb n 2).length + 1 + 1 + X.length = (packHead st sq X).length := by rw [← ehead]; simp; omega
  rw [hlen] at o6
  have hhl : (packHead st sq X).length = 8 + n := by rw [← hlen, ← HXL.out]; simp [beb_len] <;> omega
  obtain ⟨_, r6⟩ := rb_of_owns o6
  obtain ⟨A6, c6, rfl⟩ := r6.form
  have hHB : AllB (packHead st sq X) := by
    unfold packHead
    exact (((show AllB [165, st] from by intro x hx; simp at hx; omega).append (allB_beb _ _)).append (allB_beb _ _)).append HXB.out
  have C6 := Lib.hid (checksum_any (packHead st sq X) hHB _ _ _ _ w6 r6.1)
  have O6 := Lib.hid (And.intro o6 (And.intro f6 hhl))
  obtain ⟨s, hs⟩ : ∃ s, s = crc (packHead st sq X) := ⟨_, rfl⟩
  have hs32 : s < 4294967296 := by rw [hs]; exact crc_lt _
  have hWs : IntKind.i64.wrap (s : Int) = (s : Int) := by rw [IntKind.wrap_i64]; omega
  have C6' : Hid (Calls Try.prog 90 #[.slice A6 (packHead st sq X).length c6] w6 fun e w' => e = .returned (.int .u32 (s : Int)) ∧ w6 = w') := by rw [hs]; exact C6.out
  have HS := Lib.hid hs
  clear o6 g6 f6 r6 hHB C6 hs ehead hlen hhl
  go_wp2_with fail
  refine C6'.out.mono ?_
  rintro e w7 ⟨rfl, rfl⟩
  go_wp2_with fail
  refine (appendFixed_any s 4 W0.heap.size (by omega) hs32 (packHead st sq X) (by rw [O6.out.2.2]; omega) _ w6 O6.out.1 O6.out.2.1.size).mono ?_
  rintro e w8 ⟨v8, rfl, o8, b8, hs8⟩
  go_wp2
  go_ret2
  refine ⟨_, rfl, ?_, hw0.trans ((O6.out.2.1.trans b8).mono hw0.size)⟩
  have e : packL st sq X = packHead st sq X ++ beb s 4 := by unfold packL; rw [HS.out]
  rw [e]
  exact owns_base o8 (Nat.le_of_lt z0)
end Go.Proofs.Ytkakbeiehggkiaa

namespace Go.Proofs.Ytkakbeiehggkiaa
open Go.RowKit Go.Maps
attribute [local go_sem ↓] Go.wp_at_zero Go.wp_at_succ

def OfR (w : World) (g mb a n : Nat) (win : Int) (Bs : List (List Nat)) (X : Nat → List Nat) (iv : Value) (wr : World) : Prop :=
  ∃ k : Nat, k ≤ n ∧ iv = .int .i64 (k : Int) ∧ Hid (Snd wr g mb ((0 : Nat) : Int) win a (Bs ++ (List.range k).map X) ∧ Only (fun k => k = g ∨ k = mb) w wr ∧ (k = 0 ∨ (Bs.length : Int) + k ≤ a + win))
def RetOfr (w : World) (g mb a n : Nat) (win : Int) (Bs : List (List Nat)) (X : Nat → List Nat) (e : Ending) (w' : World) : Prop :=
  ∃ j : Nat, j ≤ n ∧ e = .returned (.int .i64 (j : Int)) ∧ Snd w' g mb ((0 : Nat) : Int) win a (Bs ++ (List.range j).map X) ∧ Only (fun k => k = g ∨ k = mb) w w' ∧ (j = 0 ∨ (Bs.length : Int) + j ≤ a + win) ∧ (j = n ∨ (a : Int) + win ≤ Bs.length + j)

theorem range_succ_map (X : Nat → List Nat) (Bs : List (List Nat)) (k : Nat) : (Bs ++ (List.range k).map X) ++ [X k] = Bs ++ (List.range (k + 1)).map X := by
  rw [List.range_succ, List.map_append, List.append_assoc]
  rfl

set_option maxRecDepth 100000 in
set_option maxHeartbeats 4000000 in
theorem offer_all (g mb a n c : Nat) (win : Int) (Bs : List (List Nat)) (A : Option Addr) (X : Nat → List Nat) (V : Nat → Value) (w0 w : World) (h : Snd w g mb ((0 : Nat) : Int) win a Bs) (hw : 1 ≤ win) (hF : ByF w0 A n X V) (hb : Below w0.heap.size w0 w) (hg : w0.heap.size ≤ g) (hm : w0.heap.size ≤ mb)
    (hX : ∀ i, i < n → (X i).length ≤ 1024) (hn : n + Bs.length ≤ 900) :
    Calls Try.prog 70 #[.pointer (some ⟨g, 0, none⟩), .slice A n c] w (RetOfr w g mb a n win Bs X) := by
  have H0 := Lib.hid (show OfR w g mb a n win Bs X (.int .i64 0) w from ⟨0, Nat.zero_le _, rfl, Lib.hid ⟨by simpa using h, Only.refl _ _, .inl rfl⟩⟩)
  have HF := Lib.hid (And.intro hF (And.intro hb hX))
  obtain ⟨bl, hbl⟩ : ∃ b, b = Bs.length := ⟨_, rfl⟩
  rw [← hbl] at hn
  have HB := Lib.hid hbl
  clear h hF hb hX hbl
  go_enter Try.func70, Try.ntmps70
  go_wp2
  go_loopw [11] (fun iv wr => OfR w g mb a n win Bs X iv wr) (fun iv _ => n - (intOf1 iv).toNat)
  case atStart => exact H0.out
  case round =>
    obtain ⟨k, hk, rfl, HR⟩ := hrel
    by_cases hkn : k < n
    · obtain ⟨hS, hO, hkk⟩ := HR.out
      have hbw : Below w0.heap.size w0 wr := HF.out.2.1.trans (hO.below HF.out.2.1.size (fun k e => by omega))
      obtain ⟨b, o, A', c', rfl, hbl2, hcell, hv, hXB, hr⟩ := HF.out.1 k hkn
      have hXl := HF.out.2.2 k hkn
      have hcell' := (hbw.cell (p := ⟨b, o + k, none⟩) hbl2).trans hcell
      rw [hv] at hcell' hr
      obtain ⟨L, hL⟩ : ∃ L, L = (X k).length := ⟨_, rfl⟩
      rw [← hL] at hcell' hr hXl
      have hlen : (Bs ++ (List.range k).map X).length = bl + k := by simp [HB.out]
      have hbs := hbw.size
      have i2 : (k : Int) < (n : Int) := by omega
      obtain ⟨Cs, hCs⟩ : ∃ Cs, Cs = Bs ++ (List.range k).map X := ⟨_, rfl⟩
      rw [← hCs] at hS hlen
      by_cases hfull : (a : Int) + win ≤ (bl : Int) + k
      · have HOf := Lib.hid (offer_full g mb 0 a win Cs A' L c' wr hS hw hXl (by omega) (by rw [hlen]; push_cast; omega))
        have HK := Lib.hid (And.intro hS (And.intro hO (And.intro hkk hCs)))
        clear hcell hv hr hS hO hkk hbw hL hCs hlen
        go_wp2_with fail
        refine HOf.out.mono ?_
        rintro e w3 ⟨rfl, b3⟩
        go_wp2
        go_ret
        have hb4 : Below wr.heap.size wr (w3.alloc (.cells #[.int .i64 0, .int .i64 0, .slice none 0 0] 35)) := b3.alloc b3.size _
        refine ⟨k, by omega, rfl, ?_, HK.out.2.1.trans (only_below hb4), HK.out.2.2.1, .inr (by rw [← HB.out]; omega)⟩
        rw [← HK.out.2.2.2]
        exact snd_below HK.out.1 hb4
      · have HOf := Lib.hid (offer_ok g mb 0 a win Cs (X k) A' L c' w0.heap.size wr hS hw (hr.belowM hbw (Nat.le_refl _)) hbs hXl (by omega) (by rw [hlen]; push_cast; omega))
        have HK := Lib.hid (And.intro hO (And.intro hkk hCs))
        clear hcell hv hr hS hO hkk hbw hL hCs hlen
        go_wp2_with fail
        refine HOf.out.mono ?_
        rintro e w3 ⟨v3, rfl, hB3, hS3, hO3⟩
        have H3 := Lib.hid (And.intro hS3 hO3)
        obtain ⟨A3, c3, e3⟩ := (bd_rb hB3).form
        subst e3
        clear hB3 hS3 hO3
        go_wp2
        refine ⟨⟨k + 1, by omega, by go_num, Lib.hid ⟨?_, ?_, ?_⟩⟩, by simp [intOf1]; omega⟩
        · rw [← range_succ_map, ← HK.out.2.2]
          exact snd_below H3.out.1 ((Below.refl _ _).alloc (Nat.le_refl _) _)
        · exact (HK.out.1.trans H3.out.2).trans (only_below ((Below.refl _ _).alloc (Nat.le_refl _) _))
        · exact .inr (by rw [← HB.out]; push_cast; omega)
    · obtain rfl : k = n := by omega
      go_wp2
      go_ret
      exact ⟨k, Nat.le_refl _, rfl, HR.out.1, HR.out.2.1, HR.out.2.2, .inl rfl⟩
end Go.Proofs.Ytkakbeiehggkiaa

namespace Go.Proofs.Ytkakbeiehggkiaa
open Go.RowKit Go.Maps
attribute [local go_sem ↓] Go.wp_at_zero Go.wp_at_succ

def packFr (f : Fr) : List Nat := packL f.1 f.2.1 f.2.2
theorem packL_all (st sq : Nat) (X : List Nat) (h : st < 256) (hX : AllB X) : AllB (packL st sq X) := by
  unfold packL packHead
  refine AllB.append (AllB.append (AllB.append (AllB.append ?_ (allB_beb _ _)) (allB_beb _ _)) hX) (allB_beb _ _)
  intro x hx
  simp at hx
  rcases hx with rfl | rfl
  · omega
  · exact h
theorem packL_length (st sq : Nat) (X : List Nat) : (packL st sq X).length = X.length + 12 := by
  unfold packL packHead
  simp only [List.length_append, beb_len, List.length_cons, List.length_nil]
  omega
/-- A frame that can be packed. -/
def okFr2 (f : Fr) : Prop := okF (f.1 : Int) (f.2.1 : Int) f.2.2.length ∧ AllB f.2.2

def PkR (w : World) (Fs : List Fr) (lv iv : Value) (wr : World) : Prop :=
  ∃ k : Nat, k ≤ Fs.length ∧ iv = .int .i64 (k : Int) ∧ Hid (∃ ps, ps.map Prod.snd = (Fs.take k).map packFr ∧ Dcs wr w.heap.size w.heap.size lv ps ∧ Below w.heap.size w wr)

set_option maxRecDepth 100000 in
set_option maxHeartbeats 4000000 in
theorem pack_all (base : Nat) (Fs : List Fr) (v : Value) (w : World) (h : FrS w base v Fs) (hok : ∀ f ∈ Fs, okFr2 f) (hn : Fs.length ≤ 900) :
    Calls Try.prog 71 #[v] w (RetFd w w.heap.size (Fs.map packFr)) := by
  have H := Lib.hid (And.intro h hok)
  obtain ⟨A, c, e⟩ := frs_form h
  subst e
  obtain ⟨n, hnn⟩ : ∃ n, n = Fs.length := ⟨_, rfl⟩
  rw [← hnn] at hn ⊢
  have HN := Lib.hid hnn
  clear h hok hnn
  go_enter Try.func71, Try.ntmps71
  go_wp2
  go_loopw [3, 10] (fun lv iv wr => PkR w Fs lv iv wr) (fun _ iv _ => n - (intOf1 iv).toNat)
  case atStart => exact ⟨0, Nat.zero_le _, rfl, Lib.hid ⟨[], by simp, dcs_nil _ _ _, Below.refl _ _⟩⟩
  case round =>
    obtain ⟨k, hk, rfl, HP⟩ := hrel
    rw [← HN.out] at hk
    by_cases hkn : k < n
    · have hkF : k < Fs.length := by rw [← HN.out]; exact hkn
      obtain ⟨ps, hps, hd, hbw⟩ := HP.out
      have hpl : ps.length = k := by
        have := congrArg List.length hps
        rw [List.length_map, List.length_map, List.length_take] at this
        omega
      obtain ⟨gf, c2, A2, c2', e2, hgf, p0, p1, p2, hr⟩ := frs_at (frs_below H.out.1 hbw) k hkF
      injection e2 with e3 e4 e5
      subst e3
      clear e4 e5
      obtain ⟨f, hf⟩ : ∃ f, f = Fs[k]'hkF := ⟨_, rfl⟩
      have hfk : okFr2 f := H.out.2 f (by rw [hf]; exact List.getElem_mem _)
      rw [← hf] at p0 p1 p2 hr
      obtain ⟨st, sq, X⟩ := f
      simp only at p0 p1 p2 hr
      obtain ⟨hok, hXB⟩ := hfk
      simp only at hok hXB
      obtain ⟨W2, HW2, hw2, HG2, z2⟩ := F0ex wr (st : Int) (sq : Int) (.slice A2 X.length c2')
      obtain ⟨r0, r1, r2, rf⟩ := fr_blk HG2.out (Below.refl _ _)
      have HPk := Lib.hid (pack_ok st sq X hXB A2 X.length c2' wr.heap.size hok W2 (hr.belowM hw2 (Nat.le_refl _)) hw2.size)
      have hlX : X.length ≤ 1024 := hok.2.2.2.2
      have hst : st < 256 := by have := hok.2.1; omega
      obtain ⟨P, hP⟩ : ∃ P, P = packL st sq X := ⟨_, rfl⟩
      have hPl : P.length ≤ 1048576 := by rw [hP, packL_length]; omega
      have hPB : AllB P := by rw [hP]; exact packL_all st sq X hst hXB
      have hstep : ps.map Prod.snd ++ [P] = (Fs.take (k + 1)).map packFr := by
        rw [List.take_succ_eq_append_getElem hkF, List.map_append, hps, ← hf, hP]
        rfl
      rw [← hP] at HPk
      have HK := Lib.hid (And.intro hstep (And.intro (dcs_below hd hw2) (And.intro (hbw.trans (hw2.mono hbw.size)) (And.intro hPB (And.intro hPl hpl)))))
      have i2 : (k : Int) < (n : Int) := by omega
      obtain ⟨A0, c0, e0⟩ := dcs_form hd
      subst e0
      clear hps hd hbw hr hf hok hXB hP hPl hPB hstep hw2 HP hpl
      go_wp2_with fail
      rw [← HW2.out]
      go_wp2_with fail
      refine HPk.out.mono ?_
      rintro e w3 ⟨v3, rfl, o3, b3⟩
      obtain ⟨A3, c3, e3⟩ := (rb_of_owns o3).2.form
      subst e3
      have hEl : El w3 w.heap.size (.slice A3 P.length c3, P) := ⟨owns_base o3 HK.out.2.2.1.size, HK.out.2.2.2.1, HK.out.2.2.2.2.1⟩
      have HJ := Lib.hid (And.intro (dcs_below HK.out.2.1 b3) (And.intro (HK.out.2.2.1.trans (b3.mono HK.out.2.2.1.size)) hEl))
      have hs3 := HJ.out.2.1.size
      clear o3 b3 hEl
      go_wp2_with (at_builtin
                   refine wpList_append_dc rfl (.tmp 19) (.tmp 21) rfl w.heap.size w.heap.size _ _ rfl HJ.out.1 (.slice A3 P.length c3, P) HJ.out.2.2 rfl (by have := HK.out.2.2.2.2.2; omega) hs3 ?_
                   intro v6 w6 hd hO
                   have hb6 := dcs_only HJ.out.1 hO HJ.out.2.1 hs3
                   have H6 := Lib.hid (And.intro hd hb6)
                   clear hd hO hb6)
      exact ⟨⟨k + 1, by rw [← HN.out]; omega, by go_num, Lib.hid ⟨_, by rw [List.map_append]; exact HK.out.1, H6.out.1, H6.out.2⟩⟩, by simp [intOf1]; omega⟩
    · obtain rfl : k = n := by omega
      obtain ⟨ps, hps, hd, hbw⟩ := HP.out
      rw [HN.out, List.take_length] at hps
      have HQ := Lib.hid (And.intro hps (And.intro hd hbw))
      clear hps hd hbw HP
      go_wp2
      go_ret
      exact ⟨ps, _, HQ.out.1, rfl, HQ.out.2.1, HQ.out.2.2⟩

set_option maxRecDepth 100000 in
set_option maxHeartbeats 400000 in
theorem validBodies_yes (A : Option Addr) (n c : Nat) (X : Nat → List Nat) (V : Nat → Value) (w : World) (hF : ByF w A n X V) (hX : ∀ i, i < n → (X i).length ≤ 1024) (hn : n ≤ 256) :
    Calls Try.prog 69 #[.slice A n c] w fun e w' => e = .returned (.bool true) ∧ w = w' := by
  have HF := Lib.hid hF
  have HX := Lib.hid hX
  have i0 : (n : Int) ≤ 256 := by omega
  clear hF hX
  go_enter Try.func69, Try.ntmps69
  go_wp2
  go_loop [7] (fun iv => ∃ k : Nat, k ≤ n ∧ iv = .int .i64 (k : Int)) (fun iv => n - (intOf1 iv).toNat)
  case atStart => exact ⟨0, Nat.zero_le _, rfl⟩
  case round =>
    obtain ⟨k, hk, rfl⟩ := hrel
    by_cases hkn : k < n
    · obtain ⟨b, o, A', c', rfl, hb, hcell, hv, _, _⟩ := HF.out k hkn
      have h3 := HX.out k hkn
      obtain ⟨L, hL⟩ : ∃ L, L = (X k).length := ⟨_, rfl⟩
      rw [hv, ← hL] at hcell
      rw [← hL] at h3
      have i1 : (0 : Int) ≤ (k : Int) := by omega
      have i2 : (k : Int) < (n : Int) := by omega
      have i3 : ¬ (1024 : Int) < (L : Int) := by omega
      clear hv hL
      go_wp2
      go_round
      case rel => exact ⟨k + 1, by omega, by go_num⟩
      case measure => simp [intOf1]; omega
    · obtain rfl : k = n := by omega
      go_wp2
      go_ret
      exact ⟨rfl, rfl⟩

set_option maxRecDepth 100000 in
set_option maxHeartbeats 400000 in
theorem validBodies_no (A : Option Addr) (n c : Nat) (X : Nat → List Nat) (V : Nat → Value) (w : World) (hF : ByF w A n X V) (hX : ∃ i, i < n ∧ 1024 < (X i).length) (hn : n ≤ 256) :
    Calls Try.prog 69 #[.slice A n c] w fun e w' => e = .returned (.bool false) ∧ w = w' := by
  have HF := Lib.hid hF
  have HX := Lib.hid hX
  clear hF hX
  go_enter Try.func69, Try.ntmps69
  go_wp2
  go_loop [7] (fun iv => ∃ k : Nat, k ≤ n ∧ iv = .int .i64 (k : Int) ∧ ∃ i, k ≤ i ∧ i < n ∧ 1024 < (X i).length) (fun iv => n - (intOf1 iv).toNat)
  case atStart =>
    obtain ⟨i, h1, h2⟩ := HX.out
    exact ⟨0, Nat.zero_le _, rfl, i, Nat.zero_le _, h1, h2⟩
  case round =>
    obtain ⟨k, hk, rfl, i, hki, hin, hsz⟩ := hrel
    have hkn : k < n := by omega
    obtain ⟨b, o, A', c', rfl, hb, hcell, hv, _, hr⟩ := HF.out k hkn
    obtain ⟨L, hL⟩ : ∃ L, L = (X k).length := ⟨_, rfl⟩
    rw [hv, ← hL] at hcell
    have i1 : (0 : Int) ≤ (k : Int) := by omega
    have i2 : (k : Int) < (n : Int) := by omega
    have HL := Lib.hid (And.intro hL (And.intro hki hsz))
    clear hv hL hr hsz hki
    by_cases h3 : 1024 < L
    · have i3 : (1024 : Int) < (L : Int) := by omega
      go_wp2
      go_ret
      exact ⟨rfl, rfl⟩
    · have i3 : ¬ (1024 : Int) < (L : Int) := by omega
      go_wp2
      go_round
      case rel =>
        refine ⟨k + 1, by omega, by go_num, i, ?_, hin, HL.out.2.2⟩
        have h4 := HL.out.2.1
        have h5 : k ≠ i := fun e => by
          have := HL.out.2.2
          rw [← e, ← HL.out.1] at this
          exact h3 this
        omega
      case measure => simp [intOf1]; omega
end Go.Proofs.Ytkakbeiehggkiaa

namespace Go.Proofs.Ytkakbeiehggkiaa
open Go.RowKit

theorem dmg_all (k : Int) (i : Nat) (n : Int) (L : List (List Nat)) (hi : i < L.length) : ∀ Y ∈ dmg k i n L, ∃ X ∈ L, Y.length ≤ X.length := by
  have hX : L.getD i [] = L[i]'hi := by simp [List.getD, hi]
  have hin : L[i]'hi ∈ L := List.getElem_mem hi
  have self : ∀ Y ∈ L, ∃ X ∈ L, Y.length ≤ X.length := fun Y hY => ⟨Y, hY, Nat.le_refl _⟩
  have er : ∀ Y ∈ L.eraseIdx i, Y ∈ L := fun Y hY => List.mem_of_mem_eraseIdx hY
  intro Y
  unfold dmg
  simp only [hX]
  split
  · exact fun hY => self Y (er Y hY)
  split
  · intro hY
    rcases List.mem_append.1 hY with h | h
    · exact self Y (List.mem_of_mem_take h)
    · rcases List.mem_cons.1 h with rfl | h
      · exact self _ hin
      · exact self Y (List.mem_of_mem_drop h)
  split
  · intro hY
    rcases List.mem_append.1 hY with h | h
    · exact self Y (er Y (List.mem_of_mem_take h))
    · rcases List.mem_cons.1 h with rfl | h
      · exact self _ hin
      · exact self Y (er Y (List.mem_of_mem_drop h))
  split
  · split
    · exact self Y
    · intro hY
      rcases List.mem_or_eq_of_mem_set hY with h | rfl
      · exact self Y h
      · exact ⟨_, hin, by rw [List.length_set]; exact Nat.le_refl _⟩
  split
  · intro hY
    rcases List.mem_or_eq_of_mem_set hY with h | rfl
    · exact self Y h
    · exact ⟨_, hin, by rw [List.length_take]; omega⟩
  · exact self Y
theorem ap_all (f : Ft) (L : List (List Nat)) (B : Nat) (h : ∀ X ∈ L, X.length ≤ B) : ∀ Y ∈ ap f L, Y.length ≤ B := by
  intro Y hY
  unfold ap at hY
  split at hY
  · rename_i hin
    obtain ⟨X, hX, hl⟩ := dmg_all f.1 f.2.1.toNat f.2.2 L (by omega) Y hY
    exact Nat.le_trans hl (h X hX)
  · exact h Y hY
theorem aps_all : ∀ (Fs : List Ft) (L : List (List Nat)) (B : Nat), (∀ X ∈ L, X.length ≤ B) → ∀ Y ∈ aps Fs L, Y.length ≤ B
  | [], L, B, h => h
  | f :: Fs, L, B, h => aps_all Fs (ap f L) B (ap_all f L B h)

/-- What the frames of the pending records are packed to. -/
def pkts (BB : List (List Nat)) (a k : Nat) : List (List Nat) := (pF 0 a (BB.take k) (k - a)).map packFr
def carried (R : Option (List Ft)) (Ls : List (List Nat)) : List (List Nat) := match R with
  | some Fs => aps Fs Ls
  | none => Ls
open Classical in
/-- A round. -/
noncomputable def trStep (T : Nat) (BB : List (List Nat)) (R : Option (List Ft)) (s : Nat × Rp) : Nat × Rp :=
  (if (s.1 : Int) ≤ (tkLs (T : Int) s.2 (carried R (pkts BB s.1 (min BB.length (s.1 + T))))).1 ∧ (tkLs (T : Int) s.2 (carried R (pkts BB s.1 (min BB.length (s.1 + T))))).1 ≤ ((min BB.length (s.1 + T) : Nat) : Int) then (tkLs (T : Int) s.2 (carried R (pkts BB s.1 (min BB.length (s.1 + T))))).1.toNat else s.1,
    tkLs (T : Int) s.2 (carried R (pkts BB s.1 (min BB.length (s.1 + T)))))
noncomputable def trN (T : Nat) (BB : List (List Nat)) (RR : List (List Ft)) : Nat → Nat × Rp
  | 0 => (0, (0, fun _ => none, []))
  | j + 1 => trStep T BB (RR[j]?) (trN T BB RR j)
/-- How many rounds a transfer takes. -/
def IsN (T : Nat) (BB : List (List Nat)) (RR : List (List Ft)) (n : Nat) : Prop :=
  n ≤ 64 ∧ (∀ i, i < n → (trN T BB RR i).2.1 < (BB.length : Int)) ∧ (n = 64 ∨ ¬ (trN T BB RR n).2.1 < (BB.length : Int))
theorem isN_one {T : Nat} {BB : List (List Nat)} {RR : List (List Ft)} {n m : Nat} (h : IsN T BB RR n) (k : IsN T BB RR m) : n = m := by
  obtain ⟨h1, h2, h3⟩ := h
  obtain ⟨k1, k2, k3⟩ := k
  rcases Nat.lt_trichotomy n m with e | e | e
  · exact absurd (k2 n e) (h3.resolve_left (by omega))
  · exact e
  · exact absurd (h2 m e) (k3.resolve_left (by omega))
theorem pkts_len (BB : List (List Nat)) (a k : Nat) : (pkts BB a k).length = k - a := by unfold pkts; rw [List.length_map, pF_len]
theorem pF_mem {st a : Nat} {Bs : List (List Nat)} : ∀ (j : Nat) (f : Fr), f ∈ pF st a Bs j → f.1 = st ∧ f.2.1 < a + j ∧ (f.2.2 = [] ∨ f.2.2 ∈ Bs)
  | 0, f, h => by simp [pF] at h
  | j + 1, f, h => by
    rcases List.mem_append.1 h with h | h
    · obtain ⟨h1, h2, h3⟩ := pF_mem j f h
      exact ⟨h1, by omega, h3⟩
    · simp at h
      subst h
      refine ⟨rfl, by show a + j < _; omega, ?_⟩
      show Bs.getD (a + j) [] = [] ∨ Bs.getD (a + j) [] ∈ Bs
      by_cases hl : a + j < Bs.length
      · right
        have : Bs.getD (a + j) [] = Bs[a + j] := by simp [List.getD, hl]
        rw [this]
        exact List.getElem_mem hl
      · left
        simp [List.getD, List.getElem?_eq_none (by omega : Bs.length ≤ a + j)]
theorem pkts_ok {BB : List (List Nat)} (h : ∀ X ∈ BB, X.length ≤ 1024 ∧ AllB X) (a k : Nat) (hk : k ≤ 4294967295) (ha : a ≤ k) : ∀ f ∈ pF 0 a (BB.take k) (k - a), okFr2 f := by
  intro f hf
  obtain ⟨h1, h2, h3⟩ := pF_mem _ f hf
  have hb : f.2.2.length ≤ 1024 ∧ AllB f.2.2 := by
    rcases h3 with h3 | h3
    · rw [h3]; exact ⟨by simp, fun x hx => by simp at hx⟩
    · exact h _ (List.mem_of_mem_take h3)
  exact ⟨⟨by rw [h1]; simp, by rw [h1]; simp, by omega, by omega, hb.1⟩, hb.2⟩
theorem pkts_size {BB : List (List Nat)} (h : ∀ X ∈ BB, X.length ≤ 1024 ∧ AllB X) (a k : Nat) (hk : k ≤ 4294967295) (ha : a ≤ k) : ∀ L ∈ pkts BB a k, L.length ≤ 1100 := by
  intro L hL
  obtain ⟨f, hf, rfl⟩ := List.mem_map.1 hL
  have := (pkts_ok h a k hk ha f hf).1.2.2.2.2
  show (packL _ _ _).length ≤ _
  rw [packL_length]
  omega
theorem carried_size {R : Option (List Ft)} {Ls : List (List Nat)} {B : Nat} (h : ∀ L ∈ Ls, L.length ≤ B) : ∀ L ∈ carried R Ls, L.length ≤ B := by
  cases R with
  | none => exact h
  | some Fs => exact aps_all Fs Ls B h
theorem carried_len {R : Option (List Ft)} {Ls : List (List Nat)} (h : ∀ Fs, R = some Fs → Fs.length ≤ 8) : (carried R Ls).length ≤ Ls.length + 8 := by
  cases R with
  | none => show Ls.length ≤ _; omega
  | some Fs =>
    have h1 := aps_len Fs Ls
    have h2 := h Fs rfl
    show (aps Fs Ls).length ≤ _
    omega
end Go.Proofs.Ytkakbeiehggkiaa
