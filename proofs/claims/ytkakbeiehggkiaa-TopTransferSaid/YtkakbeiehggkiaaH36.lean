/-
  The document's sender.
  The document's sender: NewSender, Ack, Pending, Again.
  The document's sender: Ack, Again.
-/
import Derived.Test.YtkakbeiehggkiaaH30
import Derived.Test.YtkakbeiehggkiaaH18
import Derived.Test.YtkakbeiehggkiaaH29
namespace Go.Proofs.Ytkakbeiehggkiaa
open Go.RowKit Go.Maps
attribute [local go_sem ↓] Go.wp_at_zero Go.wp_at_succ

/-- A list of bodies of the call's own. -/
def BsL (w : World) (base : Nat) (v : Value) (Bs : List (List Nat)) : Prop :=
  ∃ vs : List Value, vs.length = Bs.length ∧ w.ownsRow base 33 1 v Bs.length vs ∧ ∀ i (h : i < Bs.length) (h' : i < vs.length), Bd w (vs[i]'h') Bs[i]
def Rsn (w : World) (g base : Nat) (st win : Int) (a : Nat) (Bs : List (List Nat)) : Prop :=
  ∃ bv, w.heap[g]? = some (.cells #[.int .i64 st, .int .i64 win, .int .i64 (a : Int), bv] 101 (0, 0)) ∧ a ≤ Bs.length ∧ BsL w base bv Bs
theorem types_apart4 : (5 : Nat) ≠ 33 := by decide
theorem bsl_only {w w' : World} {S : Nat → Prop} {base : Nat} {v : Value} {Bs : List (List Nat)} (h : BsL w base v Bs) (ho : Only S w w') (hS : NoB w S) (hn : ∀ k, v.ownBlock = some k → ¬ S k) : BsL w' base v Bs := by
  obtain ⟨vs, h1, h2, h3⟩ := h
  exact ⟨vs, h1, ho.own h2 hn, fun i hi hi' => (h3 i hi hi').only ho hS⟩
theorem rsn_below {w w' : World} {g base : Nat} {st win : Int} {a : Nat} {Bs : List (List Nat)} (h : Rsn w g base st win a Bs) (hb : Below w.heap.size w w') : Rsn w' g base st win a Bs := by
  obtain ⟨bv, h1, h2, h3⟩ := h
  exact ⟨bv, (hb.block g (Array.getElem?_eq_some_iff.1 h1).1).trans h1, h2, bsl_only (S := fun _ => False) h3 (only_below hb) (fun _ _ _ _ h => h) (fun _ _ h => h)⟩
theorem bsl_cells {w : World} {base : Nat} {v : Value} {Bs : List (List Nat)} (h : BsL w base v Bs) : ∃ A c, v = .slice A Bs.length c ∧ Bs.length ≤ c ∧
    ∀ i (hi : i < Bs.length), ∃ g A' c', A = some ⟨g, 0, none⟩ ∧ g < w.heap.size ∧ w.cell? ⟨g, i, none⟩ = some (.slice A' Bs[i].length c') ∧ Bd w (.slice A' Bs[i].length c') Bs[i] := by
  obtain ⟨vs, h1, ho, h3⟩ := h
  obtain ⟨hl, ⟨rfl, h0⟩ | ⟨g, cap, cur, rfl, _, hblk, hle, _, _, ht⟩⟩ := id ho
  · exact ⟨none, 0, by rw [h0], by omega, fun i hi => by omega⟩
  · refine ⟨some ⟨g, 0, none⟩, cap, rfl, hle, fun i hi => ?_⟩
    have hn := h3 i hi (by omega)
    obtain ⟨A', c', e⟩ := (bd_rb hn).form
    rw [e] at hn
    have hc := ho.cellAt i (by omega)
    rw [List.getElem?_eq_getElem (by omega), e] at hc
    exact ⟨g, A', c', rfl, (Array.getElem?_eq_some_iff.1 hblk).1, hc, hn⟩
theorem rsn_cells {w : World} {g base : Nat} {st win : Int} {a : Nat} {Bs : List (List Nat)} (h : Rsn w g base st win a Bs) : ∃ A c, w.cell? ⟨g, 0, none⟩ = some (.int .i64 st) ∧ w.cell? ⟨g, 1, none⟩ = some (.int .i64 win) ∧ w.cell? ⟨g, 2, none⟩ = some (.int .i64 (a : Int)) ∧
    w.cell? ⟨g, 3, none⟩ = some (.slice A Bs.length c) ∧ Bs.length ≤ c ∧ (∀ i, w.frozen? ⟨g, i, none⟩ = false) ∧ g < w.heap.size ∧
    ∀ i (hi : i < Bs.length), ∃ gb A' c', A = some ⟨gb, 0, none⟩ ∧ gb < w.heap.size ∧ w.cell? ⟨gb, i, none⟩ = some (.slice A' Bs[i].length c') ∧ Bd w (.slice A' Bs[i].length c') Bs[i] := by
  obtain ⟨bv, h1, h2, h3⟩ := h
  obtain ⟨A, c, rfl, h4, h5⟩ := bsl_cells h3
  exact ⟨A, c, cell_of_row _ _ _ _ _ _ h1, cell_of_row _ _ _ _ _ _ h1, cell_of_row _ _ _ _ _ _ h1, cell_of_row _ _ _ _ _ _ h1, h4, fun i => by simp [World.frozen?, h1], (Array.getElem?_eq_some_iff.1 h1).1, h5⟩

set_option maxRecDepth 100000 in
set_option maxHeartbeats 2000000 in
theorem rframe_any (g base : Nat) (st win : Int) (a i : Nat) (Bs : List (List Nat)) (w : World) (h : Rsn w g base st win a Bs) (hi : i < Bs.length) (hl : Bs.length ≤ 1048576) (hX : Bs[i].length ≤ 1048576) :
    Calls Try.prog 66 #[.pointer (some ⟨g, 0, none⟩), .int .i64 (i : Int)] w (RetFr w st (i : Int) Bs[i]) := by
  obtain ⟨W0, HW0, hw0, HG, z0⟩ := U0ex w
  obtain ⟨k0, k1, k2, kf⟩ := fr_blk HG.out (Below.refl _ _)
  obtain ⟨A, c, c0, c1, c2, c3, hcap, cf, hgl, hel⟩ := rsn_cells h
  obtain ⟨gb, A', c', rfl, hgb, p0, hv⟩ := hel i hi
  obtain ⟨X, hXe⟩ : ∃ X, X = Bs[i] := ⟨_, rfl⟩
  rw [← hXe] at hv p0 hX ⊢
  obtain ⟨nb, hnb⟩ : ∃ nb, nb = Bs.length := ⟨_, rfl⟩
  rw [← hnb] at c3 hi hl hcap
  have KK := Lib.hid (fun (w' : World) (hb : Below w.heap.size w w') => (⟨(hb.cell (p := ⟨g, 0, none⟩) hgl).trans c0, (hb.cell (p := ⟨g, 3, none⟩) hgl).trans c3, (hb.cell (p := ⟨gb, i, none⟩) hgb).trans p0⟩ : w'.cell? ⟨g, 0, none⟩ = some (.int .i64 st) ∧ w'.cell? ⟨g, 3, none⟩ = some (.slice (some ⟨gb, 0, none⟩) nb c) ∧ w'.cell? ⟨gb, i, none⟩ = some (.slice A' X.length c')))
  have K1 := Lib.hid (KK.out W0.drew hw0.drew)
  have HV := Lib.hid (And.intro ((bd_rb hv).belowM hw0 (Nat.le_refl _)) hX)
  have HGk := Lib.hid HG.out
  have HW := Lib.hid hw0
  have hs0 := hw0.size
  have i1 : (0 : Int) ≤ (i : Int) := by omega
  have i2 : (i : Int) < (nb : Int) := by omega
  clear hXe hv hX c0 c1 c2 c3 cf h hel p0 hnb
  go_enter Try.func66, Try.ntmps66
  go_wp2_with fail
  rw [← HW0.out]
  go_region_held3 (fun w' => w'.cell? ⟨g, 0, none⟩ = some (.int .i64 st) ∧ w'.cell? ⟨g, 3, none⟩ = some (.slice (some ⟨gb, 0, none⟩) nb c) ∧ w'.cell? ⟨gb, i, none⟩ = some (.slice A' X.length c'))
    (first | with_reducible exact K3.out | with_reducible exact K1.out | exact KK.out _ (set3_below F3.out (Nat.le_refl _)) | exact KK.out _ (HW.out.drew.alloc (by exact Nat.le_of_lt z0) _) | exact KK.out _ ((HW.out.alloc (by exact Nat.le_of_lt z0) _).drew) | go_keep)
    (first
      | (go_at_call 59
         refine (joined_one (.slice A' X.length c') X w.heap.size _ (by exact ⟨HV.out.1.1.drew, HV.out.1.2⟩) (by exact hs0) (by have := HV.out.2; omega)).mono ?_
         rintro e w3 ⟨v3, rfl, o3, b3⟩
         have f3 : Below W0.heap.size W0 w3 := below_un b3
         obtain ⟨A3, c3', e3⟩ := (rb_of_owns o3).2.form
         subst e3
         have F3 := Lib.hid (HW.out.trans (f3.mono HW.out.size))
         have K3 := Lib.hid (KK.out w3 F3.out)
         obtain ⟨k0', k1'', k2', kf'⟩ := fr_blk HGk.out f3))
  have hB3 := Lib.hid (bd_owns o3)
  have HG3 := Lib.hid ((f3.block _ z0).trans HGk.out)
  obtain ⟨d0, d1, d2, df⟩ := fr_blk (set3_heap (x := .int .i64 st) (y := .int .i64 (i : Int)) (z := .slice A3 X.length c3') HG3.out) (Below.refl _ _)
  clear o3 b3 k0' k1'' k2' kf' k0 k1 k2 kf
  go_wp2
  refine bodyPost_ret (v := .agg #[.int .i64 st, .int .i64 (i : Int), .slice A3 X.length c3']) (by simp [results, Try.results66, go_sem, d0, d1, d2]) rfl ⟨_, rfl, bd_set3 HG3.out (by decide) hB3.out, set3_below F3.out (Nat.le_refl _)⟩
end Go.Proofs.Ytkakbeiehggkiaa

namespace Go.Proofs.Ytkakbeiehggkiaa
open Go.RowKit Go.Maps
attribute [local go_sem ↓] Go.wp_at_zero Go.wp_at_succ

def RetNewR (w : World) (st win : Int) (e : Ending) (w' : World) : Prop :=
  ∃ g, e = .returned (.tuple #[.pointer (some ⟨g, 0, none⟩), .int .i64 0]) ∧ (∀ base, Rsn w' g base st win 0 []) ∧ w.heap.size ≤ g ∧ g < w'.heap.size ∧ Below w.heap.size w w'
set_option maxRecDepth 100000 in
set_option maxHeartbeats 1000000 in
theorem rnewS_yes (st win : Int) (w : World) (h : okSn st win) : Calls Try.prog 23 #[.int .i64 st, .int .i64 win] w (RetNewR w st win) := by
  obtain ⟨⟨h1, h2⟩, h3, h4⟩ := h
  have i1 : ¬ st < 0 := by omega
  have i2 : ¬ 255 < st := by omega
  have i3 : ¬ win < 1 := by omega
  have i4 : ¬ 64 < win := by omega
  go_enter Try.func23, Try.ntmps23
  go_wp2
  go_ret2
  refine ⟨_, rfl, fun base => ⟨_, heap_alloc_new w _, Nat.le_refl _, [], rfl, World.ownsRow_nil _ _ _ _, fun i h => by simp at h⟩, Nat.le_refl _, by simp, (Below.refl _ _).alloc (Nat.le_refl _) _⟩

set_option maxRecDepth 100000 in
set_option maxHeartbeats 1000000 in
theorem rnewS_no (st win : Int) (w : World) (h : ¬ okSn st win) : Calls Try.prog 23 #[.int .i64 st, .int .i64 win] w (fun e w' => e = .returned (.tuple #[.pointer none, .int .i64 2]) ∧ w = w') := by
  unfold okSn at h
  by_cases h1 : 0 ≤ st
  · have d1 : ¬ st < 0 := by omega
    by_cases h2 : st ≤ 255
    · have d2 : ¬ 255 < st := by omega
      by_cases h3 : 1 ≤ win
      · have d3 : ¬ win < 1 := by omega
        have h4 : 64 < win := by omega
        clear h
        go_enter Try.func23, Try.ntmps23
        go_wp2
        go_ret2
        exact ⟨rfl, rfl⟩
      · have d : win < 1 := by omega
        clear h
        go_enter Try.func23, Try.ntmps23
        go_wp2
        go_ret2
        exact ⟨rfl, rfl⟩
    · have d : 255 < st := by omega
      clear h
      go_enter Try.func23, Try.ntmps23
      go_wp2
      go_ret2
      exact ⟨rfl, rfl⟩
  · have d : st < 0 := by omega
    clear h
    go_enter Try.func23, Try.ntmps23
    go_wp2
    go_ret2
    exact ⟨rfl, rfl⟩

set_option maxRecDepth 100000 in
set_option maxHeartbeats 2000000 in
theorem rpending_any (g base S a : Nat) (win : Int) (Bs : List (List Nat)) (w : World) (h : Rsn w g base (S : Int) win a Bs) (hl : Bs.length ≤ 1024) (hX : ∀ (i : Nat) (hi : i < Bs.length), Bs[i].length ≤ 1024) :
    Calls Try.prog 31 #[.pointer (some ⟨g, 0, none⟩)] w (RetFrs w (pF S a Bs (Bs.length - a))) := by
  obtain ⟨A, c, c0, c1, c2, c3, hcap, cf, hgl, hel⟩ := rsn_cells h
  have HS := Lib.hid h
  have HX := Lib.hid hX
  have hal : a ≤ Bs.length := by obtain ⟨_, _, h, _⟩ := h; exact h
  have h0 : PnR w S a Bs (.slice none 0 0) (.int .i64 (a : Int)) w := ⟨0, rfl, by omega, frd_nil _ _, Below.refl _ _⟩
  have H0 := Lib.hid h0
  clear h hX h0 cf hel
  go_enter Try.func31, Try.ntmps31
  go_wp2
  go_loopw [3, 4] (fun fv iv wr => PnR w S a Bs fv iv wr) (fun _ iv _ => Bs.length - (intOf1 iv).toNat)
  case atStart => exact H0.out
  case round =>
    obtain ⟨j, rfl, hj, HF, hb⟩ := hrel
    have d2 := (hb.cell (p := ⟨g, 2, none⟩) hgl).trans c2
    have d3 := (hb.cell (p := ⟨g, 3, none⟩) hgl).trans c3
    obtain ⟨i, hi⟩ : ∃ i, i = a + j := ⟨_, rfl⟩
    have HI := Lib.hid hi
    rw [← hi] at hj
    rw [← hi]
    clear hi
    by_cases hlt : i < Bs.length
    · have i1 : (i : Int) < (Bs.length : Int) := by omega
      have HFr := Lib.hid (rframe_any g base (S : Int) win a i Bs wr (rsn_below HS.out hb) hlt (by omega) (by have := HX.out i hlt; omega))
      have HB := Lib.hid hb
      have hs0 := hb.size
      clear hb
      go_wp2_with fail
      refine HFr.out.mono ?_
      rintro e w3 ⟨v3, rfl, hv3, b3⟩
      obtain ⟨A3, cc3, e3⟩ := (bd_rb hv3).form
      subst e3
      obtain ⟨X, hXe⟩ : ∃ X, X = Bs[i] := ⟨_, rfl⟩
      rw [← hXe] at hv3 ⊢
      have HF3 := Lib.hid (frd_below HF.out b3)
      have HV3 := Lib.hid hv3
      have HB3 := Lib.hid (And.intro (HB.out.trans (b3.mono hs0)) hXe)
      have hs3 : w.heap.size ≤ w3.heap.size := Nat.le_trans hs0 b3.size
      have hj2 : j ≤ 1024 := by have := HI.out; omega
      clear hXe hv3 b3 d2 d3 c0 c1 c2 c3
      go_wp2_with (at_builtin
                   refine wpList_append_frd rfl (.tmp 18) (.tmp 22) rfl w.heap.size _ _ rfl HF3.out S i A3 X.length cc3 X rfl HV3.out (by rw [pF_len]; omega) hs3 ?_)
      intro v6 w6 hF6 hO6
      have e5 : pF S a Bs (j + 1) = pF S a Bs j ++ [(S, i, X)] := by
        simp only [pF]
        rw [← HI.out, getD_lt hlt, HB3.out.2]
      rw [← e5] at hF6
      have HF6 := Lib.hid hF6
      have HB6 := Lib.hid (frd_only_below HF3.out hO6 HB3.out.1 hs3)
      clear hF6 hO6 e5
      go_wp2
      go_roundw
      case rel => exact ⟨j + 1, by rw [HI.out]; go_num, by have := HI.out; omega, HF6, HB6.out⟩
      case measure => simp [intOf1]; omega
    · have i1 : ¬ (i : Int) < (Bs.length : Int) := by omega
      have HF2 := Lib.hid (show FrD wr w.heap.size u3 (pF S a Bs (Bs.length - a)) from by
        have e : Bs.length - a = j := by have := HI.out; omega
        rw [e]; exact HF.out)
      have HB := Lib.hid hb
      clear hb
      go_wp2
      go_ret
      exact ⟨_, rfl, HF2.out, HB.out⟩
end Go.Proofs.Ytkakbeiehggkiaa

namespace Go.Proofs.Ytkakbeiehggkiaa
open Go.RowKit Go.Maps
attribute [local go_sem ↓] Go.wp_at_zero Go.wp_at_succ

def RetRAck (w : World) (g base S N : Nat) (win : Int) (Bs : List (List Nat)) (e : Ending) (w' : World) : Prop :=
  e = .returned (.int .i64 0) ∧ Rsn w' g base (S : Int) win N Bs ∧ Only (fun k => k = g) w w'

theorem bsl_notg {w : World} {g base : Nat} {v : Value} {Bs : List (List Nat)} {cs : Array Value} (h : BsL w base v Bs) (hg : w.heap[g]? = some (.cells cs 101 (0, 0))) : ∀ k, v.ownBlock = some k → ¬ k = g := by
  intro k hk e
  subst e
  obtain ⟨vs, h1, h2, h3⟩ := h
  obtain ⟨_, _, cs', hc⟩ := own_block h2 hk
  rw [hg] at hc
  injection hc with hc
  injection hc with _ hc
  exact absurd hc (by decide)
theorem nob_sn {w : World} {g : Nat} {cs : Array Value} (hg : w.heap[g]? = some (.cells cs 101 (0, 0))) : NoB w (fun k => k = g) := fun k cs fr hk e => by
  subst e
  rw [hg] at hk
  injection hk with hk
  injection hk with _ hk
  exact absurd hk (by decide)

set_option maxRecDepth 100000 in
set_option maxHeartbeats 2000000 in
theorem rack_yes (g base S a N : Nat) (win : Int) (Bs : List (List Nat)) (w : World) (h : Rsn w g base (S : Int) win a Bs) (h1 : a ≤ N) (h2 : N ≤ Bs.length) :
    Calls Try.prog 28 #[.pointer (some ⟨g, 0, none⟩), .int .i64 (N : Int)] w (RetRAck w g base S N win Bs) := by
  obtain ⟨A, c, c0, c1, c2, c3, hcap, cf, hgl, hel⟩ := rsn_cells h
  have cf2 := cf 2
  have HS := Lib.hid h
  have i1 : ¬ (N : Int) < (a : Int) := by omega
  have i2 : ¬ (Bs.length : Int) < (N : Int) := by omega
  clear h hel cf
  go_enter Try.func28, Try.ntmps28
  go_wp2
  go_ret
  refine ⟨rfl, ?_, only_set _ rfl⟩
  obtain ⟨bv, hR, _, hB⟩ := HS.out
  refine ⟨bv, ?_, h2, bsl_only hB (only_set (S := fun k => k = g) (p := ⟨g, 2, none⟩) _ rfl) (nob_sn hR) (bsl_notg hB hR)⟩
  rw [heap_setCell_same w g 2 _ _ _ hR]
  rfl

set_option maxRecDepth 100000 in
set_option maxHeartbeats 2000000 in
theorem rack_no (g base S a : Nat) (N : Int) (win : Int) (Bs : List (List Nat)) (w : World) (h : Rsn w g base (S : Int) win a Bs) (h1 : N < (a : Int) ∨ (Bs.length : Int) < N) :
    Calls Try.prog 28 #[.pointer (some ⟨g, 0, none⟩), .int .i64 N] w (fun e w' => e = .returned (.int .i64 2) ∧ w = w') := by
  obtain ⟨A, c, c0, c1, c2, c3, hcap, cf, hgl, hel⟩ := rsn_cells h
  clear h hel cf
  by_cases h2 : N < (a : Int)
  · clear h1
    go_enter Try.func28, Try.ntmps28
    go_wp2
    go_ret
    exact ⟨rfl, rfl⟩
  · have h3 : (Bs.length : Int) < N := h1.resolve_left h2
    clear h1
    go_enter Try.func28, Try.ntmps28
    go_wp2
    go_ret
    exact ⟨rfl, rfl⟩

set_option maxRecDepth 100000 in
set_option maxHeartbeats 2000000 in
theorem ragain_any (g base S a : Nat) (win : Int) (Bs : List (List Nat)) (A : Option Addr) (n c B : Nat) (zs : List Int) (w : World) (h : Rsn w g base (S : Int) win a Bs) (hl : Bs.length ≤ 1024) (hX : ∀ (i : Nat) (hi : i < Bs.length), Bs[i].length ≤ 1024)
    (hz : IW w B (.slice A n c) zs) (hB : B ≤ w.heap.size) (hn : n ≤ 1024) (hai : AllI zs) :
    Calls Try.prog 33 #[.pointer (some ⟨g, 0, none⟩), .slice A n c] w (RetFrs w (agF S a Bs zs n)) := by
  obtain ⟨SA, Sc, c0, c1, c2, c3, hcap, cf, hgl, hel⟩ := rsn_cells h
  have HS := Lib.hid h
  have HX := Lib.hid hX
  have HZ := Lib.hid (And.intro hz (And.intro hz.len hai))
  have H0 := Lib.hid (show AgR w S a n Bs zs (.slice none 0 0) (.int .i64 0) w from ⟨0, rfl, by omega, frd_nil _ _, Below.refl _ _⟩)
  clear h hX hel cf hz hai
  go_enter Try.func33, Try.ntmps33
  go_wp2
  go_loopw [5, 9] (fun fv iv wr => AgR w S a n Bs zs fv iv wr) (fun _ iv _ => n - (intOf1 iv).toNat)
  case atStart => exact H0.out
  case round =>
    obtain ⟨k, rfl, hk, HF, hb⟩ := hrel
    have hSn := rsn_below HS.out hb
    have d2 := (hb.cell (p := ⟨g, 2, none⟩) hgl).trans c2
    have d3 := (hb.cell (p := ⟨g, 3, none⟩) hgl).trans c3
    by_cases hlt : k < n
    · obtain ⟨bz, oz, rfl, hbz, hcz⟩ := HZ.out.1.at_ (by omega)
      have p0 := (hb.cell (p := ⟨bz, oz + k, none⟩) (by show bz < w.heap.size; omega)).trans (hcz k hlt)
      have hzi := HZ.out.2.2 _ (ith_mem (zs := zs) (j := k) (by rw [← HZ.out.2.1]; exact hlt))
      obtain ⟨z, hzz⟩ : ∃ z, z = ith zs k := ⟨_, rfl⟩
      rw [← hzz] at p0 hzi
      have HZZ := Lib.hid hzz
      have i1 : (0 : Int) ≤ (k : Int) := by omega
      have i2 : (k : Int) < (n : Int) := by omega
      have hs0 := hb.size
      clear hcz hzz
      by_cases hin : (a : Int) ≤ z ∧ z < (Bs.length : Int)
      · obtain ⟨i, rfl⟩ : ∃ i : Nat, z = (i : Int) := ⟨z.toNat, by omega⟩
        have hiB : i < Bs.length := by omega
        have HFr := Lib.hid (fun w' (hb' : Below w.heap.size w w') => rframe_any g base (S : Int) win a i Bs w' (rsn_below HS.out hb') hiB (by omega) (by have := HX.out i hiB; omega))
        have e5 : agF S a Bs zs (k + 1) = agF S a Bs zs k ++ [(S, i, Bs[i])] := by
          simp only [agF]
          rw [← HZZ.out, if_pos hin]
          simp [hiB]
        have HE5 := Lib.hid e5
        have HB := Lib.hid hb
        have j1 : (a : Int) ≤ (i : Int) := hin.1
        have j2 : (i : Int) < (Bs.length : Int) := hin.2
        obtain ⟨nb, hnb⟩ : ∃ nb, nb = Bs.length := ⟨_, rfl⟩
        rw [← hnb] at d3 j2 hl
        have D := Lib.hid (fun w' (hb' : Below wr.heap.size wr w') => (hb'.cell (p := ⟨bz, oz + k, none⟩) (by show bz < wr.heap.size; omega)).trans p0)
        clear hin hSn hb e5 hnb
        go_wp2_with fail
        have e1 : decide ((a : Int) ≤ (i : Int)) = true := by simpa using j1
        have e2 : decide ((i : Int) < (nb : Int)) = true := by simpa using j2
        go_region
        have p0' := D.out _ (Below.refl _ _).drew
        go_wp2_with fail
        refine (HFr.out _ HB.out.drew).mono ?_
        rintro e w3 ⟨v3, rfl, hv3, b3⟩
        obtain ⟨A3, cc3, e3⟩ := (bd_rb hv3).form
        subst e3
        obtain ⟨X, hXe⟩ : ∃ X, X = Bs[i] := ⟨_, rfl⟩
        rw [← hXe] at hv3 HE5 ⊢
        have b3' : Below wr.heap.size wr w3 := below_un b3
        have HF3 := Lib.hid (frd_below HF.out b3')
        have HV3 := Lib.hid hv3
        have HB3 := Lib.hid (HB.out.trans (b3'.mono hs0))
        have hs3 : w.heap.size ≤ w3.heap.size := Nat.le_trans hs0 b3'.size
        have hk2 := agF_len S a Bs zs k
        clear hXe hv3 b3 b3' d2 d3 c0 c1 c2 c3 p0 p0'
        go_wp2_with (at_builtin
                     refine wpList_append_frd rfl (.tmp 33) (.tmp 40) rfl w.heap.size _ _ rfl HF3.out S i A3 X.length cc3 X rfl HV3.out (by omega) hs3 ?_)
        intro v6 w6 hF6 hO6
        rw [← HE5.out] at hF6
        have HF6 := Lib.hid hF6
        have HB6 := Lib.hid (frd_only_below HF3.out hO6 HB3.out hs3)
        clear hF6 hO6
        go_wp2
        go_roundw
        case rel => exact ⟨k + 1, by go_num, by omega, HF6, HB6.out⟩
        case measure => simp [intOf1]; omega
      · have e5 : agF S a Bs zs (k + 1) = agF S a Bs zs k := by
          simp only [agF]
          rw [← HZZ.out, if_neg hin]
          simp
        have HF6 := Lib.hid (frd_below (show FrD wr w.heap.size u5 (agF S a Bs zs (k + 1)) from by rw [e5]; exact HF.out) (Below.refl _ _).drew)
        have HB := Lib.hid hb.drew
        obtain ⟨nb, hnb⟩ : ∃ nb, nb = Bs.length := ⟨_, rfl⟩
        rw [← hnb] at d3 hl hin
        clear hSn hb e5 hnb
        by_cases j1 : (a : Int) ≤ z
        · have j2 : ¬ z < (nb : Int) := fun h => hin ⟨j1, h⟩
          clear hin
          go_wp2_with fail
          have e1 : decide ((a : Int) ≤ z) = true := by simpa using j1
          have e2 : decide (z < (nb : Int)) = false := by simpa using j2
          go_region
          go_wp2
          go_roundw
          case rel => exact ⟨k + 1, by go_num, by omega, HF6, HB.out⟩
          case measure => simp [intOf1]; omega
        · clear hin
          go_wp2_with fail
          have e1 : decide ((a : Int) ≤ z) = false := by simpa using j1
          go_region
          go_wp2
          go_roundw
          case rel => exact ⟨k + 1, by go_num, by omega, HF6, HB.out⟩
          case measure => simp [intOf1]; omega
    · obtain rfl : k = n := by omega
      have HB := Lib.hid hb
      clear hb hSn
      go_wp2
      go_ret
      exact ⟨_, rfl, HF.out, HB.out⟩
end Go.Proofs.Ytkakbeiehggkiaa
