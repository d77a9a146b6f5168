/-
  The document's sender: Ack, Again.
-/
import Derived.Test.YtndgpgciccgapaaZRsn2
namespace Go.Proofs.Ytndgpgciccgapaa
open Go.RowKit Go.Maps
attribute [local go_sem ↓] Go.wp_at_zero Go.wp_at_succ

def RetRAck (w : World) (g base S N : Nat) (win : Int) (Bs : List (List Nat)) (e : Ending) (w' : World) : Prop :=
  e = .returned (.int .i64 0) ∧ Rsn w' g base (S : Int) win N Bs ∧ Only (fun k => k = g) w w'

theorem bsl_notg {w : World} {g base : Nat} {v : Value} {Bs : List (List Nat)} {cs : Array Value} (h : BsL w base v Bs) (hg : w.heap[g]? = some (.cells cs 101 (0, 0))) : ∀ k, v.ownBlock = some k → ¬ k = g := by
  intro k hk e
  subst e
  obtain ⟨vs, h1, h2, h3⟩ := h
  obtain ⟨_, _, cs', hc⟩ := own_block h2 hk
  rw [hg] at hc
  injection hc with hc
  injection hc with _ hc
  exact absurd hc (by decide)
theorem nob_sn {w : World} {g : Nat} {cs : Array Value} (hg : w.heap[g]? = some (.cells cs 101 (0, 0))) : NoB w (fun k => k = g) := fun k cs fr hk e => by
  subst e
  rw [hg] at hk
  injection hk with hk
  injection hk with _ hk
  exact absurd hk (by decide)

set_option maxRecDepth 100000 in
set_option maxHeartbeats 2000000 in
theorem rack_yes (g base S a N : Nat) (win : Int) (Bs : List (List Nat)) (w : World) (h : Rsn w g base (S : Int) win a Bs) (h1 : a ≤ N) (h2 : N ≤ Bs.length) :
    Calls Try.prog 23 #[.pointer (some ⟨g, 0, none⟩), .int .i64 (N : Int)] w (RetRAck w g base S N win Bs) := by
  obtain ⟨A, c, c0, c1, c2, c3, hcap, cf, hgl, hel⟩ := rsn_cells h
  have cf2 := cf 2
  have HS := Lib.hid h
  have i1 : ¬ (N : Int) < (a : Int) := by omega
  have i2 : ¬ (Bs.length : Int) < (N : Int) := by omega
  clear h hel cf
  go_enter Try.func23, Try.ntmps23
  go_wp2
  go_ret
  refine ⟨rfl, ?_, only_set _ rfl⟩
  obtain ⟨bv, hR, _, hB⟩ := HS.out
  refine ⟨bv, ?_, h2, bsl_only hB (only_set (S := fun k => k = g) (p := ⟨g, 2, none⟩) _ rfl) (nob_sn hR) (bsl_notg hB hR)⟩
  rw [heap_setCell_same w g 2 _ _ _ hR]
  rfl

set_option maxRecDepth 100000 in
set_option maxHeartbeats 2000000 in
theorem rack_no (g base S a : Nat) (N : Int) (win : Int) (Bs : List (List Nat)) (w : World) (h : Rsn w g base (S : Int) win a Bs) (h1 : N < (a : Int) ∨ (Bs.length : Int) < N) :
    Calls Try.prog 23 #[.pointer (some ⟨g, 0, none⟩), .int .i64 N] w (fun e w' => e = .returned (.int .i64 2) ∧ w = w') := by
  obtain ⟨A, c, c0, c1, c2, c3, hcap, cf, hgl, hel⟩ := rsn_cells h
  clear h hel cf
  by_cases h2 : N < (a : Int)
  · clear h1
    go_enter Try.func23, Try.ntmps23
    go_wp2
    go_ret
    exact ⟨rfl, rfl⟩
  · have h3 : (Bs.length : Int) < N := h1.resolve_left h2
    clear h1
    go_enter Try.func23, Try.ntmps23
    go_wp2
    go_ret
    exact ⟨rfl, rfl⟩

set_option maxRecDepth 100000 in
set_option maxHeartbeats 2000000 in
theorem ragain_any (g base S a : Nat) (win : Int) (Bs : List (List Nat)) (A : Option Addr) (n c B : Nat) (zs : List Int) (w : World) (h : Rsn w g base (S : Int) win a Bs) (hl : Bs.length ≤ 1024) (hX : ∀ (i : Nat) (hi : i < Bs.length), Bs[i].length ≤ 1024)
    (hz : IW w B (.slice A n c) zs) (hB : B ≤ w.heap.size) (hn : n ≤ 1024) (hai : AllI zs) :
    Calls Try.prog 28 #[.pointer (some ⟨g, 0, none⟩), .slice A n c] w (RetFrs w (agF S a Bs zs n)) := by
  obtain ⟨SA, Sc, c0, c1, c2, c3, hcap, cf, hgl, hel⟩ := rsn_cells h
  have HS := Lib.hid h
  have HX := Lib.hid hX
  have HZ := Lib.hid (And.intro hz (And.intro hz.len hai))
  have H0 := Lib.hid (show AgR w S a n Bs zs (.slice none 0 0) (.int .i64 0) w from ⟨0, rfl, by omega, frd_nil _ _, Below.refl _ _⟩)
  clear h hX hel cf hz hai
  go_enter Try.func28, Try.ntmps28
  go_wp2
  go_loopw [5, 9] (fun fv iv wr => AgR w S a n Bs zs fv iv wr) (fun _ iv _ => n - (intOf1 iv).toNat)
  case atStart => exact H0.out
  case round =>
    obtain ⟨k, rfl, hk, HF, hb⟩ := hrel
    have hSn := rsn_below HS.out hb
    have d2 := (hb.cell (p := ⟨g, 2, none⟩) hgl).trans c2
    have d3 := (hb.cell (p := ⟨g, 3, none⟩) hgl).trans c3
    by_cases hlt : k < n
    · obtain ⟨bz, oz, rfl, hbz, hcz⟩ := HZ.out.1.at_ (by omega)
      have p0 := (hb.cell (p := ⟨bz, oz + k, none⟩) (by show bz < w.heap.size; omega)).trans (hcz k hlt)
      have hzi := HZ.out.2.2 _ (ith_mem (zs := zs) (j := k) (by rw [← HZ.out.2.1]; exact hlt))
      obtain ⟨z, hzz⟩ : ∃ z, z = ith zs k := ⟨_, rfl⟩
      rw [← hzz] at p0 hzi
      have HZZ := Lib.hid hzz
      have i1 : (0 : Int) ≤ (k : Int) := by omega
      have i2 : (k : Int) < (n : Int) := by omega
      have hs0 := hb.size
      clear hcz hzz
      by_cases hin : (a : Int) ≤ z ∧ z < (Bs.length : Int)
      · obtain ⟨i, rfl⟩ : ∃ i : Nat, z = (i : Int) := ⟨z.toNat, by omega⟩
        have hiB : i < Bs.length := by omega
        have HFr := Lib.hid (fun w' (hb' : Below w.heap.size w w') => rframe_any g base (S : Int) win a i Bs w' (rsn_below HS.out hb') hiB (by omega) (by have := HX.out i hiB; omega))
        have e5 : agF S a Bs zs (k + 1) = agF S a Bs zs k ++ [(S, i, Bs[i])] := by
          simp only [agF]
          rw [← HZZ.out, if_pos hin]
          simp [hiB]
        have HE5 := Lib.hid e5
        have HB := Lib.hid hb
        have j1 : (a : Int) ≤ (i : Int) := hin.1
        have j2 : (i : Int) < (Bs.length : Int) := hin.2
        obtain ⟨nb, hnb⟩ : ∃ nb, nb = Bs.length := ⟨_, rfl⟩
        rw [← hnb] at d3 j2 hl
        have D := Lib.hid (fun w' (hb' : Below wr.heap.size wr w') => (hb'.cell (p := ⟨bz, oz + k, none⟩) (by show bz < wr.heap.size; omega)).trans p0)
        clear hin hSn hb e5 hnb
        go_wp2_with fail
        have e1 : decide ((a : Int) ≤ (i : Int)) = true := by simpa using j1
        have e2 : decide ((i : Int) < (nb : Int)) = true := by simpa using j2
        go_region
        have p0' := D.out _ (Below.refl _ _).drew
        go_wp2_with fail
        refine (HFr.out _ HB.out.drew).mono ?_
        rintro e w3 ⟨v3, rfl, hv3, b3⟩
        obtain ⟨A3, cc3, e3⟩ := (bd_rb hv3).form
        subst e3
        obtain ⟨X, hXe⟩ : ∃ X, X = Bs[i] := ⟨_, rfl⟩
        rw [← hXe] at hv3 HE5 ⊢
        have b3' : Below wr.heap.size wr w3 := below_un b3
        have HF3 := Lib.hid (frd_below HF.out b3')
        have HV3 := Lib.hid hv3
        have HB3 := Lib.hid (HB.out.trans (b3'.mono hs0))
        have hs3 : w.heap.size ≤ w3.heap.size := Nat.le_trans hs0 b3'.size
        have hk2 := agF_len S a Bs zs k
        clear hXe hv3 b3 b3' d2 d3 c0 c1 c2 c3 p0 p0'
        go_wp2_with (at_builtin
                     refine wpList_append_frd rfl (.tmp 33) (.tmp 40) rfl w.heap.size _ _ rfl HF3.out S i A3 X.length cc3 X rfl HV3.out (by omega) hs3 ?_)
        intro v6 w6 hF6 hO6
        rw [← HE5.out] at hF6
        have HF6 := Lib.hid hF6
        have HB6 := Lib.hid (frd_only_below HF3.out hO6 HB3.out hs3)
        clear hF6 hO6
        go_wp2
        go_roundw
        case rel => exact ⟨k + 1, by go_num, by omega, HF6, HB6.out⟩
        case measure => simp [intOf1]; omega
      · have e5 : agF S a Bs zs (k + 1) = agF S a Bs zs k := by
          simp only [agF]
          rw [← HZZ.out, if_neg hin]
          simp
        have HF6 := Lib.hid (frd_below (show FrD wr w.heap.size u5 (agF S a Bs zs (k + 1)) from by rw [e5]; exact HF.out) (Below.refl _ _).drew)
        have HB := Lib.hid hb.drew
        obtain ⟨nb, hnb⟩ : ∃ nb, nb = Bs.length := ⟨_, rfl⟩
        rw [← hnb] at d3 hl hin
        clear hSn hb e5 hnb
        by_cases j1 : (a : Int) ≤ z
        · have j2 : ¬ z < (nb : Int) := fun h => hin ⟨j1, h⟩
          clear hin
          go_wp2_with fail
          have e1 : decide ((a : Int) ≤ z) = true := by simpa using j1
          have e2 : decide (z < (nb : Int)) = false := by simpa using j2
          go_region
          go_wp2
          go_roundw
          case rel => exact ⟨k + 1, by go_num, by omega, HF6, HB.out⟩
          case measure => simp [intOf1]; omega
        · clear hin
          go_wp2_with fail
          have e1 : decide ((a : Int) ≤ z) = false := by simpa using j1
          go_region
          go_wp2
          go_roundw
          case rel => exact ⟨k + 1, by go_num, by omega, HF6, HB.out⟩
          case measure => simp [intOf1]; omega
    · obtain rfl : k = n := by omega
      have HB := Lib.hid hb
      clear hb hSn
      go_wp2
      go_ret
      exact ⟨_, rfl, HF.out, HB.out⟩
end Go.Proofs.Ytndgpgciccgapaa
