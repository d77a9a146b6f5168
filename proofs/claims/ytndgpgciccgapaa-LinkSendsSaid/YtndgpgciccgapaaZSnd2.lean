/-
  The sender: Pending, Again, Ack.
-/
import Derived.Test.YtndgpgciccgapaaZSnd
import Derived.Test.YtndgpgciccgapaaVMem
namespace Go.Proofs.Ytndgpgciccgapaa
open Go.RowKit Go.Maps
attribute [local go_sem ↓] Go.wp_at_zero Go.wp_at_succ

theorem getD_lt {Bs : List (List Nat)} {i : Nat} (h : i < Bs.length) : Bs.getD i [] = Bs[i] := by simp [List.getD, h]
def PnR (w : World) (S a : Nat) (Bs : List (List Nat)) (fv iv : Value) (wr : World) : Prop :=
  ∃ j : Nat, iv = .int .i64 ((a + j : Nat) : Int) ∧ a + j ≤ Bs.length ∧ Hid (FrD wr w.heap.size fv (pF S a Bs j)) ∧ Below w.heap.size w wr

set_option maxRecDepth 100000 in
set_option maxHeartbeats 2000000 in
theorem pending_any (g mb S a : Nat) (win : Int) (Bs : List (List Nat)) (w : World) (h : Snd w g mb (S : Int) win a Bs) (hw : 1 ≤ win) (hl : Bs.length ≤ 1024) (hX : ∀ (i : Nat) (hi : i < Bs.length), Bs[i].length ≤ 1024) :
    Calls Try.prog 25 #[.pointer (some ⟨g, 0, none⟩)] w (RetFrs w (pF S a Bs (Bs.length - a))) := by
  obtain ⟨c0, c1, c2, c3, c4, cf⟩ := snd_cells h
  have HN := Lib.hid (snone_live g win w c1 (by omega))
  have HS := Lib.hid h
  have HX := Lib.hid hX
  have hal := h.2.1
  have h0 : PnR w S a Bs (.slice none 0 0) (.int .i64 (a : Int)) w := ⟨0, rfl, by omega, frd_nil _ _, Below.refl _ _⟩
  have H0 := Lib.hid h0
  clear h hX h0 cf
  go_enter Try.func25, Try.ntmps25
  go_wp2_with fail
  refine HN.out.mono ?_
  rintro e w1 ⟨rfl, rfl⟩
  go_wp2
  go_loopw [3, 4] (fun fv iv wr => PnR w S a Bs fv iv wr) (fun _ iv _ => Bs.length - (intOf1 iv).toNat)
  case atStart => exact H0.out
  case round =>
    obtain ⟨j, rfl, hj, HF, hb⟩ := hrel
    obtain ⟨d0, d1, d2, d3, d4, df⟩ := snd_cells (snd_below HS.out hb)
    obtain ⟨i, hi⟩ : ∃ i, i = a + j := ⟨_, rfl⟩
    have HI := Lib.hid hi
    rw [← hi] at hj
    rw [← hi]
    clear hi df
    by_cases hlt : i < Bs.length
    · have i1 : (i : Int) < (Bs.length : Int) := by omega
      have HFr := Lib.hid (frame_any g mb (S : Int) win a i Bs wr (snd_below HS.out hb) hlt (by have := HI.out; omega) (by omega) (by have := HX.out i hlt; omega))
      have HB := Lib.hid hb
      have hs0 := hb.size
      clear hb
      go_wp2_with fail
      refine HFr.out.mono ?_
      rintro e w3 ⟨v3, rfl, hv3, b3⟩
      obtain ⟨A3, cc3, e3⟩ := (bd_rb hv3).form
      subst e3
      obtain ⟨X, hXe⟩ : ∃ X, X = Bs[i] := ⟨_, rfl⟩
      rw [← hXe] at hv3 ⊢
      have HF3 := Lib.hid (frd_below HF.out b3)
      have HV3 := Lib.hid hv3
      have HB3 := Lib.hid (And.intro (HB.out.trans (b3.mono hs0)) hXe)
      have hs3 : w.heap.size ≤ w3.heap.size := Nat.le_trans hs0 b3.size
      have hj2 : j ≤ 1024 := by have := HI.out; omega
      clear hXe hv3 b3 d0 d1 d2 d3 d4 c0 c1 c2 c3 c4
      go_wp2_with (at_builtin
                   refine wpList_append_frd rfl (.tmp 19) (.tmp 23) rfl w.heap.size _ _ rfl HF3.out S i A3 X.length cc3 X rfl HV3.out (by rw [pF_len]; omega) hs3 ?_)
      intro v6 w6 hF6 hO6
      have e5 : pF S a Bs (j + 1) = pF S a Bs j ++ [(S, i, X)] := by
        simp only [pF]
        rw [← HI.out, getD_lt hlt, HB3.out.2]
      rw [← e5] at hF6
      have HF6 := Lib.hid hF6
      have HB6 := Lib.hid (frd_only_below HF3.out hO6 HB3.out.1 hs3)
      clear hF6 hO6 e5
      go_wp2
      go_roundw
      case rel => exact ⟨j + 1, by rw [HI.out]; go_num, by have := HI.out; omega, HF6, HB6.out⟩
      case measure => simp [intOf1]; omega
    · have i1 : ¬ (i : Int) < (Bs.length : Int) := by omega
      have HF2 := Lib.hid (show FrD wr w.heap.size u3 (pF S a Bs (Bs.length - a)) from by
        have e : Bs.length - a = j := by have := HI.out; omega
        rw [e]; exact HF.out)
      have HB := Lib.hid hb
      clear hb
      go_wp2
      go_ret
      exact ⟨_, rfl, HF2.out, HB.out⟩

/-- What is given again. -/
def agF (S a : Nat) (Bs : List (List Nat)) (zs : List Int) : Nat → List Fr
  | 0 => []
  | k + 1 => agF S a Bs zs k ++ (if (a : Int) ≤ ith zs k ∧ ith zs k < (Bs.length : Int) then [(S, (ith zs k).toNat, Bs.getD (ith zs k).toNat [])] else [])
theorem agF_len (S a : Nat) (Bs : List (List Nat)) (zs : List Int) : ∀ k, (agF S a Bs zs k).length ≤ k
  | 0 => Nat.le_refl _
  | k + 1 => by
    have := agF_len S a Bs zs k
    simp only [agF, List.length_append]
    split <;> simp <;> omega
def AgR (w : World) (S a n : Nat) (Bs : List (List Nat)) (zs : List Int) (fv iv : Value) (wr : World) : Prop :=
  ∃ k : Nat, iv = .int .i64 (k : Int) ∧ k ≤ n ∧ Hid (FrD wr w.heap.size fv (agF S a Bs zs k)) ∧ Below w.heap.size w wr

set_option maxRecDepth 100000 in
set_option maxHeartbeats 2000000 in
theorem again_any (g mb S a : Nat) (win : Int) (Bs : List (List Nat)) (A : Option Addr) (n c B : Nat) (zs : List Int) (w : World) (h : Snd w g mb (S : Int) win a Bs) (hw : 1 ≤ win) (hl : Bs.length ≤ 1024) (hX : ∀ (i : Nat) (hi : i < Bs.length), Bs[i].length ≤ 1024)
    (hz : IW w B (.slice A n c) zs) (hB : B ≤ w.heap.size) (hn : n ≤ 1024) (hai : AllI zs) :
    Calls Try.prog 27 #[.pointer (some ⟨g, 0, none⟩), .slice A n c] w (RetFrs w (agF S a Bs zs n)) := by
  obtain ⟨c0, c1, c2, c3, c4, cf⟩ := snd_cells h
  have HN := Lib.hid (snone_live g win w c1 (by omega))
  have HS := Lib.hid h
  have HX := Lib.hid hX
  have HZ := Lib.hid (And.intro hz (And.intro hz.len hai))
  have H0 := Lib.hid (show AgR w S a n Bs zs (.slice none 0 0) (.int .i64 0) w from ⟨0, rfl, by omega, frd_nil _ _, Below.refl _ _⟩)
  clear h hX cf hz hai
  go_enter Try.func27, Try.ntmps27
  go_wp2_with fail
  refine HN.out.mono ?_
  rintro e w1 ⟨rfl, rfl⟩
  go_wp2
  go_loopw [5, 14] (fun fv iv wr => AgR w S a n Bs zs fv iv wr) (fun _ iv _ => n - (intOf1 iv).toNat)
  case atStart => exact H0.out
  case round =>
    obtain ⟨k, rfl, hk, HF, hb⟩ := hrel
    have hSn := snd_below HS.out hb
    obtain ⟨d0, d1, d2, d3, d4, df⟩ := snd_cells hSn
    clear df
    by_cases hlt : k < n
    · obtain ⟨bz, oz, rfl, hbz, hcz⟩ := HZ.out.1.at_ (by omega)
      have p0 := (hb.cell (p := ⟨bz, oz + k, none⟩) (by show bz < w.heap.size; omega)).trans (hcz k hlt)
      have hzi := HZ.out.2.2 _ (ith_mem (zs := zs) (j := k) (by rw [← HZ.out.2.1]; exact hlt))
      obtain ⟨z, hzz⟩ : ∃ z, z = ith zs k := ⟨_, rfl⟩
      rw [← hzz] at p0 hzi
      have HZZ := Lib.hid hzz
      have i1 : (0 : Int) ≤ (k : Int) := by omega
      have i2 : (k : Int) < (n : Int) := by omega
      obtain ⟨_, hal, f, hM, hSF⟩ := id hSn
      have hrun := hM.look uI uMB (zeroB wr) (wfI hzi.1 hzi.2)
      have hs0 := hb.size
      clear hcz hzz
      by_cases hin : (a : Int) ≤ z ∧ z < (Bs.length : Int)
      · obtain ⟨i, rfl⟩ : ∃ i : Nat, z = (i : Int) := ⟨z.toNat, by omega⟩
        have hiB : i < Bs.length := by omega
        obtain ⟨v, hfv, hv⟩ := hSF.1 i hiB (by omega)
        rw [hfv] at hrun
        simp only [Option.getD_some, Option.isSome_some] at hrun
        have HFr := Lib.hid (frame_any g mb (S : Int) win a i Bs wr hSn hiB (by omega) (by omega) (by have := HX.out i hiB; omega))
        have e5 : agF S a Bs zs (k + 1) = agF S a Bs zs k ++ [(S, i, Bs[i])] := by
          simp only [agF]
          rw [← HZZ.out, if_pos hin]
          simp [hiB]
        have HE5 := Lib.hid e5
        have HB := Lib.hid hb
        clear hin hv hfv hSn hM hSF hb e5
        go_wp2_with fail
        refine HFr.out.mono ?_
        rintro e w3 ⟨v3, rfl, hv3, b3⟩
        obtain ⟨A3, cc3, e3⟩ := (bd_rb hv3).form
        subst e3
        obtain ⟨X, hXe⟩ : ∃ X, X = Bs[i] := ⟨_, rfl⟩
        rw [← hXe] at hv3 HE5 ⊢
        have HF3 := Lib.hid (frd_below HF.out b3)
        have HV3 := Lib.hid hv3
        have HB3 := Lib.hid (HB.out.trans (b3.mono hs0))
        have hs3 : w.heap.size ≤ w3.heap.size := Nat.le_trans hs0 b3.size
        have hk2 := agF_len S a Bs zs k
        clear hXe hv3 b3 d0 d1 d2 d3 d4 c0 c1 c2 c3 c4 hrun
        go_wp2_with (at_builtin
                     refine wpList_append_frd rfl (.tmp 28) (.tmp 32) rfl w.heap.size _ _ rfl HF3.out S i A3 X.length cc3 X rfl HV3.out (by omega) hs3 ?_)
        intro v6 w6 hF6 hO6
        rw [← HE5.out] at hF6
        have HF6 := Lib.hid hF6
        have HB6 := Lib.hid (frd_only_below HF3.out hO6 HB3.out hs3)
        clear hF6 hO6
        go_wp2
        go_roundw
        case rel => exact ⟨k + 1, by go_num, by omega, HF6, HB6.out⟩
        case measure => simp [intOf1]; omega
      · have hfn : f z = none := hSF.2 z (by omega)
        rw [hfn] at hrun
        simp only [Option.getD_none, Option.isSome_none] at hrun
        have e5 : agF S a Bs zs (k + 1) = agF S a Bs zs k := by
          simp only [agF]
          rw [← HZZ.out, if_neg hin]
          simp
        have HF6 := Lib.hid (show FrD wr w.heap.size u5 (agF S a Bs zs (k + 1)) from by rw [e5]; exact HF.out)
        have HB := Lib.hid hb
        clear hin hfn hSn hM hSF hb e5
        go_wp2
        go_roundw
        case rel => exact ⟨k + 1, by go_num, by omega, HF6, HB.out⟩
        case measure => simp [intOf1]; omega
    · obtain rfl : k = n := by omega
      have HB := Lib.hid hb
      clear hb hSn
      go_wp2
      go_ret
      exact ⟨_, rfl, HF.out, HB.out⟩
end Go.Proofs.Ytndgpgciccgapaa
