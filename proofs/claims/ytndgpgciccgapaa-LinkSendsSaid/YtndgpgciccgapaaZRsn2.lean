/-
  The document's sender: NewSender, Ack, Pending, Again.
-/
import Derived.Test.YtndgpgciccgapaaZRsn
import Derived.Test.YtndgpgciccgapaaZSnd2
namespace Go.Proofs.Ytndgpgciccgapaa
open Go.RowKit Go.Maps
attribute [local go_sem ↓] Go.wp_at_zero Go.wp_at_succ

def RetNewR (w : World) (st win : Int) (e : Ending) (w' : World) : Prop :=
  ∃ g, e = .returned (.tuple #[.pointer (some ⟨g, 0, none⟩), .int .i64 0]) ∧ (∀ base, Rsn w' g base st win 0 []) ∧ w.heap.size ≤ g ∧ g < w'.heap.size ∧ Below w.heap.size w w'
set_option maxRecDepth 100000 in
set_option maxHeartbeats 1000000 in
theorem rnewS_yes (st win : Int) (w : World) (h : okSn st win) : Calls Try.prog 18 #[.int .i64 st, .int .i64 win] w (RetNewR w st win) := by
  obtain ⟨⟨h1, h2⟩, h3, h4⟩ := h
  have i1 : ¬ st < 0 := by omega
  have i2 : ¬ 255 < st := by omega
  have i3 : ¬ win < 1 := by omega
  have i4 : ¬ 64 < win := by omega
  go_enter Try.func18, Try.ntmps18
  go_wp2
  go_ret2
  refine ⟨_, rfl, fun base => ⟨_, heap_alloc_new w _, Nat.le_refl _, [], rfl, World.ownsRow_nil _ _ _ _, fun i h => by simp at h⟩, Nat.le_refl _, by simp, (Below.refl _ _).alloc (Nat.le_refl _) _⟩

set_option maxRecDepth 100000 in
set_option maxHeartbeats 1000000 in
theorem rnewS_no (st win : Int) (w : World) (h : ¬ okSn st win) : Calls Try.prog 18 #[.int .i64 st, .int .i64 win] w (fun e w' => e = .returned (.tuple #[.pointer none, .int .i64 2]) ∧ w = w') := by
  unfold okSn at h
  by_cases h1 : 0 ≤ st
  · have d1 : ¬ st < 0 := by omega
    by_cases h2 : st ≤ 255
    · have d2 : ¬ 255 < st := by omega
      by_cases h3 : 1 ≤ win
      · have d3 : ¬ win < 1 := by omega
        have h4 : 64 < win := by omega
        clear h
        go_enter Try.func18, Try.ntmps18
        go_wp2
        go_ret2
        exact ⟨rfl, rfl⟩
      · have d : win < 1 := by omega
        clear h
        go_enter Try.func18, Try.ntmps18
        go_wp2
        go_ret2
        exact ⟨rfl, rfl⟩
    · have d : 255 < st := by omega
      clear h
      go_enter Try.func18, Try.ntmps18
      go_wp2
      go_ret2
      exact ⟨rfl, rfl⟩
  · have d : st < 0 := by omega
    clear h
    go_enter Try.func18, Try.ntmps18
    go_wp2
    go_ret2
    exact ⟨rfl, rfl⟩

set_option maxRecDepth 100000 in
set_option maxHeartbeats 2000000 in
theorem rpending_any (g base S a : Nat) (win : Int) (Bs : List (List Nat)) (w : World) (h : Rsn w g base (S : Int) win a Bs) (hl : Bs.length ≤ 1024) (hX : ∀ (i : Nat) (hi : i < Bs.length), Bs[i].length ≤ 1024) :
    Calls Try.prog 26 #[.pointer (some ⟨g, 0, none⟩)] w (RetFrs w (pF S a Bs (Bs.length - a))) := by
  obtain ⟨A, c, c0, c1, c2, c3, hcap, cf, hgl, hel⟩ := rsn_cells h
  have HS := Lib.hid h
  have HX := Lib.hid hX
  have hal : a ≤ Bs.length := by obtain ⟨_, _, h, _⟩ := h; exact h
  have h0 : PnR w S a Bs (.slice none 0 0) (.int .i64 (a : Int)) w := ⟨0, rfl, by omega, frd_nil _ _, Below.refl _ _⟩
  have H0 := Lib.hid h0
  clear h hX h0 cf hel
  go_enter Try.func26, Try.ntmps26
  go_wp2
  go_loopw [3, 4] (fun fv iv wr => PnR w S a Bs fv iv wr) (fun _ iv _ => Bs.length - (intOf1 iv).toNat)
  case atStart => exact H0.out
  case round =>
    obtain ⟨j, rfl, hj, HF, hb⟩ := hrel
    have d2 := (hb.cell (p := ⟨g, 2, none⟩) hgl).trans c2
    have d3 := (hb.cell (p := ⟨g, 3, none⟩) hgl).trans c3
    obtain ⟨i, hi⟩ : ∃ i, i = a + j := ⟨_, rfl⟩
    have HI := Lib.hid hi
    rw [← hi] at hj
    rw [← hi]
    clear hi
    by_cases hlt : i < Bs.length
    · have i1 : (i : Int) < (Bs.length : Int) := by omega
      have HFr := Lib.hid (rframe_any g base (S : Int) win a i Bs wr (rsn_below HS.out hb) hlt (by omega) (by have := HX.out i hlt; omega))
      have HB := Lib.hid hb
      have hs0 := hb.size
      clear hb
      go_wp2_with fail
      refine HFr.out.mono ?_
      rintro e w3 ⟨v3, rfl, hv3, b3⟩
      obtain ⟨A3, cc3, e3⟩ := (bd_rb hv3).form
      subst e3
      obtain ⟨X, hXe⟩ : ∃ X, X = Bs[i] := ⟨_, rfl⟩
      rw [← hXe] at hv3 ⊢
      have HF3 := Lib.hid (frd_below HF.out b3)
      have HV3 := Lib.hid hv3
      have HB3 := Lib.hid (And.intro (HB.out.trans (b3.mono hs0)) hXe)
      have hs3 : w.heap.size ≤ w3.heap.size := Nat.le_trans hs0 b3.size
      have hj2 : j ≤ 1024 := by have := HI.out; omega
      clear hXe hv3 b3 d2 d3 c0 c1 c2 c3
      go_wp2_with (at_builtin
                   refine wpList_append_frd rfl (.tmp 18) (.tmp 22) rfl w.heap.size _ _ rfl HF3.out S i A3 X.length cc3 X rfl HV3.out (by rw [pF_len]; omega) hs3 ?_)
      intro v6 w6 hF6 hO6
      have e5 : pF S a Bs (j + 1) = pF S a Bs j ++ [(S, i, X)] := by
        simp only [pF]
        rw [← HI.out, getD_lt hlt, HB3.out.2]
      rw [← e5] at hF6
      have HF6 := Lib.hid hF6
      have HB6 := Lib.hid (frd_only_below HF3.out hO6 HB3.out.1 hs3)
      clear hF6 hO6 e5
      go_wp2
      go_roundw
      case rel => exact ⟨j + 1, by rw [HI.out]; go_num, by have := HI.out; omega, HF6, HB6.out⟩
      case measure => simp [intOf1]; omega
    · have i1 : ¬ (i : Int) < (Bs.length : Int) := by omega
      have HF2 := Lib.hid (show FrD wr w.heap.size u3 (pF S a Bs (Bs.length - a)) from by
        have e : Bs.length - a = j := by have := HI.out; omega
        rw [e]; exact HF.out)
      have HB := Lib.hid hb
      clear hb
      go_wp2
      go_ret
      exact ⟨_, rfl, HF2.out, HB.out⟩
end Go.Proofs.Ytndgpgciccgapaa
