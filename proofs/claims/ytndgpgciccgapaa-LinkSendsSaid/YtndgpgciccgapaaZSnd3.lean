/-
  The sender: Ack, Offer.
-/
import Derived.Test.YtndgpgciccgapaaZSnd2
namespace Go.Proofs.Ytndgpgciccgapaa
open Go.RowKit Go.Maps
attribute [local go_sem ↓] Go.wp_at_zero Go.wp_at_succ

theorem snd_strike {w w7 : World} {g mb a m : Nat} {st win : Int} {Bs : List (List Nat)} {f : Int → Option Value} (hR : w.heap[g]? = some (.cells #[.int .i64 st, .int .i64 win, .int .i64 (a : Int), .int .i64 (Bs.length : Int), .map (some mb)] 99 (0, 0))) (hgm : g ≠ mb) (ha : a + 1 ≤ Bs.length) (hm : Bs.length - (a + 1) = m)
    (hf : SF w f a Bs) (hM7 : MapF Try.prog 3 w7 mb m (fun z => if z = (a : Int) then none else f z)) (ht : w.mapTurned w7 mb) :
    Snd (w7.setCell ⟨g, 2, none⟩ (.int .i64 ((a : Int) + 1))) g mb st win (a + 1) Bs ∧ Only (fun k => k = g ∨ k = mb) w (w7.setCell ⟨g, 2, none⟩ (.int .i64 ((a : Int) + 1))) := by
  have hO7 : Only (fun k => k = mb) w w7 := only_turned ht rfl
  have hN7 : NoB w (fun k => k = mb) := fun k cs fr hk e => by
    subst e
    obtain ⟨es, c, es', c', hb', _⟩ := ht
    rw [hb'] at hk
    cases hk
  have hf7 := hf.only hO7 hN7
  have hR7 : w7.heap[g]? = _ := (hO7.block g (Array.getElem?_eq_some_iff.1 hR).1 hgm).trans hR
  have hO8 : Only (fun k => k = g) w7 (w7.setCell ⟨g, 2, none⟩ (.int .i64 ((a : Int) + 1))) := only_set _ rfl
  have hN8 : NoB w7 (fun k => k = g) := fun k cs fr hk e => by
    subst e
    rw [hR7] at hk
    injection hk with hk
    injection hk with _ hk
    exact absurd hk (by decide)
  have hf8 := hf7.only hO8 hN8
  refine ⟨⟨?_, ha, _, by rw [hm]; exact hM7.only hO8 (fun e => hgm e.symm), fun i hi hai => ?_, fun k hk => ?_⟩, (hO7.mono (fun _ _ e => .inr e)).trans (hO8.mono (fun _ _ e => .inl e))⟩
  · rw [heap_setCell_same w7 g 2 _ _ _ hR7]
    rfl
  · rw [if_neg (by omega)]
    exact hf8.1 i hi (by omega)
  · show (if k = (a : Int) then none else f k) = none
    by_cases e : k = (a : Int)
    · rw [if_pos e]
    · rw [if_neg e]
      exact hf.2 k (by omega)

def AkR (w : World) (g mb S a N : Nat) (win : Int) (Bs : List (List Nat)) (wr : World) : Prop :=
  ∃ j : Nat, a + j ≤ N ∧ Hid (Snd wr g mb (S : Int) win (a + j) Bs) ∧ Only (fun k => k = g ∨ k = mb) w wr
def RetAck (w : World) (g mb S N : Nat) (win : Int) (Bs : List (List Nat)) (e : Ending) (w' : World) : Prop :=
  e = .returned (.int .i64 0) ∧ Snd w' g mb (S : Int) win N Bs ∧ Only (fun k => k = g ∨ k = mb) w w'

set_option maxRecDepth 100000 in
set_option maxHeartbeats 2000000 in
theorem ack_yes (g mb S a N : Nat) (win : Int) (Bs : List (List Nat)) (w : World) (h : Snd w g mb (S : Int) win a Bs) (hw : 1 ≤ win) (hl : Bs.length ≤ 1024) (h1 : a ≤ N) (h2 : N ≤ Bs.length) :
    Calls Try.prog 22 #[.pointer (some ⟨g, 0, none⟩), .int .i64 (N : Int)] w (RetAck w g mb S N win Bs) := by
  obtain ⟨c0, c1, c2, c3, c4, cf⟩ := snd_cells h
  have HN := Lib.hid (snone_live g win w c1 (by omega))
  have H0 := Lib.hid (show AkR w g mb S a N win Bs w from ⟨0, by omega, h, Only.refl _ _⟩)
  have i1 : decide (N < a) = false := by simp; omega
  have i2 : decide (Bs.length < N) = false := by simp; omega
  clear h cf
  go_enter Try.func22, Try.ntmps22
  go_wp2_with fail
  refine HN.out.mono ?_
  rintro e w1 ⟨rfl, rfl⟩
  go_wp2
  clear c0 c1 c2 c3 c4 i1 i2
  go_loopw [28] (fun _ wr => AkR w g mb S a N win Bs wr) (fun _ wr => (N + 1 - (intOf1 ((wr.cell? ⟨g, 2, none⟩).getD (.bool false))).toNat))
  case atStart => exact H0.out
  case round =>
    obtain ⟨j, hj, HS, hO⟩ := hrel
    obtain ⟨x, hx⟩ : ∃ x, x = a + j := ⟨_, rfl⟩
    rw [← hx] at hj HS
    obtain ⟨c0, c1, c2, c3, c4, cf⟩ := snd_cells HS.out
    have HX := Lib.hid hx
    have HOO := Lib.hid hO
    clear cf hO hx
    by_cases hlt : x < N
    · have i3 : (x : Int) < (N : Int) := by omega
      obtain ⟨hR, hal, f, hM, hSF⟩ := id HS.out
      obtain ⟨v, hfv, hv⟩ := hSF.1 x (by omega) (Nat.le_refl _)
      obtain ⟨m, hm⟩ := hM.pos uI hfv
      rw [hm] at hM
      have hgm := (snd_apart HS.out).1
      have HR := Lib.hid (And.intro hR (And.intro hM (And.intro hSF (And.intro hfv hm))))
      have HC := Lib.hid c2
      clear hR hM hSF hfv hm hv
      go_wp2
      go_still_tail 8, (by kernel_rfl)
      change wpList _ _ _ _ _ wr.drew
      go_wp2_with (at_delete
                   refine wpList_drop_raw rfl (.tmp 39) (.tmp 43) rfl uI uMB rfl (HR.out.2.1.same rfl) (x : Int) rfl (wfI (by omega) (by omega)) v HR.out.2.2.2.1 ?_)
      intro w7 hM7 ht
      have hR7 := (mapTurned_other ht hgm).trans HR.out.1
      have k2' : w7.cell? ⟨g, 2, none⟩ = some (.int .i64 (x : Int)) := cell_of_row _ _ _ _ _ _ hR7
      have f2' : w7.frozen? ⟨g, 2, none⟩ = false := by simp [World.frozen?, hR7]
      have HP := Lib.hid (snd_strike (w := wr.drew) (g := g) HR.out.1 hgm (by omega) (by have := HR.out.2.2.2.2; omega) HR.out.2.2.1 hM7 ht)
      clear hR7 hM7 ht c0 c1 c2 c3 c4
      go_wp2
      go_roundw
      case rel =>
        have hrel2 : AkR w g mb S a N win Bs (w7.setCell ⟨g, 2, none⟩ (.int .i64 ((x : Int) + 1))) := ⟨j + 1, by have := HX.out; omega, by rw [show a + (j + 1) = x + 1 from by have := HX.out; omega]; exact HP.out.1, (HOO.out.trans only_drew).trans HP.out.2⟩
        exact hrel2
      case measure =>
        have e2 : (w7.setCell ⟨g, 2, none⟩ (.int .i64 ((x : Int) + 1))).cell? ⟨g, 2, none⟩ = some (.int .i64 ((x : Int) + 1)) := World.cell?_setCell_same _ _ _ k2'
        rw [HC.out, e2]
        simp [intOf1]
        omega
    · have i3 : ¬ (x : Int) < (N : Int) := by omega
      have hxN : x = N := by omega
      go_wp2
      go_ret
      exact ⟨rfl, by rw [← hxN]; exact HS.out, HOO.out⟩

set_option maxRecDepth 100000 in
set_option maxHeartbeats 2000000 in
theorem ack_no (g mb S a : Nat) (N : Int) (win : Int) (Bs : List (List Nat)) (w : World) (h : Snd w g mb (S : Int) win a Bs) (hw : 1 ≤ win) (h1 : N < (a : Int) ∨ (Bs.length : Int) < N) :
    Calls Try.prog 22 #[.pointer (some ⟨g, 0, none⟩), .int .i64 N] w (fun e w' => e = .returned (.int .i64 2) ∧ w = w') := by
  obtain ⟨c0, c1, c2, c3, c4, cf⟩ := snd_cells h
  have HN := Lib.hid (snone_live g win w c1 (by omega))
  clear h cf
  by_cases h2 : N < (a : Int)
  · clear h1
    go_enter Try.func22, Try.ntmps22
    go_wp2_with fail
    refine HN.out.mono ?_
    rintro e w1 ⟨rfl, rfl⟩
    go_wp2
    go_ret
    exact ⟨rfl, rfl⟩
  · have h3 : (Bs.length : Int) < N := h1.resolve_left h2
    clear h1
    go_enter Try.func22, Try.ntmps22
    go_wp2_with fail
    refine HN.out.mono ?_
    rintro e w1 ⟨rfl, rfl⟩
    go_wp2
    go_ret
    exact ⟨rfl, rfl⟩
end Go.Proofs.Ytndgpgciccgapaa
