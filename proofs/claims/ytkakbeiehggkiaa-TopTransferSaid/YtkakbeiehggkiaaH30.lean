/-
  The sender: Ack, Offer.
  The sender: Offer.
  What stays where a sender's or a receiver's blocks turn: bytes, lists of frames, lists of datagrams.
-/
import Derived.Test.YtkakbeiehggkiaaH29
import Derived.Deep.RegionHeld3
import Derived.Deep.DrawnRows
import Derived.Test.YtkakbeiehggkiaaH18
import Derived.Test.YtkakbeiehggkiaaH21
import Derived.Test.YtkakbeiehggkiaaH28
import Derived.Test.YtkakbeiehggkiaaH14
namespace Go.Proofs.Ytkakbeiehggkiaa
open Go.RowKit Go.Maps
attribute [local go_sem ↓] Go.wp_at_zero Go.wp_at_succ

theorem snd_strike {w w7 : World} {g mb a m : Nat} {st win : Int} {Bs : List (List Nat)} {f : Int → Option Value} (hR : w.heap[g]? = some (.cells #[.int .i64 st, .int .i64 win, .int .i64 (a : Int), .int .i64 (Bs.length : Int), .map (some mb)] 99 (0, 0))) (hgm : g ≠ mb) (ha : a + 1 ≤ Bs.length) (hm : Bs.length - (a + 1) = m)
    (hf : SF w f a Bs) (hM7 : MapF Try.prog 3 w7 mb m (fun z => if z = (a : Int) then none else f z)) (ht : w.mapTurned w7 mb) :
    Snd (w7.setCell ⟨g, 2, none⟩ (.int .i64 ((a : Int) + 1))) g mb st win (a + 1) Bs ∧ Only (fun k => k = g ∨ k = mb) w (w7.setCell ⟨g, 2, none⟩ (.int .i64 ((a : Int) + 1))) := by
  have hO7 : Only (fun k => k = mb) w w7 := only_turned ht rfl
  have hN7 : NoB w (fun k => k = mb) := fun k cs fr hk e => by
    subst e
    obtain ⟨es, c, es', c', hb', _⟩ := ht
    rw [hb'] at hk
    cases hk
  have hf7 := hf.only hO7 hN7
  have hR7 : w7.heap[g]? = _ := (hO7.block g (Array.getElem?_eq_some_iff.1 hR).1 hgm).trans hR
  have hO8 : Only (fun k => k = g) w7 (w7.setCell ⟨g, 2, none⟩ (.int .i64 ((a : Int) + 1))) := only_set _ rfl
  have hN8 : NoB w7 (fun k => k = g) := fun k cs fr hk e => by
    subst e
    rw [hR7] at hk
    injection hk with hk
    injection hk with _ hk
    exact absurd hk (by decide)
  have hf8 := hf7.only hO8 hN8
  refine ⟨⟨?_, ha, _, by rw [hm]; exact hM7.only hO8 (fun e => hgm e.symm), fun i hi hai => ?_, fun k hk => ?_⟩, (hO7.mono (fun _ _ e => .inr e)).trans (hO8.mono (fun _ _ e => .inl e))⟩
  · rw [heap_setCell_same w7 g 2 _ _ _ hR7]
    rfl
  · rw [if_neg (by omega)]
    exact hf8.1 i hi (by omega)
  · show (if k = (a : Int) then none else f k) = none
    by_cases e : k = (a : Int)
    · rw [if_pos e]
    · rw [if_neg e]
      exact hf.2 k (by omega)

def AkR (w : World) (g mb S a N : Nat) (win : Int) (Bs : List (List Nat)) (wr : World) : Prop :=
  ∃ j : Nat, a + j ≤ N ∧ Hid (Snd wr g mb (S : Int) win (a + j) Bs) ∧ Only (fun k => k = g ∨ k = mb) w wr
def RetAck (w : World) (g mb S N : Nat) (win : Int) (Bs : List (List Nat)) (e : Ending) (w' : World) : Prop :=
  e = .returned (.int .i64 0) ∧ Snd w' g mb (S : Int) win N Bs ∧ Only (fun k => k = g ∨ k = mb) w w'

set_option maxRecDepth 100000 in
set_option maxHeartbeats 2000000 in
theorem ack_yes (g mb S a N : Nat) (win : Int) (Bs : List (List Nat)) (w : World) (h : Snd w g mb (S : Int) win a Bs) (hw : 1 ≤ win) (hl : Bs.length ≤ 1024) (h1 : a ≤ N) (h2 : N ≤ Bs.length) :
    Calls Try.prog 27 #[.pointer (some ⟨g, 0, none⟩), .int .i64 (N : Int)] w (RetAck w g mb S N win Bs) := by
  obtain ⟨c0, c1, c2, c3, c4, cf⟩ := snd_cells h
  have HN := Lib.hid (snone_live g win w c1 (by omega))
  have H0 := Lib.hid (show AkR w g mb S a N win Bs w from ⟨0, by omega, h, Only.refl _ _⟩)
  have i1 : decide (N < a) = false := by simp; omega
  have i2 : decide (Bs.length < N) = false := by simp; omega
  clear h cf
  go_enter Try.func27, Try.ntmps27
  go_wp2_with fail
  refine HN.out.mono ?_
  rintro e w1 ⟨rfl, rfl⟩
  go_wp2
  clear c0 c1 c2 c3 c4 i1 i2
  go_loopw [28] (fun _ wr => AkR w g mb S a N win Bs wr) (fun _ wr => (N + 1 - (intOf1 ((wr.cell? ⟨g, 2, none⟩).getD (.bool false))).toNat))
  case atStart => exact H0.out
  case round =>
    obtain ⟨j, hj, HS, hO⟩ := hrel
    obtain ⟨x, hx⟩ : ∃ x, x = a + j := ⟨_, rfl⟩
    rw [← hx] at hj HS
    obtain ⟨c0, c1, c2, c3, c4, cf⟩ := snd_cells HS.out
    have HX := Lib.hid hx
    have HOO := Lib.hid hO
    clear cf hO hx
    by_cases hlt : x < N
    · have i3 : (x : Int) < (N : Int) := by omega
      obtain ⟨hR, hal, f, hM, hSF⟩ := id HS.out
      obtain ⟨v, hfv, hv⟩ := hSF.1 x (by omega) (Nat.le_refl _)
      obtain ⟨m, hm⟩ := hM.pos uI hfv
      rw [hm] at hM
      have hgm := (snd_apart HS.out).1
      have HR := Lib.hid (And.intro hR (And.intro hM (And.intro hSF (And.intro hfv hm))))
      have HC := Lib.hid c2
      clear hR hM hSF hfv hm hv
      go_wp2
      go_still_tail 8, (by kernel_rfl)
      change wpList _ _ _ _ _ wr.drew
      go_wp2_with (at_delete
                   refine wpList_drop_raw rfl (.tmp 39) (.tmp 43) rfl uI uMB rfl (HR.out.2.1.same rfl) (x : Int) rfl (wfI (by omega) (by omega)) v HR.out.2.2.2.1 ?_)
      intro w7 hM7 ht
      have hR7 := (mapTurned_other ht hgm).trans HR.out.1
      have k2' : w7.cell? ⟨g, 2, none⟩ = some (.int .i64 (x : Int)) := cell_of_row _ _ _ _ _ _ hR7
      have f2' : w7.frozen? ⟨g, 2, none⟩ = false := by simp [World.frozen?, hR7]
      have HP := Lib.hid (snd_strike (w := wr.drew) (g := g) HR.out.1 hgm (by omega) (by have := HR.out.2.2.2.2; omega) HR.out.2.2.1 hM7 ht)
      clear hR7 hM7 ht c0 c1 c2 c3 c4
      go_wp2
      go_roundw
      case rel =>
        have hrel2 : AkR w g mb S a N win Bs (w7.setCell ⟨g, 2, none⟩ (.int .i64 ((x : Int) + 1))) := ⟨j + 1, by have := HX.out; omega, by rw [show a + (j + 1) = x + 1 from by have := HX.out; omega]; exact HP.out.1, (HOO.out.trans only_drew).trans HP.out.2⟩
        exact hrel2
      case measure =>
        have e2 : (w7.setCell ⟨g, 2, none⟩ (.int .i64 ((x : Int) + 1))).cell? ⟨g, 2, none⟩ = some (.int .i64 ((x : Int) + 1)) := World.cell?_setCell_same _ _ _ k2'
        rw [HC.out, e2]
        simp [intOf1]
        omega
    · have i3 : ¬ (x : Int) < (N : Int) := by omega
      have hxN : x = N := by omega
      go_wp2
      go_ret
      exact ⟨rfl, by rw [← hxN]; exact HS.out, HOO.out⟩

set_option maxRecDepth 100000 in
set_option maxHeartbeats 2000000 in
theorem ack_no (g mb S a : Nat) (N : Int) (win : Int) (Bs : List (List Nat)) (w : World) (h : Snd w g mb (S : Int) win a Bs) (hw : 1 ≤ win) (h1 : N < (a : Int) ∨ (Bs.length : Int) < N) :
    Calls Try.prog 27 #[.pointer (some ⟨g, 0, none⟩), .int .i64 N] w (fun e w' => e = .returned (.int .i64 2) ∧ w = w') := by
  obtain ⟨c0, c1, c2, c3, c4, cf⟩ := snd_cells h
  have HN := Lib.hid (snone_live g win w c1 (by omega))
  clear h cf
  by_cases h2 : N < (a : Int)
  · clear h1
    go_enter Try.func27, Try.ntmps27
    go_wp2_with fail
    refine HN.out.mono ?_
    rintro e w1 ⟨rfl, rfl⟩
    go_wp2
    go_ret
    exact ⟨rfl, rfl⟩
  · have h3 : (Bs.length : Int) < N := h1.resolve_left h2
    clear h1
    go_enter Try.func27, Try.ntmps27
    go_wp2_with fail
    refine HN.out.mono ?_
    rintro e w1 ⟨rfl, rfl⟩
    go_wp2
    go_ret
    exact ⟨rfl, rfl⟩
end Go.Proofs.Ytkakbeiehggkiaa

namespace Go.Proofs.Ytkakbeiehggkiaa
open Go.RowKit Go.Maps
attribute [local go_sem ↓] Go.wp_at_zero Go.wp_at_succ

def offE (win : Int) (a len xl : Nat) : Int := if 1024 < xl then 2 else if win ≤ (len : Int) - (a : Int) then 29 else 0
def RetOffBad (w : World) (ce : Int) (e : Ending) (w' : World) : Prop := e = .returned (.tuple #[.agg #[.int .i64 0, .int .i64 0, .slice none 0 0], .int .i64 ce]) ∧ Below w.heap.size w w'
set_option maxRecDepth 100000 in
theorem validSeq_yes (n : Int) (w : World) (h1 : 0 ≤ n) (h2 : n ≤ 4294967295) : Calls Try.prog 53 #[.int .i64 n] w fun e w' => e = .returned (.bool true) ∧ w' = w := by
  go_enter Try.func53, Try.ntmps53
  go_wp2
  go_ret
  exact ⟨by simp [h2], rfl⟩

set_option maxRecDepth 100000 in
set_option maxHeartbeats 2000000 in
theorem offer_long (g mb S a : Nat) (win : Int) (Bs : List (List Nat)) (A : Option Addr) (n c : Nat) (w : World) (h : Snd w g mb (S : Int) win a Bs) (hw : 1 ≤ win) (hn : 1024 < n) :
    Calls Try.prog 24 #[.pointer (some ⟨g, 0, none⟩), .slice A n c] w (RetOffBad w 2) := by
  obtain ⟨W0, HW0, hw0, HG, z0⟩ := U0ex w
  obtain ⟨c0, c1, c2, c3, c4, cf⟩ := snd_cells (snd_below h hw0)
  have HN := Lib.hid (snone_live g win W0 c1 (by omega))
  obtain ⟨k0, k1, k2, kf⟩ := fr_blk HG.out (Below.refl _ _)
  have i1 : (1024 : Int) < (n : Int) := by omega
  clear h cf
  go_enter Try.func24, Try.ntmps24
  go_wp2_with fail
  rw [← HW0.out]
  refine HN.out.mono ?_
  rintro e w1 ⟨rfl, rfl⟩
  go_wp2
  refine bodyPost_ret (v := .tuple #[.agg #[.int .i64 0, .int .i64 0, .slice none 0 0], .int .i64 2]) (by simp [results, Try.results24, go_sem, k0, k1, k2]) rfl ⟨rfl, ?_⟩
  first | exact set3_below hw0 (Nat.le_refl _) | exact hw0

set_option maxRecDepth 100000 in
set_option maxHeartbeats 2000000 in
theorem offer_full (g mb S a : Nat) (win : Int) (Bs : List (List Nat)) (A : Option Addr) (n c : Nat) (w : World) (h : Snd w g mb (S : Int) win a Bs) (hw : 1 ≤ win) (hn : n ≤ 1024) (hl : Bs.length ≤ 1024) (hf : win ≤ (Bs.length : Int) - (a : Int)) :
    Calls Try.prog 24 #[.pointer (some ⟨g, 0, none⟩), .slice A n c] w (RetOffBad w 29) := by
  obtain ⟨W0, HW0, hw0, HG, z0⟩ := U0ex w
  have hS0 := snd_below h hw0
  obtain ⟨c0, c1, c2, c3, c4, cf⟩ := snd_cells hS0
  have HN := Lib.hid (snone_live g win W0 c1 (by omega))
  obtain ⟨k0, k1, k2, kf⟩ := fr_blk HG.out (Below.refl _ _)
  have i1 : ¬ (1024 : Int) < (n : Int) := by omega
  obtain ⟨_, hal, f, hM, hSF⟩ := hS0
  obtain ⟨m, hm⟩ : ∃ m, m = Bs.length - a := ⟨_, rfl⟩
  rw [← hm] at hM
  have hlen := fun ty => (hM.same (w' := W0.drew) rfl).len uMB ty
  have i2 : win ≤ (m : Int) := by omega
  clear h cf hM hSF hm
  go_enter Try.func24, Try.ntmps24
  go_wp2_with fail
  rw [← HW0.out]
  refine HN.out.mono ?_
  rintro e w1 ⟨rfl, rfl⟩
  go_wp2_with fail
  have d1 : decide (win ≤ (m : Int)) = true := by simpa using i2
  go_region
  go_wp2
  refine bodyPost_ret (v := .tuple #[.agg #[.int .i64 0, .int .i64 0, .slice none 0 0], .int .i64 29]) (by simp [results, Try.results24, go_sem, k0, k1, k2]) rfl ⟨rfl, ?_⟩
  first | exact set3_below hw0.drew (Nat.le_refl _) | exact hw0.drew | exact hw0 | exact ⟨hw0.os, hw0.tape, hw0.output, hw0.size, hw0.block⟩

theorem snd_put {w3 w4 : World} {g mb a m : Nat} {st win : Int} {Bs : List (List Nat)} {f : Int → Option Value} {X : List Nat} {v3 : Value} (hR : w3.heap[g]? = some (.cells #[.int .i64 st, .int .i64 win, .int .i64 (a : Int), .int .i64 (Bs.length : Int), .map (some mb)] 99 (0, 0))) (hgm : g ≠ mb) (ha : a ≤ Bs.length) (hm : Bs.length - a = m)
    (hf : SF w3 f a Bs) (hv : Bd w3 v3 X) (hM4 : MapF Try.prog 3 w4 mb (m + 1) (fun z => if z = (Bs.length : Int) then some v3 else f z)) (ht : w3.mapTurned w4 mb) :
    Snd (w4.setCell ⟨g, 3, none⟩ (.int .i64 ((Bs.length : Int) + 1))) g mb st win a (Bs ++ [X]) ∧ Only (fun k => k = g ∨ k = mb) w3 (w4.setCell ⟨g, 3, none⟩ (.int .i64 ((Bs.length : Int) + 1))) := by
  have hO7 : Only (fun k => k = mb) w3 w4 := only_turned ht rfl
  have hN7 : NoB w3 (fun k => k = mb) := fun k cs fr hk e => by
    subst e
    obtain ⟨es, c, es', c', hb', _⟩ := ht
    rw [hb'] at hk
    cases hk
  have hf7 := hf.only hO7 hN7
  have hv7 := hv.only hO7 hN7
  have hR7 : w4.heap[g]? = _ := (hO7.block g (Array.getElem?_eq_some_iff.1 hR).1 hgm).trans hR
  have hO8 : Only (fun k => k = g) w4 (w4.setCell ⟨g, 3, none⟩ (.int .i64 ((Bs.length : Int) + 1))) := only_set _ rfl
  have hN8 : NoB w4 (fun k => k = g) := fun k cs fr hk e => by
    subst e
    rw [hR7] at hk
    injection hk with hk
    injection hk with _ hk
    exact absurd hk (by decide)
  have hf8 := hf7.only hO8 hN8
  have hv8 := hv7.only hO8 hN8
  have hl : (Bs ++ [X]).length = Bs.length + 1 := by simp
  refine ⟨⟨?_, by omega, _, by rw [hl, show Bs.length + 1 - a = m + 1 by omega]; exact hM4.only hO8 (fun e => hgm e.symm), fun i hi hai => ?_, fun k hk => ?_⟩, (hO7.mono (fun _ _ e => .inr e)).trans (hO8.mono (fun _ _ e => .inl e))⟩
  · rw [heap_setCell_same w4 g 3 _ _ _ hR7, hl]
    push_cast
    rfl
  · by_cases e : i = Bs.length
    · subst e
      rw [if_pos rfl]
      exact ⟨v3, rfl, by simpa using hv8⟩
    · have hlt : i < Bs.length := by omega
      rw [if_neg (by omega), List.getElem_append_left hlt]
      exact hf8.1 i hlt hai
  · rw [hl] at hk
    show (if k = (Bs.length : Int) then some v3 else f k) = none
    rw [if_neg (by omega)]
    exact hf.2 k (by omega)

def RetOff (w : World) (g mb S a : Nat) (win : Int) (Bs : List (List Nat)) (X : List Nat) (e : Ending) (w' : World) : Prop :=
  ∃ v, e = .returned (.tuple #[.agg #[.int .i64 (S : Int), .int .i64 (Bs.length : Int), v], .int .i64 0]) ∧ Bd w' v X ∧ Snd w' g mb (S : Int) win a (Bs ++ [X]) ∧ Only (fun k => k = g ∨ k = mb) w w'

set_option maxRecDepth 100000 in
set_option maxHeartbeats 4000000 in
theorem offer_ok (g mb S a : Nat) (win : Int) (Bs : List (List Nat)) (X : List Nat) (A : Option Addr) (n c B : Nat) (w : World) (h : Snd w g mb (S : Int) win a Bs) (hw : 1 ≤ win) (hx : RB w B (.slice A n c) X) (hB : B ≤ w.heap.size) (hn : n ≤ 1024) (hl : Bs.length ≤ 1000) (hf : (Bs.length : Int) - (a : Int) < win) :
    Calls Try.prog 24 #[.pointer (some ⟨g, 0, none⟩), .slice A n c] w (RetOff w g mb S a win Bs X) := by
  obtain ⟨W0, HW0, hw0, HG, z0⟩ := U0ex w
  have hap := snd_apart h
  have hS0 := snd_below h hw0
  obtain ⟨c0, c1, c2, c3, c4, cf⟩ := snd_cells hS0
  have HN := Lib.hid (snone_live g win W0 c1 (by omega))
  obtain ⟨k0, k1, k2, kf⟩ := fr_blk HG.out (Below.refl _ _)
  have i1 : ¬ (1024 : Int) < (n : Int) := by omega
  obtain ⟨hR0, hal, f, hM, hSF⟩ := id hS0
  obtain ⟨m, hm⟩ : ∃ m, m = Bs.length - a := ⟨_, rfl⟩
  have hm' := hm
  rw [← hm] at hM
  obtain ⟨nb, hnb⟩ : ∃ nb, nb = Bs.length := ⟨_, rfl⟩
  rw [← hnb] at c3 hl
  have hlen := fun ty => (hM.same (w' := W0.drew) rfl).len uMB ty
  have hfn : f (nb : Int) = none := hSF.2 _ (by omega)
  have i2 : ¬ win ≤ (m : Int) := by omega
  have d1 : decide (win ≤ (m : Int)) = false := by simpa using i2
  have HH := Lib.hid (And.intro hR0 (And.intro hal (And.intro hM (And.intro hSF (And.intro hfn (And.intro hm hnb))))))
  have HX := Lib.hid (And.intro (hx.belowM hw0 hB) (And.intro (Nat.le_trans hB hw0.size) hx.1.len))
  have HV := Lib.hid (validSeq_yes (nb : Int) W0.drew (by omega) (by omega))
  have K1 := Lib.hid (And.intro c3 (And.intro c1 (And.intro c4 hlen)))
  have hmn : m < maxLen := by unfold maxLen; omega
  clear h cf hM hSF hm hm' hR0 hfn hnb hS0 hal hx i2 hf
  go_enter Try.func24, Try.ntmps24
  go_wp2_with fail
  rw [← HW0.out]
  refine HN.out.mono ?_
  rintro e w1 ⟨rfl, rfl⟩
  go_wp2_with fail
  go_region_held3 (fun w' => w'.cell? ⟨g, 3, none⟩ = some (.int .i64 (nb : Int)) ∧ w'.cell? ⟨g, 1, none⟩ = some (.int .i64 win) ∧ w'.cell? ⟨g, 4, none⟩ = some (.map (some mb)) ∧ ∀ ty, (Builtin.len_ #[97] ty #[.map (some mb)]).run Try.prog w' = .ok (.int .i64 (m : Int)) w')
    (first | exact K1.out | go_keep)
    (first
      | (go_at_call 53
         refine HV.out.mono ?_
         rintro e w3 ⟨rfl, rfl⟩))
  go_wp2_with fail
  have HM := Lib.hid (fun (w' : World) (hb : Below W0.heap.size W0 w') => HH.out.2.2.1.only (S := fun _ => False) (only_below hb) (fun h => h))
  have hgl := World.block_lt_of_cell? _ _ c4
  have HC4 := Lib.hid (fun (w' : World) (hb : Below W0.heap.size W0 w') => (hb.cell (p := ⟨g, 4, none⟩) hgl).trans c4)
  have hgm := hap.1
  go_region_held3 (fun w' => w'.cell? ⟨g, 4, none⟩ = some (.map (some mb)))
    (first | with_reducible exact K4.out | with_reducible exact K3.out | exact c4 | go_keep)
    (first
      | (go_at_call 60
         refine (clone_any X (.slice A n c) B _ (by exact ⟨HX.out.1.1.drew.drew, HX.out.1.2⟩) (by exact HX.out.2.1) (by have := HX.out.2.2; omega)).mono ?_
         rintro e w3 ⟨v3, rfl, o3, b3⟩
         have f3 : Below W0.heap.size W0 w3 := below_un (below_un b3)
         obtain ⟨A3, c3', e3⟩ := (rb_of_owns o3).2.form
         subst e3
         have F3 := Lib.hid f3
         have K3 := Lib.hid (HC4.out w3 f3)
         obtain ⟨w4, hrun, hM4, ht⟩ := (HM.out w3 f3).put uI uMB hmn (wfI (k := (nb : Int)) (by omega) (by omega)) HH.out.2.2.2.2.1 (.slice A3 X.length c3')
         have HP := Lib.hid (And.intro hM4 (And.intro ht o3))
         have K4 := Lib.hid ((World.cell?_of_block (w := w3) (a := ⟨g, 4, none⟩) (mapTurned_other ht hgm)).trans K3.out)
         clear hM4 ht o3 b3 f3))
  have hR3 := (F3.out.block g hgl).trans HH.out.1
  have hR4 := (mapTurned_other HP.out.2.1 hgm).trans hR3
  have e3' : w4.cell? ⟨g, 3, none⟩ = some (.int .i64 (nb : Int)) := by rw [HH.out.2.2.2.2.2.2]; exact cell_of_row _ _ _ _ _ _ hR4
  have e3f : w4.frozen? ⟨g, 3, none⟩ = false := by simp [World.frozen?, hR4]
  have HS5 := Lib.hid (snd_put (X := X) hR3 hgm HH.out.2.1 HH.out.2.2.2.2.2.1.symm (HH.out.2.2.2.1.only (S := fun _ => False) (only_below F3.out) (fun _ _ _ _ h => h)) (bd_owns HP.out.2.2) (by rw [← HH.out.2.2.2.2.2.2]; exact HP.out.1) HP.out.2.1)
  clear hrun hR3 hR4
  go_wp2_with fail
  have hi5 : nb < (Bs ++ [X]).length := by rw [List.length_append, ← HH.out.2.2.2.2.2.2]; simp
  have hX5 : (Bs ++ [X])[nb]'hi5 = X := by rw [List.getElem_append_right (by have := HH.out.2.2.2.2.2.2; omega)]; simp
  refine (frame_any g mb (S : Int) win a nb (Bs ++ [X]) _ (by rw [HH.out.2.2.2.2.2.2]; exact HS5.out.1) hi5 (by have := HH.out.2.2.2.2.2.2; have := HH.out.2.1; omega) (by have := HH.out.2.2.2.2.2.2; simp; omega) (by rw [hX5]; have := HX.out.2.2; omega)).mono ?_
  rintro e w6 ⟨v6, rfl, hB6, hb6⟩
  rw [hX5] at hB6
  obtain ⟨A6, c6, e6⟩ := (bd_rb hB6).form
  subst e6
  have hz3 : w.heap.size < w3.heap.size := Nat.lt_of_lt_of_le z0 F3.out.size
  have hz5 : w.heap.size < (w4.setCell ⟨g, 3, none⟩ (.int .i64 ((nb : Int) + 1))).heap.size := Nat.lt_of_lt_of_le hz3 (by rw [HH.out.2.2.2.2.2.2]; exact HS5.out.2.size)
  have hG3 := (F3.out.block _ z0).trans HG.out
  have hG5 := (HS5.out.2.block w.heap.size hz3 (by have := hap.2; omega)).trans hG3
  rw [← HH.out.2.2.2.2.2.2] at hG5
  have hG6 := (hb6.block _ hz5).trans hG5
  have HG6 := Lib.hid hG6
  obtain ⟨d0, d1, d2, df⟩ := fr_blk (set3_heap (x := .int .i64 (S : Int)) (y := .int .i64 (nb : Int)) (z := .slice A6 X.length c6) HG6.out) (Below.refl _ _)
  obtain ⟨q0, q1, q2, qf⟩ := fr_blk HG6.out (Below.refl _ _)
  clear hG3 hG5 hG6 k0 k1 k2 kf
  go_wp2
  have hO6 : Only (fun k => k = g ∨ k = mb ∨ w.heap.size ≤ k) w w6 := ((only_below (hw0.trans (F3.out.mono hw0.size))).trans ((HS5.out.2.mono (fun k _ h => h.elim Or.inl (fun h => .inr (.inl h)))).trans (by rw [← HH.out.2.2.2.2.2.2]; exact only_below hb6)))
  have hO7 : ∀ z, Only (fun k => k = w.heap.size) w6 (((w6.setCell ⟨w.heap.size, 0, none⟩ (.int .i64 (S : Int))).setCell ⟨w.heap.size, 1, none⟩ (.int .i64 (nb : Int))).setCell ⟨w.heap.size, 2, none⟩ z) := fun z => ((only_set (S := fun k => k = w.heap.size) (p := ⟨w.heap.size, 0, none⟩) _ rfl).trans (only_set (S := fun k => k = w.heap.size) (p := ⟨w.heap.size, 1, none⟩) _ rfl)).trans (only_set (S := fun k => k = w.heap.size) (p := ⟨w.heap.size, 2, none⟩) z rfl)
  have hN7 : NoB w6 (fun k => k = w.heap.size) := fun k cs fr hk e => by
    subst e
    rw [HG6.out] at hk
    injection hk with hk
    injection hk with _ hk
    exact absurd hk (by decide)
  have hS6 : Snd w6 g mb (S : Int) win a (Bs ++ [X]) := snd_below HS5.out.1 (by rw [← HH.out.2.2.2.2.2.2]; exact hb6)
  refine bodyPost_ret (v := .tuple #[.agg #[.int .i64 (S : Int), .int .i64 (nb : Int), .slice A6 X.length c6], .int .i64 0]) (by simp [results, Try.results24, go_sem, d0, d1, d2]) rfl ⟨_, by rw [HH.out.2.2.2.2.2.2], bd_set3 HG6.out (by decide) hB6, snd_only hS6 (hO7 _) hN7 (by have := hap.2; omega) (by have := hap.2; omega), ?_⟩
  exact (hO6.trans ((hO7 _).mono (fun k _ h => .inr (.inr (by omega))))).mono (fun k hk h => h.elim Or.inl (fun h => h.elim Or.inr (fun h => by omega)))
end Go.Proofs.Ytkakbeiehggkiaa

namespace Go.Proofs.Ytkakbeiehggkiaa
open Go.RowKit Go.Maps

/-- No byte lies in these blocks. -/
def NoU (w : World) (S : Nat → Prop) : Prop := ∀ k o x, S k → w.cell? ⟨k, o, none⟩ ≠ some (.int .u8 x)
theorem rb_only {w w' : World} {S : Nat → Prop} {B : Nat} {v : Value} {X : List Nat} (h : RB w B v X) (hO : Only S w w') (hS : NoU w S) : RB w' B v X := by
  obtain ⟨⟨A, c, e, h1, h2, h3⟩, hn⟩ := h
  refine ⟨⟨A, c, e, h1, h2, fun h0 => ?_⟩, hn⟩
  obtain ⟨b, o, e2, hb, hc⟩ := h3 h0
  refine ⟨b, o, e2, hb, fun j hj => ?_⟩
  have hj' := hc j hj
  have hlt : b < w.heap.size := World.block_lt_of_cell? _ _ hj'
  have : w'.heap[b]? = w.heap[b]? := hO.block b hlt (fun hSb => hS b _ _ hSb hj')
  rw [← hj']
  simp [World.cell?, this]
theorem rcv_nou {w : World} {g mb N : Nat} {st win nx : Int} {F : Hf} (h : Rcv w g mb N st win nx F) : NoU w (fun k => k = g ∨ k = mb) := by
  rintro k o x (rfl | rfl) hc
  · rw [cell_of_row _ _ _ _ _ _ h.1] at hc
    match o, hc with
    | 0, hc => simp at hc
    | 1, hc => simp at hc
    | 2, hc => simp at hc
    | 3, hc => simp at hc
    | o + 4, hc => simp at hc
  · obtain ⟨_, f, hm, _⟩ := h
    obtain ⟨es, c, hb⟩ := hm.block
    simp [World.cell?, hb] at hc
theorem snd_nou {w : World} {g mb : Nat} {st win : Int} {a : Nat} {Bs : List (List Nat)} (h : Snd w g mb st win a Bs) : NoU w (fun k => k = g ∨ k = mb) := by
  rintro k o x (rfl | rfl) hc
  · rw [cell_of_row _ _ _ _ _ _ h.1] at hc
    match o, hc with
    | 0, hc => simp at hc
    | 1, hc => simp at hc
    | 2, hc => simp at hc
    | 3, hc => simp at hc
    | 4, hc => simp at hc
    | o + 5, hc => simp at hc
  · obtain ⟨_, _, f, hm, _⟩ := h
    obtain ⟨es, c, hb⟩ := hm.block
    simp [World.cell?, hb] at hc
/-- No row of this type lies in these blocks. -/
def NoT (w : World) (S : Nat → Prop) (T : TypeId) : Prop := ∀ k cs, w.heap[k]? = some (.cells cs T (0, 0)) → ¬ S k
theorem rcv_not {w : World} {g mb N : Nat} {st win nx : Int} {F : Hf} (h : Rcv w g mb N st win nx F) {T : TypeId} (hT : T ≠ 89) : NoT w (fun k => k = g ∨ k = mb) T := by
  rintro k cs hk (rfl | rfl)
  · rw [h.1] at hk
    injection hk with hk
    injection hk with _ hk
    exact hT hk.symm
  · obtain ⟨_, f, hm, _⟩ := h
    obtain ⟨es, c, hb⟩ := hm.block
    rw [hb] at hk
    cases hk
theorem snd_not {w : World} {g mb : Nat} {st win : Int} {a : Nat} {Bs : List (List Nat)} (h : Snd w g mb st win a Bs) {T : TypeId} (hT : T ≠ 99) : NoT w (fun k => k = g ∨ k = mb) T := by
  rintro k cs hk (rfl | rfl)
  · rw [h.1] at hk
    injection hk with hk
    injection hk with _ hk
    exact hT hk.symm
  · obtain ⟨_, _, f, hm, _⟩ := h
    obtain ⟨es, c, hb⟩ := hm.block
    rw [hb] at hk
    cases hk
theorem frs_only {w w' : World} {S : Nat → Prop} {base : Nat} {v : Value} {Fs : List Fr} (h : FrS w base v Fs) (hO : Only S w w') (hU : NoU w S) (hT : NoT w S 35) : FrS w' base v Fs := by
  obtain ⟨vs, h1, h2, h3⟩ := h
  refine ⟨vs, h1, hO.own h2 (fun k hk => ?_), fun i hi hi' => ?_⟩
  · obtain ⟨_, _, cs, hc⟩ := own_block h2 hk
    exact hT k cs hc
  · obtain ⟨r1, r2⟩ := h3 i hi hi'
    exact ⟨(rb_only r1 hO hU).more hO.size, r2⟩
theorem dcs_only' {w w' : World} {S : Nat → Prop} {lb eb : Nat} {v : Value} {ps : List (Value × List Nat)} (h : Dcs w lb eb v ps) (hO : Only S w w') (hB : NoT w S 5) (hT : NoT w S 33) : Dcs w' lb eb v ps := by
  refine ⟨hO.own h.own (fun k hk => ?_), fun p hp => (h.els p hp).only hO (fun k hk => ?_)⟩
  · obtain ⟨_, _, cs, hc⟩ := own_block h.own hk
    exact hT k cs hc
  · obtain ⟨_, _, cs, hc⟩ := own_block (h.els p hp).1 hk
    exact hB k cs hc
/-- The program's list of datagrams, as the document's. -/
theorem dcs_chs {w : World} {base : Nat} {v : Value} {ps : List (Value × List Nat)} (h : Chs w base v ps) : Dcs w base base v ps := by
  obtain ⟨⟨g, c, cur, e, hb, hg, hs, hn, hc, hcur⟩, hels, _⟩ := h
  refine ⟨⟨by simp, .inr ⟨g, c, cur, e, hb, hg, hn, hc, by omega, ?_⟩⟩, hels⟩
  apply List.ext_getElem?
  intro j
  rw [Nat.mul_one, List.getElem?_take, List.getElem?_map]
  by_cases hj : j < ps.length
  · rw [if_pos hj, Array.getElem?_toList, hcur j hj]
  · rw [if_neg hj, List.getElem?_eq_none (by omega)]
    rfl
/-- One frame of a list, read. -/
theorem frs_at {w : World} {base : Nat} {v : Value} {Fs : List Fr} (h : FrS w base v Fs) (i : Nat) (hi : i < Fs.length) : ∃ g c A' c', v = .slice (some ⟨g, 0, none⟩) Fs.length c ∧ g < w.heap.size ∧ w.cell? ⟨g, i * 3, none⟩ = some (.int .i64 ((Fs[i]'hi).1 : Int)) ∧ w.cell? ⟨g, i * 3 + 1, none⟩ = some (.int .i64 ((Fs[i]'hi).2.1 : Int)) ∧
    w.cell? ⟨g, i * 3 + 2, none⟩ = some (.slice A' (Fs[i]'hi).2.2.length c') ∧ RB w w.heap.size (.slice A' (Fs[i]'hi).2.2.length c') (Fs[i]'hi).2.2 := by
  obtain ⟨vs, h1, h2, h3⟩ := h
  have hv : i < vs.length := by omega
  obtain ⟨q1, q2, q3⟩ := frC_get Fs vs i hi h1
  have hr := (h3 i hi hv).1
  obtain ⟨A', c', e⟩ := hr.form
  obtain ⟨_, ⟨e0, h0⟩ | ⟨g, c, cur, e1, hb, hg, _⟩⟩ := id h2
  · omega
  · subst e1
    refine ⟨g, c, A', c', rfl, (Array.getElem?_eq_some_iff.1 hg).1, ?_, ?_, ?_, by rw [← e]; exact hr⟩
    · exact (h2.cellAt (i * 3) (by omega)).trans q1
    · exact (h2.cellAt (i * 3 + 1) (by omega)).trans q2
    · rw [← e]; exact (h2.cellAt (i * 3 + 2) (by omega)).trans q3
theorem frs_form {w : World} {base : Nat} {v : Value} {Fs : List Fr} (h : FrS w base v Fs) : ∃ A c, v = .slice A Fs.length c := by
  obtain ⟨vs, h1, ⟨_, ⟨e, h0⟩ | ⟨g, c, cur, e, _⟩⟩, _⟩ := h
  · exact ⟨none, 0, by rw [e, h0]⟩
  · exact ⟨_, _, e⟩
end Go.Proofs.Ytkakbeiehggkiaa
