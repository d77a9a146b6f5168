/-
  The finder: rising and falling.
-/
import Derived.Test.YtndgpgciccgapaaVFind
import Derived.StillTailTactics
namespace Go.Proofs.Ytndgpgciccgapaa
open Go.RowKit

/-- The finder's state. -/
structure Fs where
  fall : Bool
  e : Eo
  va : Nat
  R : List Eo
/-- What one sample makes of it. -/
def stF (zs : List Int) (drop : Int) (S : Fs) (i : Nat) : Fs :=
  if S.fall then
    if ith zs i < ith zs S.va then ⟨true, S.e, i, S.R⟩
    else if ith zs S.va + drop ≤ ith zs i then ⟨false, ⟨S.va, 0, i, ith zs S.va + drop, 0⟩, S.va, S.R ++ [⟨S.e.fr, S.va, S.e.pk, S.e.lv, ith zs S.e.pk⟩]⟩
    else S
  else
    if ith zs S.e.pk < ith zs i then ⟨false, ⟨S.e.fr, S.e.to, i, S.e.lv, S.e.tp⟩, S.va, S.R⟩
    else if ith zs i ≤ ith zs S.e.pk - drop then ⟨true, S.e, i, S.R⟩
    else S
def FdS (w : World) (gb : Nat) (sv : Value) (drop : Int) (S : Fs) : Prop := ∃ fv va, (S.fall = true → va = S.va) ∧ FdW w gb sv drop (stV gb S.fall) S.e va fv S.R
def RetFs (w : World) (gb : Nat) (sv : Value) (drop : Int) (S : Fs) (en : Ending) (w' : World) : Prop :=
  en = .returned (.tuple #[]) ∧ FdS w' gb sv drop S ∧ Fr gb w w'

set_option maxRecDepth 100000 in
set_option maxHeartbeats 1000000 in
theorem rising_ok {w : World} {gb : Nat} {drop : Int} {S : Fs} {zs : List Int} {A : Option Addr} {n c B : Nat} (h : FdS w gb (.slice A n c) drop S) (hx : IW w B (.slice A n c) zs) (hB : B ≤ gb) (hp : S.e.pk < n) (hS : S.fall = false) (hd : 1 ≤ drop ∧ drop ≤ 1023) (hok : okZ zs) (i : Nat) (hi : i < n) :
    Calls Try.prog 119 #[.pointer (some ⟨gb, 0, none⟩), .int .i64 (i : Int)] w (RetFs w gb (.slice A n c) drop (stF zs drop S i)) := by
  obtain ⟨fv, va, _, h⟩ := h
  obtain ⟨fall, ⟨fr, to, pk, lv, tp⟩, vs, R⟩ := S
  simp only at hS hp h
  subst hS
  have hl := hx.len
  have b1 := hok.ith (j := pk) (by omega)
  have b2 := hok.ith (j := i) (by omega)
  obtain ⟨b, o, rfl, hb, hc⟩ := hx.at_ (by omega)
  have hck := hc _ hp
  have hci := hc _ hi
  have hbg : b < gb := by omega
  have hcap := hx.cap
  unfold maxLen at hcap
  obtain ⟨c0, c1, c2, c3, c4, c5, c6, c7, c8, c9, fz⟩ := h.cells
  have H := Lib.hid h
  have HL := Lib.hid hl
  simp only at *
  unfold stF
  simp only [Bool.false_eq_true, if_false]
  obtain ⟨tp', htp⟩ : ∃ t, ith zs pk = t := ⟨_, rfl⟩
  obtain ⟨s, hs⟩ : ∃ t, ith zs i = t := ⟨_, rfl⟩
  rw [htp] at b1 hck
  rw [hs] at b2 hci
  rw [htp, hs]
  have HE := Lib.hid (And.intro htp hs)
  clear h hx hc hl htp hs c3 c4 c6 c7 c9
  by_cases h1 : tp' < s
  · rw [if_pos h1]
    go_enter Try.func119, Try.ntmps119
    go_wp2
    go_region
    go_wp2
    go_end0
    exact ⟨rfl, ⟨fv, va, fun h => absurd h (by simp), H.out.setPk i⟩, ((Fr.refl gb w).set H.out 5 _).drew⟩
  · rw [if_neg h1]
    by_cases h2 : s ≤ tp' - drop
    · rw [if_pos h2]
      go_enter Try.func119, Try.ntmps119
      go_wp2
      go_region
      go_wp2
      go_end0
      exact ⟨rfl, ⟨fv, i, fun _ => rfl, (H.out.setVa i).setSt _⟩, (((Fr.refl gb w).set H.out 8 _).set (H.out.setVa i) 2 _).drew⟩
    · rw [if_neg h2]
      go_enter Try.func119, Try.ntmps119
      go_wp2
      go_region
      go_wp2
      go_end0
      exact ⟨rfl, ⟨fv, va, fun h => absurd h (by simp), H.out⟩, (Fr.refl gb w).drew⟩

set_option maxRecDepth 100000 in
set_option maxHeartbeats 1000000 in
theorem falling_ok {w : World} {gb : Nat} {drop : Int} {S : Fs} {zs : List Int} {A : Option Addr} {n c B : Nat} (h : FdS w gb (.slice A n c) drop S) (hx : IW w B (.slice A n c) zs) (hB : B ≤ gb) (hp : S.e.pk < n) (hv : S.va < n) (hR : S.R.length ≤ 256) (hS : S.fall = true) (hd : 1 ≤ drop ∧ drop ≤ 1023) (hok : okZ zs) (i : Nat) (hi : i < n) :
    Calls Try.prog 124 #[.pointer (some ⟨gb, 0, none⟩), .int .i64 (i : Int)] w (RetFs w gb (.slice A n c) drop (stF zs drop S i)) := by
  obtain ⟨fv, va', hva, h⟩ := h
  obtain ⟨fall, ⟨fr, to, pk, lv, tp⟩, va, R⟩ := S
  simp only at hva hS
  obtain rfl : va = va' := (hva hS).symm
  simp only at hS hp h hv hR
  subst hS
  have hl := hx.len
  have b1 := hok.ith (j := va) (by omega)
  have b2 := hok.ith (j := i) (by omega)
  have E1 : ∀ wx, Below gb w wx → FdW wx gb (.slice A n c) drop (stV gb true) ⟨fr, to, pk, lv, tp⟩ va fv R → Calls Try.prog 111 #[.pointer (some ⟨gb, 0, none⟩), .int .i64 (va : Int)] wx (RetFd wx gb (.slice A n c) drop (stV gb true) ⟨fr, va, pk, lv, ith zs pk⟩ va (R ++ [⟨fr, va, pk, lv, ith zs pk⟩])) := fun wx hb h => end_ok h (hx.belowM hb hB) hB hp hR va
  obtain ⟨b, o, rfl, hb, hc⟩ := hx.at_ (by omega)
  have hcv := hc _ hv
  have hci := hc _ hi
  have hbg : b < gb := by omega
  have hcap := hx.cap
  unfold maxLen at hcap
  obtain ⟨c0, c1, c2, c3, c4, c5, c6, c7, c8, c9, fz⟩ := h.cells
  have E2 := E1 w.drew (Below.refl gb w).drew h
  have H := Lib.hid h
  have HL := Lib.hid hl
  simp only at *
  unfold stF
  simp only [if_true]
  obtain ⟨le, hle⟩ : ∃ t, ith zs va = t := ⟨_, rfl⟩
  obtain ⟨s, hs⟩ : ∃ t, ith zs i = t := ⟨_, rfl⟩
  rw [hle] at b1 hcv
  rw [hs] at b2 hci
  rw [hle, hs]
  have HE := Lib.hid (And.intro hle hs)
  clear h hx hc hl hle hs c3 c4 c6 c7 c9 E1
  by_cases h1 : s < le
  · rw [if_pos h1]
    clear E2
    go_enter Try.func124, Try.ntmps124
    go_wp2
    go_region
    go_wp2
    go_end0
    exact ⟨rfl, ⟨fv, i, fun _ => rfl, H.out.setVa i⟩, ((Fr.refl gb w).set H.out 8 _).drew⟩
  · rw [if_neg h1]
    by_cases h2 : le + drop ≤ s
    · rw [if_pos h2]
      go_enter Try.func124, Try.ntmps124
      go_wp2
      go_region
      go_wp2_with (go_at_call 111; refine E2.mono ?_; rintro en w1 ⟨rfl, ⟨fv1, h1⟩, hb1⟩; obtain ⟨d0, d1, d2, d3, d4, d5, d6, d7, d8, d9, fz1⟩ := h1.cells; have H1 := Lib.hid (And.intro h1 hb1); clear h1 hb1 d3 d4 d6 d7 d9)
      have hW : IntKind.i64.wrap (le + drop) = le + drop := by rw [IntKind.wrap_i64]; omega
      have hBG := begin_ok (w := w1.drew) H1.out.1 va i (le + drop)
      clear c0 c1 c2 c5 c8
      go_still_tail 12, (by kernel_rfl)
      change wpList _ _ _ _ _ w1.drew
      go_wp2_with (go_at_call 110; refine hBG.mono ?_; rintro en w2 ⟨rfl, ⟨fv2, h2'⟩, hb2⟩)
      go_end0
      exact ⟨rfl, ⟨fv2, _, fun _ => rfl, h2'⟩, ((Fr.refl gb w).drew.trans H1.out.2).drew.trans hb2⟩
    · rw [if_neg h2]
      clear E2
      go_enter Try.func124, Try.ntmps124
      go_wp2
      go_region
      go_wp2
      go_end0
      exact ⟨rfl, ⟨fv, _, fun _ => rfl, H.out⟩, (Fr.refl gb w).drew⟩
end Go.Proofs.Ytndgpgciccgapaa
