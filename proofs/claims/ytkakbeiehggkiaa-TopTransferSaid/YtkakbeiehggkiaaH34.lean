/-
  A transfer's memory: a sender, a receiver, what was delivered, beside each other.
-/
import Derived.Test.YtkakbeiehggkiaaH33
import Derived.Test.YtkakbeiehggkiaaH30
namespace Go.Proofs.Ytkakbeiehggkiaa
open Go.RowKit Go.Maps

structure TrW (w : World) (base gs ms gr mr : Nat) (T : Int) (a : Nat) (Bs : List (List Nat)) (N : Nat) (nx : Int) (F : Hf) (D : List Dl) (dv : Value) (wr : World) : Prop where
  snd : Snd wr gs ms ((0 : Nat) : Int) T a Bs
  rcv : Rcv wr gr mr N 0 T nx F
  dls : DlS wr base dv D
  bel : Below base w wr
  siz : base ≤ wr.heap.size
  apt : (gs ≠ gr ∧ gs ≠ mr ∧ ms ≠ gr ∧ ms ≠ mr) ∧ base ≤ gs ∧ base ≤ ms ∧ base ≤ gr ∧ base ≤ mr

section
variable {w wr wr' : World} {base gs ms gr mr a a' N N' : Nat} {T nx nx' : Int} {Bs Bs' : List (List Nat)} {F F' : Hf} {D D' : List Dl} {dv dv' : Value}
theorem TrW.below (h : TrW w base gs ms gr mr T a Bs N nx F D dv wr) (hb : Below wr.heap.size wr wr') : TrW w base gs ms gr mr T a Bs N nx F D dv wr' :=
  ⟨snd_below h.snd hb, rcv_below h.rcv hb, dls_below h.dls hb, h.bel.trans (hb.mono h.siz), Nat.le_trans h.siz hb.size, h.apt⟩
theorem row_not_snd {w : World} {base e s n g mb a : Nat} {st win : Int} {Bs : List (List Nat)} {v : Value} {xs : List Value} (h : w.ownsRow base e s v n xs) (he : e ≠ 99) (hR : Snd w g mb st win a Bs) : ∀ k, v.ownBlock = some k → ¬ (k = g ∨ k = mb) := by
  intro k hk
  obtain ⟨_, _, cs, hc⟩ := own_block h hk
  exact snd_not hR he k cs hc
theorem dls_snd (hD : DlS wr base dv D) (hO : Only (fun k => k = gs ∨ k = ms) wr wr') (hS : Snd wr gs ms ((0 : Nat) : Int) T a Bs) : DlS wr' base dv D := by
  obtain ⟨vs, h1, h2, h3⟩ := id hD
  exact dls_only hD hO (snd_nob hS) (row_not_snd h2 (by decide) hS)
theorem TrW.sent (h : TrW w base gs ms gr mr T a Bs N nx F D dv wr) (hO : Only (fun k => k = gs ∨ k = ms) wr wr') (hS : Snd wr' gs ms ((0 : Nat) : Int) T a' Bs') : TrW w base gs ms gr mr T a' Bs' N nx F D dv wr' := by
  obtain ⟨⟨p1, p2, p3, p4⟩, p5, p6, p7, p8⟩ := h.apt
  exact ⟨hS, rcv_only h.rcv hO (snd_nob h.snd) (by omega) (by omega), dls_snd h.dls hO h.snd, h.bel.trans (hO.below h.siz (fun k e => by omega)), Nat.le_trans h.siz hO.size, h.apt⟩
theorem TrW.took (h : TrW w base gs ms gr mr T a Bs N nx F D dv wr) (hO : Only (fun k => k = gr ∨ k = mr) wr wr') (hR : Rcv wr' gr mr N' 0 T nx' F') : TrW w base gs ms gr mr T a Bs N' nx' F' D dv wr' := by
  obtain ⟨⟨p1, p2, p3, p4⟩, p5, p6, p7, p8⟩ := h.apt
  exact ⟨snd_only h.snd hO (rcv_nob h.rcv) (by omega) (by omega), hR, dls_rcv h.dls hO h.rcv, h.bel.trans (hO.below h.siz (fun k e => by omega)), Nat.le_trans h.siz hO.size, h.apt⟩
theorem TrW.app (h : TrW w base gs ms gr mr T a Bs N nx F D dv wr) (hO : Only (fun k => dv.ownBlock = some k) wr wr') (hD : DlS wr' base dv' D') : TrW w base gs ms gr mr T a Bs N nx F D' dv' wr' := by
  obtain ⟨vs, h1, h2, h3⟩ := id h.dls
  have hn := row_not_snd h2 (by decide) h.snd
  exact ⟨snd_only h.snd hO (nob_row h2 types_apart2) (fun e => hn gs e (.inl rfl)) (fun e => hn ms e (.inr rfl)), app_rcv h.dls hO h.rcv, hD, app_below h.dls hO h.bel h.siz, Nat.le_trans h.siz hO.size, h.apt⟩
end

/-- What is read: lists of faults at A. -/
def RdL (w : World) (A : Option Addr) (m : Nat) (RR : List (List Ft)) : Prop :=
  RR.length = m ∧ ∀ i (h : i < RR.length), ∃ b o A' c', A = some ⟨b, o, none⟩ ∧ b < w.heap.size ∧ w.cell? ⟨b, o + i, none⟩ = some (.slice A' (RR[i]'h).length c') ∧ FtL w A' (RR[i]'h).length (RR[i]'h)
theorem ftL_belowT {w w' : World} {A : Option Addr} {m : Nat} {Fs : List Ft} (h : FtL w A m Fs) (hb : Below w.heap.size w w') : FtL w' A m Fs := by
  refine ⟨h.1, fun i hi => ?_⟩
  obtain ⟨b, o, e, hl, c0, c1, c2, hn⟩ := h.2 i hi
  exact ⟨b, o, e, Nat.lt_of_lt_of_le hl hb.size, (hb.cell (p := ⟨b, o + i * 3, none⟩) hl).trans c0, (hb.cell (p := ⟨b, o + i * 3 + 1, none⟩) hl).trans c1, (hb.cell (p := ⟨b, o + i * 3 + 2, none⟩) hl).trans c2, hn⟩
theorem inL_dcs {w : World} {lb eb c n : Nat} {A : Option Addr} {ps : List (Value × List Nat)} {Ls : List (List Nat)} (h : Dcs w lb eb (.slice A n c) ps) (he : ps.map Prod.snd = Ls) : InL w A n Ls := by
  subst he
  obtain ⟨A0, c0, e0⟩ := dcs_form h
  injection e0 with e1 e2 e3
  subst e1 e2 e3
  refine ⟨by simp, fun i hi => ?_⟩
  have hi' : i < ps.length := by simpa using hi
  obtain ⟨g, c2, e2, hgl, hc⟩ := dcs_at h i hi'
  injection e2 with e3 _ _
  have hel := h.els _ (List.getElem_mem hi')
  obtain ⟨_, hrb⟩ := rb_of_owns hel.1
  obtain ⟨A', c', hf⟩ := hrb.form
  have e : (ps.map Prod.snd)[i]'hi = (ps[i]'hi').2 := by simp
  rw [e]
  rw [hf] at hc hrb
  exact ⟨g, 0, A', c', e3, hgl, by rw [Nat.zero_add]; exact hc, hel.2.1, hrb⟩
theorem byF_shift {w : World} {b o n k : Nat} {X : Nat → List Nat} {V : Nat → Value} {c : Nat} {AD : Option Addr} (h : ByF w (some ⟨b, o, none⟩) n X V) (hk : k ≤ n) (hc : n ≤ c) (hAD : (if c = k then (some ⟨b, o, none⟩ : Option Addr) else some ⟨b, o + k, none⟩) = AD) : ByF w AD (n - k) (fun i => X (k + i)) (fun i => V (k + i)) := by
  intro i hi
  obtain ⟨b', o', A', c', e, hb, hc', hv, hB, hr⟩ := h (k + i) (by omega)
  injection e with e
  injection e with e1 e2
  subst e1 e2
  rw [if_neg (by omega)] at hAD
  subst hAD
  exact ⟨b, o + k, A', c', rfl, hb, by rw [Nat.add_assoc]; exact hc', hv, hB, hr⟩
theorem take_shift (X : Nat → List Nat) (n k j : Nat) (h : k + j ≤ n) : ((List.range n).map X).take k ++ (List.range j).map (fun i => X (k + i)) = ((List.range n).map X).take (k + j) := by
  apply List.ext_getElem
  · simp; omega
  · intro i h1 h2
    by_cases hi : i < k
    · rw [List.getElem_append_left (by simp; omega)]
      simp
    · have hk : (((List.range n).map X).take k).length = k := by simp; omega
      rw [List.getElem_append_right (by omega)]
      simp only [hk, List.getElem_map, List.getElem_range, List.getElem_take]
      congr 1
      omega

set_option maxRecDepth 100000 in
theorem validWindow_yes (n : Int) (w : World) (h : 1 ≤ n ∧ n ≤ 64) : Calls Try.prog 52 #[.int .i64 n] w fun e w' => e = .returned (.bool true) ∧ w = w' := by
  obtain ⟨h1, h2⟩ := h
  go_enter Try.func52, Try.ntmps52
  go_wp2
  all_goals go_ret
  all_goals simp_all
set_option maxRecDepth 100000 in
theorem validWindow_no (n : Int) (w : World) (h : ¬ (1 ≤ n ∧ n ≤ 64)) : Calls Try.prog 52 #[.int .i64 n] w fun e w' => e = .returned (.bool false) ∧ w = w' := by
  go_enter Try.func52, Try.ntmps52
  go_wp2
  all_goals go_ret
  all_goals simp_all
end Go.Proofs.Ytkakbeiehggkiaa
