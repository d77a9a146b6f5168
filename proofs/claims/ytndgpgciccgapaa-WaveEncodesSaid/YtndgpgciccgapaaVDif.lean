/-
  Differences, the program's and the document's.
-/
import Derived.Test.YtndgpgciccgapaaVRow
namespace Go.Proofs.Ytndgpgciccgapaa
open Go.RowKit

abbrev Sp := Int × Nat
def stE (s : Sp) : List Int := [s.1, (s.2 : Int)]
theorem stE_len (s : Sp) : (stE s).length = 2 := rfl
/-- One difference behind those of the steps. -/
def extP (R : List Sp) (δ : Int) : List Sp :=
  match R.getLast? with
  | some p => if p.1 = δ then R.dropLast ++ [(p.1, p.2 + 1)] else R ++ [(δ, 1)]
  | none => R ++ [(δ, 1)]
theorem extP_nil (δ : Int) : extP [] δ = [(δ, 1)] := rfl
theorem extP_same (R : List Sp) (δ : Int) (c : Nat) : extP (R ++ [(δ, c)]) δ = R ++ [(δ, c + 1)] := by simp [extP]
theorem extP_other (R : List Sp) {d δ : Int} (c : Nat) (h : d ≠ δ) : extP (R ++ [(d, c)]) δ = R ++ [(d, c)] ++ [(δ, 1)] := by simp [extP, h]
/-- The difference at an index. -/
def dif (ls : List Int) (k : Nat) : Int := ith ls k - (if k = 0 then 0 else ith ls (k - 1))
def difK (ls : List Int) : Nat → List Sp
  | 0 => []
  | k + 1 => extP (difK ls k) (dif ls k)
theorem list_end {α : Type} (R : List α) : R = [] ∨ ∃ R0 p, R = R0 ++ [p] := by
  rcases List.eq_nil_or_concat R with h | ⟨R0, p, h⟩
  · exact .inl h
  · exact .inr ⟨R0, p, by simpa using h⟩
theorem difK_small (ls : List Int) : ∀ k, (difK ls k).length ≤ k ∧ ∀ p ∈ difK ls k, p.2 ≤ k
  | 0 => by simp [difK]
  | k + 1 => by
    obtain ⟨h1, h2⟩ := difK_small ls k
    rw [difK]
    rcases list_end (difK ls k) with h | ⟨R0, ⟨d, c⟩, h⟩
    · rw [h, extP_nil]; simp
    · rw [h] at h1 h2 ⊢
      have hc := h2 (d, c) (by simp)
      simp only at hc
      by_cases e : d = dif ls k
      · rw [← e, extP_same]
        refine ⟨by simpa using Nat.le_succ_of_le h1, fun p hp => ?_⟩
        rcases List.mem_append.1 hp with h3 | h3
        · exact Nat.le_succ_of_le (h2 p (by simp [h3]))
        · simp at h3; subst h3; simp; omega
      · rw [extP_other _ _ e]
        refine ⟨by simp at h1 ⊢; omega, fun p hp => ?_⟩
        rcases List.mem_append.1 hp with h3 | h3
        · exact Nat.le_succ_of_le (h2 p h3)
        · simp at h3; subst h3; simp

theorem infoStep : (Try.prog.info? 128).map (fun i => (i.zero, i.size, i.bytes)) = some (some (.agg #[.int .i64 0, .int .i64 0]), 2, 16) := by kernel_rfl

theorem SP_set {w : World} {base g c k t : Nat} {f : Int} {R : List Sp} (h : SL stE 2 128 w base (.slice (some ⟨g, 0, none⟩) (R.length + 1) c) (R ++ [(f, k)])) :
    SL stE 2 128 (w.setCell ⟨g, R.length * 2 + 1, none⟩ (.int .i64 (t : Int))) base (.slice (some ⟨g, 0, none⟩) (R.length + 1) c) (R ++ [(f, t)]) := by
  have h' : w.ownsRow base 128 2 (.slice (some ⟨g, 0, none⟩) (R.length + 1) c) (R.length + 1) (ints ((R ++ [(f, k)]).flatMap stE)) := by
    have e1 : (R ++ [(f, k)]).length = R.length + 1 := by simp
    have h0 := h
    unfold SL at h0
    rw [e1] at h0
    exact h0
  have h2 := (World.ownsRow.stored h' (R.length * 2 + 1) (.int .i64 (t : Int))).1
  have hl := fm_len stE_len R
  have e2 : (ints ((R ++ [(f, k)]).flatMap stE)).set (R.length * 2 + 1) (.int .i64 (t : Int)) = ints ((R ++ [(f, t)]).flatMap stE) := by
    rw [List.flatMap_append, List.flatMap_append, ints_append, ints_append, List.set_append_right _ _ (by rw [ints_len]; omega)]
    rw [ints_len, hl]
    have : R.length * 2 + 1 - R.length * 2 = 1 := by omega
    rw [this]
    rfl
  rw [e2] at h2
  unfold SL
  have e3 : (R ++ [(f, t)]).length = R.length + 1 := by simp
  rw [e3]
  exact h2

def RetSp (w : World) (base : Nat) (R : List Sp) (e : Ending) (w' : World) : Prop :=
  ∃ v, e = .returned v ∧ SL stE 2 128 w' base v R ∧ Below base w w'

set_option maxRecDepth 100000 in
set_option maxHeartbeats 1000000 in
theorem extended_any (R : List Sp) (δ : Int) (v : Value) (base : Nat) (w : World) (h : SL stE 2 128 w base v R) (hb : base ≤ w.heap.size) (hR : R.length ≤ 1000) (hc : ∀ p ∈ R, p.2 ≤ 1000) :
    Calls Try.prog 100 #[v, .int .i64 δ] w (RetSp w base (extP R δ)) := by
  obtain ⟨i0, hi0, hz0, hz1, hz2⟩ := info_parts infoStep
  have TC := Lib.hid (two_cells w 128 δ 1)
  rcases list_end R with rfl | ⟨R0, ⟨d, c⟩, rfl⟩
  · obtain ⟨A, c, rfl, _, _⟩ := h.slice
    have hown : w.ownsRow base 128 2 (.slice A 0 c) 0 [] := h
    have H := Lib.hid (And.intro h (Below.refl base w))
    clear h hc hR
    rw [extP_nil]
    go_enter Try.func100, Try.ntmps100
    go_wp2_with (at_builtin
                 refine wpList_append_own_at _ rfl (.tmp 30) (.tmp 33) _ rfl base 128 i0 _ 2 16 Try.underlying124 hi0 hz0 hz1 hz2 rfl (by decide) _ 0 _ rfl (hown.alloc _) ⟨w.heap.size, 0, none⟩ 1 1 [.int .i64 δ, .int .i64 1] rfl rfl TC.out (by intro u hu; simp at hu; rcases hu with rfl | rfl <;> rfl) (by unfold maxLen; omega) (by omega) (by simp; omega) ?_)
    intro v' w1 ho hg _ _
    have HG := Lib.hid (SL.grows (R := ([] : List Sp)) (a := (δ, 1)) H.out.1 H.out.2 hb (Nat.le_refl _) _ ⟨rfl, rfl⟩ rfl ho hg)
    clear ho hg hown
    go_wp2
    go_ret
    exact ⟨v', rfl, HG.out.1, HG.out.2⟩
  · obtain ⟨A, c', rfl, hA, hcap⟩ := h.slice
    have e1 : (R0 ++ [(d, c)]).length = R0.length + 1 := by simp
    rw [e1] at hA hcap hR h ⊢
    obtain ⟨g, rfl, hg1, hg2⟩ := hA (by omega)
    have hcc := hc (d, c) (by simp)
    simp only at hcc
    have m0 : w.cell? ⟨g, R0.length * 2, none⟩ = some (.int .i64 d) := by
      have := h.cell stE_len (i := R0.length) (j := 0) (by simp) (by omega)
      simpa [ints, stE] using this
    have m1 : w.cell? ⟨g, R0.length * 2 + 1, none⟩ = some (.int .i64 (c : Int)) := by
      have := h.cell stE_len (i := R0.length) (j := 1) (by simp) (by omega)
      simpa [ints, stE] using this
    have mf := h.frozen
    unfold maxLen at hcap
    have hst := SP_set (t := c + 1) h
    have H := Lib.hid (And.intro h (Below.refl base w))
    have hown : w.ownsRow base 128 2 (.slice (some ⟨g, 0, none⟩) (R0.length + 1) c') (R0.length + 1) (ints ((R0 ++ [(d, c)]).flatMap stE)) := by
      have h0 := h
      unfold SL at h0
      rw [e1] at h0
      exact h0
    obtain ⟨F, hF⟩ : ∃ F, ints ((R0 ++ [(d, c)]).flatMap stE) = F := ⟨_, rfl⟩
    rw [hF] at hown
    have HF := Lib.hid (And.intro e1 hF)
    have HS := Lib.hid (And.intro hst ((Below.refl base w).setCell (p := ⟨g, R0.length * 2 + 1, none⟩) hg1 (.int .i64 ((c + 1 : Nat) : Int))))
    clear hA h hc hF hst e1
    by_cases hd : d = δ
    · subst hd
      have hdd : (d == d) = true := by simp
      rw [extP_same]
      go_enter Try.func100, Try.ntmps100
      go_wp2
      go_ret
      refine ⟨_, rfl, ?_, ?_⟩
      · simpa using HS.out.1
      · simpa using HS.out.2
    · rw [extP_other _ _ hd]
      have hdd : (d == δ) = false := by simpa using hd
      go_enter Try.func100, Try.ntmps100
      go_wp2_with (at_builtin
                   refine wpList_append_own_at _ rfl (.tmp 30) (.tmp 33) _ rfl base 128 i0 _ 2 16 Try.underlying124 hi0 hz0 hz1 hz2 rfl (by decide) _ (R0.length + 1) _ rfl (hown.alloc _) ⟨w.heap.size, 0, none⟩ 1 1 [.int .i64 δ, .int .i64 1] rfl rfl TC.out (by intro u hu; simp at hu; rcases hu with rfl | rfl <;> rfl) (by unfold maxLen; omega) (by omega) (by simp; omega) ?_)
      intro v' w1 ho hg _ _
      have HG := Lib.hid (SL.grows (a := (δ, 1)) H.out.1 H.out.2 hb (Nat.le_refl _) _ HF.out rfl ho hg)
      clear ho hg hown
      go_wp2
      go_ret
      exact ⟨v', rfl, HG.out.1, HG.out.2⟩

/-- Where the numbers are no greater than 2^60. -/
def All60 (L : List Int) : Prop := ∀ x ∈ L, -1152921504606846976 ≤ x ∧ x ≤ 1152921504606846976
def DifRel (ls : List Int) (w : World) (rv lv iv : Value) (wr : World) : Prop :=
  ∃ k : Nat, iv = .int .i64 (k : Int) ∧ lv = .int .i64 (if k = 0 then 0 else ith ls (k - 1)) ∧ k ≤ ls.length ∧ Hid (SL stE 2 128 wr w.heap.size rv (difK ls k)) ∧ Below w.heap.size w wr
theorem prev60 {ls : List Int} (h : All60 ls) {k : Nat} (hk : k < ls.length) : -1152921504606846976 ≤ (if k = 0 then 0 else ith ls (k - 1)) ∧ (if k = 0 then 0 else ith ls (k - 1)) ≤ 1152921504606846976 := by
  split
  · omega
  · exact h _ (ith_mem (by omega))

set_option maxRecDepth 100000 in
set_option maxHeartbeats 1000000 in
theorem differences_any (ls : List Int) (h60 : All60 ls) (A : Option Addr) (n c B : Nat) (hn : n ≤ 1000) (w : World) (hx : IW w B (.slice A n c) ls) (hB : B ≤ w.heap.size) :
    Calls Try.prog 69 #[.slice A n c] w (RetSp w w.heap.size (difK ls ls.length)) := by
  have hl := Lib.hid hx.len
  have HX := Lib.hid (And.intro hx h60)
  clear hx h60
  go_enter Try.func69, Try.ntmps69
  go_wp2
  go_loopw [3, 4, 9] (fun rv lv iv wr => DifRel ls w rv lv iv wr) (fun _ _ iv _ => n - (intOf iv).toNat)
  case atStart => exact ⟨0, rfl, rfl, Nat.zero_le _, Lib.hid (SL.nil_ _ _ _ _ _), Below.refl _ _⟩
  case round =>
    obtain ⟨k, rfl, hlv, hkz, hR, hbw⟩ := hrel
    have hkn : k ≤ n := by rw [hl.out]; exact hkz
    by_cases hlt : k < n
    · obtain ⟨b, o, rfl, hb, hc⟩ := HX.out.1.at_ (by omega)
      have hck := (hbw.cell (p := ⟨b, o + k, none⟩) (by show b < w.heap.size; omega)).trans (hc k hlt)
      have hk' : k < ls.length := by have := hl.out; omega
      have hp := prev60 HX.out.2 hk'
      have hs := HX.out.2 _ (ith_mem hk')
      obtain ⟨pv, hpv⟩ : ∃ pv, (if k = 0 then 0 else ith ls (k - 1)) = pv := ⟨_, rfl⟩
      obtain ⟨s, hsv⟩ : ∃ s, ith ls k = s := ⟨_, rfl⟩
      rw [hpv] at hlv hp
      subst hlv
      rw [hsv] at hck hs
      obtain ⟨q1, q2⟩ := difK_small ls k
      have hE := extended_any (difK ls k) (s - pv) u3 w.heap.size wr hR.out hbw.size (by omega) (fun p hp => by have := q2 p hp; omega)
      have hD : difK ls (k + 1) = extP (difK ls k) (s - pv) := by rw [difK, dif, hpv, hsv]
      rw [← hD] at hE
      have HK := Lib.hid (And.intro hbw hsv)
      clear hbw hc q1 q2 hD hR hpv hsv
      go_wp2_with (go_at_call 100; refine hE.mono ?_; rintro e w1 ⟨v1, rfl, hS1, hb1⟩)
      go_roundw
      case rel => exact ⟨k + 1, by simp, by rw [if_neg (by omega), Nat.add_sub_cancel, HK.out.2], by omega, Lib.hid hS1, HK.out.1.trans hb1⟩
      case measure => simp [intOf]; omega
    · obtain rfl : k = n := by omega
      have hS := hR.out
      rw [hl.out] at hS
      go_wp2
      go_ret
      exact ⟨u3, rfl, hS, hbw⟩
end Go.Proofs.Ytndgpgciccgapaa
