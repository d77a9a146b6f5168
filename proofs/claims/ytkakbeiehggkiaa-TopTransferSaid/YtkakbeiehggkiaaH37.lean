/-
  The document's sender: Offer.
  A transfer's memory, the document's: a sender, a receiver, what was delivered, beside each other.
-/
import Derived.Test.YtkakbeiehggkiaaH36
import Derived.Test.YtkakbeiehggkiaaH30
import Derived.Deep.RegionHeldLaw
import Derived.Deep.AppendLies
import Derived.Test.YtkakbeiehggkiaaH34
import Derived.Test.YtkakbeiehggkiaaH35
namespace Go.Proofs.Ytkakbeiehggkiaa
open Go.RowKit Go.Maps
attribute [local go_sem ↓] Go.wp_at_zero Go.wp_at_succ

theorem infoSl : (Try.prog.info? 33).map (fun i => (i.zero, i.size, i.bytes)) = some (some (.slice none 0 0), 1, 24) := by kernel_rfl

set_option maxRecDepth 100000 in
set_option maxHeartbeats 2000000 in
theorem roffer_long (g base S a : Nat) (win : Int) (Bs : List (List Nat)) (A : Option Addr) (n c : Nat) (w : World) (h : Rsn w g base (S : Int) win a Bs) (hn : 1024 < n) :
    Calls Try.prog 25 #[.pointer (some ⟨g, 0, none⟩), .slice A n c] w (RetOffBad w 2) := by
  obtain ⟨W0, HW0, hw0, HG, z0⟩ := U0ex w
  obtain ⟨k0, k1, k2, kf⟩ := fr_blk HG.out (Below.refl _ _)
  have i1 : (1024 : Int) < (n : Int) := by omega
  clear h
  go_enter Try.func25, Try.ntmps25
  go_wp2_with fail
  rw [← HW0.out]
  go_wp2
  refine bodyPost_ret (v := .tuple #[.agg #[.int .i64 0, .int .i64 0, .slice none 0 0], .int .i64 2]) (by simp [results, Try.results25, go_sem, k0, k1, k2]) rfl ⟨rfl, ?_⟩
  first | exact set3_below hw0 (Nat.le_refl _) | exact hw0

set_option maxRecDepth 100000 in
set_option maxHeartbeats 2000000 in
theorem roffer_full (g base S a : Nat) (win : Int) (Bs : List (List Nat)) (A : Option Addr) (n c : Nat) (w : World) (h : Rsn w g base (S : Int) win a Bs) (hn : n ≤ 1024) (hl : Bs.length ≤ 1024) (hf : win ≤ (Bs.length : Int) - (a : Int)) :
    Calls Try.prog 25 #[.pointer (some ⟨g, 0, none⟩), .slice A n c] w (RetOffBad w 29) := by
  obtain ⟨W0, HW0, hw0, HG, z0⟩ := U0ex w
  obtain ⟨SA, Sc, c0, c1, c2, c3, hcap, cf, hgl, hel⟩ := rsn_cells (rsn_below h hw0)
  obtain ⟨k0, k1, k2, kf⟩ := fr_blk HG.out (Below.refl _ _)
  have i1 : ¬ (1024 : Int) < (n : Int) := by omega
  have hal : a ≤ Bs.length := by obtain ⟨_, _, h, _⟩ := h; exact h
  obtain ⟨nb, hnb⟩ : ∃ nb, nb = Bs.length := ⟨_, rfl⟩
  rw [← hnb] at c3 hf hl hal
  clear h cf hel hnb
  go_enter Try.func25, Try.ntmps25
  go_wp2_with fail
  rw [← HW0.out]
  go_wp2_with fail
  have d1 : decide (win ≤ (nb : Int) - (a : Int)) = true := by simpa using hf
  go_region
  go_wp2
  refine bodyPost_ret (v := .tuple #[.agg #[.int .i64 0, .int .i64 0, .slice none 0 0], .int .i64 29]) (by simp [results, Try.results25, go_sem, k0, k1, k2]) rfl ⟨rfl, ?_⟩
  first | exact set3_below hw0.drew (Nat.le_refl _) | exact hw0.drew | exact hw0 | exact ⟨hw0.os, hw0.tape, hw0.output, hw0.size, hw0.block⟩

theorem rsn_put {w3 w4 w5 : World} {g base a : Nat} {st win : Int} {Bs : List (List Nat)} {bv u : Value} {vs : List Value} {X : List Nat} {gg cap : Nat} (hR : w3.heap[g]? = some (.cells #[.int .i64 st, .int .i64 win, .int .i64 (a : Int), bv] 101 (0, 0))) (ha : a ≤ Bs.length) (h1 : vs.length = Bs.length)
    (h2 : w3.ownsRow base 33 1 bv Bs.length vs) (h3 : ∀ i (h : i < Bs.length) (h' : i < vs.length), Bd w3 (vs[i]'h') Bs[i]) (hu : Bd w3 u X) (hown : w5.ownsRow base 33 1 (.slice (some ⟨gg, 0, none⟩) (Bs.length + 1) cap) (Bs.length + 1) (vs ++ [u])) (hg : w4.grownBy w5 bv.ownBlock) (h34 : Below w3.heap.size w3 w4) :
    Rsn (w5.setCell ⟨g, 3, none⟩ (.slice (some ⟨gg, 0, none⟩) (Bs.length + 1) cap)) g base st win a (Bs ++ [X]) ∧ Only (fun k => k = g ∨ bv.ownBlock = some k) w3 (w5.setCell ⟨g, 3, none⟩ (.slice (some ⟨gg, 0, none⟩) (Bs.length + 1) cap)) := by
  have hng := bsl_notg ⟨vs, h1, h2, h3⟩ hR
  have hO5 : Only (fun k => bv.ownBlock = some k) w3 w5 := (only_below h34).trans (only_grown hg (fun k e => e))
  have hN5 : NoB w3 (fun k => bv.ownBlock = some k) := nob_row h2 types_apart4
  have hR5 : w5.heap[g]? = _ := (hO5.block g (Array.getElem?_eq_some_iff.1 hR).1 (fun e => hng g e rfl)).trans hR
  have hO6 : Only (fun k => k = g) w5 (w5.setCell ⟨g, 3, none⟩ (.slice (some ⟨gg, 0, none⟩) (Bs.length + 1) cap)) := only_set _ rfl
  have hN6 := nob_sn hR5
  have hl : (Bs ++ [X]).length = Bs.length + 1 := by simp
  refine ⟨⟨.slice (some ⟨gg, 0, none⟩) (Bs.length + 1) cap, ?_, by omega, vs ++ [u], by simp [h1], ?_, fun i hi hi' => ?_⟩, (hO5.mono (fun _ _ e => .inr e)).trans (hO6.mono (fun _ _ e => .inl e))⟩
  · rw [heap_setCell_same w5 g 3 _ _ _ hR5]
    rfl
  · rw [hl]
    refine hO6.own hown (fun k hk e => ?_)
    subst e
    obtain ⟨_, _, cs', hc⟩ := own_block hown hk
    rw [hR5] at hc
    injection hc with hc
    injection hc with _ hc
    exact absurd hc (by decide)
  · refine Bd.only ?_ hO6 hN6
    by_cases hlt : i < Bs.length
    · rw [List.getElem_append_left (by omega), List.getElem_append_left hlt]
      exact (h3 i hlt (by omega)).only hO5 hN5
    · have e : i = Bs.length := by omega
      subst e
      have e1 : (vs ++ [u])[Bs.length]'hi' = u := by
        rw [List.getElem_append_right (by omega)]
        simp [h1]
      have e2 : (Bs ++ [X])[Bs.length]'hi = X := by
        rw [List.getElem_append_right (by omega)]
        simp
      rw [e1, e2]
      exact hu.only hO5 hN5

theorem rsn_only {w w' : World} {S : Nat → Prop} {g base : Nat} {st win : Int} {a : Nat} {Bs : List (List Nat)} (h : Rsn w g base st win a Bs) (ho : Only S w w') (hS : NoB w S) (hg : ¬ S g) (hn : ∀ k cs, w.heap[k]? = some (.cells cs 33 (0, 0)) → ¬ S k) : Rsn w' g base st win a Bs := by
  obtain ⟨bv, h1, h2, vs, v1, v2, v3⟩ := h
  exact ⟨bv, (ho.block g (Array.getElem?_eq_some_iff.1 h1).1 hg).trans h1, h2, bsl_only ⟨vs, v1, v2, v3⟩ ho hS (fun k hk => by obtain ⟨_, _, cs, hc⟩ := own_block v2 hk; exact hn k cs hc)⟩

def RetROff (w : World) (g base S a : Nat) (win : Int) (Bs : List (List Nat)) (X : List Nat) (e : Ending) (w' : World) : Prop :=
  ∃ v, e = .returned (.tuple #[.agg #[.int .i64 (S : Int), .int .i64 (Bs.length : Int), v], .int .i64 0]) ∧ Bd w' v X ∧ Rsn w' g base (S : Int) win a (Bs ++ [X]) ∧ Only (fun k => k = g ∨ (base ≤ k ∧ ∃ cs, w.heap[k]? = some (.cells cs 33 (0, 0)))) w w'

set_option maxRecDepth 100000 in
set_option maxHeartbeats 4000000 in
theorem roffer_ok (g base S a : Nat) (win : Int) (Bs : List (List Nat)) (X : List Nat) (A : Option Addr) (n c B : Nat) (w : World) (h : Rsn w g base (S : Int) win a Bs) (hx : RB w B (.slice A n c) X) (hB : B ≤ w.heap.size) (hbase : base ≤ w.heap.size) (hn : n ≤ 1024) (hl : Bs.length ≤ 1000) (hf : (Bs.length : Int) - (a : Int) < win) :
    Calls Try.prog 25 #[.pointer (some ⟨g, 0, none⟩), .slice A n c] w (RetROff w g base S a win Bs X) := by
  obtain ⟨W0, HW0, hw0, HG, z0⟩ := U0ex w
  obtain ⟨i0, hi0, hz0, hz1, hz2⟩ := info_parts infoSl
  have hS0 := rsn_below h hw0
  have hglw : g < w.heap.size := by obtain ⟨_, _, _, _, _, _, _, _, h, _⟩ := rsn_cells h; exact h
  obtain ⟨bv, hR, hal, vs, h1, h2, h3⟩ := hS0
  obtain ⟨SA, Sc, e9, _, _⟩ := bsl_cells (w := W0) ⟨vs, h1, h2, h3⟩
  have c1 := cell_of_row _ g 1 _ _ _ hR
  have c2 := cell_of_row _ g 2 _ _ _ hR
  have c3 := cell_of_row _ g 3 _ _ _ hR
  have f3 : W0.frozen? ⟨g, 3, none⟩ = false := by simp [World.frozen?, hR]
  have C3 := Lib.hid (show W0.cell? ⟨g, 3, none⟩ = some bv from c3)
  have i1 : ¬ (1024 : Int) < (n : Int) := by omega
  obtain ⟨nb, hnb⟩ : ∃ nb, nb = Bs.length := ⟨_, rfl⟩
  have HH := Lib.hid (And.intro hR (And.intro hal (And.intro h1 (And.intro h2 (And.intro h3 hnb)))))
  have HX := Lib.hid (And.intro (hx.belowM hw0 hB) (And.intro (Nat.le_trans hB hw0.size) hx.1.len))
  rw [← hnb] at hf hl hal h2
  obtain ⟨k0, k1, k2, kf⟩ := fr_blk HG.out (Below.refl _ _)
  have c3l : W0.cell? ⟨g, 3, none⟩ = some (.slice SA nb Sc) := by rw [hnb, ← e9]; exact c3
  have hgl : g < W0.heap.size := Nat.lt_of_lt_of_le hglw hw0.size
  have i2 : ¬ win ≤ (nb : Int) - (a : Int) := by omega
  clear h hR h1 h2 h3 e9 c3 hx hnb
  go_enter Try.func25, Try.ntmps25
  go_wp2_with fail
  rw [← HW0.out]
  go_wp2_with fail
  have d1 : decide (win ≤ (nb : Int) - (a : Int)) = false := by simpa using i2
  go_region
  go_wp2_with fail
  have HO := Lib.hid (fun (w' : World) (hb : Below W0.heap.size W0 w') => ((only_below (S := fun _ => False) hb).own HH.out.2.2.2.1 (fun _ _ h => h)))
  have KK := Lib.hid (fun (w' : World) (hb : Below W0.heap.size W0 w') => (⟨(hb.cell (p := ⟨g, 3, none⟩) hgl).trans C3.out, (hb.frozen (p := ⟨g, 3, none⟩) hgl).trans f3⟩ : w'.cell? ⟨g, 3, none⟩ = some bv ∧ w'.frozen? ⟨g, 3, none⟩ = false))
  have K1 := Lib.hid (KK.out W0.drew.drew (Below.refl _ _).drew.drew)
  clear c3l
  have hnbk : some g ≠ bv.ownBlock := fun hb => bsl_notg ⟨vs, HH.out.2.2.1, HH.out.2.2.2.1, HH.out.2.2.2.2.1⟩ HH.out.1 g hb.symm rfl
  obtain ⟨k1c, k1f⟩ := K1.out
  have k1a : ∀ o, (W0.alloc o).drew.drew.cell? ⟨g, 3, none⟩ = some bv := fun o => (KK.out _ ((Below.refl _ _).drew.drew.alloc (Nat.le_refl _) o)).1
  go_region_law
    (first
      | (go_simp
         go_at_call 59
         refine (joined_one (.slice A n c) X B _ (by exact ⟨HX.out.1.1.drew.drew, HX.out.1.2⟩) (by exact HX.out.2.1) (by have := HX.out.2.2; omega)).mono ?_
         rintro e w3 ⟨v3, rfl, o3, b3⟩
         have f3' : Below W0.heap.size W0 w3 := below_un (below_un b3)
         obtain ⟨A3, c3', e3⟩ := (rb_of_owns o3).2.form
         subst e3
         have F3 := Lib.hid f3'
         obtain ⟨k3c, k3f⟩ := KK.out w3 F3.out
         have k3a := fun o => (KK.out _ (F3.out.alloc (by exact F3.out.size) o)).1
         have O3 := Lib.hid (And.intro (HO.out w3 F3.out) (bd_owns o3))
         clear o3 b3 f3')
      | (refine step_append_lies _ (by rfl) _ _ _ (by rfl) base 33 i0 _ 1 24 Try.underlying74 hi0 hz0 hz1 hz2 rfl (by omega) bv Bs.length vs (by rfl) (HO.out _ (F3.out.alloc (by exact F3.out.size) _)) ⟨w3.heap.size, 0, none⟩ 1 1 [.slice A3 X.length c3'] (by rfl) (by rfl) (World.news_of_block (cs := #[.slice A3 X.length c3']) (t := 33) (fr := (0, 0)) (heap_alloc_new w3 _)) (by simp [Value.oneCell']) (by omega) (by have := HH.out.2.2.2.2.2; unfold maxLen; omega) (by have := HH.out.2.2.2.2.2; omega) (by have := F3.out.size; simp; omega) (w3.heap.size + 1) (by simp) ?_
         intro gg cap w5 hown5 hgrow hat hlt5
         have k5c : w5.cell? ⟨g, 3, none⟩ = some bv := (hgrow.cell_far ⟨g, 3, none⟩ (by have := F3.out.size; simp; omega) hnbk).trans (KK.out _ (F3.out.alloc (by exact F3.out.size) _)).1
         have k5f : w5.frozen? ⟨g, 3, none⟩ = false := (hgrow.frozen_far ⟨g, 3, none⟩ (by have := F3.out.size; simp; omega) hnbk).trans (KK.out _ (F3.out.alloc (by exact F3.out.size) _)).2
         have HP := Lib.hid (And.intro hown5 hgrow)
         clear hown5 hgrow hat hlt5))
  all_goals
    have hR3 := (F3.out.block g hgl).trans HH.out.1
    have HS5 := Lib.hid (rsn_put (X := X) hR3 HH.out.2.1 HH.out.2.2.1 O3.out.1 (fun i hi hi' => (HH.out.2.2.2.2.1 i hi hi').only (S := fun _ => False) (only_below F3.out) (fun _ _ _ _ h => h)) O3.out.2 HP.out.1 HP.out.2 ((Below.refl _ _).alloc (Nat.le_refl _) _))
    have HT := Lib.hid (fun k (hk : k < w.heap.size) (e : bv.ownBlock = some k) => (show base ≤ k ∧ ∃ cs, w.heap[k]? = some (.cells cs 33 (0, 0)) from by
      obtain ⟨q1, q2, cs, q3⟩ := own_block HH.out.2.2.2.1 e
      exact ⟨q1, cs, (hw0.block k hk).symm.trans q3⟩))
    clear hR3
    have hl2 : Bs.length ≤ 1000 := by have := HH.out.2.2.2.2.2; omega
    go_wp2_with fail
    have hi5 : Bs.length < (Bs ++ [X]).length := by simp
    have hX5 : (Bs ++ [X])[Bs.length]'hi5 = X := by rw [List.getElem_append_right (Nat.le_refl _)]; simp
    refine (rframe_any g base (S : Int) win a Bs.length (Bs ++ [X]) _ HS5.out.1 hi5 (by have := HH.out.2.2.2.2.2; simp; omega) (by rw [hX5]; have := HX.out.2.2; omega)).mono ?_
    rintro e w6 ⟨v6, rfl, hB6, hb6⟩
    rw [hX5] at hB6
    obtain ⟨A6, c6, e6⟩ := (bd_rb hB6).form
    subst e6
    have hz3 : w.heap.size < w3.heap.size := Nat.lt_of_lt_of_le z0 F3.out.size
    have hz5 : w.heap.size < (w5.setCell ⟨g, 3, none⟩ (.slice (some ⟨gg, 0, none⟩) (Bs.length + 1) cap)).heap.size := Nat.lt_of_lt_of_le hz3 HS5.out.2.size
    have hG3 := (F3.out.block _ z0).trans HG.out
    have hG5 := (HS5.out.2.block w.heap.size hz3 (fun e => by
      rcases e with e | e
      · omega
      · obtain ⟨_, _, cs, hc⟩ := own_block O3.out.1 e
        rw [hG3] at hc
        injection hc with hc
        injection hc with _ hc
        exact absurd hc (by decide))).trans hG3
    have hG6 := (hb6.block _ hz5).trans hG5
    have HG6 := Lib.hid hG6
    obtain ⟨d0, d1, d2, df⟩ := fr_blk (set3_heap (x := .int .i64 (S : Int)) (y := .int .i64 (Bs.length : Int)) (z := .slice A6 X.length c6) HG6.out) (Below.refl _ _)
    obtain ⟨q0, q1, q2, qf⟩ := fr_blk HG6.out (Below.refl _ _)
    clear hG3 hG5 hG6 k0 k1 k2 kf
    go_wp2
    have hO6 : Only (fun k => k = g ∨ (base ≤ k ∧ ∃ cs, w.heap[k]? = some (.cells cs 33 (0, 0))) ∨ w.heap.size ≤ k) w w6 := (only_below (hw0.trans (F3.out.mono hw0.size))).trans ((HS5.out.2.mono (S' := fun k => k = g ∨ (base ≤ k ∧ ∃ cs, w.heap[k]? = some (.cells cs 33 (0, 0))) ∨ w.heap.size ≤ k) (fun k _ h => h.elim Or.inl (fun h => by
      by_cases hk : k < w.heap.size
      · exact .inr (.inl (HT.out k hk h))
      · exact .inr (.inr (by omega))))).trans (only_below hb6))
    have hO7 : ∀ z, Only (fun k => k = w.heap.size) w6 (((w6.setCell ⟨w.heap.size, 0, none⟩ (.int .i64 (S : Int))).setCell ⟨w.heap.size, 1, none⟩ (.int .i64 (Bs.length : Int))).setCell ⟨w.heap.size, 2, none⟩ z) := fun z => ((only_set (S := fun k => k = w.heap.size) (p := ⟨w.heap.size, 0, none⟩) _ rfl).trans (only_set (S := fun k => k = w.heap.size) (p := ⟨w.heap.size, 1, none⟩) _ rfl)).trans (only_set (S := fun k => k = w.heap.size) (p := ⟨w.heap.size, 2, none⟩) z rfl)
    have hN7 : NoB w6 (fun k => k = w.heap.size) := fun k cs fr hk e => by
      subst e
      rw [HG6.out] at hk
      injection hk with hk
      injection hk with _ hk
      exact absurd hk (by decide)
    have hS6 : Rsn w6 g base (S : Int) win a (Bs ++ [X]) := rsn_below HS5.out.1 hb6
    refine bodyPost_ret (v := .tuple #[.agg #[.int .i64 (S : Int), .int .i64 (Bs.length : Int), .slice A6 X.length c6], .int .i64 0]) (by simp [results, Try.results25, go_sem, d0, d1, d2]) rfl ⟨_, rfl, bd_set3 HG6.out (by decide) hB6, rsn_only hS6 (hO7 _) hN7 (by omega) (fun k cs hk e => by
      subst e
      rw [HG6.out] at hk
      injection hk with hk
      injection hk with _ hk
      exact absurd hk (by decide)), ?_⟩
    exact (hO6.trans ((hO7 _).mono (fun k _ h => .inr (.inr (by omega))))).mono (fun k hk h => h.elim Or.inl (fun h => h.elim Or.inr (fun h => by omega)))
end Go.Proofs.Ytkakbeiehggkiaa

namespace Go.Proofs.Ytkakbeiehggkiaa
open Go.RowKit Go.Maps

structure TrX (w : World) (base gs gr : Nat) (T : Int) (a : Nat) (Bs : List (List Nat)) (nx : Int) (F : Hf) (D : List Dl) (dv : Value) (wr : World) : Prop where
  rsn : Rsn wr gs base ((0 : Nat) : Int) T a Bs
  rrc : ∃ Ds, Rrc wr gr base 0 T nx Ds ∧ DsF Ds F ∧ Ds.length ≤ 1024
  dls : DlS wr base dv D
  nol : ∀ k, dv.ownBlock = some k → ¬ lB wr gr k
  bel : Below base w wr
  siz : base ≤ wr.heap.size
  apt : gs ≠ gr ∧ base ≤ gs ∧ base ≤ gr

theorem rsn_g {w : World} {g base a : Nat} {st win : Int} {Bs : List (List Nat)} (h : Rsn w g base st win a Bs) : ∃ cs, w.heap[g]? = some (.cells cs 101 (0, 0)) := by
  obtain ⟨_, h, _⟩ := h
  exact ⟨_, h⟩
theorem type_ne {w : World} {k k' : Nat} {cs cs' : Array Value} {T T' : TypeId} (h : w.heap[k]? = some (.cells cs T (0, 0))) (h' : w.heap[k']? = some (.cells cs' T' (0, 0))) (hT : T ≠ T') : k ≠ k' := by
  rintro rfl
  rw [h] at h'
  injection h' with h'
  injection h' with _ h'
  exact hT h'
theorem dls_type {w : World} {base k : Nat} {v : Value} {Ds : List Dl} (h : DlS w base v Ds) (hk : v.ownBlock = some k) : base ≤ k ∧ k < w.heap.size ∧ ∃ cs, w.heap[k]? = some (.cells cs 85 (0, 0)) := by
  obtain ⟨vs, _, h2, _⟩ := h
  exact own_block h2 hk
theorem lB_only {w w' : World} {g k : Nat} {S : Nat → Prop} (hO : Only S w w') (hg : g < w.heap.size) (hS : ¬ S g) : lB w' g k ↔ lB w g k := by
  unfold lB
  rw [show w'.cell? ⟨g, 3, none⟩ = w.cell? ⟨g, 3, none⟩ from hO.cell (p := ⟨g, 3, none⟩) hg hS]

section
variable {w wr wr' : World} {base gs gr a a' : Nat} {T nx nx' : Int} {Bs Bs' : List (List Nat)} {F F' : Hf} {D D' : List Dl} {dv dv' : Value}
theorem TrX.grl (h : TrX w base gs gr T a Bs nx F D dv wr) : gr < wr.heap.size := by
  obtain ⟨Ds, h1, _⟩ := h.rrc
  obtain ⟨cs, h2⟩ := rrc_g h1
  exact (Array.getElem?_eq_some_iff.1 h2).1
theorem TrX.below (h : TrX w base gs gr T a Bs nx F D dv wr) (hb : Below wr.heap.size wr wr') : TrX w base gs gr T a Bs nx F D dv wr' := by
  obtain ⟨Ds, h1, h2, h3⟩ := h.rrc
  exact ⟨rsn_below h.rsn hb, ⟨Ds, rrc_below h1 hb, h2, h3⟩, dls_below h.dls hb, fun k hk e => h.nol k hk ((lB_below hb h.grl).1 e), h.bel.trans (hb.mono h.siz), Nat.le_trans h.siz hb.size, h.apt⟩
theorem TrX.sent (h : TrX w base gs gr T a Bs nx F D dv wr) (hO : Only (fun k => k = gs ∨ (base ≤ k ∧ ∃ cs, wr.heap[k]? = some (.cells cs 33 (0, 0)))) wr wr') (hS : Rsn wr' gs base ((0 : Nat) : Int) T a' Bs') : TrX w base gs gr T a' Bs' nx F D dv wr' := by
  obtain ⟨Ds, h1, h2, h3⟩ := h.rrc
  obtain ⟨cr, hr⟩ := rrc_g h1
  obtain ⟨cs, hs⟩ := rsn_g h.rsn
  have hN : NoB wr (fun k => k = gs ∨ (base ≤ k ∧ ∃ cs, wr.heap[k]? = some (.cells cs 33 (0, 0)))) := by
    rintro k c fr hk (rfl | ⟨_, c2, hc2⟩)
    · rw [hs] at hk
      injection hk with hk
      injection hk with _ hk
      exact absurd hk (by decide)
    · rw [hc2] at hk
      injection hk with hk
      injection hk with _ hk
      exact absurd hk (by decide)
  have hgr : ¬ (gr = gs ∨ (base ≤ gr ∧ ∃ cs, wr.heap[gr]? = some (.cells cs 33 (0, 0)))) := by
    rintro (e | ⟨_, c2, hc2⟩)
    · exact h.apt.1 e.symm
    · exact type_ne hr hc2 (by decide) rfl
  have hdl : ∀ k c, wr.heap[k]? = some (.cells c 85 (0, 0)) → ¬ (k = gs ∨ (base ≤ k ∧ ∃ cs, wr.heap[k]? = some (.cells cs 33 (0, 0)))) := by
    rintro k c hc (e | ⟨_, c2, hc2⟩)
    · exact type_ne hc hs (by decide) e
    · exact type_ne hc hc2 (by decide) rfl
  refine ⟨hS, ⟨Ds, rrc_only2 h1 hO hN hgr (fun k hk => by obtain ⟨_, _, c, hc⟩ := lB_of h1 hk; exact hdl k c hc), h2, h3⟩, dls_only h.dls hO hN (fun k hk => by obtain ⟨_, _, c, hc⟩ := dls_type h.dls hk; exact hdl k c hc),
    fun k hk e => h.nol k hk ((lB_only hO h.grl hgr).1 e), h.bel.trans (hO.below h.siz (fun k e => e.elim (fun e => e ▸ h.apt.2.1) (fun e => e.1))), Nat.le_trans h.siz hO.size, h.apt⟩
theorem TrX.took (h : TrX w base gs gr T a Bs nx F D dv wr) {Ds : List Dl} (hO : Only (fun k => k = gr ∨ lB wr gr k) wr wr') (hR : Rrc wr' gr base 0 T nx' Ds) (hD : DsF Ds F') (hl : Ds.length ≤ 1024) (hL : ∀ k, lB wr' gr k → lB wr gr k ∨ wr.heap.size ≤ k) : TrX w base gs gr T a Bs nx' F' D dv wr' := by
  obtain ⟨Ds0, h1, h2, h3⟩ := h.rrc
  obtain ⟨cr, hr⟩ := rrc_g h1
  obtain ⟨cs, hs⟩ := rsn_g h.rsn
  have hN := nob_kp h1
  have hgs : ¬ (gs = gr ∨ lB wr gr gs) := fun e => e.elim h.apt.1 (lB_not h1 hs (by decide))
  refine ⟨rsn_only h.rsn hO hN hgs (fun k c hc e => e.elim (type_ne hc hr (by decide)) (lB_not h1 hc (by decide))), ⟨Ds, hR, hD, hl⟩, dls_only h.dls hO hN (fun k hk e => e.elim (fun e => ?_) (h.nol k hk)), fun k hk e => ?_,
    h.bel.trans (hO.below h.siz (fun k e => e.elim (fun e => e ▸ h.apt.2.2) (fun e => (lB_of h1 e).1))), Nat.le_trans h.siz hO.size, h.apt⟩
  · obtain ⟨_, _, c, hc⟩ := dls_type h.dls hk
    exact type_ne hc hr (by decide) e
  · rcases hL k e with e | e
    · exact h.nol k hk e
    · have := (dls_type h.dls hk).2.1
      omega
theorem TrX.app (h : TrX w base gs gr T a Bs nx F D dv wr) (hO : Only (fun k => dv.ownBlock = some k) wr wr') (hD : DlS wr' base dv' D') (hr : dv'.ownBlock = dv.ownBlock ∨ dv'.ownBlock = some wr.heap.size) : TrX w base gs gr T a Bs nx F D' dv' wr' := by
  obtain ⟨Ds, h1, h2, h3⟩ := h.rrc
  obtain ⟨cr, hrr⟩ := rrc_g h1
  obtain ⟨cs, hs⟩ := rsn_g h.rsn
  have hN : NoB wr (fun k => dv.ownBlock = some k) := by
    obtain ⟨vs, _, v2, _⟩ := h.dls
    exact nob_row v2 types_apart2
  have ht : ∀ k c (T : TypeId), wr.heap[k]? = some (.cells c T (0, 0)) → T ≠ 85 → ¬ dv.ownBlock = some k := fun k c T hc hT e => by
    obtain ⟨_, _, c2, hc2⟩ := dls_type h.dls e
    exact type_ne hc hc2 hT rfl
  have hgr : ¬ dv.ownBlock = some gr := ht gr cr _ hrr (by decide)
  refine ⟨rsn_only h.rsn hO hN (ht gs cs _ hs (by decide)) (fun k c hc => ht k c _ hc (by decide)), ⟨Ds, rrc_only2 h1 hO hN hgr (fun k hk e => h.nol k e hk), h2, h3⟩, hD, fun k hk e => ?_,
    dls_app_below h.dls hO h.bel h.siz, Nat.le_trans h.siz hO.size, h.apt⟩
  have e2 := (lB_only hO h.grl hgr).1 e
  rcases hr with hr | hr
  · exact h.nol k (hr ▸ hk) e2
  · rw [hr] at hk
    injection hk with hk
    have := (lB_of h1 e2).2.1
    omega
end
end Go.Proofs.Ytkakbeiehggkiaa
