/-
  The document's sender.
-/
import Derived.Test.YtndgpgciccgapaaZSnd3
import Derived.Test.YtndgpgciccgapaaZJoined
namespace Go.Proofs.Ytndgpgciccgapaa
open Go.RowKit Go.Maps
attribute [local go_sem ↓] Go.wp_at_zero Go.wp_at_succ

/-- A list of bodies of the call's own. -/
def BsL (w : World) (base : Nat) (v : Value) (Bs : List (List Nat)) : Prop :=
  ∃ vs : List Value, vs.length = Bs.length ∧ w.ownsRow base 31 1 v Bs.length vs ∧ ∀ i (h : i < Bs.length) (h' : i < vs.length), Bd w (vs[i]'h') Bs[i]
def Rsn (w : World) (g base : Nat) (st win : Int) (a : Nat) (Bs : List (List Nat)) : Prop :=
  ∃ bv, w.heap[g]? = some (.cells #[.int .i64 st, .int .i64 win, .int .i64 (a : Int), bv] 101 (0, 0)) ∧ a ≤ Bs.length ∧ BsL w base bv Bs
theorem types_apart4 : (5 : Nat) ≠ 31 := by decide
theorem bsl_only {w w' : World} {S : Nat → Prop} {base : Nat} {v : Value} {Bs : List (List Nat)} (h : BsL w base v Bs) (ho : Only S w w') (hS : NoB w S) (hn : ∀ k, v.ownBlock = some k → ¬ S k) : BsL w' base v Bs := by
  obtain ⟨vs, h1, h2, h3⟩ := h
  exact ⟨vs, h1, ho.own h2 hn, fun i hi hi' => (h3 i hi hi').only ho hS⟩
theorem rsn_below {w w' : World} {g base : Nat} {st win : Int} {a : Nat} {Bs : List (List Nat)} (h : Rsn w g base st win a Bs) (hb : Below w.heap.size w w') : Rsn w' g base st win a Bs := by
  obtain ⟨bv, h1, h2, h3⟩ := h
  exact ⟨bv, (hb.block g (Array.getElem?_eq_some_iff.1 h1).1).trans h1, h2, bsl_only (S := fun _ => False) h3 (only_below hb) (fun _ _ _ _ h => h) (fun _ _ h => h)⟩
theorem bsl_cells {w : World} {base : Nat} {v : Value} {Bs : List (List Nat)} (h : BsL w base v Bs) : ∃ A c, v = .slice A Bs.length c ∧ Bs.length ≤ c ∧
    ∀ i (hi : i < Bs.length), ∃ g A' c', A = some ⟨g, 0, none⟩ ∧ g < w.heap.size ∧ w.cell? ⟨g, i, none⟩ = some (.slice A' Bs[i].length c') ∧ Bd w (.slice A' Bs[i].length c') Bs[i] := by
  obtain ⟨vs, h1, ho, h3⟩ := h
  obtain ⟨hl, ⟨rfl, h0⟩ | ⟨g, cap, cur, rfl, _, hblk, hle, _, _, ht⟩⟩ := id ho
  · exact ⟨none, 0, by rw [h0], by omega, fun i hi => by omega⟩
  · refine ⟨some ⟨g, 0, none⟩, cap, rfl, hle, fun i hi => ?_⟩
    have hn := h3 i hi (by omega)
    obtain ⟨A', c', e⟩ := (bd_rb hn).form
    rw [e] at hn
    have hc := ho.cellAt i (by omega)
    rw [List.getElem?_eq_getElem (by omega), e] at hc
    exact ⟨g, A', c', rfl, (Array.getElem?_eq_some_iff.1 hblk).1, hc, hn⟩
theorem rsn_cells {w : World} {g base : Nat} {st win : Int} {a : Nat} {Bs : List (List Nat)} (h : Rsn w g base st win a Bs) : ∃ A c, w.cell? ⟨g, 0, none⟩ = some (.int .i64 st) ∧ w.cell? ⟨g, 1, none⟩ = some (.int .i64 win) ∧ w.cell? ⟨g, 2, none⟩ = some (.int .i64 (a : Int)) ∧
    w.cell? ⟨g, 3, none⟩ = some (.slice A Bs.length c) ∧ Bs.length ≤ c ∧ (∀ i, w.frozen? ⟨g, i, none⟩ = false) ∧ g < w.heap.size ∧
    ∀ i (hi : i < Bs.length), ∃ gb A' c', A = some ⟨gb, 0, none⟩ ∧ gb < w.heap.size ∧ w.cell? ⟨gb, i, none⟩ = some (.slice A' Bs[i].length c') ∧ Bd w (.slice A' Bs[i].length c') Bs[i] := by
  obtain ⟨bv, h1, h2, h3⟩ := h
  obtain ⟨A, c, rfl, h4, h5⟩ := bsl_cells h3
  exact ⟨A, c, cell_of_row _ _ _ _ _ _ h1, cell_of_row _ _ _ _ _ _ h1, cell_of_row _ _ _ _ _ _ h1, cell_of_row _ _ _ _ _ _ h1, h4, fun i => by simp [World.frozen?, h1], (Array.getElem?_eq_some_iff.1 h1).1, h5⟩

set_option maxRecDepth 100000 in
set_option maxHeartbeats 2000000 in
theorem rframe_any (g base : Nat) (st win : Int) (a i : Nat) (Bs : List (List Nat)) (w : World) (h : Rsn w g base st win a Bs) (hi : i < Bs.length) (hl : Bs.length ≤ 1048576) (hX : Bs[i].length ≤ 1048576) :
    Calls Try.prog 59 #[.pointer (some ⟨g, 0, none⟩), .int .i64 (i : Int)] w (RetFr w st (i : Int) Bs[i]) := by
  obtain ⟨W0, HW0, hw0, HG, z0⟩ := U0ex w
  obtain ⟨k0, k1, k2, kf⟩ := fr_blk HG.out (Below.refl _ _)
  obtain ⟨A, c, c0, c1, c2, c3, hcap, cf, hgl, hel⟩ := rsn_cells h
  obtain ⟨gb, A', c', rfl, hgb, p0, hv⟩ := hel i hi
  obtain ⟨X, hXe⟩ : ∃ X, X = Bs[i] := ⟨_, rfl⟩
  rw [← hXe] at hv p0 hX ⊢
  obtain ⟨nb, hnb⟩ : ∃ nb, nb = Bs.length := ⟨_, rfl⟩
  rw [← hnb] at c3 hi hl hcap
  have KK := Lib.hid (fun (w' : World) (hb : Below w.heap.size w w') => (⟨(hb.cell (p := ⟨g, 0, none⟩) hgl).trans c0, (hb.cell (p := ⟨g, 3, none⟩) hgl).trans c3, (hb.cell (p := ⟨gb, i, none⟩) hgb).trans p0⟩ : w'.cell? ⟨g, 0, none⟩ = some (.int .i64 st) ∧ w'.cell? ⟨g, 3, none⟩ = some (.slice (some ⟨gb, 0, none⟩) nb c) ∧ w'.cell? ⟨gb, i, none⟩ = some (.slice A' X.length c')))
  have K1 := Lib.hid (KK.out W0.drew hw0.drew)
  have HV := Lib.hid (And.intro ((bd_rb hv).belowM hw0 (Nat.le_refl _)) hX)
  have HGk := Lib.hid HG.out
  have HW := Lib.hid hw0
  have hs0 := hw0.size
  have i1 : (0 : Int) ≤ (i : Int) := by omega
  have i2 : (i : Int) < (nb : Int) := by omega
  clear hXe hv hX c0 c1 c2 c3 cf h hel p0 hnb
  go_enter Try.func59, Try.ntmps59
  go_wp2_with fail
  rw [← HW0.out]
  go_region_held3 (fun w' => w'.cell? ⟨g, 0, none⟩ = some (.int .i64 st) ∧ w'.cell? ⟨g, 3, none⟩ = some (.slice (some ⟨gb, 0, none⟩) nb c) ∧ w'.cell? ⟨gb, i, none⟩ = some (.slice A' X.length c'))
    (first | with_reducible exact K3.out | with_reducible exact K1.out | exact KK.out _ (set3_below F3.out (Nat.le_refl _)) | exact KK.out _ (HW.out.drew.alloc (by exact Nat.le_of_lt z0) _) | exact KK.out _ ((HW.out.alloc (by exact Nat.le_of_lt z0) _).drew) | go_keep)
    (first
      | (go_at_call 58
         refine (joined_one (.slice A' X.length c') X w.heap.size _ (by exact ⟨HV.out.1.1.drew, HV.out.1.2⟩) (by exact hs0) (by have := HV.out.2; omega)).mono ?_
         rintro e w3 ⟨v3, rfl, o3, b3⟩
         have f3 : Below W0.heap.size W0 w3 := below_un b3
         obtain ⟨A3, c3', e3⟩ := (rb_of_owns o3).2.form
         subst e3
         have F3 := Lib.hid (HW.out.trans (f3.mono HW.out.size))
         have K3 := Lib.hid (KK.out w3 F3.out)
         obtain ⟨k0', k1'', k2', kf'⟩ := fr_blk HGk.out f3))
  have hB3 := Lib.hid (bd_owns o3)
  have HG3 := Lib.hid ((f3.block _ z0).trans HGk.out)
  obtain ⟨d0, d1, d2, df⟩ := fr_blk (set3_heap (x := .int .i64 st) (y := .int .i64 (i : Int)) (z := .slice A3 X.length c3') HG3.out) (Below.refl _ _)
  clear o3 b3 k0' k1'' k2' kf' k0 k1 k2 kf
  go_wp2
  refine bodyPost_ret (v := .agg #[.int .i64 st, .int .i64 (i : Int), .slice A3 X.length c3']) (by simp [results, Try.results59, go_sem, d0, d1, d2]) rfl ⟨_, rfl, bd_set3 HG3.out (by decide) hB3.out, set3_below F3.out (Nat.le_refl _)⟩
end Go.Proofs.Ytndgpgciccgapaa
