/-
  The document's receiver: keep where it accepts.
-/
import Derived.Test.YtkakbeiehggkiaaH09
import Derived.Deep.RegionLaw
import Derived.Deep.AppendLies
namespace Go.Proofs.Ytkakbeiehggkiaa
open Go.RowKit Go.Maps
attribute [local go_sem ↓] Go.wp_at_zero Go.wp_at_succ

theorem dls_notc {w : World} {g base : Nat} {v : Value} {Ds : List Dl} {cs : Array Value} (h : DlS w base v Ds) (hg : w.heap[g]? = some (.cells cs 91 (0, 0))) : ∀ k, v.ownBlock = some k → ¬ k = g := by
  intro k hk e
  subst e
  obtain ⟨vs, h1, h2, h3⟩ := h
  obtain ⟨_, _, cs', hc⟩ := own_block h2 hk
  rw [hg] at hc
  injection hc with hc
  injection hc with _ hc
  exact absurd hc (by decide)
theorem nob_rc {w : World} {g : Nat} {cs : Array Value} (hg : w.heap[g]? = some (.cells cs 91 (0, 0))) : NoB w (fun k => k = g) := fun k cs fr hk e => by
  subst e
  rw [hg] at hk
  injection hk with hk
  injection hk with _ hk
  exact absurd hk (by decide)
/-- The list of a receiver is another one. -/
theorem rrc_set {w : World} {g base : Nat} {st win nx : Int} {hv v' : Value} {Ds : List Dl} (hR : w.heap[g]? = some (.cells #[.int .i64 st, .int .i64 win, .int .i64 nx, hv] 91 (0, 0))) (hD : DlS w base v' Ds) :
    Rrc (w.setCell ⟨g, 3, none⟩ v') g base st win nx Ds ∧ Only (fun k => k = g) w (w.setCell ⟨g, 3, none⟩ v') := by
  have hO : Only (fun k => k = g) w (w.setCell ⟨g, 3, none⟩ v') := only_set _ rfl
  refine ⟨⟨v', ?_, dls_only hD hO (nob_rc hR) (dls_notc hD hR)⟩, hO⟩
  rw [heap_setCell_same w g 3 _ _ _ hR]
  rfl
theorem rrc_next {w : World} {g base : Nat} {st win nx nx' : Int} {Ds : List Dl} (h : Rrc w g base st win nx Ds) : Rrc (w.setCell ⟨g, 2, none⟩ (.int .i64 nx')) g base st win nx' Ds ∧ Only (fun k => k = g) w (w.setCell ⟨g, 2, none⟩ (.int .i64 nx')) := by
  obtain ⟨hv, hR, hD⟩ := h
  have hO : Only (fun k => k = g) w (w.setCell ⟨g, 2, none⟩ (.int .i64 nx')) := only_set _ rfl
  refine ⟨⟨hv, ?_, dls_only hD hO (nob_rc hR) (dls_notc hD hR)⟩, hO⟩
  rw [heap_setCell_same w g 2 _ _ _ hR]
  rfl
theorem rrc_put {w3 w4 w5 : World} {g base : Nat} {st win nx sq : Int} {Ds : List Dl} {hv u : Value} {vs : List Value} {X : List Nat} {l : Bool} {v' : Value} (hR : w3.heap[g]? = some (.cells #[.int .i64 st, .int .i64 win, .int .i64 nx, hv] 91 (0, 0))) (h1 : vs.length = Ds.length)
    (h2 : w3.ownsRow base 85 3 hv Ds.length (dlC Ds vs)) (h3 : ∀ i (h : i < Ds.length) (h' : i < vs.length), Bd w3 (vs[i]'h') (Ds[i]'h).2.1) (hu : Bd w3 u X) (hown : w5.ownsRow base 85 3 v' (Ds.length + 1) (dlC Ds vs ++ [.int .i64 sq, u, .bool l])) (hg : w4.grownBy w5 hv.ownBlock) (h34 : Below w3.heap.size w3 w4) :
    Rrc (w5.setCell ⟨g, 3, none⟩ v') g base st win nx (Ds ++ [(sq, X, l)]) ∧ Only (fun k => k = g ∨ hv.ownBlock = some k) w3 (w5.setCell ⟨g, 3, none⟩ v') := by
  have hng := dls_notc ⟨vs, h1, h2, h3⟩ hR
  have hO4 : Only (fun _ => False) w3 w4 := only_below h34
  have hO5 : Only (fun k => hv.ownBlock = some k) w3 w5 := (only_below h34).trans (only_grown hg (fun k e => e))
  have hR5 : w5.heap[g]? = _ := (hO5.block g (Array.getElem?_eq_some_iff.1 hR).1 (fun e => hng g e rfl)).trans hR
  have hD5 : DlS w5 base v' (Ds ++ [(sq, X, l)]) := dls_append (w := w4) h1 (hO4.own h2 (fun _ _ h => h)) (fun i hi hi' => (h3 i hi hi').only hO4 (fun _ _ _ _ h => h)) hown hg (hu.only hO4 (fun _ _ _ _ h => h))
  obtain ⟨a, b⟩ := rrc_set hR5 hD5
  exact ⟨a, (hO5.mono (fun _ _ e => .inr e)).trans (b.mono (fun _ _ e => .inl e))⟩
theorem rrc_only {w w' : World} {S : Nat → Prop} {g base : Nat} {st win nx : Int} {Ds : List Dl} (h : Rrc w g base st win nx Ds) (ho : Only S w w') (hS : NoB w S) (hg : ¬ S g) (hn : ∀ k cs, w.heap[k]? = some (.cells cs 85 (0, 0)) → base ≤ k → ¬ S k) : Rrc w' g base st win nx Ds := by
  obtain ⟨hv, h1, vs, v1, v2, v3⟩ := h
  exact ⟨hv, (ho.block g (Array.getElem?_eq_some_iff.1 h1).1 hg).trans h1, dls_only ⟨vs, v1, v2, v3⟩ ho hS (fun k hk => by obtain ⟨q, _, cs, hc⟩ := own_block v2 hk; exact hn k cs hc q)⟩
end Go.Proofs.Ytkakbeiehggkiaa
