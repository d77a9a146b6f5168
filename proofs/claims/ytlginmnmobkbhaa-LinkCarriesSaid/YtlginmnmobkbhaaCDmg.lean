/-
  The program's damage.
-/
import Derived.Test.YtlginmnmobkbhaaCLst
namespace Go.Proofs.Ytlginmnmobkbhaa
open Go.RowKit

def wi (n : Int) (m : Nat) : Nat := (max 0 (min n (m : Int))).toNat
set_option maxRecDepth 100000 in
theorem within_run (n : Int) (m : Nat) (w : World) : Calls Try.prog 79 #[.int .i64 n, .int .i64 (m : Int)] w fun e w' => e = .returned (.int .i64 (wi n m : Nat)) ∧ w' = w := by
  have h1 : ((wi n m : Nat) : Int) = max 0 (min n (m : Int)) := by unfold wi; omega
  rw [h1]
  go_enter Try.func79, Try.ntmps79
  go_wp2
  all_goals
    go_ret
    exact ⟨congrArg (fun z => Ending.returned (.int .i64 z)) (by first | omega | (simp_all; omega) | (split at * <;> omega)), rfl⟩

theorem chs_below {w w' : World} {base : Nat} {v : Value} {ps : List (Value × List Nat)} (h : Chs w base v ps) (hb : Below w.heap.size w w') : Chs w' base v ps := by
  obtain ⟨⟨g, c, cur, rfl, hbg, hg, hs, hn, hc, hcur⟩, hels, hap⟩ := h
  have hO := only_below (S := fun _ => False) hb
  exact ⟨⟨g, c, cur, rfl, hbg, (hO.block g (Array.getElem?_eq_some_iff.1 hg).1 (fun h => h)).trans hg, hs, hn, hc, hcur⟩, fun p hp => (hels p hp).only hO (fun _ _ h => h), hap⟩

/-- The list's cell. -/
theorem chs_at {w : World} {base g n c : Nat} {ps : List (Value × List Nat)} (h : Chs w base (.slice (some ⟨g, 0, none⟩) n c) ps) (i : Nat) (hi : i < ps.length) : w.cell? ⟨g, i, none⟩ = some (ps[i]'hi).1 := by
  obtain ⟨⟨g', c', cur, e, _, hg, _, _, _, hcur⟩, _, _⟩ := h
  injection e with e1 e2 e3
  injection e1 with e1
  injection e1 with e1
  subst e1
  rw [cell_of_row _ _ _ _ _ _ hg, hcur i hi, List.getElem?_eq_getElem hi]
  rfl

set_option maxRecDepth 100000 in
set_option maxHeartbeats 1000000 in
theorem damage_drop {w : World} {base : Nat} {v : Value} {ps : List (Value × List Nat)} (h : Chs w base v ps) (hb : base ≤ w.heap.size) (hn2 : ps.length ≤ 1000) (i : Nat) (hi : i < ps.length) (n : Int) :
    Calls Try.prog 67 #[v, .agg #[.int .i64 1, .int .i64 (i : Int), .int .i64 n]] w (RetChs w base (ps.eraseIdx i)) := by
  obtain ⟨g, c, hv⟩ : ∃ g c, v = .slice (some ⟨g, 0, none⟩) ps.length c := by
    obtain ⟨⟨g, c, cur, rfl, _⟩, _, _⟩ := h
    exact ⟨g, c, rfl⟩
  subst hv
  have hb0 : Below w.heap.size w (w.alloc (.cells #[.int .i64 1, .int .i64 (i : Int), .int .i64 n] 106)) := (Below.refl _ _).alloc (Nat.le_refl _) _
  have h0 := chs_below h hb0
  have hcell := chs_at h0 i hi
  have H0 := Lib.hid (And.intro h0 hb0)
  have i1 : (i : Int) < (ps.length : Int) := by omega
  have i2 : IntKind.i64.wrap ((i : Int) + 1) = (i : Int) + 1 := by rw [IntKind.wrap_i64]; omega
  clear h0 hb0 h
  go_enter Try.func67, Try.ntmps67
  go_wp2_with (go_at_call 77
               refine (chs_delete H0.out.1 (Nat.le_trans hb H0.out.2.size) i hi).mono ?_
               rintro e w1 ⟨v1, rfl, hc1, hb1, _⟩)
  go_ret
  exact ⟨v1, rfl, hc1, (H0.out.2.mono hb).trans hb1⟩

theorem chs_lt {w : World} {base g n c : Nat} {ps : List (Value × List Nat)} (h : Chs w base (.slice (some ⟨g, 0, none⟩) n c) ps) : g < w.heap.size := by
  obtain ⟨⟨g', c', cur, e, _, hg, _⟩, _, _⟩ := h
  injection e with e1 e2 e3
  injection e1 with e1
  injection e1 with e1
  rw [e1]
  exact (Array.getElem?_eq_some_iff.1 hg).1
/-- What a clone is beside the list that it is taken from. -/
theorem clone_el {W w2 : World} {base : Nat} {v v2 : Value} {ps : List (Value × List Nat)} (h : Chs W base v ps) (hb : base ≤ W.heap.size) {p : Value × List Nat} (hp : p ∈ ps) (o2 : w2.ownsRow W.heap.size 5 1 v2 p.2.length (bys p.2)) (b2 : Below W.heap.size W w2) :
    Chs (w2.alloc (.cells #[v2] 33)) base v ps ∧ El (w2.alloc (.cells #[v2] 33)) base (v2, p.2) ∧ (∀ q ∈ ps, Apart (v2, p.2) q) ∧ (w2.alloc (.cells #[v2] 33)).heap[w2.heap.size]? = some (.cells #[v2] 33 (0, 0)) ∧
      base ≤ (w2.alloc (.cells #[v2] 33)).heap.size ∧ (∀ A n c, v = .slice (some A) n c → w2.heap.size ≠ A.block) ∧ Below W.heap.size W (w2.alloc (.cells #[v2] 33)) := by
  have b3 : Below w2.heap.size w2 (w2.alloc (.cells #[v2] 33)) := (Below.refl _ _).alloc (Nat.le_refl _) _
  have b4 : Below W.heap.size W (w2.alloc (.cells #[v2] 33)) := b2.trans (b3.mono b2.size)
  have el : El w2 base (v2, p.2) := ⟨owns_base o2 hb, (h.els p hp).2⟩
  refine ⟨chs_below h b4, el.only (only_below (S := fun _ => False) b3) (fun _ _ h => h), fun q hq b h1 h2 => ?_, heap_alloc_new w2 _, Nat.le_trans hb b4.size, fun A n c e => ?_, b4⟩
  · have k1 := (own_block o2 h1).1
    have k2 := (own_block (h.els q hq).1 h2).2.1
    omega
  · obtain ⟨⟨g, c, cur, e2, _, hg, _⟩, _, _⟩ := h
    rw [e2] at e
    injection e with e
    injection e with e
    subst e
    have := (Array.getElem?_eq_some_iff.1 hg).1
    have := b2.size
    show w2.heap.size ≠ g
    omega

set_option maxRecDepth 100000 in
set_option maxHeartbeats 1000000 in
theorem damage_double {w : World} {base : Nat} {v : Value} {ps : List (Value × List Nat)} (h : Chs w base v ps) (hb : base ≤ w.heap.size) (hn2 : ps.length ≤ 1000) (i : Nat) (hi : i < ps.length) (n : Int) :
    Calls Try.prog 67 #[v, .agg #[.int .i64 2, .int .i64 (i : Int), .int .i64 n]] w (fun e w' => ∃ u, RetChs w base (ps.take (i + 1) ++ (u, (ps[i]'hi).2) :: ps.drop (i + 1)) e w') := by
  obtain ⟨g, c, hv⟩ : ∃ g c, v = .slice (some ⟨g, 0, none⟩) ps.length c := by
    obtain ⟨⟨g, c, cur, rfl, _⟩, _, _⟩ := h
    exact ⟨g, c, rfl⟩
  subst hv
  obtain ⟨W0, hW0⟩ : ∃ W0, W0 = w.alloc (.cells #[.int .i64 2, .int .i64 (i : Int), .int .i64 n] 106) := ⟨_, rfl⟩
  have hb0 : Below w.heap.size w W0 := by rw [hW0]; exact (Below.refl _ _).alloc (Nat.le_refl _) _
  have z0 : w.heap.size < W0.heap.size := by rw [hW0]; simp
  have hG : W0.heap[w.heap.size]? = some (.cells #[.int .i64 2, .int .i64 (i : Int), .int .i64 n] 106 (0, 0)) := by rw [hW0]; exact heap_alloc_new w _
  have HG := Lib.hid hG
  have HW := Lib.hid hW0
  obtain ⟨k0, k1, k2, kf⟩ := fr_blk hG (Below.refl _ _)
  have h0 := chs_below h hb0
  have hcell := chs_at h0 i hi
  have hcellA := hcell
  rw [hW0] at hcellA
  have hel := h0.els _ (List.getElem_mem hi)
  obtain ⟨_, hrb⟩ := rb_of_owns hel.1
  have hgne : ¬ g = w.heap.size := fun e => by
    have := chs_lt h
    omega
  have hd0 := chs_below h0 (Below.refl _ _).drew
  have H0 := Lib.hid (And.intro hd0 (And.intro hb0 (And.intro hrb hel)))
  have i1 : (i : Int) < (ps.length : Int) := by omega
  have i2 : IntKind.i64.wrap ((i : Int) + 1) = (i : Int) + 1 := by rw [IntKind.wrap_i64]; omega
  clear h0 hb0 h hrb hel hG hd0
  go_enter Try.func67, Try.ntmps67
  clear hW0
  go_wp2_with fail
  rw [← HW.out]
  go_region_held3 (fun w' => w'.cell? ⟨w.heap.size, 1, none⟩ = some (.int .i64 (i : Int)))
    (first | exact k1 | exact j1 | exact q1 | (rw [World.cell?_drew]; exact k1) | (rw [World.cell?_alloc_past _ _ _ jl]; exact j1) | go_keep)
    (first
      | (go_at_call 60
         refine (clone_any (ps[i]'hi).2 _ W0.heap.size _ (by exact ⟨H0.out.2.2.1.1.drew, H0.out.2.2.1.2⟩) (by exact Nat.le_refl _) H0.out.2.2.2.2.2).mono ?_
         rintro e w2 ⟨v2, rfl, o2, b2⟩
         obtain ⟨A2, c2, e2⟩ := (rb_of_owns o2).2.form
         subst e2
         have CE := Lib.hid (clone_el H0.out.1 (Nat.le_trans hb H0.out.2.1.size) (List.getElem_mem hi) o2 b2)
         have b2' : Below W0.heap.size W0 w2 := below_un b2
         have jl : w.heap.size < w2.heap.size := Nat.lt_of_lt_of_le z0 b2'.size
         obtain ⟨j0, j1, j2, jf⟩ := fr_blk HG.out b2')
      | (go_at_call 78
         refine (chs_insert CE.out.1 CE.out.2.2.2.2.1 hn2 (i + 1) ((i : Int) + 1) (by omega) hi _ CE.out.2.1 CE.out.2.2.1 w2.heap.size CE.out.2.2.2.1 CE.out.2.2.2.2.2.1).mono ?_
         rintro e w3 ⟨v3, rfl, hc3, hb3, hO3⟩
         have q1 : w3.cell? ⟨w.heap.size, 1, none⟩ = some (.int .i64 (i : Int)) := (hO3.cell (p := ⟨w.heap.size, 1, none⟩) (Nat.lt_of_lt_of_le z0 CE.out.2.2.2.2.2.2.size) (fun e => by injection e with e; exact hgne e)).trans ((World.cell?_alloc_past _ _ _ jl).trans j1)
         have B3 := (CE.out.2.2.2.2.2.2.mono (Nat.le_trans hb H0.out.2.1.size)).trans hb3))
  go_wp2
  go_ret
  exact ⟨_, v3, rfl, hc3, (H0.out.2.1.mono hb).trans ((Below.refl _ _).drew.trans B3)⟩
end Go.Proofs.Ytlginmnmobkbhaa
