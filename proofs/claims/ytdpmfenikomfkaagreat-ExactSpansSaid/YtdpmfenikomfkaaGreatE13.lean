/-
  The document's Around of whole numbers.
-/
import Derived.Test.YtdpmfenikomfkaaGreatE12
namespace Go.Proofs.YtdpmfenikomfkaaGreat
open Go.RowKit

/-- A list that reads as whole numbers. -/
def QR (w : World) (v : Value) (zs : List Int) : Prop := ∃ A c, v = .slice A zs.length c ∧ zs.length ≤ c ∧
    ∀ i (hi : i < zs.length), ∃ g s A1 n1 c1 A2 n2 c2, A = some ⟨g, 0, none⟩ ∧ g < w.heap.size ∧ w.cell? ⟨g, i * 3, none⟩ = some (.bool s) ∧ w.cell? ⟨g, i * 3 + 1, none⟩ = some (.slice A1 n1 c1) ∧ w.cell? ⟨g, i * 3 + 2, none⟩ = some (.slice A2 n2 c2) ∧
      QV w w.heap.size (.agg #[.bool s, .slice A1 n1 c1, .slice A2 n2 c2]) (zs[i]'hi) 1
def RetSp (w : World) (lo hi : Int) (e : Ending) (w' : World) : Prop :=
  ((lo.natAbs ≤ 1152921504606846976 ∧ hi.natAbs ≤ 1152921504606846976 ∧ e = .returned (.tuple #[.agg #[.int .i64 lo, .int .i64 hi], .int .i64 0])) ∨ (¬ (lo.natAbs ≤ 1152921504606846976 ∧ hi.natAbs ≤ 1152921504606846976) ∧ e = .returned (.tuple #[.agg #[.int .i64 0, .int .i64 0], .int .i64 3]))) ∧ Below w.heap.size w w'
/-- lo and hi are the least and the greatest of the first k. -/
def Ends (zs : List Int) (k : Nat) (lo hi : Int) : Prop := (∃ j, ∃ h : j < zs.length, j < k ∧ zs[j]'h = lo) ∧ (∃ j, ∃ h : j < zs.length, j < k ∧ zs[j]'h = hi) ∧ ∀ j (h : j < zs.length), j < k → lo ≤ zs[j]'h ∧ zs[j]'h ≤ hi

/-- A box that holds a whole number. -/
def Bx (w : World) (p : Nat) (z : Int) : Prop := ∃ s A n c A' n' c', w.heap[p]? = some (.cells #[.bool s, .slice A n c, .slice A' n' c'] 41 (0, 0)) ∧ QV w w.heap.size (.agg #[.bool s, .slice A n c, .slice A' n' c']) z 1
theorem bx_below {w w' : World} {p : Nat} {z : Int} (h : Bx w p z) (hb : Below w.heap.size w w') : Bx w' p z := by
  obtain ⟨s, A, n, c, A', n', c', h1, h2⟩ := h
  exact ⟨s, A, n, c, A', n', c', (hb.block _ (Array.getElem?_eq_some_iff.1 h1).1).trans h1, (h2.below hb (Nat.le_refl _)).more hb.size⟩
theorem bx_cell {w : World} {p g i : Nat} {u0 u1 u2 : Value} (h : g ≠ p) : (((w.setCell ⟨p, 0, none⟩ u0).setCell ⟨p, 1, none⟩ u1).setCell ⟨p, 2, none⟩ u2).cell? ⟨g, i, none⟩ = w.cell? ⟨g, i, none⟩ :=
  ((set_other h).trans (set_other h)).trans (set_other h)
theorem bx_far {w : World} {p g : Nat} {u0 u1 u2 : Value} (h : g ≠ p) : (((w.setCell ⟨p, 0, none⟩ u0).setCell ⟨p, 1, none⟩ u1).setCell ⟨p, 2, none⟩ u2).heap[g]? = w.heap[g]? :=
  ((Below.heap_setCell _ _ _ _ h).trans (Below.heap_setCell _ _ _ _ h)).trans (Below.heap_setCell _ _ _ _ h)
theorem qv_store {w : World} {p : Nat} {z0 z : Int} {v : Value} (h : Bx w p z0) (hq : QV w w.heap.size v z 1) (u0 u1 u2 : Value) : QV (((w.setCell ⟨p, 0, none⟩ u0).setCell ⟨p, 1, none⟩ u1).setCell ⟨p, 2, none⟩ u2) (((w.setCell ⟨p, 0, none⟩ u0).setCell ⟨p, 1, none⟩ u1).setCell ⟨p, 2, none⟩ u2).heap.size v z 1 := by
  obtain ⟨s, A, n, c, A', n', c', h1, _⟩ := h
  obtain ⟨s2, B, m, d, B', m', d', rfl, q1, q2, q3, q4, q5⟩ := hq
  have hs : (((w.setCell ⟨p, 0, none⟩ u0).setCell ⟨p, 1, none⟩ u1).setCell ⟨p, 2, none⟩ u2).heap.size = w.heap.size := by simp
  have hf : ∀ a : Addr, a.block ≠ p → (((w.setCell ⟨p, 0, none⟩ u0).setCell ⟨p, 1, none⟩ u1).setCell ⟨p, 2, none⟩ u2).cell? a = w.cell? a := fun a ha => ((set_other ha).trans (set_other ha)).trans (set_other ha)
  rw [hs]
  exact ⟨s2, B, m, d, B', m', d', rfl, q1, q2.qne hf (qnoint3 h1), q3, q4.qne hf (qnoint3 h1), q5⟩
theorem qset3_heap {w : World} {g : Nat} {a b c x y z : Value} {T : TypeId} (h : w.heap[g]? = some (.cells #[a, b, c] T (0, 0))) : (((w.setCell ⟨g, 0, none⟩ x).setCell ⟨g, 1, none⟩ y).setCell ⟨g, 2, none⟩ z).heap[g]? = some (.cells #[x, y, z] T (0, 0)) := by
  have h1 : (w.setCell ⟨g, 0, none⟩ x).heap[g]? = some (.cells #[x, b, c] T (0, 0)) := by rw [heap_setCell_same w g 0 _ _ _ h]; rfl
  have h2 : ((w.setCell ⟨g, 0, none⟩ x).setCell ⟨g, 1, none⟩ y).heap[g]? = some (.cells #[x, y, c] T (0, 0)) := by rw [heap_setCell_same _ g 1 _ _ _ h1]; rfl
  rw [heap_setCell_same _ g 2 _ _ _ h2]; rfl
theorem bx_store {w : World} {p : Nat} {z0 z : Int} {s : Bool} {A A' : Option Addr} {n c n' c' : Nat} (h : Bx w p z0) (hq : QV w w.heap.size (.agg #[.bool s, .slice A n c, .slice A' n' c']) z 1) :
    Bx (((w.setCell ⟨p, 0, none⟩ (.bool s)).setCell ⟨p, 1, none⟩ (.slice A n c)).setCell ⟨p, 2, none⟩ (.slice A' n' c')) p z := by
  have h2 := qv_store h hq (.bool s) (.slice A n c) (.slice A' n' c')
  obtain ⟨s0, B, m, d, B', m', d', h1, _⟩ := h
  exact ⟨s, A, n, c, A', n', c', qset3_heap h1, h2⟩
theorem bx_other {w : World} {p q : Nat} {z0 z : Int} {u0 u1 u2 : Value} (h : Bx w p z0) (h' : Bx w q z) (hpq : p ≠ q) : Bx (((w.setCell ⟨p, 0, none⟩ u0).setCell ⟨p, 1, none⟩ u1).setCell ⟨p, 2, none⟩ u2) q z := by
  obtain ⟨s, A, n, c, A', n', c', h1, h2⟩ := h'
  exact ⟨s, A, n, c, A', n', c', (bx_far hpq.symm).trans h1, qv_store h h2 u0 u1 u2⟩
theorem ends_start {zs : List Int} (h : 0 < zs.length) : Ends zs 1 (zs[0]'h) (zs[0]'h) :=
  ⟨⟨0, h, by omega, rfl⟩, ⟨0, h, by omega, rfl⟩, fun j hj hj1 => by
    obtain rfl : j = 0 := by omega
    exact ⟨Int.le_refl _, Int.le_refl _⟩⟩
theorem ends_le {zs : List Int} {k : Nat} {lo hi : Int} (h : Ends zs k lo hi) : lo ≤ hi := by
  obtain ⟨⟨j, h1, h2, h3⟩, _, h4⟩ := h
  have := (h4 j h1 h2).2
  omega
theorem ends_less {zs : List Int} {k : Nat} {lo hi z : Int} {hk : k < zs.length} (h : Ends zs k lo hi) (hz : z < lo) (e : z = zs[k]'hk) : Ends zs (k + 1) z hi := by
  have hle := ends_le h
  obtain ⟨_, ⟨j, a, b, c⟩, h4⟩ := h
  refine ⟨⟨k, hk, by omega, e.symm⟩, ⟨j, a, by omega, c⟩, fun i hi hik => ?_⟩
  by_cases ei : i = k
  · subst ei; rw [← e]; exact ⟨Int.le_refl _, by omega⟩
  · have := h4 i hi (by omega); omega
theorem ends_great {zs : List Int} {k : Nat} {lo hi z : Int} {hk : k < zs.length} (h : Ends zs k lo hi) (hz : hi < z) (e : z = zs[k]'hk) : Ends zs (k + 1) lo z := by
  have hle := ends_le h
  obtain ⟨⟨j, a, b, c⟩, _, h4⟩ := h
  refine ⟨⟨j, a, by omega, c⟩, ⟨k, hk, by omega, e.symm⟩, fun i hi hik => ?_⟩
  by_cases ei : i = k
  · subst ei; rw [← e]; exact ⟨by omega, Int.le_refl _⟩
  · have := h4 i hi (by omega); omega
theorem ends_mid {zs : List Int} {k : Nat} {lo hi z : Int} {hk : k < zs.length} (h : Ends zs k lo hi) (h1 : lo ≤ z) (h2 : z ≤ hi) (e : z = zs[k]'hk) : Ends zs (k + 1) lo hi := by
  obtain ⟨⟨j, a, b, c⟩, ⟨j', a', b', c'⟩, h4⟩ := h
  refine ⟨⟨j, a, by omega, c⟩, ⟨j', a', by omega, c'⟩, fun i hi hik => ?_⟩
  by_cases ei : i = k
  · subst ei; rw [← e]; exact ⟨h1, h2⟩
  · exact h4 i hi (by omega)
theorem ends_one {zs : List Int} {k : Nat} {lo hi lo' hi' : Int} (h : Ends zs k lo hi) (h' : Ends zs k lo' hi') : lo = lo' ∧ hi = hi' := by
  obtain ⟨⟨j1, a1, b1, c1⟩, ⟨j2, a2, b2, c2⟩, h4⟩ := h
  obtain ⟨⟨j3, a3, b3, c3⟩, ⟨j4, a4, b4, c4⟩, h4'⟩ := h'
  have q1 := h4 j3 a3 b3
  have q2 := h4 j4 a4 b4
  have q3 := h4' j1 a1 b1
  have q4 := h4' j2 a2 b2
  omega
theorem ends_bounds {zs : List Int} {k K : Nat} {lo hi : Int} (hz : ∀ z ∈ zs, z.natAbs < B16 ^ K) (h : Ends zs k lo hi) : lo.natAbs < B16 ^ K ∧ hi.natAbs < B16 ^ K := by
  obtain ⟨⟨j1, a1, b1, c1⟩, ⟨j2, a2, b2, c2⟩, _⟩ := h
  exact ⟨by rw [← c1]; exact hz _ (List.getElem_mem _), by rw [← c2]; exact hz _ (List.getElem_mem _)⟩
theorem ends_bound {zs : List Int} {k K : Nat} {lo hi z : Int} (hz : ∀ z ∈ zs, z.natAbs < B16 ^ K) (h : Ends zs k lo hi) (hm : z ∈ zs) : z.natAbs < B16 ^ K ∧ lo.natAbs < B16 ^ K ∧ hi.natAbs < B16 ^ K := ⟨hz z hm, ends_bounds hz h⟩
theorem isgn_neg {z : Int} (h : z < 0) : isgn z = -1 := by unfold isgn; rw [if_neg (by omega), if_pos h]
theorem isgn_pos {z : Int} (h : 0 < z) : isgn z = 1 := by unfold isgn; rw [if_neg (by omega), if_neg (by omega)]
theorem isgn_nonneg {z : Int} (h : 0 ≤ z) : ¬ isgn z < 0 := by
  unfold isgn
  by_cases h0 : z = 0
  · rw [if_pos h0]; omega
  · rw [if_neg h0, if_neg (by omega)]; omega
theorem isgn_nonpos {z : Int} (h : z ≤ 0) : ¬ 0 < isgn z := by
  unfold isgn
  by_cases h0 : z = 0
  · rw [if_pos h0]; omega
  · rw [if_neg h0, if_pos (by omega)]; omega
def ArR (w : World) (zs : List Int) (n p q : Nat) (iv : Value) (wr : World) : Prop :=
  ∃ (k : Nat) (lo hi : Int), 1 ≤ k ∧ k ≤ n ∧ iv = .int .i64 (k : Int) ∧ Hid (Bx wr p lo) ∧ Hid (Bx wr q hi) ∧ Hid (Ends zs k lo hi) ∧ Hid (wr.heap[w.heap.size]? = some (.cells #[.int .i64 0, .int .i64 0] 23 (0, 0))) ∧ Hid (Below w.heap.size w wr)

set_option maxRecDepth 100000 in
set_option maxHeartbeats 4000000 in
theorem daround_any (zs : List Int) (K : Nat) (hK : K ≤ 100000) (hz : ∀ z ∈ zs, z.natAbs < B16 ^ K) (hn0 : 0 < zs.length) (hn : zs.length ≤ 1000) (v : Value) (w : World) (h : QR w v zs) (lo hi : Int) (hends : Ends zs zs.length lo hi) :
    Calls Tryz.prog 23 #[v] w (RetSp w lo hi) := by
  obtain ⟨A, c, rfl, hc, hel⟩ := h
  obtain ⟨g, s, A1, n1, c1, A2, n2, c2, rfl, hg, p0, p1, p2, hq⟩ := hel 0 hn0
  obtain ⟨n, hnn⟩ : ∃ n, n = zs.length := ⟨_, rfl⟩
  rw [← hnn] at hn0 hn hc
  rw [← hnn]
  have HN := Lib.hid hnn
  have HE := Lib.hid (And.intro hel (And.intro hz hends))
  have x0 : (0 : Int) < (n : Int) := by omega
  have HQ := Lib.hid hq
  have p0' : ∀ o, (w.alloc o).cell? ⟨g, 0, none⟩ = some (.bool s) := fun o => by rw [World.cell?_alloc_lt _ _ _ hg]; simpa using p0
  have p1' : ∀ o, (w.alloc o).cell? ⟨g, 1, none⟩ = some (.slice A1 n1 c1) := fun o => by rw [World.cell?_alloc_lt _ _ _ hg]; simpa using p1
  have p2' : ∀ o, (w.alloc o).cell? ⟨g, 2, none⟩ = some (.slice A2 n2 c2) := fun o => by rw [World.cell?_alloc_lt _ _ _ hg]; simpa using p2
  obtain ⟨W0, HW0, HW, HG⟩ := qbox1 w #[.int .i64 0, .int .i64 0] 23
  clear hel hz hends hnn hq
  go_enter Tryz.func23, Tryz.ntmps23
  go_wp2
  rw [← HW0.out]
  have r0 := p0' (.cells #[.int .i64 0, .int .i64 0] 23)
  have r1 := p1' (.cells #[.int .i64 0, .int .i64 0] 23)
  have r2 := p2' (.cells #[.int .i64 0, .int .i64 0] 23)
  rw [← HW0.out] at r0 r1 r2
  have hgl : g < W0.heap.size := Nat.lt_of_lt_of_le hg HW.out.size
  have r0a : ∀ o, (W0.alloc o).cell? ⟨g, 0, none⟩ = some (.bool s) := fun o => by rw [World.cell?_alloc_lt _ _ _ hgl]; exact r0
  have r1a : ∀ o, (W0.alloc o).cell? ⟨g, 1, none⟩ = some (.slice A1 n1 c1) := fun o => by rw [World.cell?_alloc_lt _ _ _ hgl]; exact r1
  have r2a : ∀ o, (W0.alloc o).cell? ⟨g, 2, none⟩ = some (.slice A2 n2 c2) := fun o => by rw [World.cell?_alloc_lt _ _ _ hgl]; exact r2
  have r0b : ∀ o o', ((W0.alloc o).alloc o').cell? ⟨g, 0, none⟩ = some (.bool s) := fun o o' => by rw [World.cell?_alloc_lt _ _ _ (by simp; omega)]; exact r0a o
  have r1b : ∀ o o', ((W0.alloc o).alloc o').cell? ⟨g, 1, none⟩ = some (.slice A1 n1 c1) := fun o o' => by rw [World.cell?_alloc_lt _ _ _ (by simp; omega)]; exact r1a o
  have r2b : ∀ o o', ((W0.alloc o).alloc o').cell? ⟨g, 2, none⟩ = some (.slice A2 n2 c2) := fun o o' => by rw [World.cell?_alloc_lt _ _ _ (by simp; omega)]; exact r2a o
  clear p0 p1 p2 p0' p1' p2'
  go_region
  · as_aux_lemma =>
    obtain ⟨W1, hW1⟩ : ∃ W1, W1 = ((W0.alloc (.cells #[.bool s, .slice A1 n1 c1, .slice A2 n2 c2] 41)).alloc (.cells #[.bool s, .slice A1 n1 c1, .slice A2 n2 c2] 41)).drew := ⟨_, rfl⟩
    have hB1 : Below W0.heap.size W0 W1 := by rw [hW1]; exact (((Below.refl _ _).alloc (Nat.le_refl _) _).alloc (by simp) _).drew
    have hB1w : Below w.heap.size w W1 := HW.out.trans (hB1.mono HW.out.size)
    obtain ⟨a1, a2⟩ := qalloc2 W0 (.cells #[.bool s, .slice A1 n1 c1, .slice A2 n2 c2] 41) (.cells #[.bool s, .slice A1 n1 c1, .slice A2 n2 c2] 41)
    have a1' : W1.heap[W0.heap.size]? = some (.cells #[.bool s, .slice A1 n1 c1, .slice A2 n2 c2] 41 (0, 0)) := by rw [hW1]; exact a1
    have a2' : W1.heap[W0.heap.size + 1]? = some (.cells #[.bool s, .slice A1 n1 c1, .slice A2 n2 c2] 41 (0, 0)) := by rw [hW1]; exact a2
    have hq1 := (HQ.out.below hB1w (Nat.le_refl _)).more hB1w.size
    have b1 : Bx W1 W0.heap.size (zs[0]'(by rw [← HN.out]; exact hn0)) := ⟨s, A1, n1, c1, A2, n2, c2, a1', hq1⟩
    have b2 : Bx W1 (W0.heap.size + 1) (zs[0]'(by rw [← HN.out]; exact hn0)) := ⟨s, A1, n1, c1, A2, n2, c2, a2', hq1⟩
    have hsp : W1.heap[w.heap.size]? = some (.cells #[.int .i64 0, .int .i64 0] 23 (0, 0)) := (hB1.block _ (Array.getElem?_eq_some_iff.1 HG.out).1).trans HG.out
    have hw0s : w.heap.size < W0.heap.size := (Array.getElem?_eq_some_iff.1 HG.out).1
    rw [← hW1]
    have HH1 := Lib.hid (And.intro b1 (And.intro b2 (And.intro hsp hB1w)))
    have HEN := Lib.hid (ends_start (show 0 < zs.length by rw [← HN.out]; exact hn0))
    clear a1 a2 a1' a2' b1 b2 hsp hq1 hB1 hB1w hW1
    clear r0 r1 r2 r0a r1a r2a r0b r1b r2b
    obtain ⟨q, hqq⟩ : ∃ q, q = W0.heap.size + 1 := ⟨_, rfl⟩
    obtain ⟨p, hpp⟩ : ∃ p, p = W0.heap.size := ⟨_, rfl⟩
    have hpq : p ≠ q := by omega
    have hpw : w.heap.size < p ∧ w.heap.size < q := by omega
    rw [← hqq, ← hpp]
    rw [← hpp] at HH1
    rw [show p + 1 = q by omega] at HH1
    clear hqq hpp hw0s
    have HST := Lib.hid (show ArR w zs n p q (.int .i64 1) W1 from ⟨1, _, _, Nat.le_refl _, by omega, rfl, Lib.hid HH1.out.1, Lib.hid HH1.out.2.1, Lib.hid HEN.out, Lib.hid HH1.out.2.2.1, Lib.hid HH1.out.2.2.2⟩)
    go_wp2
    go_loopw [6] (fun iv wr => ArR w zs n p q iv wr) (fun iv _ => n - (numQ iv).toNat)
    case atStart => exact HST.out
    case round =>
      obtain ⟨k, lo', hi', hk1, hkn, rfl, HLow, HHiw, HEn, HSPwr, HBWwr⟩ := hrel
      have HLowr := HLow
      have HHiwr := HHiw
      clear HLow HHiw
      by_cases hkn' : k < n
      · have hkz : k < zs.length := by rw [← HN.out]; exact hkn'
        obtain ⟨gg, sk, B1, m1, d1, B2, m2, d2, hAg, hg2, q0, q1, q2, hqe⟩ := HE.out.1 k hkz
        injection hAg with hAg
        injection hAg with e1 e2
        subst e1
        obtain ⟨zk, hzk⟩ : ∃ z, z = zs[k]'hkz := ⟨_, rfl⟩
        rw [← hzk] at hqe
        have u0 := (HBWwr.out.cell (p := ⟨g, k * 3, none⟩) hg).trans q0
        have u1 := (HBWwr.out.cell (p := ⟨g, k * 3 + 1, none⟩) hg).trans q1
        have u2 := (HBWwr.out.cell (p := ⟨g, k * 3 + 2, none⟩) hg).trans q2
        have hgr : g < wr.heap.size := Nat.lt_of_lt_of_le hg HBWwr.out.size
        have HQE := Lib.hid (fun (w1 : World) (hb : Below w.heap.size w w1) => (hqe.below hb (Nat.le_refl _)).more hb.size)
        have HKB := Lib.hid (ends_bound HE.out.2.1 HEn.out (show zk ∈ zs by rw [hzk]; exact List.getElem_mem _))
        have HZK := Lib.hid hzk
        have x1 : (k : Int) < (n : Int) := by omega
        have x2 : (0 : Int) ≤ (k : Int) := by omega
        have hlh : lo' ≤ hi' := ends_le HEn.out
        clear q0 q1 q2 hqe hzk
        rcases Int.lt_or_le zk lo' with hlt | hge
        · have r1 : isgn (zk - lo') = -1 := isgn_neg (by omega)
          have r2 : isgn (zk - hi') = -1 := isgn_neg (by omega)
          have HR := Lib.hid (And.intro r1 (And.intro r2 hlt))
          clear r1 r2 hlt
          obtain ⟨sl, AL, nL, cL, AL', nL', cL', hbl, hql⟩ := HLowr.out
          have hpl := (Array.getElem?_eq_some_iff.1 hbl).1
          have u3 := qblk_cell hbl (Below.refl _ _) 0 _ rfl
          have u4 := qblk_cell hbl (Below.refl _ _) 1 _ rfl
          have u5 := qblk_cell hbl (Below.refl _ _) 2 _ rfl
          have HS6 := Lib.hid (fun (w1 : World) (hb : Below wr.heap.size wr w1) => (⟨(hb.cell (p := ⟨g, k * 3, none⟩) hgr).trans u0, (hb.cell (p := ⟨g, k * 3 + 1, none⟩) hgr).trans u1, (hb.cell (p := ⟨g, k * 3 + 2, none⟩) hgr).trans u2, (hb.cell (p := ⟨p, 0, none⟩) hpl).trans u3, (hb.cell (p := ⟨p, 1, none⟩) hpl).trans u4, (hb.cell (p := ⟨p, 2, none⟩) hpl).trans u5⟩ : w1.cell? ⟨g, k * 3, none⟩ = some (.bool sk) ∧ w1.cell? ⟨g, k * 3 + 1, none⟩ = some (.slice B1 m1 d1) ∧ w1.cell? ⟨g, k * 3 + 2, none⟩ = some (.slice B2 m2 d2) ∧ w1.cell? ⟨p, 0, none⟩ = some (.bool sl) ∧ w1.cell? ⟨p, 1, none⟩ = some (.slice AL nL cL) ∧ w1.cell? ⟨p, 2, none⟩ = some (.slice AL' nL' cL')))
          have K0 := Lib.hid (HS6.out wr (Below.refl _ _))
          have HQL := Lib.hid hql
          clear hbl hql
          go_wp2
          go_region_held3 (fun w1 => w1.cell? ⟨g, k * 3, none⟩ = some (.bool sk) ∧ w1.cell? ⟨g, k * 3 + 1, none⟩ = some (.slice B1 m1 d1) ∧ w1.cell? ⟨g, k * 3 + 2, none⟩ = some (.slice B2 m2 d2) ∧ w1.cell? ⟨p, 0, none⟩ = some (.bool sl) ∧ w1.cell? ⟨p, 1, none⟩ = some (.slice AL nL cL) ∧ w1.cell? ⟨p, 2, none⟩ = some (.slice AL' nL' cL'))
            (first | exact K3.out | exact K0.out | go_keep)
            (first
              | (go_at_call 35
                 refine (qcmp_one zk lo' K hK HKB.out.1 HKB.out.2.1 _ _ wr.heap.size _ (by exact HQE.out wr (by exact HBWwr.out)) (by exact HQL.out) (by exact Nat.le_refl _)).mono ?_
                 rintro e w3 ⟨rfl, hb3'⟩
                 rw [HR.out.1]
                 have hb3 : Below wr.heap.size wr w3 := by first | exact hb3' | exact below_un hb3'
                 have K3 := Lib.hid (HS6.out w3 hb3)
                 clear hb3'))
          have HBWw3 := Lib.hid (HBWwr.out.trans (hb3.mono HBWwr.out.size))
          have HLow3 := Lib.hid (bx_below HLowr.out hb3)
          have HHiw3 := Lib.hid (bx_below HHiwr.out hb3)
          have HSPw3 := Lib.hid ((hb3.block _ (Array.getElem?_eq_some_iff.1 HSPwr.out).1).trans HSPwr.out)
          obtain ⟨v0, v1, v2, _, _, _⟩ := K3.out
          have hgrw3 : g < w3.heap.size := Nat.lt_of_lt_of_le hgr hb3.size
          clear K0 K3 HS6 u3 u4 u5 hb3
          clear u0 u1 u2
          have u0 := v0
          have u1 := v1
          have u2 := v2
          have hgr := hgrw3
          clear v0 v1 v2

          obtain ⟨sl, AL, nL, cL, AL', nL', cL', hbl, hql⟩ := HLow3.out
          have mfl := fun i => frozen_of_row w3 p i _ _ hbl
          clear hbl hql
          obtain ⟨w4, hwn⟩ : ∃ x, x = (((w3.setCell ⟨p, 0, none⟩ (.bool sk)).setCell ⟨p, 1, none⟩ (.slice B1 m1 d1)).setCell ⟨p, 2, none⟩ (.slice B2 m2 d2)) := ⟨_, rfl⟩
          have HLow4 := Lib.hid (show Bx w4 p zk by rw [hwn]; exact bx_store HLow3.out (HQE.out w3 HBWw3.out))
          have HHiw4 := Lib.hid (show Bx w4 q _ by rw [hwn]; exact bx_other HLow3.out HHiw3.out hpq)
          have HSPw4 := Lib.hid (show w4.heap[w.heap.size]? = some (.cells #[.int .i64 0, .int .i64 0] 23 (0, 0)) by rw [hwn]; exact (bx_far (by omega)).trans HSPw3.out)
          have HBWw4 := Lib.hid (show Below w.heap.size w w4 by rw [hwn]; exact ((HBWw3.out.setCell (by show w.heap.size ≤ p; omega) _).setCell (by show w.heap.size ≤ p; omega) _).setCell (by show w.heap.size ≤ p; omega) _)
          have HWN := Lib.hid hwn
          clear hwn

          have hgr4 : g < w4.heap.size := by rw [HWN.out]; simpa using hgr
          have u0' : w4.cell? ⟨g, k * 3, none⟩ = some (.bool sk) := by rw [HWN.out]; exact (bx_cell (by omega)).trans u0
          have u1' : w4.cell? ⟨g, k * 3 + 1, none⟩ = some (.slice B1 m1 d1) := by rw [HWN.out]; exact (bx_cell (by omega)).trans u1
          have u2' : w4.cell? ⟨g, k * 3 + 2, none⟩ = some (.slice B2 m2 d2) := by rw [HWN.out]; exact (bx_cell (by omega)).trans u2
          go_wp2
          rw [← HWN.out]
          clear u0 u1 u2 hgr mfl
          have u0 := u0'
          have u1 := u1'
          have u2 := u2'
          have hgr := hgr4
          clear u0' u1' u2' hgr4 HLow3 HHiw3 HSPw3 HBWw3 HLowr HHiwr HSPwr HBWwr HWN

          obtain ⟨sl, AL, nL, cL, AL', nL', cL', hbl, hql⟩ := HHiw4.out
          have hpl := (Array.getElem?_eq_some_iff.1 hbl).1
          have u3 := qblk_cell hbl (Below.refl _ _) 0 _ rfl
          have u4 := qblk_cell hbl (Below.refl _ _) 1 _ rfl
          have u5 := qblk_cell hbl (Below.refl _ _) 2 _ rfl
          have HS6 := Lib.hid (fun (w1 : World) (hb : Below w4.heap.size w4 w1) => (⟨(hb.cell (p := ⟨g, k * 3, none⟩) hgr).trans u0, (hb.cell (p := ⟨g, k * 3 + 1, none⟩) hgr).trans u1, (hb.cell (p := ⟨g, k * 3 + 2, none⟩) hgr).trans u2, (hb.cell (p := ⟨q, 0, none⟩) hpl).trans u3, (hb.cell (p := ⟨q, 1, none⟩) hpl).trans u4, (hb.cell (p := ⟨q, 2, none⟩) hpl).trans u5⟩ : w1.cell? ⟨g, k * 3, none⟩ = some (.bool sk) ∧ w1.cell? ⟨g, k * 3 + 1, none⟩ = some (.slice B1 m1 d1) ∧ w1.cell? ⟨g, k * 3 + 2, none⟩ = some (.slice B2 m2 d2) ∧ w1.cell? ⟨q, 0, none⟩ = some (.bool sl) ∧ w1.cell? ⟨q, 1, none⟩ = some (.slice AL nL cL) ∧ w1.cell? ⟨q, 2, none⟩ = some (.slice AL' nL' cL')))
          have K0 := Lib.hid (HS6.out w4 (Below.refl _ _))
          have HQL := Lib.hid hql
          clear hbl hql
          go_wp2
          go_region_held3 (fun w1 => w1.cell? ⟨g, k * 3, none⟩ = some (.bool sk) ∧ w1.cell? ⟨g, k * 3 + 1, none⟩ = some (.slice B1 m1 d1) ∧ w1.cell? ⟨g, k * 3 + 2, none⟩ = some (.slice B2 m2 d2) ∧ w1.cell? ⟨q, 0, none⟩ = some (.bool sl) ∧ w1.cell? ⟨q, 1, none⟩ = some (.slice AL nL cL) ∧ w1.cell? ⟨q, 2, none⟩ = some (.slice AL' nL' cL'))
            (first | exact K3.out | exact K0.out | go_keep)
            (first
              | (go_at_call 35
                 refine (qcmp_one zk hi' K hK HKB.out.1 HKB.out.2.2 _ _ w4.heap.size _ (by exact HQE.out w4 (by exact HBWw4.out)) (by exact HQL.out) (by exact Nat.le_refl _)).mono ?_
                 rintro e w5 ⟨rfl, hb3'⟩
                 rw [HR.out.2.1]
                 have hb3 : Below w4.heap.size w4 w5 := by first | exact hb3' | exact below_un hb3'
                 have K3 := Lib.hid (HS6.out w5 hb3)
                 clear hb3'))
          have HBWw5 := Lib.hid (HBWw4.out.trans (hb3.mono HBWw4.out.size))
          have HLow5 := Lib.hid (bx_below HLow4.out hb3)
          have HHiw5 := Lib.hid (bx_below HHiw4.out hb3)
          have HSPw5 := Lib.hid ((hb3.block _ (Array.getElem?_eq_some_iff.1 HSPw4.out).1).trans HSPw4.out)
          obtain ⟨v0, v1, v2, _, _, _⟩ := K3.out
          have hgrw5 : g < w5.heap.size := Nat.lt_of_lt_of_le hgr hb3.size
          clear K0 K3 HS6 u3 u4 u5 hb3
          clear u0 u1 u2
          have u0 := v0
          have u1 := v1
          have u2 := v2
          have hgr := hgrw5
          clear v0 v1 v2

          go_wp2
          exact ⟨⟨k + 1, zk, hi', by omega, by omega, by go_num, HLow5, HHiw5, Lib.hid (ends_less HEn.out HR.out.2.2 HZK.out), HSPw5, HBWw5⟩, by simp [numQ]; omega⟩
        · rcases Int.lt_or_le hi' zk with hgt | hle
          · have r1 : isgn (zk - lo') = 1 := isgn_pos (by omega)
            have r2 : isgn (zk - hi') = 1 := isgn_pos (by omega)
            have HR := Lib.hid (And.intro r1 (And.intro r2 hgt))
            clear r1 r2 hgt hge
            obtain ⟨sl, AL, nL, cL, AL', nL', cL', hbl, hql⟩ := HLowr.out
            have hpl := (Array.getElem?_eq_some_iff.1 hbl).1
            have u3 := qblk_cell hbl (Below.refl _ _) 0 _ rfl
            have u4 := qblk_cell hbl (Below.refl _ _) 1 _ rfl
            have u5 := qblk_cell hbl (Below.refl _ _) 2 _ rfl
            have HS6 := Lib.hid (fun (w1 : World) (hb : Below wr.heap.size wr w1) => (⟨(hb.cell (p := ⟨g, k * 3, none⟩) hgr).trans u0, (hb.cell (p := ⟨g, k * 3 + 1, none⟩) hgr).trans u1, (hb.cell (p := ⟨g, k * 3 + 2, none⟩) hgr).trans u2, (hb.cell (p := ⟨p, 0, none⟩) hpl).trans u3, (hb.cell (p := ⟨p, 1, none⟩) hpl).trans u4, (hb.cell (p := ⟨p, 2, none⟩) hpl).trans u5⟩ : w1.cell? ⟨g, k * 3, none⟩ = some (.bool sk) ∧ w1.cell? ⟨g, k * 3 + 1, none⟩ = some (.slice B1 m1 d1) ∧ w1.cell? ⟨g, k * 3 + 2, none⟩ = some (.slice B2 m2 d2) ∧ w1.cell? ⟨p, 0, none⟩ = some (.bool sl) ∧ w1.cell? ⟨p, 1, none⟩ = some (.slice AL nL cL) ∧ w1.cell? ⟨p, 2, none⟩ = some (.slice AL' nL' cL')))
            have K0 := Lib.hid (HS6.out wr (Below.refl _ _))
            have HQL := Lib.hid hql
            clear hbl hql
            go_wp2
            go_region_held3 (fun w1 => w1.cell? ⟨g, k * 3, none⟩ = some (.bool sk) ∧ w1.cell? ⟨g, k * 3 + 1, none⟩ = some (.slice B1 m1 d1) ∧ w1.cell? ⟨g, k * 3 + 2, none⟩ = some (.slice B2 m2 d2) ∧ w1.cell? ⟨p, 0, none⟩ = some (.bool sl) ∧ w1.cell? ⟨p, 1, none⟩ = some (.slice AL nL cL) ∧ w1.cell? ⟨p, 2, none⟩ = some (.slice AL' nL' cL'))
              (first | exact K3.out | exact K0.out | go_keep)
              (first
                | (go_at_call 35
                   refine (qcmp_one zk lo' K hK HKB.out.1 HKB.out.2.1 _ _ wr.heap.size _ (by exact HQE.out wr (by exact HBWwr.out)) (by exact HQL.out) (by exact Nat.le_refl _)).mono ?_
                   rintro e w3 ⟨rfl, hb3'⟩
                   rw [HR.out.1]
                   have hb3 : Below wr.heap.size wr w3 := by first | exact hb3' | exact below_un hb3'
                   have K3 := Lib.hid (HS6.out w3 hb3)
                   clear hb3'))
            have HBWw3 := Lib.hid (HBWwr.out.trans (hb3.mono HBWwr.out.size))
            have HLow3 := Lib.hid (bx_below HLowr.out hb3)
            have HHiw3 := Lib.hid (bx_below HHiwr.out hb3)
            have HSPw3 := Lib.hid ((hb3.block _ (Array.getElem?_eq_some_iff.1 HSPwr.out).1).trans HSPwr.out)
            obtain ⟨v0, v1, v2, _, _, _⟩ := K3.out
            have hgrw3 : g < w3.heap.size := Nat.lt_of_lt_of_le hgr hb3.size
            clear K0 K3 HS6 u3 u4 u5 hb3
            clear u0 u1 u2
            have u0 := v0
            have u1 := v1
            have u2 := v2
            have hgr := hgrw3
            clear v0 v1 v2

            clear HLowr HHiwr HSPwr HBWwr

            obtain ⟨sl, AL, nL, cL, AL', nL', cL', hbl, hql⟩ := HHiw3.out
            have hpl := (Array.getElem?_eq_some_iff.1 hbl).1
            have u3 := qblk_cell hbl (Below.refl _ _) 0 _ rfl
            have u4 := qblk_cell hbl (Below.refl _ _) 1 _ rfl
            have u5 := qblk_cell hbl (Below.refl _ _) 2 _ rfl
            have HS6 := Lib.hid (fun (w1 : World) (hb : Below w3.heap.size w3 w1) => (⟨(hb.cell (p := ⟨g, k * 3, none⟩) hgr).trans u0, (hb.cell (p := ⟨g, k * 3 + 1, none⟩) hgr).trans u1, (hb.cell (p := ⟨g, k * 3 + 2, none⟩) hgr).trans u2, (hb.cell (p := ⟨q, 0, none⟩) hpl).trans u3, (hb.cell (p := ⟨q, 1, none⟩) hpl).trans u4, (hb.cell (p := ⟨q, 2, none⟩) hpl).trans u5⟩ : w1.cell? ⟨g, k * 3, none⟩ = some (.bool sk) ∧ w1.cell? ⟨g, k * 3 + 1, none⟩ = some (.slice B1 m1 d1) ∧ w1.cell? ⟨g, k * 3 + 2, none⟩ = some (.slice B2 m2 d2) ∧ w1.cell? ⟨q, 0, none⟩ = some (.bool sl) ∧ w1.cell? ⟨q, 1, none⟩ = some (.slice AL nL cL) ∧ w1.cell? ⟨q, 2, none⟩ = some (.slice AL' nL' cL')))
            have K0 := Lib.hid (HS6.out w3 (Below.refl _ _))
            have HQL := Lib.hid hql
            clear hbl hql
            go_wp2
            go_region_held3 (fun w1 => w1.cell? ⟨g, k * 3, none⟩ = some (.bool sk) ∧ w1.cell? ⟨g, k * 3 + 1, none⟩ = some (.slice B1 m1 d1) ∧ w1.cell? ⟨g, k * 3 + 2, none⟩ = some (.slice B2 m2 d2) ∧ w1.cell? ⟨q, 0, none⟩ = some (.bool sl) ∧ w1.cell? ⟨q, 1, none⟩ = some (.slice AL nL cL) ∧ w1.cell? ⟨q, 2, none⟩ = some (.slice AL' nL' cL'))
              (first | exact K3.out | exact K0.out | go_keep)
              (first
                | (go_at_call 35
                   refine (qcmp_one zk hi' K hK HKB.out.1 HKB.out.2.2 _ _ w3.heap.size _ (by exact HQE.out w3 (by exact HBWw3.out)) (by exact HQL.out) (by exact Nat.le_refl _)).mono ?_
                   rintro e w4 ⟨rfl, hb3'⟩
                   rw [HR.out.2.1]
                   have hb3 : Below w3.heap.size w3 w4 := by first | exact hb3' | exact below_un hb3'
                   have K3 := Lib.hid (HS6.out w4 hb3)
                   clear hb3'))
            have HBWw4 := Lib.hid (HBWw3.out.trans (hb3.mono HBWw3.out.size))
            have HLow4 := Lib.hid (bx_below HLow3.out hb3)
            have HHiw4 := Lib.hid (bx_below HHiw3.out hb3)
            have HSPw4 := Lib.hid ((hb3.block _ (Array.getElem?_eq_some_iff.1 HSPw3.out).1).trans HSPw3.out)
            obtain ⟨v0, v1, v2, _, _, _⟩ := K3.out
            have hgrw4 : g < w4.heap.size := Nat.lt_of_lt_of_le hgr hb3.size
            clear K0 K3 HS6 u3 u4 u5 hb3
            clear u0 u1 u2
            have u0 := v0
            have u1 := v1
            have u2 := v2
            have hgr := hgrw4
            clear v0 v1 v2

            obtain ⟨sl, AL, nL, cL, AL', nL', cL', hbl, hql⟩ := HHiw4.out
            have mfl := fun i => frozen_of_row w4 q i _ _ hbl
            clear hbl hql
            obtain ⟨w5, hwn⟩ : ∃ x, x = (((w4.setCell ⟨q, 0, none⟩ (.bool sk)).setCell ⟨q, 1, none⟩ (.slice B1 m1 d1)).setCell ⟨q, 2, none⟩ (.slice B2 m2 d2)) := ⟨_, rfl⟩
            have HHiw5 := Lib.hid (show Bx w5 q zk by rw [hwn]; exact bx_store HHiw4.out (HQE.out w4 HBWw4.out))
            have HLow5 := Lib.hid (show Bx w5 p _ by rw [hwn]; exact bx_other HHiw4.out HLow4.out hpq.symm)
            have HSPw5 := Lib.hid (show w5.heap[w.heap.size]? = some (.cells #[.int .i64 0, .int .i64 0] 23 (0, 0)) by rw [hwn]; exact (bx_far (by omega)).trans HSPw4.out)
            have HBWw5 := Lib.hid (show Below w.heap.size w w5 by rw [hwn]; exact ((HBWw4.out.setCell (by show w.heap.size ≤ q; omega) _).setCell (by show w.heap.size ≤ q; omega) _).setCell (by show w.heap.size ≤ q; omega) _)
            have HWN := Lib.hid hwn
            clear hwn

            go_wp2
            rw [← HWN.out]
            exact ⟨⟨k + 1, lo', zk, by omega, by omega, by go_num, HLow5, HHiw5, Lib.hid (ends_great HEn.out HR.out.2.2 HZK.out), HSPw5, HBWw5⟩, by simp [numQ]; omega⟩
          · obtain ⟨y1, hy1⟩ : ∃ y, isgn (zk - lo') = y := ⟨_, rfl⟩
            obtain ⟨y2, hy2⟩ : ∃ y, isgn (zk - hi') = y := ⟨_, rfl⟩
            have hy1' : ¬ y1 < 0 := by rw [← hy1]; exact isgn_nonneg (by omega)
            have hy2' : ¬ 0 < y2 := by rw [← hy2]; exact isgn_nonpos (by omega)
            have HR := Lib.hid (And.intro hy1 (And.intro hy2 (And.intro hge hle)))
            clear hy1 hy2 hge hle
            obtain ⟨sl, AL, nL, cL, AL', nL', cL', hbl, hql⟩ := HLowr.out
            have hpl := (Array.getElem?_eq_some_iff.1 hbl).1
            have u3 := qblk_cell hbl (Below.refl _ _) 0 _ rfl
            have u4 := qblk_cell hbl (Below.refl _ _) 1 _ rfl
            have u5 := qblk_cell hbl (Below.refl _ _) 2 _ rfl
            have HS6 := Lib.hid (fun (w1 : World) (hb : Below wr.heap.size wr w1) => (⟨(hb.cell (p := ⟨g, k * 3, none⟩) hgr).trans u0, (hb.cell (p := ⟨g, k * 3 + 1, none⟩) hgr).trans u1, (hb.cell (p := ⟨g, k * 3 + 2, none⟩) hgr).trans u2, (hb.cell (p := ⟨p, 0, none⟩) hpl).trans u3, (hb.cell (p := ⟨p, 1, none⟩) hpl).trans u4, (hb.cell (p := ⟨p, 2, none⟩) hpl).trans u5⟩ : w1.cell? ⟨g, k * 3, none⟩ = some (.bool sk) ∧ w1.cell? ⟨g, k * 3 + 1, none⟩ = some (.slice B1 m1 d1) ∧ w1.cell? ⟨g, k * 3 + 2, none⟩ = some (.slice B2 m2 d2) ∧ w1.cell? ⟨p, 0, none⟩ = some (.bool sl) ∧ w1.cell? ⟨p, 1, none⟩ = some (.slice AL nL cL) ∧ w1.cell? ⟨p, 2, none⟩ = some (.slice AL' nL' cL')))
            have K0 := Lib.hid (HS6.out wr (Below.refl _ _))
            have HQL := Lib.hid hql
            clear hbl hql
            go_wp2
            go_region_held3 (fun w1 => w1.cell? ⟨g, k * 3, none⟩ = some (.bool sk) ∧ w1.cell? ⟨g, k * 3 + 1, none⟩ = some (.slice B1 m1 d1) ∧ w1.cell? ⟨g, k * 3 + 2, none⟩ = some (.slice B2 m2 d2) ∧ w1.cell? ⟨p, 0, none⟩ = some (.bool sl) ∧ w1.cell? ⟨p, 1, none⟩ = some (.slice AL nL cL) ∧ w1.cell? ⟨p, 2, none⟩ = some (.slice AL' nL' cL'))
              (first | exact K3.out | exact K0.out | go_keep)
              (first
                | (go_at_call 35
                   refine (qcmp_one zk lo' K hK HKB.out.1 HKB.out.2.1 _ _ wr.heap.size _ (by exact HQE.out wr (by exact HBWwr.out)) (by exact HQL.out) (by exact Nat.le_refl _)).mono ?_
                   rintro e w3 ⟨rfl, hb3'⟩
                   rw [HR.out.1]
                   have hb3 : Below wr.heap.size wr w3 := by first | exact hb3' | exact below_un hb3'
                   have K3 := Lib.hid (HS6.out w3 hb3)
                   clear hb3'))
            have HBWw3 := Lib.hid (HBWwr.out.trans (hb3.mono HBWwr.out.size))
            have HLow3 := Lib.hid (bx_below HLowr.out hb3)
            have HHiw3 := Lib.hid (bx_below HHiwr.out hb3)
            have HSPw3 := Lib.hid ((hb3.block _ (Array.getElem?_eq_some_iff.1 HSPwr.out).1).trans HSPwr.out)
            obtain ⟨v0, v1, v2, _, _, _⟩ := K3.out
            have hgrw3 : g < w3.heap.size := Nat.lt_of_lt_of_le hgr hb3.size
            clear K0 K3 HS6 u3 u4 u5 hb3
            clear u0 u1 u2
            have u0 := v0
            have u1 := v1
            have u2 := v2
            have hgr := hgrw3
            clear v0 v1 v2

            clear HLowr HHiwr HSPwr HBWwr

            obtain ⟨sl, AL, nL, cL, AL', nL', cL', hbl, hql⟩ := HHiw3.out
            have hpl := (Array.getElem?_eq_some_iff.1 hbl).1
            have u3 := qblk_cell hbl (Below.refl _ _) 0 _ rfl
            have u4 := qblk_cell hbl (Below.refl _ _) 1 _ rfl
            have u5 := qblk_cell hbl (Below.refl _ _) 2 _ rfl
            have HS6 := Lib.hid (fun (w1 : World) (hb : Below w3.heap.size w3 w1) => (⟨(hb.cell (p := ⟨g, k * 3, none⟩) hgr).trans u0, (hb.cell (p := ⟨g, k * 3 + 1, none⟩) hgr).trans u1, (hb.cell (p := ⟨g, k * 3 + 2, none⟩) hgr).trans u2, (hb.cell (p := ⟨q, 0, none⟩) hpl).trans u3, (hb.cell (p := ⟨q, 1, none⟩) hpl).trans u4, (hb.cell (p := ⟨q, 2, none⟩) hpl).trans u5⟩ : w1.cell? ⟨g, k * 3, none⟩ = some (.bool sk) ∧ w1.cell? ⟨g, k * 3 + 1, none⟩ = some (.slice B1 m1 d1) ∧ w1.cell? ⟨g, k * 3 + 2, none⟩ = some (.slice B2 m2 d2) ∧ w1.cell? ⟨q, 0, none⟩ = some (.bool sl) ∧ w1.cell? ⟨q, 1, none⟩ = some (.slice AL nL cL) ∧ w1.cell? ⟨q, 2, none⟩ = some (.slice AL' nL' cL')))
            have K0 := Lib.hid (HS6.out w3 (Below.refl _ _))
            have HQL := Lib.hid hql
            clear hbl hql
            go_wp2
            go_region_held3 (fun w1 => w1.cell? ⟨g, k * 3, none⟩ = some (.bool sk) ∧ w1.cell? ⟨g, k * 3 + 1, none⟩ = some (.slice B1 m1 d1) ∧ w1.cell? ⟨g, k * 3 + 2, none⟩ = some (.slice B2 m2 d2) ∧ w1.cell? ⟨q, 0, none⟩ = some (.bool sl) ∧ w1.cell? ⟨q, 1, none⟩ = some (.slice AL nL cL) ∧ w1.cell? ⟨q, 2, none⟩ = some (.slice AL' nL' cL'))
              (first | exact K3.out | exact K0.out | go_keep)
              (first
                | (go_at_call 35
                   refine (qcmp_one zk hi' K hK HKB.out.1 HKB.out.2.2 _ _ w3.heap.size _ (by exact HQE.out w3 (by exact HBWw3.out)) (by exact HQL.out) (by exact Nat.le_refl _)).mono ?_
                   rintro e w4 ⟨rfl, hb3'⟩
                   rw [HR.out.2.1]
                   have hb3 : Below w3.heap.size w3 w4 := by first | exact hb3' | exact below_un hb3'
                   have K3 := Lib.hid (HS6.out w4 hb3)
                   clear hb3'))
            have HBWw4 := Lib.hid (HBWw3.out.trans (hb3.mono HBWw3.out.size))
            have HLow4 := Lib.hid (bx_below HLow3.out hb3)
            have HHiw4 := Lib.hid (bx_below HHiw3.out hb3)
            have HSPw4 := Lib.hid ((hb3.block _ (Array.getElem?_eq_some_iff.1 HSPw3.out).1).trans HSPw3.out)
            obtain ⟨v0, v1, v2, _, _, _⟩ := K3.out
            have hgrw4 : g < w4.heap.size := Nat.lt_of_lt_of_le hgr hb3.size
            clear K0 K3 HS6 u3 u4 u5 hb3
            clear u0 u1 u2
            have u0 := v0
            have u1 := v1
            have u2 := v2
            have hgr := hgrw4
            clear v0 v1 v2

            go_wp2
            exact ⟨⟨k + 1, lo', hi', by omega, by omega, by go_num, HLow4, HHiw4, Lib.hid (ends_mid HEn.out HR.out.2.2.1 HR.out.2.2.2 HZK.out), HSPw4, HBWw4⟩, by simp [numQ]; omega⟩
      · obtain rfl : k = n := by omega
        have heq := ends_one HE.out.2.2 (by rw [← HN.out]; exact HEn.out)
        obtain ⟨rfl, rfl⟩ := heq
        obtain ⟨sl, AL, nL, cL, AL', nL', cL', hbl, hql⟩ := HLowr.out
        obtain ⟨sh, AH, nH, cH, AH', nH', cH', hbh, hqh⟩ := HHiwr.out
        have u0 := qblk_cell hbl (Below.refl _ _) 0 _ rfl
        have u1 := qblk_cell hbl (Below.refl _ _) 1 _ rfl
        have u2 := qblk_cell hbl (Below.refl _ _) 2 _ rfl
        have HKB := Lib.hid (ends_bounds HE.out.2.1 HE.out.2.2)
        have HF := Lib.hid (qfloor_one lo K (by omega) HKB.out.1 _ wr.heap.size wr hql (Nat.le_refl _))
        have HH := Lib.hid (And.intro hbh hqh)
        clear hbl hql hbh hqh
        go_wp2_with fail
        refine HF.out.mono ?_
        rintro e w3 ⟨s3, A3, m3, c3, rfl, hs3, hr3, hz3, hb3⟩
        have HD := Lib.hid (dend_any lo s3 hs3 A3 m3 c3 w3.heap.size w3 hr3 (Nat.le_refl _))
        have HB3 := Lib.hid hb3
        clear hs3 hr3 hz3 hb3 u0 u1 u2
        go_wp2_with fail
        refine HD.out.mono ?_
        rintro e w4 ⟨hd4, hb4⟩
        have hb34 : Below wr.heap.size wr w4 := HB3.out.trans (hb4.mono HB3.out.size)
        have t0 := qblk_cell HH.out.1 hb34 0 _ rfl
        have t1 := qblk_cell HH.out.1 hb34 1 _ rfl
        have t2 := qblk_cell HH.out.1 hb34 2 _ rfl
        have HC := Lib.hid (qceil_one hi K (by omega) HKB.out.2 _ wr.heap.size w4 (HH.out.2.below hb34 (Nat.le_refl _)) hb34.size)
        have HB4 := Lib.hid hb34
        have HD4 := Lib.hid hd4
        clear hb4 hb34 hd4
        rcases HD4.out with ⟨hl1, rfl⟩ | ⟨hl1, rfl⟩
        all_goals
          have HL1 := Lib.hid hl1
          clear hl1
          go_wp2_with fail
          refine HC.out.mono ?_
          rintro e w5 ⟨s5, A5, m5, c5, rfl, hs5, hr5, hz5, hb5⟩
          have HD5 := Lib.hid (dend_any hi s5 hs5 A5 m5 c5 w5.heap.size w5 hr5 (Nat.le_refl _))
          have HB5 := Lib.hid (HB4.out.trans (hb5.mono HB4.out.size))
          clear hs5 hr5 hz5 hb5
          go_wp2_with fail
          refine HD5.out.mono ?_
          rintro e w6 ⟨hd6, hb6⟩
          have hb36 : Below wr.heap.size wr w6 := HB5.out.trans (hb6.mono HB5.out.size)
          have m0 := qblk_cell HSPwr.out hb36 0 _ rfl
          have m1 := qblk_cell HSPwr.out hb36 1 _ rfl
          have mf := qblk_frozen HSPwr.out hb36
          have HB6 := Lib.hid (HBWwr.out.trans (hb36.mono HBWwr.out.size))
          have HD6 := Lib.hid hd6
          clear hb6 hb36 hd6 t0 t1 t2
          rcases HD6.out with ⟨hl2, rfl⟩ | ⟨hl2, rfl⟩
          all_goals
            have HL2 := Lib.hid hl2
            clear hl2
            go_wp2
            first
              | (refine bodyPost_ret (v := .tuple #[.agg #[.int .i64 lo, .int .i64 hi], .int .i64 0]) (by simp [results, Tryz.results23, go_sem, m0, m1]) rfl ⟨.inl ⟨HL1.out, HL2.out, rfl⟩, (HB6.out.setCell (Nat.le_refl _) _).setCell (Nat.le_refl _) _⟩)
              | (refine bodyPost_ret (v := .tuple #[.agg #[.int .i64 0, .int .i64 0], .int .i64 3]) (by simp [results, Tryz.results23, go_sem, m0, m1]) rfl ⟨.inr ⟨by have h1 := HL1.out; have h2 := HL2.out; omega, rfl⟩, (HB6.out.setCell (Nat.le_refl _) _).setCell (Nat.le_refl _) _⟩)
  · as_aux_lemma =>
    obtain ⟨W1, hW1⟩ : ∃ W1, W1 = ((W0.alloc (.cells #[.bool s, .slice A1 n1 c1, .slice A2 n2 c2] 41)).alloc (.cells #[.bool s, .slice A1 n1 c1, .slice A2 n2 c2] 41)).drew := ⟨_, rfl⟩
    have hB1 : Below W0.heap.size W0 W1 := by rw [hW1]; exact (((Below.refl _ _).alloc (Nat.le_refl _) _).alloc (by simp) _).drew
    have hB1w : Below w.heap.size w W1 := HW.out.trans (hB1.mono HW.out.size)
    obtain ⟨a1, a2⟩ := qalloc2 W0 (.cells #[.bool s, .slice A1 n1 c1, .slice A2 n2 c2] 41) (.cells #[.bool s, .slice A1 n1 c1, .slice A2 n2 c2] 41)
    have a1' : W1.heap[W0.heap.size]? = some (.cells #[.bool s, .slice A1 n1 c1, .slice A2 n2 c2] 41 (0, 0)) := by rw [hW1]; exact a1
    have a2' : W1.heap[W0.heap.size + 1]? = some (.cells #[.bool s, .slice A1 n1 c1, .slice A2 n2 c2] 41 (0, 0)) := by rw [hW1]; exact a2
    have hq1 := (HQ.out.below hB1w (Nat.le_refl _)).more hB1w.size
    have b1 : Bx W1 W0.heap.size (zs[0]'(by rw [← HN.out]; exact hn0)) := ⟨s, A1, n1, c1, A2, n2, c2, a1', hq1⟩
    have b2 : Bx W1 (W0.heap.size + 1) (zs[0]'(by rw [← HN.out]; exact hn0)) := ⟨s, A1, n1, c1, A2, n2, c2, a2', hq1⟩
    have hsp : W1.heap[w.heap.size]? = some (.cells #[.int .i64 0, .int .i64 0] 23 (0, 0)) := (hB1.block _ (Array.getElem?_eq_some_iff.1 HG.out).1).trans HG.out
    have hw0s : w.heap.size < W0.heap.size := (Array.getElem?_eq_some_iff.1 HG.out).1
    rw [← hW1]
    have HH1 := Lib.hid (And.intro b1 (And.intro b2 (And.intro hsp hB1w)))
    have HEN := Lib.hid (ends_start (show 0 < zs.length by rw [← HN.out]; exact hn0))
    clear a1 a2 a1' a2' b1 b2 hsp hq1 hB1 hB1w hW1
    clear r0 r1 r2 r0a r1a r2a r0b r1b r2b
    obtain ⟨p, hpp⟩ : ∃ p, p = W0.heap.size + 1 := ⟨_, rfl⟩
    obtain ⟨q, hqq⟩ : ∃ q, q = W0.heap.size := ⟨_, rfl⟩
    have hpq : p ≠ q := by omega
    have hpw : w.heap.size < p ∧ w.heap.size < q := by omega
    rw [← hpp, ← hqq]
    rw [← hqq] at HH1
    rw [show q + 1 = p by omega] at HH1
    clear hqq hpp hw0s
    have HST := Lib.hid (show ArR w zs n p q (.int .i64 1) W1 from ⟨1, _, _, Nat.le_refl _, by omega, rfl, Lib.hid HH1.out.2.1, Lib.hid HH1.out.1, Lib.hid HEN.out, Lib.hid HH1.out.2.2.1, Lib.hid HH1.out.2.2.2⟩)
    go_wp2
    go_loopw [6] (fun iv wr => ArR w zs n p q iv wr) (fun iv _ => n - (numQ iv).toNat)
    case atStart => exact HST.out
    case round =>
      obtain ⟨k, lo', hi', hk1, hkn, rfl, HLow, HHiw, HEn, HSPwr, HBWwr⟩ := hrel
      have HLowr := HLow
      have HHiwr := HHiw
      clear HLow HHiw
      by_cases hkn' : k < n
      · have hkz : k < zs.length := by rw [← HN.out]; exact hkn'
        obtain ⟨gg, sk, B1, m1, d1, B2, m2, d2, hAg, hg2, q0, q1, q2, hqe⟩ := HE.out.1 k hkz
        injection hAg with hAg
        injection hAg with e1 e2
        subst e1
        obtain ⟨zk, hzk⟩ : ∃ z, z = zs[k]'hkz := ⟨_, rfl⟩
        rw [← hzk] at hqe
        have u0 := (HBWwr.out.cell (p := ⟨g, k * 3, none⟩) hg).trans q0
        have u1 := (HBWwr.out.cell (p := ⟨g, k * 3 + 1, none⟩) hg).trans q1
        have u2 := (HBWwr.out.cell (p := ⟨g, k * 3 + 2, none⟩) hg).trans q2
        have hgr : g < wr.heap.size := Nat.lt_of_lt_of_le hg HBWwr.out.size
        have HQE := Lib.hid (fun (w1 : World) (hb : Below w.heap.size w w1) => (hqe.below hb (Nat.le_refl _)).more hb.size)
        have HKB := Lib.hid (ends_bound HE.out.2.1 HEn.out (show zk ∈ zs by rw [hzk]; exact List.getElem_mem _))
        have HZK := Lib.hid hzk
        have x1 : (k : Int) < (n : Int) := by omega
        have x2 : (0 : Int) ≤ (k : Int) := by omega
        have hlh : lo' ≤ hi' := ends_le HEn.out
        clear q0 q1 q2 hqe hzk
        rcases Int.lt_or_le zk lo' with hlt | hge
        · have r1 : isgn (zk - lo') = -1 := isgn_neg (by omega)
          have r2 : isgn (zk - hi') = -1 := isgn_neg (by omega)
          have HR := Lib.hid (And.intro r1 (And.intro r2 hlt))
          clear r1 r2 hlt
          obtain ⟨sl, AL, nL, cL, AL', nL', cL', hbl, hql⟩ := HLowr.out
          have hpl := (Array.getElem?_eq_some_iff.1 hbl).1
          have u3 := qblk_cell hbl (Below.refl _ _) 0 _ rfl
          have u4 := qblk_cell hbl (Below.refl _ _) 1 _ rfl
          have u5 := qblk_cell hbl (Below.refl _ _) 2 _ rfl
          have HS6 := Lib.hid (fun (w1 : World) (hb : Below wr.heap.size wr w1) => (⟨(hb.cell (p := ⟨g, k * 3, none⟩) hgr).trans u0, (hb.cell (p := ⟨g, k * 3 + 1, none⟩) hgr).trans u1, (hb.cell (p := ⟨g, k * 3 + 2, none⟩) hgr).trans u2, (hb.cell (p := ⟨p, 0, none⟩) hpl).trans u3, (hb.cell (p := ⟨p, 1, none⟩) hpl).trans u4, (hb.cell (p := ⟨p, 2, none⟩) hpl).trans u5⟩ : w1.cell? ⟨g, k * 3, none⟩ = some (.bool sk) ∧ w1.cell? ⟨g, k * 3 + 1, none⟩ = some (.slice B1 m1 d1) ∧ w1.cell? ⟨g, k * 3 + 2, none⟩ = some (.slice B2 m2 d2) ∧ w1.cell? ⟨p, 0, none⟩ = some (.bool sl) ∧ w1.cell? ⟨p, 1, none⟩ = some (.slice AL nL cL) ∧ w1.cell? ⟨p, 2, none⟩ = some (.slice AL' nL' cL')))
          have K0 := Lib.hid (HS6.out wr (Below.refl _ _))
          have HQL := Lib.hid hql
          clear hbl hql
          go_wp2
          go_region_held3 (fun w1 => w1.cell? ⟨g, k * 3, none⟩ = some (.bool sk) ∧ w1.cell? ⟨g, k * 3 + 1, none⟩ = some (.slice B1 m1 d1) ∧ w1.cell? ⟨g, k * 3 + 2, none⟩ = some (.slice B2 m2 d2) ∧ w1.cell? ⟨p, 0, none⟩ = some (.bool sl) ∧ w1.cell? ⟨p, 1, none⟩ = some (.slice AL nL cL) ∧ w1.cell? ⟨p, 2, none⟩ = some (.slice AL' nL' cL'))
            (first | exact K3.out | exact K0.out | go_keep)
            (first
              | (go_at_call 35
                 refine (qcmp_one zk lo' K hK HKB.out.1 HKB.out.2.1 _ _ wr.heap.size _ (by exact HQE.out wr (by exact HBWwr.out)) (by exact HQL.out) (by exact Nat.le_refl _)).mono ?_
                 rintro e w3 ⟨rfl, hb3'⟩
                 rw [HR.out.1]
                 have hb3 : Below wr.heap.size wr w3 := by first | exact hb3' | exact below_un hb3'
                 have K3 := Lib.hid (HS6.out w3 hb3)
                 clear hb3'))
          have HBWw3 := Lib.hid (HBWwr.out.trans (hb3.mono HBWwr.out.size))
          have HLow3 := Lib.hid (bx_below HLowr.out hb3)
          have HHiw3 := Lib.hid (bx_below HHiwr.out hb3)
          have HSPw3 := Lib.hid ((hb3.block _ (Array.getElem?_eq_some_iff.1 HSPwr.out).1).trans HSPwr.out)
          obtain ⟨v0, v1, v2, _, _, _⟩ := K3.out
          have hgrw3 : g < w3.heap.size := Nat.lt_of_lt_of_le hgr hb3.size
          clear K0 K3 HS6 u3 u4 u5 hb3
          clear u0 u1 u2
          have u0 := v0
          have u1 := v1
          have u2 := v2
          have hgr := hgrw3
          clear v0 v1 v2

          obtain ⟨sl, AL, nL, cL, AL', nL', cL', hbl, hql⟩ := HLow3.out
          have mfl := fun i => frozen_of_row w3 p i _ _ hbl
          clear hbl hql
          obtain ⟨w4, hwn⟩ : ∃ x, x = (((w3.setCell ⟨p, 0, none⟩ (.bool sk)).setCell ⟨p, 1, none⟩ (.slice B1 m1 d1)).setCell ⟨p, 2, none⟩ (.slice B2 m2 d2)) := ⟨_, rfl⟩
          have HLow4 := Lib.hid (show Bx w4 p zk by rw [hwn]; exact bx_store HLow3.out (HQE.out w3 HBWw3.out))
          have HHiw4 := Lib.hid (show Bx w4 q _ by rw [hwn]; exact bx_other HLow3.out HHiw3.out hpq)
          have HSPw4 := Lib.hid (show w4.heap[w.heap.size]? = some (.cells #[.int .i64 0, .int .i64 0] 23 (0, 0)) by rw [hwn]; exact (bx_far (by omega)).trans HSPw3.out)
          have HBWw4 := Lib.hid (show Below w.heap.size w w4 by rw [hwn]; exact ((HBWw3.out.setCell (by show w.heap.size ≤ p; omega) _).setCell (by show w.heap.size ≤ p; omega) _).setCell (by show w.heap.size ≤ p; omega) _)
          have HWN := Lib.hid hwn
          clear hwn

          have hgr4 : g < w4.heap.size := by rw [HWN.out]; simpa using hgr
          have u0' : w4.cell? ⟨g, k * 3, none⟩ = some (.bool sk) := by rw [HWN.out]; exact (bx_cell (by omega)).trans u0
          have u1' : w4.cell? ⟨g, k * 3 + 1, none⟩ = some (.slice B1 m1 d1) := by rw [HWN.out]; exact (bx_cell (by omega)).trans u1
          have u2' : w4.cell? ⟨g, k * 3 + 2, none⟩ = some (.slice B2 m2 d2) := by rw [HWN.out]; exact (bx_cell (by omega)).trans u2
          go_wp2
          rw [← HWN.out]
          clear u0 u1 u2 hgr mfl
          have u0 := u0'
          have u1 := u1'
          have u2 := u2'
          have hgr := hgr4
          clear u0' u1' u2' hgr4 HLow3 HHiw3 HSPw3 HBWw3 HLowr HHiwr HSPwr HBWwr HWN

          obtain ⟨sl, AL, nL, cL, AL', nL', cL', hbl, hql⟩ := HHiw4.out
          have hpl := (Array.getElem?_eq_some_iff.1 hbl).1
          have u3 := qblk_cell hbl (Below.refl _ _) 0 _ rfl
          have u4 := qblk_cell hbl (Below.refl _ _) 1 _ rfl
          have u5 := qblk_cell hbl (Below.refl _ _) 2 _ rfl
          have HS6 := Lib.hid (fun (w1 : World) (hb : Below w4.heap.size w4 w1) => (⟨(hb.cell (p := ⟨g, k * 3, none⟩) hgr).trans u0, (hb.cell (p := ⟨g, k * 3 + 1, none⟩) hgr).trans u1, (hb.cell (p := ⟨g, k * 3 + 2, none⟩) hgr).trans u2, (hb.cell (p := ⟨q, 0, none⟩) hpl).trans u3, (hb.cell (p := ⟨q, 1, none⟩) hpl).trans u4, (hb.cell (p := ⟨q, 2, none⟩) hpl).trans u5⟩ : w1.cell? ⟨g, k * 3, none⟩ = some (.bool sk) ∧ w1.cell? ⟨g, k * 3 + 1, none⟩ = some (.slice B1 m1 d1) ∧ w1.cell? ⟨g, k * 3 + 2, none⟩ = some (.slice B2 m2 d2) ∧ w1.cell? ⟨q, 0, none⟩ = some (.bool sl) ∧ w1.cell? ⟨q, 1, none⟩ = some (.slice AL nL cL) ∧ w1.cell? ⟨q, 2, none⟩ = some (.slice AL' nL' cL')))
          have K0 := Lib.hid (HS6.out w4 (Below.refl _ _))
          have HQL := Lib.hid hql
          clear hbl hql
          go_wp2
          go_region_held3 (fun w1 => w1.cell? ⟨g, k * 3, none⟩ = some (.bool sk) ∧ w1.cell? ⟨g, k * 3 + 1, none⟩ = some (.slice B1 m1 d1) ∧ w1.cell? ⟨g, k * 3 + 2, none⟩ = some (.slice B2 m2 d2) ∧ w1.cell? ⟨q, 0, none⟩ = some (.bool sl) ∧ w1.cell? ⟨q, 1, none⟩ = some (.slice AL nL cL) ∧ w1.cell? ⟨q, 2, none⟩ = some (.slice AL' nL' cL'))
            (first | exact K3.out | exact K0.out | go_keep)
            (first
              | (go_at_call 35
                 refine (qcmp_one zk hi' K hK HKB.out.1 HKB.out.2.2 _ _ w4.heap.size _ (by exact HQE.out w4 (by exact HBWw4.out)) (by exact HQL.out) (by exact Nat.le_refl _)).mono ?_
                 rintro e w5 ⟨rfl, hb3'⟩
                 rw [HR.out.2.1]
                 have hb3 : Below w4.heap.size w4 w5 := by first | exact hb3' | exact below_un hb3'
                 have K3 := Lib.hid (HS6.out w5 hb3)
                 clear hb3'))
          have HBWw5 := Lib.hid (HBWw4.out.trans (hb3.mono HBWw4.out.size))
          have HLow5 := Lib.hid (bx_below HLow4.out hb3)
          have HHiw5 := Lib.hid (bx_below HHiw4.out hb3)
          have HSPw5 := Lib.hid ((hb3.block _ (Array.getElem?_eq_some_iff.1 HSPw4.out).1).trans HSPw4.out)
          obtain ⟨v0, v1, v2, _, _, _⟩ := K3.out
          have hgrw5 : g < w5.heap.size := Nat.lt_of_lt_of_le hgr hb3.size
          clear K0 K3 HS6 u3 u4 u5 hb3
          clear u0 u1 u2
          have u0 := v0
          have u1 := v1
          have u2 := v2
          have hgr := hgrw5
          clear v0 v1 v2

          go_wp2
          exact ⟨⟨k + 1, zk, hi', by omega, by omega, by go_num, HLow5, HHiw5, Lib.hid (ends_less HEn.out HR.out.2.2 HZK.out), HSPw5, HBWw5⟩, by simp [numQ]; omega⟩
        · rcases Int.lt_or_le hi' zk with hgt | hle
          · have r1 : isgn (zk - lo') = 1 := isgn_pos (by omega)
            have r2 : isgn (zk - hi') = 1 := isgn_pos (by omega)
            have HR := Lib.hid (And.intro r1 (And.intro r2 hgt))
            clear r1 r2 hgt hge
            obtain ⟨sl, AL, nL, cL, AL', nL', cL', hbl, hql⟩ := HLowr.out
            have hpl := (Array.getElem?_eq_some_iff.1 hbl).1
            have u3 := qblk_cell hbl (Below.refl _ _) 0 _ rfl
            have u4 := qblk_cell hbl (Below.refl _ _) 1 _ rfl
            have u5 := qblk_cell hbl (Below.refl _ _) 2 _ rfl
            have HS6 := Lib.hid (fun (w1 : World) (hb : Below wr.heap.size wr w1) => (⟨(hb.cell (p := ⟨g, k * 3, none⟩) hgr).trans u0, (hb.cell (p := ⟨g, k * 3 + 1, none⟩) hgr).trans u1, (hb.cell (p := ⟨g, k * 3 + 2, none⟩) hgr).trans u2, (hb.cell (p := ⟨p, 0, none⟩) hpl).trans u3, (hb.cell (p := ⟨p, 1, none⟩) hpl).trans u4, (hb.cell (p := ⟨p, 2, none⟩) hpl).trans u5⟩ : w1.cell? ⟨g, k * 3, none⟩ = some (.bool sk) ∧ w1.cell? ⟨g, k * 3 + 1, none⟩ = some (.slice B1 m1 d1) ∧ w1.cell? ⟨g, k * 3 + 2, none⟩ = some (.slice B2 m2 d2) ∧ w1.cell? ⟨p, 0, none⟩ = some (.bool sl) ∧ w1.cell? ⟨p, 1, none⟩ = some (.slice AL nL cL) ∧ w1.cell? ⟨p, 2, none⟩ = some (.slice AL' nL' cL')))
            have K0 := Lib.hid (HS6.out wr (Below.refl _ _))
            have HQL := Lib.hid hql
            clear hbl hql
            go_wp2
            go_region_held3 (fun w1 => w1.cell? ⟨g, k * 3, none⟩ = some (.bool sk) ∧ w1.cell? ⟨g, k * 3 + 1, none⟩ = some (.slice B1 m1 d1) ∧ w1.cell? ⟨g, k * 3 + 2, none⟩ = some (.slice B2 m2 d2) ∧ w1.cell? ⟨p, 0, none⟩ = some (.bool sl) ∧ w1.cell? ⟨p, 1, none⟩ = some (.slice AL nL cL) ∧ w1.cell? ⟨p, 2, none⟩ = some (.slice AL' nL' cL'))
              (first | exact K3.out | exact K0.out | go_keep)
              (first
                | (go_at_call 35
                   refine (qcmp_one zk lo' K hK HKB.out.1 HKB.out.2.1 _ _ wr.heap.size _ (by exact HQE.out wr (by exact HBWwr.out)) (by exact HQL.out) (by exact Nat.le_refl _)).mono ?_
                   rintro e w3 ⟨rfl, hb3'⟩
                   rw [HR.out.1]
                   have hb3 : Below wr.heap.size wr w3 := by first | exact hb3' | exact below_un hb3'
                   have K3 := Lib.hid (HS6.out w3 hb3)
                   clear hb3'))
            have HBWw3 := Lib.hid (HBWwr.out.trans (hb3.mono HBWwr.out.size))
            have HLow3 := Lib.hid (bx_below HLowr.out hb3)
            have HHiw3 := Lib.hid (bx_below HHiwr.out hb3)
            have HSPw3 := Lib.hid ((hb3.block _ (Array.getElem?_eq_some_iff.1 HSPwr.out).1).trans HSPwr.out)
            obtain ⟨v0, v1, v2, _, _, _⟩ := K3.out
            have hgrw3 : g < w3.heap.size := Nat.lt_of_lt_of_le hgr hb3.size
            clear K0 K3 HS6 u3 u4 u5 hb3
            clear u0 u1 u2
            have u0 := v0
            have u1 := v1
            have u2 := v2
            have hgr := hgrw3
            clear v0 v1 v2

            clear HLowr HHiwr HSPwr HBWwr

            obtain ⟨sl, AL, nL, cL, AL', nL', cL', hbl, hql⟩ := HHiw3.out
            have hpl := (Array.getElem?_eq_some_iff.1 hbl).1
            have u3 := qblk_cell hbl (Below.refl _ _) 0 _ rfl
            have u4 := qblk_cell hbl (Below.refl _ _) 1 _ rfl
            have u5 := qblk_cell hbl (Below.refl _ _) 2 _ rfl
            have HS6 := Lib.hid (fun (w1 : World) (hb : Below w3.heap.size w3 w1) => (⟨(hb.cell (p := ⟨g, k * 3, none⟩) hgr).trans u0, (hb.cell (p := ⟨g, k * 3 + 1, none⟩) hgr).trans u1, (hb.cell (p := ⟨g, k * 3 + 2, none⟩) hgr).trans u2, (hb.cell (p := ⟨q, 0, none⟩) hpl).trans u3, (hb.cell (p := ⟨q, 1, none⟩) hpl).trans u4, (hb.cell (p := ⟨q, 2, none⟩) hpl).trans u5⟩ : w1.cell? ⟨g, k * 3, none⟩ = some (.bool sk) ∧ w1.cell? ⟨g, k * 3 + 1, none⟩ = some (.slice B1 m1 d1) ∧ w1.cell? ⟨g, k * 3 + 2, none⟩ = some (.slice B2 m2 d2) ∧ w1.cell? ⟨q, 0, none⟩ = some (.bool sl) ∧ w1.cell? ⟨q, 1, none⟩ = some (.slice AL nL cL) ∧ w1.cell? ⟨q, 2, none⟩ = some (.slice AL' nL' cL')))
            have K0 := Lib.hid (HS6.out w3 (Below.refl _ _))
            have HQL := Lib.hid hql
            clear hbl hql
            go_wp2
            go_region_held3 (fun w1 => w1.cell? ⟨g, k * 3, none⟩ = some (.bool sk) ∧ w1.cell? ⟨g, k * 3 + 1, none⟩ = some (.slice B1 m1 d1) ∧ w1.cell? ⟨g, k * 3 + 2, none⟩ = some (.slice B2 m2 d2) ∧ w1.cell? ⟨q, 0, none⟩ = some (.bool sl) ∧ w1.cell? ⟨q, 1, none⟩ = some (.slice AL nL cL) ∧ w1.cell? ⟨q, 2, none⟩ = some (.slice AL' nL' cL'))
              (first | exact K3.out | exact K0.out | go_keep)
              (first
                | (go_at_call 35
                   refine (qcmp_one zk hi' K hK HKB.out.1 HKB.out.2.2 _ _ w3.heap.size _ (by exact HQE.out w3 (by exact HBWw3.out)) (by exact HQL.out) (by exact Nat.le_refl _)).mono ?_
                   rintro e w4 ⟨rfl, hb3'⟩
                   rw [HR.out.2.1]
                   have hb3 : Below w3.heap.size w3 w4 := by first | exact hb3' | exact below_un hb3'
                   have K3 := Lib.hid (HS6.out w4 hb3)
                   clear hb3'))
            have HBWw4 := Lib.hid (HBWw3.out.trans (hb3.mono HBWw3.out.size))
            have HLow4 := Lib.hid (bx_below HLow3.out hb3)
            have HHiw4 := Lib.hid (bx_below HHiw3.out hb3)
            have HSPw4 := Lib.hid ((hb3.block _ (Array.getElem?_eq_some_iff.1 HSPw3.out).1).trans HSPw3.out)
            obtain ⟨v0, v1, v2, _, _, _⟩ := K3.out
            have hgrw4 : g < w4.heap.size := Nat.lt_of_lt_of_le hgr hb3.size
            clear K0 K3 HS6 u3 u4 u5 hb3
            clear u0 u1 u2
            have u0 := v0
            have u1 := v1
            have u2 := v2
            have hgr := hgrw4
            clear v0 v1 v2

            obtain ⟨sl, AL, nL, cL, AL', nL', cL', hbl, hql⟩ := HHiw4.out
            have mfl := fun i => frozen_of_row w4 q i _ _ hbl
            clear hbl hql
            obtain ⟨w5, hwn⟩ : ∃ x, x = (((w4.setCell ⟨q, 0, none⟩ (.bool sk)).setCell ⟨q, 1, none⟩ (.slice B1 m1 d1)).setCell ⟨q, 2, none⟩ (.slice B2 m2 d2)) := ⟨_, rfl⟩
            have HHiw5 := Lib.hid (show Bx w5 q zk by rw [hwn]; exact bx_store HHiw4.out (HQE.out w4 HBWw4.out))
            have HLow5 := Lib.hid (show Bx w5 p _ by rw [hwn]; exact bx_other HHiw4.out HLow4.out hpq.symm)
            have HSPw5 := Lib.hid (show w5.heap[w.heap.size]? = some (.cells #[.int .i64 0, .int .i64 0] 23 (0, 0)) by rw [hwn]; exact (bx_far (by omega)).trans HSPw4.out)
            have HBWw5 := Lib.hid (show Below w.heap.size w w5 by rw [hwn]; exact ((HBWw4.out.setCell (by show w.heap.size ≤ q; omega) _).setCell (by show w.heap.size ≤ q; omega) _).setCell (by show w.heap.size ≤ q; omega) _)
            have HWN := Lib.hid hwn
            clear hwn

            go_wp2
            rw [← HWN.out]
            exact ⟨⟨k + 1, lo', zk, by omega, by omega, by go_num, HLow5, HHiw5, Lib.hid (ends_great HEn.out HR.out.2.2 HZK.out), HSPw5, HBWw5⟩, by simp [numQ]; omega⟩
          · obtain ⟨y1, hy1⟩ : ∃ y, isgn (zk - lo') = y := ⟨_, rfl⟩
            obtain ⟨y2, hy2⟩ : ∃ y, isgn (zk - hi') = y := ⟨_, rfl⟩
            have hy1' : ¬ y1 < 0 := by rw [← hy1]; exact isgn_nonneg (by omega)
            have hy2' : ¬ 0 < y2 := by rw [← hy2]; exact isgn_nonpos (by omega)
            have HR := Lib.hid (And.intro hy1 (And.intro hy2 (And.intro hge hle)))
            clear hy1 hy2 hge hle
            obtain ⟨sl, AL, nL, cL, AL', nL', cL', hbl, hql⟩ := HLowr.out
            have hpl := (Array.getElem?_eq_some_iff.1 hbl).1
            have u3 := qblk_cell hbl (Below.refl _ _) 0 _ rfl
            have u4 := qblk_cell hbl (Below.refl _ _) 1 _ rfl
            have u5 := qblk_cell hbl (Below.refl _ _) 2 _ rfl
            have HS6 := Lib.hid (fun (w1 : World) (hb : Below wr.heap.size wr w1) => (⟨(hb.cell (p := ⟨g, k * 3, none⟩) hgr).trans u0, (hb.cell (p := ⟨g, k * 3 + 1, none⟩) hgr).trans u1, (hb.cell (p := ⟨g, k * 3 + 2, none⟩) hgr).trans u2, (hb.cell (p := ⟨p, 0, none⟩) hpl).trans u3, (hb.cell (p := ⟨p, 1, none⟩) hpl).trans u4, (hb.cell (p := ⟨p, 2, none⟩) hpl).trans u5⟩ : w1.cell? ⟨g, k * 3, none⟩ = some (.bool sk) ∧ w1.cell? ⟨g, k * 3 + 1, none⟩ = some (.slice B1 m1 d1) ∧ w1.cell? ⟨g, k * 3 + 2, none⟩ = some (.slice B2 m2 d2) ∧ w1.cell? ⟨p, 0, none⟩ = some (.bool sl) ∧ w1.cell? ⟨p, 1, none⟩ = some (.slice AL nL cL) ∧ w1.cell? ⟨p, 2, none⟩ = some (.slice AL' nL' cL')))
            have K0 := Lib.hid (HS6.out wr (Below.refl _ _))
            have HQL := Lib.hid hql
            clear hbl hql
            go_wp2
            go_region_held3 (fun w1 => w1.cell? ⟨g, k * 3, none⟩ = some (.bool sk) ∧ w1.cell? ⟨g, k * 3 + 1, none⟩ = some (.slice B1 m1 d1) ∧ w1.cell? ⟨g, k * 3 + 2, none⟩ = some (.slice B2 m2 d2) ∧ w1.cell? ⟨p, 0, none⟩ = some (.bool sl) ∧ w1.cell? ⟨p, 1, none⟩ = some (.slice AL nL cL) ∧ w1.cell? ⟨p, 2, none⟩ = some (.slice AL' nL' cL'))
              (first | exact K3.out | exact K0.out | go_keep)
              (first
                | (go_at_call 35
                   refine (qcmp_one zk lo' K hK HKB.out.1 HKB.out.2.1 _ _ wr.heap.size _ (by exact HQE.out wr (by exact HBWwr.out)) (by exact HQL.out) (by exact Nat.le_refl _)).mono ?_
                   rintro e w3 ⟨rfl, hb3'⟩
                   rw [HR.out.1]
                   have hb3 : Below wr.heap.size wr w3 := by first | exact hb3' | exact below_un hb3'
                   have K3 := Lib.hid (HS6.out w3 hb3)
                   clear hb3'))
            have HBWw3 := Lib.hid (HBWwr.out.trans (hb3.mono HBWwr.out.size))
            have HLow3 := Lib.hid (bx_below HLowr.out hb3)
            have HHiw3 := Lib.hid (bx_below HHiwr.out hb3)
            have HSPw3 := Lib.hid ((hb3.block _ (Array.getElem?_eq_some_iff.1 HSPwr.out).1).trans HSPwr.out)
            obtain ⟨v0, v1, v2, _, _, _⟩ := K3.out
            have hgrw3 : g < w3.heap.size := Nat.lt_of_lt_of_le hgr hb3.size
            clear K0 K3 HS6 u3 u4 u5 hb3
            clear u0 u1 u2
            have u0 := v0
            have u1 := v1
            have u2 := v2
            have hgr := hgrw3
            clear v0 v1 v2

            clear HLowr HHiwr HSPwr HBWwr

            obtain ⟨sl, AL, nL, cL, AL', nL', cL', hbl, hql⟩ := HHiw3.out
            have hpl := (Array.getElem?_eq_some_iff.1 hbl).1
            have u3 := qblk_cell hbl (Below.refl _ _) 0 _ rfl
            have u4 := qblk_cell hbl (Below.refl _ _) 1 _ rfl
            have u5 := qblk_cell hbl (Below.refl _ _) 2 _ rfl
            have HS6 := Lib.hid (fun (w1 : World) (hb : Below w3.heap.size w3 w1) => (⟨(hb.cell (p := ⟨g, k * 3, none⟩) hgr).trans u0, (hb.cell (p := ⟨g, k * 3 + 1, none⟩) hgr).trans u1, (hb.cell (p := ⟨g, k * 3 + 2, none⟩) hgr).trans u2, (hb.cell (p := ⟨q, 0, none⟩) hpl).trans u3, (hb.cell (p := ⟨q, 1, none⟩) hpl).trans u4, (hb.cell (p := ⟨q, 2, none⟩) hpl).trans u5⟩ : w1.cell? ⟨g, k * 3, none⟩ = some (.bool sk) ∧ w1.cell? ⟨g, k * 3 + 1, none⟩ = some (.slice B1 m1 d1) ∧ w1.cell? ⟨g, k * 3 + 2, none⟩ = some (.slice B2 m2 d2) ∧ w1.cell? ⟨q, 0, none⟩ = some (.bool sl) ∧ w1.cell? ⟨q, 1, none⟩ = some (.slice AL nL cL) ∧ w1.cell? ⟨q, 2, none⟩ = some (.slice AL' nL' cL')))
            have K0 := Lib.hid (HS6.out w3 (Below.refl _ _))
            have HQL := Lib.hid hql
            clear hbl hql
            go_wp2
            go_region_held3 (fun w1 => w1.cell? ⟨g, k * 3, none⟩ = some (.bool sk) ∧ w1.cell? ⟨g, k * 3 + 1, none⟩ = some (.slice B1 m1 d1) ∧ w1.cell? ⟨g, k * 3 + 2, none⟩ = some (.slice B2 m2 d2) ∧ w1.cell? ⟨q, 0, none⟩ = some (.bool sl) ∧ w1.cell? ⟨q, 1, none⟩ = some (.slice AL nL cL) ∧ w1.cell? ⟨q, 2, none⟩ = some (.slice AL' nL' cL'))
              (first | exact K3.out | exact K0.out | go_keep)
              (first
                | (go_at_call 35
                   refine (qcmp_one zk hi' K hK HKB.out.1 HKB.out.2.2 _ _ w3.heap.size _ (by exact HQE.out w3 (by exact HBWw3.out)) (by exact HQL.out) (by exact Nat.le_refl _)).mono ?_
                   rintro e w4 ⟨rfl, hb3'⟩
                   rw [HR.out.2.1]
                   have hb3 : Below w3.heap.size w3 w4 := by first | exact hb3' | exact below_un hb3'
                   have K3 := Lib.hid (HS6.out w4 hb3)
                   clear hb3'))
            have HBWw4 := Lib.hid (HBWw3.out.trans (hb3.mono HBWw3.out.size))
            have HLow4 := Lib.hid (bx_below HLow3.out hb3)
            have HHiw4 := Lib.hid (bx_below HHiw3.out hb3)
            have HSPw4 := Lib.hid ((hb3.block _ (Array.getElem?_eq_some_iff.1 HSPw3.out).1).trans HSPw3.out)
            obtain ⟨v0, v1, v2, _, _, _⟩ := K3.out
            have hgrw4 : g < w4.heap.size := Nat.lt_of_lt_of_le hgr hb3.size
            clear K0 K3 HS6 u3 u4 u5 hb3
            clear u0 u1 u2
            have u0 := v0
            have u1 := v1
            have u2 := v2
            have hgr := hgrw4
            clear v0 v1 v2

            go_wp2
            exact ⟨⟨k + 1, lo', hi', by omega, by omega, by go_num, HLow4, HHiw4, Lib.hid (ends_mid HEn.out HR.out.2.2.1 HR.out.2.2.2 HZK.out), HSPw4, HBWw4⟩, by simp [numQ]; omega⟩
      · obtain rfl : k = n := by omega
        have heq := ends_one HE.out.2.2 (by rw [← HN.out]; exact HEn.out)
        obtain ⟨rfl, rfl⟩ := heq
        obtain ⟨sl, AL, nL, cL, AL', nL', cL', hbl, hql⟩ := HLowr.out
        obtain ⟨sh, AH, nH, cH, AH', nH', cH', hbh, hqh⟩ := HHiwr.out
        have u0 := qblk_cell hbl (Below.refl _ _) 0 _ rfl
        have u1 := qblk_cell hbl (Below.refl _ _) 1 _ rfl
        have u2 := qblk_cell hbl (Below.refl _ _) 2 _ rfl
        have HKB := Lib.hid (ends_bounds HE.out.2.1 HE.out.2.2)
        have HF := Lib.hid (qfloor_one lo K (by omega) HKB.out.1 _ wr.heap.size wr hql (Nat.le_refl _))
        have HH := Lib.hid (And.intro hbh hqh)
        clear hbl hql hbh hqh
        go_wp2_with fail
        refine HF.out.mono ?_
        rintro e w3 ⟨s3, A3, m3, c3, rfl, hs3, hr3, hz3, hb3⟩
        have HD := Lib.hid (dend_any lo s3 hs3 A3 m3 c3 w3.heap.size w3 hr3 (Nat.le_refl _))
        have HB3 := Lib.hid hb3
        clear hs3 hr3 hz3 hb3 u0 u1 u2
        go_wp2_with fail
        refine HD.out.mono ?_
        rintro e w4 ⟨hd4, hb4⟩
        have hb34 : Below wr.heap.size wr w4 := HB3.out.trans (hb4.mono HB3.out.size)
        have t0 := qblk_cell HH.out.1 hb34 0 _ rfl
        have t1 := qblk_cell HH.out.1 hb34 1 _ rfl
        have t2 := qblk_cell HH.out.1 hb34 2 _ rfl
        have HC := Lib.hid (qceil_one hi K (by omega) HKB.out.2 _ wr.heap.size w4 (HH.out.2.below hb34 (Nat.le_refl _)) hb34.size)
        have HB4 := Lib.hid hb34
        have HD4 := Lib.hid hd4
        clear hb4 hb34 hd4
        rcases HD4.out with ⟨hl1, rfl⟩ | ⟨hl1, rfl⟩
        all_goals
          have HL1 := Lib.hid hl1
          clear hl1
          go_wp2_with fail
          refine HC.out.mono ?_
          rintro e w5 ⟨s5, A5, m5, c5, rfl, hs5, hr5, hz5, hb5⟩
          have HD5 := Lib.hid (dend_any hi s5 hs5 A5 m5 c5 w5.heap.size w5 hr5 (Nat.le_refl _))
          have HB5 := Lib.hid (HB4.out.trans (hb5.mono HB4.out.size))
          clear hs5 hr5 hz5 hb5
          go_wp2_with fail
          refine HD5.out.mono ?_
          rintro e w6 ⟨hd6, hb6⟩
          have hb36 : Below wr.heap.size wr w6 := HB5.out.trans (hb6.mono HB5.out.size)
          have m0 := qblk_cell HSPwr.out hb36 0 _ rfl
          have m1 := qblk_cell HSPwr.out hb36 1 _ rfl
          have mf := qblk_frozen HSPwr.out hb36
          have HB6 := Lib.hid (HBWwr.out.trans (hb36.mono HBWwr.out.size))
          have HD6 := Lib.hid hd6
          clear hb6 hb36 hd6 t0 t1 t2
          rcases HD6.out with ⟨hl2, rfl⟩ | ⟨hl2, rfl⟩
          all_goals
            have HL2 := Lib.hid hl2
            clear hl2
            go_wp2
            first
              | (refine bodyPost_ret (v := .tuple #[.agg #[.int .i64 lo, .int .i64 hi], .int .i64 0]) (by simp [results, Tryz.results23, go_sem, m0, m1]) rfl ⟨.inl ⟨HL1.out, HL2.out, rfl⟩, (HB6.out.setCell (Nat.le_refl _) _).setCell (Nat.le_refl _) _⟩)
              | (refine bodyPost_ret (v := .tuple #[.agg #[.int .i64 0, .int .i64 0], .int .i64 3]) (by simp [results, Tryz.results23, go_sem, m0, m1]) rfl ⟨.inr ⟨by have h1 := HL1.out; have h2 := HL2.out; omega, rfl⟩, (HB6.out.setCell (Nat.le_refl _) _).setCell (Nat.le_refl _) _⟩)
end Go.Proofs.YtdpmfenikomfkaaGreat
