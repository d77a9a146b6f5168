/-
  The program's damage: a bit is flipped; a datagram is cut; nothing.
-/
import Derived.Test.YtlginmnmobkbhaaCDmg2
namespace Go.Proofs.Ytlginmnmobkbhaa
open Go.RowKit

theorem apart_set : ∀ {ps : List (Value × List Nat)} (_ : ps.Pairwise Apart) (i : Nat) (hi : i < ps.length) (q : Value × List Nat) (_ : ∀ p, Apart (ps[i]'hi) p → Apart q p), (ps.set i q).Pairwise Apart
  | [], _, _, hi, _, _ => absurd hi (by simp)
  | a :: l, h, 0, _, q, hq => by
    show (q :: l).Pairwise Apart
    exact List.pairwise_cons.2 ⟨fun p hp => hq p ((List.pairwise_cons.1 h).1 p hp), (List.pairwise_cons.1 h).2⟩
  | a :: l, h, i + 1, hi, q, hq => by
    have hi' : i < l.length := by simpa using hi
    show (a :: l.set i q).Pairwise Apart
    refine List.pairwise_cons.2 ⟨fun p hp => ?_, apart_set (List.pairwise_cons.1 h).2 i hi' q hq⟩
    rcases List.mem_or_eq_of_mem_set hp with hp | rfl
    · exact (List.pairwise_cons.1 h).1 p hp
    · exact (hq a ((List.pairwise_cons.1 h).1 _ (List.getElem_mem hi')).symm).symm

/-- Another slice at i. -/
theorem chs_set {w : World} {base g n c : Nat} {ps : List (Value × List Nat)} (h : Chs w base (.slice (some ⟨g, 0, none⟩) n c) ps) (i : Nat) (hi : i < ps.length) (q : Value × List Nat) (hel : El w base q) (hown : ∀ b, q.1.ownBlock = some b → (ps[i]'hi).1.ownBlock = some b) :
    Chs (w.setCell ⟨g, i, none⟩ q.1) base (.slice (some ⟨g, 0, none⟩) n c) (ps.set i q) := by
  obtain ⟨⟨g', c', cur, e, hbg, hg, hs, hn, hc, hcur⟩, hels, hap⟩ := h
  injection e with e1 e2 e3
  injection e1 with e1
  injection e1 with e1
  subst e1
  subst e2
  subst e3
  have hO : Only (fun k => k = g) w (w.setCell ⟨g, i, none⟩ q.1) := only_set (S := fun k => k = g) _ rfl
  refine ⟨⟨g, c, cur.setIfInBounds i q.1, by rw [List.length_set], hbg, heap_setCell_same w g i cur _ _ hg, by simp; exact hs, by rw [List.length_set]; exact hn, hc, fun j hj => ?_⟩, fun p hp => ?_, apart_set hap i hi q (fun p ha b hb1 hb2 => ha b (hown b hb1) hb2)⟩
  · rw [List.length_set] at hj
    by_cases h1 : j = i
    · subst h1
      rw [Array.getElem?_setIfInBounds_self_of_lt (by omega), List.getElem?_set_self hi]
      rfl
    · rw [Array.getElem?_setIfInBounds_ne (fun e => h1 e.symm), List.getElem?_set_ne (fun e => h1 e.symm), hcur j hj]
  · rcases List.mem_or_eq_of_mem_set hp with hp | rfl
    · exact (hels p hp).only hO (el_not (hels p hp) hg)
    · exact hel.only hO (el_not hel hg)

theorem chs_thaw {w : World} {base g n c : Nat} {ps : List (Value × List Nat)} (h : Chs w base (.slice (some ⟨g, 0, none⟩) n c) ps) (j : Nat) : w.frozen? ⟨g, j, none⟩ = false := by
  obtain ⟨⟨g', c', cur, e, _, hg, _⟩, _, _⟩ := h
  injection e with e1 e2 e3
  injection e1 with e1
  injection e1 with e1
  subst e1
  simp [World.frozen?, hg]
theorem chs_base {w : World} {base g n c : Nat} {ps : List (Value × List Nat)} (h : Chs w base (.slice (some ⟨g, 0, none⟩) n c) ps) : base ≤ g := by
  obtain ⟨⟨g', c', cur, e, hb, _⟩, _, _⟩ := h
  injection e with e1 e2 e3
  injection e1 with e1
  injection e1 with e1
  subst e1
  exact hb
theorem el_cap {w : World} {base m c : Nat} {a : Addr} {p : Value × List Nat} (h : El w base p) {X : List Nat} (hp : p.1 = .slice (some a) m c) (hX : p.2 = X) : X.length ≤ c := by
  obtain ⟨⟨_, h2⟩, _, _⟩ := h
  rw [← hX]
  rcases h2 with ⟨e, _⟩ | ⟨g, cap, cur, e, hb, hh, hn, _⟩
  · rw [e] at hp; exact absurd hp (by simp)
  · rw [e] at hp
    injection hp with _ _ hp
    rw [← hp]
    exact hn
/-- A datagram's beginning. -/
theorem el_take {w : World} {base n c : Nat} {a : Addr} {X : List Nat} (h : El w base (.slice (some a) n c, X)) (m : Nat) (hm : m ≤ X.length) : El w base (.slice (some a) m c, X.take m) := by
  obtain ⟨⟨h1, h2⟩, h3, h4⟩ := h
  have hl : (X.take m).length = m := by rw [List.length_take]; omega
  refine ⟨⟨?_, ?_⟩, fun x hx => h3 x (List.mem_of_mem_take hx), by have h5 : X.length ≤ 1048576 := h4; show (X.take m).length ≤ _; omega⟩
  · show (bys (X.take m)).length = (X.take m).length * 1
    simp [bys]
  · rcases h2 with ⟨e, _⟩ | ⟨g, cap, cur, e, hb, hh, hn, hc, hs, ht⟩
    · exact absurd e (by simp)
    · refine .inr ⟨g, cap, cur, ?_, hb, hh, ?_, hc, hs, ?_⟩
      · injection e with e1 e2 e3
        show Value.slice (some a) m c = .slice (some ⟨g, 0, none⟩) (X.take m).length cap
        rw [hl, e1, e3]
      · show (X.take m).length ≤ cap
        have : X.length ≤ cap := hn
        omega
      · show cur.toList.take ((X.take m).length * 1) = bys (X.take m)
        have ht' : cur.toList.take (X.length * 1) = bys X := ht
        have : cur.toList.take m = (bys X).take m := by rw [← ht', List.take_take]; congr 1; omega
        rw [hl, Nat.mul_one, this]
        simp [bys, List.map_take]

set_option maxRecDepth 100000 in
set_option maxHeartbeats 1000000 in
theorem damage_cut {w : World} {base : Nat} {v : Value} {ps : List (Value × List Nat)} (h : Chs w base v ps) (hb : base ≤ w.heap.size) (i : Nat) (hi : i < ps.length) (n : Int) :
    Calls Try.prog 67 #[v, .agg #[.int .i64 5, .int .i64 (i : Int), .int .i64 n]] w (fun e w' => ∃ u, RetChs w base (ps.set i (u, (ps[i]'hi).2.take (wi n (ps[i]'hi).2.length))) e w') := by
  obtain ⟨g, c, hv⟩ := chs_form h
  subst hv
  obtain ⟨W0, hW0⟩ : ∃ W0, W0 = w.alloc (.cells #[.int .i64 5, .int .i64 (i : Int), .int .i64 n] 106) := ⟨_, rfl⟩
  have hb0 : Below w.heap.size w W0 := by rw [hW0]; exact (Below.refl _ _).alloc (Nat.le_refl _) _
  have z0 : w.heap.size < W0.heap.size := by rw [hW0]; simp
  have hG : W0.heap[w.heap.size]? = some (.cells #[.int .i64 5, .int .i64 (i : Int), .int .i64 n] 106 (0, 0)) := by rw [hW0]; exact heap_alloc_new w _
  have h0 := chs_below h hb0
  have hcell := chs_at h0 i hi
  have hel := h0.els _ (List.getElem_mem hi)
  obtain ⟨_, hrb⟩ := rb_of_owns hel.1
  obtain ⟨A, cp, hform⟩ := hrb.form
  obtain ⟨X, hX⟩ : ∃ X, X = (ps[i]'hi).2 := ⟨_, rfl⟩
  obtain ⟨k0, k1, k2, kf⟩ := fr_blk hG (Below.refl _ _)
  rw [← hX] at hform ⊢
  rw [hform] at hcell
  have hcellA := hcell
  rw [hW0] at hcellA
  have hwi : wi n X.length ≤ X.length := by unfold wi; omega
  have hXl : X.length ≤ 1048576 := by rw [hX]; exact hel.2.2
  have hgne : ¬ g = w.heap.size := fun e => by
    have := chs_lt h
    omega
  have H0 := Lib.hid (And.intro h0 (And.intro hb0 hG))
  have HL := Lib.hid (And.intro hwi hX)
  have HF := Lib.hid hform
  have HW := Lib.hid hW0
  have HR := Lib.hid (And.intro hrb hel)
  have i1 : (i : Int) < (ps.length : Int) := by omega
  clear h0 hb0 h hrb hel hG hform hwi hX
  go_enter Try.func67, Try.ntmps67
  clear hW0
  go_wp2_with fail
  rw [← HW.out]
  have hfg : ∀ j, W0.frozen? ⟨g, j, none⟩ = false := chs_thaw H0.out.1
  have hbne : ¬ w.heap.size = g := fun e => hgne e.symm
  obtain ⟨N, hN⟩ : ∃ N, N = wi n X.length := ⟨_, rfl⟩
  have hNl : N ≤ X.length := by rw [hN]; exact HL.out.1
  have HN := Lib.hid hN
  clear hN hcellA
  cases A with
  | some a =>
    have hcap : X.length ≤ cp := el_cap HR.out.2 (by rw [HF.out]) (by rw [← HL.out.2])
    have hNc : N ≤ cp := by omega
    go_region_held3 (fun w' => w'.cell? ⟨w.heap.size, 1, none⟩ = some (.int .i64 (i : Int)) ∧ w'.cell? ⟨w.heap.size, 2, none⟩ = some (.int .i64 n)) (first | exact k1 | exact k2 | go_keep)
      (first
        | (go_at_call 79
           refine (within_run n X.length _).mono ?_
           rintro e w2 ⟨rfl, e2⟩
           rw [e2, ← HN.out]
           clear e2))
    go_wp2
    go_ret
    rw [← HN.out]
    have E := HR.out.2
    have hE : El W0 base (.slice (some a) X.length cp, X) := by rw [← HF.out, HL.out.2]; exact E
    exact ⟨.slice (some a) N cp, _, rfl, chs_below (chs_set H0.out.1 i hi (.slice (some a) N cp, X.take N) (el_take hE N hNl) (fun b hb => by rw [HF.out]; exact hb)) (Below.refl _ _).drew,
      (H0.out.2.1.mono hb).trans (((only_set (S := fun k => k = g) (p := ⟨g, i, none⟩) _ rfl).below (Nat.le_trans hb H0.out.2.1.size) (fun k e => e ▸ chs_base H0.out.1)).trans (Below.refl _ _).drew)⟩
  | none =>
    obtain ⟨hz1, hz2⟩ := HR.out.1.2 X.length cp HF.out
    have hNc : N ≤ cp := by omega
    have hX0 : X = [] := List.eq_nil_of_length_eq_zero hz1
    have HZ := Lib.hid (And.intro hz1 (And.intro hz2 hX0))
    clear hz1 hz2 hX0
    go_region_held3 (fun w' => w'.cell? ⟨w.heap.size, 1, none⟩ = some (.int .i64 (i : Int)) ∧ w'.cell? ⟨w.heap.size, 2, none⟩ = some (.int .i64 n)) (first | exact k1 | exact k2 | go_keep)
      (first
        | (go_at_call 79
           refine (within_run n X.length _).mono ?_
           rintro e w2 ⟨rfl, e2⟩
           rw [e2, ← HN.out]
           clear e2))
    go_wp2
    go_ret
    rw [← HN.out]
    have hN0 : N = 0 := by have := HZ.out.2.1; omega
    have hE : El W0 base (.slice none N cp, X.take N) := by
      rw [hN0, HZ.out.2.1]
      exact ⟨World.ownsRow_nil _ _ _ _, fun x hx => by simp at hx, by simp⟩
    exact ⟨.slice none N cp, _, rfl, chs_below (chs_set H0.out.1 i hi (.slice none N cp, X.take N) hE (fun b hb => by simp [Value.ownBlock] at hb)) (Below.refl _ _).drew,
      (H0.out.2.1.mono hb).trans (((only_set (S := fun k => k = g) (p := ⟨g, i, none⟩) _ rfl).below (Nat.le_trans hb H0.out.2.1.size) (fun k e => e ▸ chs_base H0.out.1)).trans (Below.refl _ _).drew)⟩
end Go.Proofs.Ytlginmnmobkbhaa
