/-
  The program's damage: a bit is flipped; a datagram is cut; nothing.
  The program's damage: a bit is flipped; nothing.
  The program's damage: all of it.
-/
import Derived.Test.YtkakbeiehggkiaaH23
namespace Go.Proofs.Ytkakbeiehggkiaa
open Go.RowKit

theorem apart_set : ∀ {ps : List (Value × List Nat)} (_ : ps.Pairwise Apart) (i : Nat) (hi : i < ps.length) (q : Value × List Nat) (_ : ∀ p, Apart (ps[i]'hi) p → Apart q p), (ps.set i q).Pairwise Apart
  | [], _, _, hi, _, _ => absurd hi (by simp)
  | a :: l, h, 0, _, q, hq => by
    show (q :: l).Pairwise Apart
    exact List.pairwise_cons.2 ⟨fun p hp => hq p ((List.pairwise_cons.1 h).1 p hp), (List.pairwise_cons.1 h).2⟩
  | a :: l, h, i + 1, hi, q, hq => by
    have hi' : i < l.length := by simpa using hi
    show (a :: l.set i q).Pairwise Apart
    refine List.pairwise_cons.2 ⟨fun p hp => ?_, apart_set (List.pairwise_cons.1 h).2 i hi' q hq⟩
    rcases List.mem_or_eq_of_mem_set hp with hp | rfl
    · exact (List.pairwise_cons.1 h).1 p hp
    · exact (hq a ((List.pairwise_cons.1 h).1 _ (List.getElem_mem hi')).symm).symm

/-- Another slice at i. -/
theorem chs_set {w : World} {base g n c : Nat} {ps : List (Value × List Nat)} (h : Chs w base (.slice (some ⟨g, 0, none⟩) n c) ps) (i : Nat) (hi : i < ps.length) (q : Value × List Nat) (hel : El w base q) (hown : ∀ b, q.1.ownBlock = some b → (ps[i]'hi).1.ownBlock = some b) :
    Chs (w.setCell ⟨g, i, none⟩ q.1) base (.slice (some ⟨g, 0, none⟩) n c) (ps.set i q) := by
  obtain ⟨⟨g', c', cur, e, hbg, hg, hs, hn, hc, hcur⟩, hels, hap⟩ := h
  injection e with e1 e2 e3
  injection e1 with e1
  injection e1 with e1
  subst e1
  subst e2
  subst e3
  have hO : Only (fun k => k = g) w (w.setCell ⟨g, i, none⟩ q.1) := only_set (S := fun k => k = g) _ rfl
  refine ⟨⟨g, c, cur.setIfInBounds i q.1, by rw [List.length_set], hbg, heap_setCell_same w g i cur _ _ hg, by simp; exact hs, by rw [List.length_set]; exact hn, hc, fun j hj => ?_⟩, fun p hp => ?_, apart_set hap i hi q (fun p ha b hb1 hb2 => ha b (hown b hb1) hb2)⟩
  · rw [List.length_set] at hj
    by_cases h1 : j = i
    · subst h1
      rw [Array.getElem?_setIfInBounds_self_of_lt (by omega), List.getElem?_set_self hi]
      rfl
    · rw [Array.getElem?_setIfInBounds_ne (fun e => h1 e.symm), List.getElem?_set_ne (fun e => h1 e.symm), hcur j hj]
  · rcases List.mem_or_eq_of_mem_set hp with hp | rfl
    · exact (hels p hp).only hO (el_not (hels p hp) hg)
    · exact hel.only hO (el_not hel hg)

theorem chs_thaw {w : World} {base g n c : Nat} {ps : List (Value × List Nat)} (h : Chs w base (.slice (some ⟨g, 0, none⟩) n c) ps) (j : Nat) : w.frozen? ⟨g, j, none⟩ = false := by
  obtain ⟨⟨g', c', cur, e, _, hg, _⟩, _, _⟩ := h
  injection e with e1 e2 e3
  injection e1 with e1
  injection e1 with e1
  subst e1
  simp [World.frozen?, hg]
theorem chs_base {w : World} {base g n c : Nat} {ps : List (Value × List Nat)} (h : Chs w base (.slice (some ⟨g, 0, none⟩) n c) ps) : base ≤ g := by
  obtain ⟨⟨g', c', cur, e, hb, _⟩, _, _⟩ := h
  injection e with e1 e2 e3
  injection e1 with e1
  injection e1 with e1
  subst e1
  exact hb
theorem el_cap {w : World} {base m c : Nat} {a : Addr} {p : Value × List Nat} (h : El w base p) {X : List Nat} (hp : p.1 = .slice (some a) m c) (hX : p.2 = X) : X.length ≤ c := by
  obtain ⟨⟨_, h2⟩, _, _⟩ := h
  rw [← hX]
  rcases h2 with ⟨e, _⟩ | ⟨g, cap, cur, e, hb, hh, hn, _⟩
  · rw [e] at hp; exact absurd hp (by simp)
  · rw [e] at hp
    injection hp with _ _ hp
    rw [← hp]
    exact hn
/-- A datagram's beginning. -/
theorem el_take {w : World} {base n c : Nat} {a : Addr} {X : List Nat} (h : El w base (.slice (some a) n c, X)) (m : Nat) (hm : m ≤ X.length) : El w base (.slice (some a) m c, X.take m) := by
  obtain ⟨⟨h1, h2⟩, h3, h4⟩ := h
  have hl : (X.take m).length = m := by rw [List.length_take]; omega
  refine ⟨⟨?_, ?_⟩, fun x hx => h3 x (List.mem_of_mem_take hx), by have h5 : X.length ≤ 1048576 := h4; show (X.take m).length ≤ _; omega⟩
  · show (bys (X.take m)).length = (X.take m).length * 1
    simp [bys]
  · rcases h2 with ⟨e, _⟩ | ⟨g, cap, cur, e, hb, hh, hn, hc, hs, ht⟩
    · exact absurd e (by simp)
    · refine .inr ⟨g, cap, cur, ?_, hb, hh, ?_, hc, hs, ?_⟩
      · injection e with e1 e2 e3
        show Value.slice (some a) m c = .slice (some ⟨g, 0, none⟩) (X.take m).length cap
        rw [hl, e1, e3]
      · show (X.take m).length ≤ cap
        have : X.length ≤ cap := hn
        omega
      · show cur.toList.take ((X.take m).length * 1) = bys (X.take m)
        have ht' : cur.toList.take (X.length * 1) = bys X := ht
        have : cur.toList.take m = (bys X).take m := by rw [← ht', List.take_take]; congr 1; omega
        rw [hl, Nat.mul_one, this]
        simp [bys, List.map_take]

set_option maxRecDepth 100000 in
set_option maxHeartbeats 1000000 in
theorem damage_cut {w : World} {base : Nat} {v : Value} {ps : List (Value × List Nat)} (h : Chs w base v ps) (hb : base ≤ w.heap.size) (i : Nat) (hi : i < ps.length) (n : Int) :
    Calls Try.prog 67 #[v, .agg #[.int .i64 5, .int .i64 (i : Int), .int .i64 n]] w (fun e w' => ∃ u, RetChs w base (ps.set i (u, (ps[i]'hi).2.take (wi n (ps[i]'hi).2.length))) e w') := by
  obtain ⟨g, c, hv⟩ := chs_form h
  subst hv
  obtain ⟨W0, hW0⟩ : ∃ W0, W0 = w.alloc (.cells #[.int .i64 5, .int .i64 (i : Int), .int .i64 n] 106) := ⟨_, rfl⟩
  have hb0 : Below w.heap.size w W0 := by rw [hW0]; exact (Below.refl _ _).alloc (Nat.le_refl _) _
  have z0 : w.heap.size < W0.heap.size := by rw [hW0]; simp
  have hG : W0.heap[w.heap.size]? = some (.cells #[.int .i64 5, .int .i64 (i : Int), .int .i64 n] 106 (0, 0)) := by rw [hW0]; exact heap_alloc_new w _
  have h0 := chs_below h hb0
  have hcell := chs_at h0 i hi
  have hel := h0.els _ (List.getElem_mem hi)
  obtain ⟨_, hrb⟩ := rb_of_owns hel.1
  obtain ⟨A, cp, hform⟩ := hrb.form
  obtain ⟨X, hX⟩ : ∃ X, X = (ps[i]'hi).2 := ⟨_, rfl⟩
  obtain ⟨k0, k1, k2, kf⟩ := fr_blk hG (Below.refl _ _)
  rw [← hX] at hform ⊢
  rw [hform] at hcell
  have hcellA := hcell
  rw [hW0] at hcellA
  have hwi : wi n X.length ≤ X.length := by unfold wi; omega
  have hXl : X.length ≤ 1048576 := by rw [hX]; exact hel.2.2
  have hgne : ¬ g = w.heap.size := fun e => by
    have := chs_lt h
    omega
  have H0 := Lib.hid (And.intro h0 (And.intro hb0 hG))
  have HL := Lib.hid (And.intro hwi hX)
  have HF := Lib.hid hform
  have HW := Lib.hid hW0
  have HR := Lib.hid (And.intro hrb hel)
  have i1 : (i : Int) < (ps.length : Int) := by omega
  clear h0 hb0 h hrb hel hG hform hwi hX
  go_enter Try.func67, Try.ntmps67
  clear hW0
  go_wp2_with fail
  rw [← HW.out]
  have hfg : ∀ j, W0.frozen? ⟨g, j, none⟩ = false := chs_thaw H0.out.1
  have hbne : ¬ w.heap.size = g := fun e => hgne e.symm
  obtain ⟨N, hN⟩ : ∃ N, N = wi n X.length := ⟨_, rfl⟩
  have hNl : N ≤ X.length := by rw [hN]; exact HL.out.1
  have HN := Lib.hid hN
  clear hN hcellA
  cases A with
  | some a =>
    have hcap : X.length ≤ cp := el_cap HR.out.2 (by rw [HF.out]) (by rw [← HL.out.2])
    have hNc : N ≤ cp := by omega
    go_region_held3 (fun w' => w'.cell? ⟨w.heap.size, 1, none⟩ = some (.int .i64 (i : Int)) ∧ w'.cell? ⟨w.heap.size, 2, none⟩ = some (.int .i64 n)) (first | exact k1 | exact k2 | go_keep)
      (first
        | (go_at_call 79
           refine (within_run n X.length _).mono ?_
           rintro e w2 ⟨rfl, e2⟩
           rw [e2, ← HN.out]
           clear e2))
    go_wp2
    go_ret
    rw [← HN.out]
    have E := HR.out.2
    have hE : El W0 base (.slice (some a) X.length cp, X) := by rw [← HF.out, HL.out.2]; exact E
    exact ⟨.slice (some a) N cp, _, rfl, chs_below (chs_set H0.out.1 i hi (.slice (some a) N cp, X.take N) (el_take hE N hNl) (fun b hb => by rw [HF.out]; exact hb)) (Below.refl _ _).drew,
      (H0.out.2.1.mono hb).trans (((only_set (S := fun k => k = g) (p := ⟨g, i, none⟩) _ rfl).below (Nat.le_trans hb H0.out.2.1.size) (fun k e => e ▸ chs_base H0.out.1)).trans (Below.refl _ _).drew)⟩
  | none =>
    obtain ⟨hz1, hz2⟩ := HR.out.1.2 X.length cp HF.out
    have hNc : N ≤ cp := by omega
    have hX0 : X = [] := List.eq_nil_of_length_eq_zero hz1
    have HZ := Lib.hid (And.intro hz1 (And.intro hz2 hX0))
    clear hz1 hz2 hX0
    go_region_held3 (fun w' => w'.cell? ⟨w.heap.size, 1, none⟩ = some (.int .i64 (i : Int)) ∧ w'.cell? ⟨w.heap.size, 2, none⟩ = some (.int .i64 n)) (first | exact k1 | exact k2 | go_keep)
      (first
        | (go_at_call 79
           refine (within_run n X.length _).mono ?_
           rintro e w2 ⟨rfl, e2⟩
           rw [e2, ← HN.out]
           clear e2))
    go_wp2
    go_ret
    rw [← HN.out]
    have hN0 : N = 0 := by have := HZ.out.2.1; omega
    have hE : El W0 base (.slice none N cp, X.take N) := by
      rw [hN0, HZ.out.2.1]
      exact ⟨World.ownsRow_nil _ _ _ _, fun x hx => by simp at hx, by simp⟩
    exact ⟨.slice none N cp, _, rfl, chs_below (chs_set H0.out.1 i hi (.slice none N cp, X.take N) hE (fun b hb => by simp [Value.ownBlock] at hb)) (Below.refl _ _).drew,
      (H0.out.2.1.mono hb).trans (((only_set (S := fun k => k = g) (p := ⟨g, i, none⟩) _ rfl).below (Nat.le_trans hb H0.out.2.1.size) (fun k e => e ▸ chs_base H0.out.1)).trans (Below.refl _ _).drew)⟩
end Go.Proofs.Ytkakbeiehggkiaa

namespace Go.Proofs.Ytkakbeiehggkiaa
open Go.RowKit

/-- A datagram's block. -/
theorem el_blk {w : World} {base : Nat} {p : Value × List Nat} (h : El w base p) (h0 : 0 < p.2.length) : ∃ (b cp : Nat) (cur : Array Value), p.1 = .slice (some ⟨b, 0, none⟩) p.2.length cp ∧ base ≤ b ∧ w.heap[b]? = some (.cells cur 5 (0, 0)) ∧ p.2.length ≤ cp ∧ cur.size = cp ∧ cp ≤ maxLen ∧ ∀ (j x : Nat), p.2[j]? = some x → cur[j]? = some (Value.int .u8 (x : Int)) := by
  obtain ⟨⟨_, h2⟩, _, _⟩ := h
  rcases h2 with ⟨_, e⟩ | ⟨b, cp, cur, e, hb, hh, hn, hc, hs, ht⟩
  · omega
  · refine ⟨b, cp, cur, e, hb, hh, hn, by omega, hc, fun j x hx => ?_⟩
    have hj : j < p.2.length := (List.getElem?_eq_some_iff.1 hx).1
    have : (cur.toList.take (p.2.length * 1))[j]? = (bys p.2)[j]? := by rw [ht]
    rw [List.getElem?_take, if_pos (by omega), Array.getElem?_toList] at this
    rw [this]
    simp [bys, hx]

/-- A byte with one bit flipped. -/
def flB (x m : Nat) : Nat := (bits .xor .u8 (x : Int) (2 ^ (m % 8) % 256)).toNat
theorem flB_int (x m : Nat) : bits .xor .u8 (x : Int) (2 ^ (m % 8) % 256) = ((flB x m : Nat) : Int) := by
  have h := (bits_within .xor .u8 (x : Int) (2 ^ (m % 8) % 256)).1
  have e : IntKind.u8.min = 0 := by decide
  rw [e] at h
  unfold flB
  omega
theorem flB_lt (x m : Nat) : flB x m < 256 := by
  have h := (bits_within .xor .u8 (x : Int) (2 ^ (m % 8) % 256)).2
  have e : IntKind.u8.max = 255 := by decide
  rw [e, flB_int] at h
  omega

theorem el_put {w : World} {base b cp : Nat} {X : List Nat} (h : El w base (.slice (some ⟨b, 0, none⟩) X.length cp, X)) (k y : Nat) (hy : y < 256) : El (w.setCell ⟨b, k, none⟩ (.int .u8 (y : Int))) base (.slice (some ⟨b, 0, none⟩) X.length cp, X.set k y) := by
  obtain ⟨⟨h1, h2⟩, h3, h4⟩ := h
  have hl : (X.set k y).length = X.length := List.length_set
  refine ⟨⟨?_, ?_⟩, fun x hx => ?_, by show (X.set k y).length ≤ _; rw [hl]; exact h4⟩
  · show (bys (X.set k y)).length = (X.set k y).length * 1
    simp [bys]
  · rcases h2 with ⟨e, _⟩ | ⟨b', cap, cur, e, hb, hh, hn, hc, hs, ht⟩
    · exact absurd e (by simp)
    · injection e with e1 e2 e3
      injection e1 with e1
      injection e1 with e1
      subst e1
      subst e3
      refine .inr ⟨b, cp, cur.setIfInBounds k (.int .u8 (y : Int)), ?_, hb, heap_setCell_same w b k cur _ _ hh, ?_, hc, ?_, ?_⟩
      · show Value.slice _ X.length cp = .slice _ (X.set k y).length cp
        rw [hl]
      · show (X.set k y).length ≤ cp
        rw [hl]
        exact hn
      · rw [Array.size_setIfInBounds]
        exact hs
      · show (cur.setIfInBounds k (.int .u8 (y : Int))).toList.take ((X.set k y).length * 1) = bys (X.set k y)
        have ht' : cur.toList.take (X.length * 1) = bys X := ht
        rw [hl, Array.toList_setIfInBounds, List.take_set, ht']
        simp [bys, List.map_set]
  · rcases List.mem_or_eq_of_mem_set hx with hx | rfl
    · exact h3 x hx
    · exact hy

theorem chs_flip {w : World} {base g n c : Nat} {ps : List (Value × List Nat)} (h : Chs w base (.slice (some ⟨g, 0, none⟩) n c) ps) (i : Nat) (hi : i < ps.length) (b cp : Nat) (X : List Nat) (hX : X = (ps[i]'hi).2) (hf : (ps[i]'hi).1 = .slice (some ⟨b, 0, none⟩) X.length cp) (k y : Nat) (hy : y < 256) :
    Chs (w.setCell ⟨b, k, none⟩ (.int .u8 (y : Int))) base (.slice (some ⟨g, 0, none⟩) n c) (ps.set i ((ps[i]'hi).1, X.set k y)) := by
  obtain ⟨⟨g', c', cur, e, hbg, hg, hs, hn, hc, hcur⟩, hels, hap⟩ := h
  injection e with e1 e2 e3
  injection e1 with e1
  injection e1 with e1
  subst e1
  subst e2
  subst e3
  have hO : Only (fun k => k = b) w (w.setCell ⟨b, k, none⟩ (.int .u8 (y : Int))) := only_set (S := fun k => k = b) _ rfl
  have hel := hels _ (List.getElem_mem hi)
  have hown : (ps[i]'hi).1.ownBlock = some b := by rw [hf]; rfl
  have hbg2 : ¬ b = g := el_not hel hg b hown
  have hpe : ps[i]'hi = (.slice (some ⟨b, 0, none⟩) X.length cp, X) := by
    rw [← hf, hX]
  refine ⟨⟨g, c, cur, by rw [List.length_set], hbg, (hO.block g (Array.getElem?_eq_some_iff.1 hg).1 (fun e => hbg2 e.symm)).trans hg, hs, by rw [List.length_set]; exact hn, hc, fun j hj => ?_⟩, fun p hp => ?_, apart_set hap i hi _ (fun p ha b hb1 hb2 => ha b hb1 hb2)⟩
  · rw [List.length_set] at hj
    by_cases h1 : j = i
    · subst h1
      rw [List.getElem?_set_self hi, hcur j hi, List.getElem?_eq_getElem hi]
      rfl
    · rw [List.getElem?_set_ne (fun e => h1 e.symm), hcur j hj]
  · obtain ⟨j, hj, hje⟩ := List.mem_iff_getElem.1 hp
    rw [List.length_set] at hj
    by_cases h1 : j = i
    · subst h1
      rw [List.getElem_set_self] at hje
      rw [← hje, hf]
      exact el_put (by rw [← hpe]; exact hel) k y hy
    · rw [List.getElem_set_ne (fun e => h1 e.symm)] at hje
      rw [← hje]
      refine (hels _ (List.getElem_mem hj)).only hO (fun q hq hqb => ?_)
      have hpw := List.pairwise_iff_getElem.1 hap
      rcases Nat.lt_or_gt_of_ne h1 with h2 | h2
      · exact hpw j i hj hi h2 q hq (by rw [hown, hqb])
      · exact hpw i j hi hj h2 b hown (by rw [hq, hqb])

set_option maxRecDepth 100000 in
set_option maxHeartbeats 1000000 in
theorem damage_flip {w : World} {base : Nat} {v : Value} {ps : List (Value × List Nat)} (h : Chs w base v ps) (hb : base ≤ w.heap.size) (i : Nat) (hi : i < ps.length) (m x : Nat) (hx : (ps[i]'hi).2[m / 8]? = some x) :
    Calls Try.prog 67 #[v, .agg #[.int .i64 4, .int .i64 (i : Int), .int .i64 (m : Int)]] w (RetChs w base (ps.set i ((ps[i]'hi).1, (ps[i]'hi).2.set (m / 8) (flB x m)))) := by
  obtain ⟨g, c, hv⟩ := chs_form h
  subst hv
  obtain ⟨W0, hW0⟩ : ∃ W0, W0 = w.alloc (.cells #[.int .i64 4, .int .i64 (i : Int), .int .i64 (m : Int)] 106) := ⟨_, rfl⟩
  have hb0 : Below w.heap.size w W0 := by rw [hW0]; exact (Below.refl _ _).alloc (Nat.le_refl _) _
  have z0 : w.heap.size < W0.heap.size := by rw [hW0]; simp
  have hG : W0.heap[w.heap.size]? = some (.cells #[.int .i64 4, .int .i64 (i : Int), .int .i64 (m : Int)] 106 (0, 0)) := by rw [hW0]; exact heap_alloc_new w _
  have h0 := chs_below h hb0
  have hcell := chs_at h0 i hi
  have hel := h0.els _ (List.getElem_mem hi)
  have hm : m / 8 < (ps[i]'hi).2.length := (List.getElem?_eq_some_iff.1 hx).1
  obtain ⟨b, cp, cur, hform, hbb, hblk, hcap, hcs, hcm, hget⟩ := el_blk hel (by omega)
  obtain ⟨X, hX⟩ : ∃ X, X = (ps[i]'hi).2 := ⟨_, rfl⟩
  obtain ⟨k0, k1, k2, kf⟩ := fr_blk hG (Below.refl _ _)
  have hbw : ¬ b = w.heap.size := fun e => by
    have hel' := h.els _ (List.getElem_mem hi)
    have := (own_block hel'.1 (k := b) (by rw [hform]; rfl)).2.1
    omega
  rw [← hX] at hform hget hm hcap hx ⊢
  rw [hform] at hcell
  have hcellA := hcell
  rw [hW0] at hcellA
  have hxc : W0.cell? ⟨b, m / 8, none⟩ = some (.int .u8 (x : Int)) := (cell_of_row _ _ _ _ _ _ hblk).trans (hget _ _ hx)
  have hxf : ∀ j, W0.frozen? ⟨b, j, none⟩ = false := fun j => by simp [World.frozen?, hblk]
  have hXl : X.length ≤ 1048576 := by rw [hX]; exact hel.2.2
  have hgne : ¬ g = w.heap.size := fun e => by
    have := chs_lt h
    omega
  have H0 := Lib.hid (And.intro h0 (And.intro hb0 hG))
  have HL := Lib.hid hX
  have HF := Lib.hid hform
  have HW := Lib.hid hW0
  have HR := Lib.hid hel
  have HB := Lib.hid (And.intro hbb (And.intro hblk (And.intro hcap (And.intro hcs (And.intro hcm hget)))))
  have i1 : (i : Int) < (ps.length : Int) := by omega
  have i2 : (m : Int).tdiv 8 = ((m / 8 : Nat) : Int) := by rw [Int.tdiv_eq_ediv_of_nonneg (by omega)]; omega
  have i3 : (m : Int).tmod 8 = ((m % 8 : Nat) : Int) := by rw [Int.tmod_eq_emod_of_nonneg (by omega)]; omega
  have i4 : ((m / 8 : Nat) : Int) < (X.length : Int) := by omega
  have i5 : ((m : Int) / 8).toNat = m / 8 := by omega
  have i6 : ((m : Int) % 8).toNat = m % 8 := by omega
  have i7 : (0 : Int) ≤ (m : Int) / 8 := by omega
  have i8 : (0 : Int) ≤ (m : Int) % 8 := by omega
  have i9 : (m : Int) / 8 < (X.length : Int) := by omega
  clear h0 hb0 h hel hG hform hX hbb hblk hcap hcs hcm hget
  go_enter Try.func67, Try.ntmps67
  clear hW0
  go_wp2_with fail
  rw [← HW.out]
  go_region
  rw [flB_int]
  go_wp2
  go_ret
  exact ⟨_, rfl, chs_below (chs_flip H0.out.1 i hi b cp X HL.out HF.out (m / 8) (flB x m) (flB_lt x m)) (Below.refl _ _).drew,
    (H0.out.2.1.mono hb).trans (((only_set (S := fun k => k = b) (p := ⟨b, m / 8, none⟩) _ rfl).below (Nat.le_trans hb H0.out.2.1.size) (fun k e => e ▸ HB.out.1)).trans (Below.refl _ _).drew)⟩
end Go.Proofs.Ytkakbeiehggkiaa

namespace Go.Proofs.Ytkakbeiehggkiaa
open Go.RowKit

set_option maxRecDepth 100000 in
set_option maxHeartbeats 1000000 in
theorem damage_other {w : World} {base : Nat} {v : Value} {ps : List (Value × List Nat)} (h : Chs w base v ps) (hb : base ≤ w.heap.size) (i : Nat) (hi : i < ps.length) (k n : Int) (h1 : k ≠ 1) (h2 : k ≠ 2) (h3 : k ≠ 3) (h4 : k ≠ 4) (h5 : k ≠ 5) :
    Calls Try.prog 67 #[v, .agg #[.int .i64 k, .int .i64 (i : Int), .int .i64 n]] w (RetChs w base ps) := by
  obtain ⟨g, c, hv⟩ := chs_form h
  subst hv
  have hb0 : Below w.heap.size w (w.alloc (.cells #[.int .i64 k, .int .i64 (i : Int), .int .i64 n] 106)) := (Below.refl _ _).alloc (Nat.le_refl _) _
  have h0 := chs_below h hb0
  have hcell := chs_at h0 i hi
  have H0 := Lib.hid (And.intro h0 hb0)
  have i1 : (i : Int) < (ps.length : Int) := by omega
  have q1 : (k == 1) = false := by simpa using h1
  have q2 : (k == 2) = false := by simpa using h2
  have q3 : (k == 3) = false := by simpa using h3
  have q4 : (k == 4) = false := by simpa using h4
  have q5 : (k == 5) = false := by simpa using h5
  clear h0 hb0 h
  go_enter Try.func67, Try.ntmps67
  go_wp2
  go_ret
  exact ⟨_, rfl, H0.out.1, H0.out.2.mono hb⟩

set_option maxRecDepth 100000 in
set_option maxHeartbeats 1000000 in
theorem damage_noflip {w : World} {base : Nat} {v : Value} {ps : List (Value × List Nat)} (h : Chs w base v ps) (hb : base ≤ w.heap.size) (i : Nat) (hi : i < ps.length) (n : Int) (hn63 : n ≤ 9223372036854775807) (hno : n < 0 ∨ ((ps[i]'hi).2.length : Int) ≤ n / 8) :
    Calls Try.prog 67 #[v, .agg #[.int .i64 4, .int .i64 (i : Int), .int .i64 n]] w (RetChs w base ps) := by
  obtain ⟨g, c, hv⟩ := chs_form h
  subst hv
  have hb0 : Below w.heap.size w (w.alloc (.cells #[.int .i64 4, .int .i64 (i : Int), .int .i64 n] 106)) := (Below.refl _ _).alloc (Nat.le_refl _) _
  have h0 := chs_below h hb0
  have hcell := chs_at h0 i hi
  have hel := h0.els _ (List.getElem_mem hi)
  obtain ⟨_, hrb⟩ := rb_of_owns hel.1
  obtain ⟨A, cp, hform⟩ := hrb.form
  obtain ⟨X, hX⟩ : ∃ X, X = (ps[i]'hi).2 := ⟨_, rfl⟩
  rw [← hX] at hform hno
  rw [hform] at hcell
  have H0 := Lib.hid (And.intro h0 hb0)
  have i1 : (i : Int) < (ps.length : Int) := by omega
  clear h0 hb0 h hrb hel hform hX
  rcases Int.lt_or_le n 0 with hn | hn
  · have i2 : ¬ (0 : Int) ≤ n := by omega
    clear hno
    go_enter Try.func67, Try.ntmps67
    go_wp2
    go_ret
    exact ⟨_, rfl, H0.out.1, H0.out.2.mono hb⟩
  · have i2 : n.tdiv 8 = n / 8 := Int.tdiv_eq_ediv_of_nonneg hn
    have i4 : (X.length : Int) ≤ n / 8 := by omega
    have i5 : wrap64 (n / 8) = n / 8 := by unfold wrap64; omega
    clear hno
    go_enter Try.func67, Try.ntmps67
    go_wp2
    go_ret
    exact ⟨_, rfl, H0.out.1, H0.out.2.mono hb⟩

theorem map_erase : ∀ (ps : List (Value × List Nat)) (i : Nat), (ps.map Prod.snd).eraseIdx i = (ps.eraseIdx i).map Prod.snd
  | [], _ => by simp
  | a :: l, 0 => by simp
  | a :: l, i + 1 => by simp [map_erase l i]
/-- What a fault makes of datagrams, where At is an index. -/
def dmg (k : Int) (i : Nat) (n : Int) (L : List (List Nat)) : List (List Nat) :=
  let X := L.getD i []
  let M := L.eraseIdx i
  if k = 1 then M
  else if k = 2 then L.take (i + 1) ++ X :: L.drop (i + 1)
  else if k = 3 then M.take (wi n M.length) ++ X :: M.drop (wi n M.length)
  else if k = 4 then (if n < 0 ∨ (X.length : Int) ≤ n / 8 then L else L.set i (X.set (n.toNat / 8) (flB (X.getD (n.toNat / 8) 0) n.toNat)))
  else if k = 5 then L.set i (X.take (wi n X.length))
  else L

def RetDm (w : World) (base : Nat) (Ls : List (List Nat)) (e : Ending) (w' : World) : Prop := ∃ qs, qs.map Prod.snd = Ls ∧ RetChs w base qs e w'

theorem damage_any {w : World} {base : Nat} {v : Value} {ps : List (Value × List Nat)} (h : Chs w base v ps) (hb : base ≤ w.heap.size) (hn2 : ps.length ≤ 1000) (k at' n : Int) (hn63 : n ≤ 9223372036854775807) (i : Nat) (hat : at' = (i : Int)) (hi : i < ps.length) :
    Calls Try.prog 67 #[v, .agg #[.int .i64 k, .int .i64 at', .int .i64 n]] w (RetDm w base (dmg k i n (ps.map Prod.snd))) := by
  subst hat
  have hX : (ps.map Prod.snd).getD i [] = (ps[i]'hi).2 := by simp [List.getD, hi]
  have hM : (ps.map Prod.snd).eraseIdx i = (ps.eraseIdx i).map Prod.snd := map_erase _ _
  unfold dmg
  simp only [hX, hM, List.length_map]
  by_cases h1 : k = 1
  · subst h1
    exact (damage_drop h hb hn2 i hi n).mono fun _ _ r => ⟨_, by simp, r⟩
  rw [if_neg h1]
  by_cases h2 : k = 2
  · subst h2
    rw [if_pos rfl]
    exact (damage_double h hb hn2 i hi n).mono fun _ _ ⟨u, r⟩ => ⟨_, by simp [List.map_take, List.map_drop], r⟩
  rw [if_neg h2]
  by_cases h3 : k = 3
  · subst h3
    rw [if_pos rfl]
    exact (damage_move h hb hn2 i hi n rfl).mono fun _ _ r => ⟨_, by rw [List.map_append, List.map_cons, List.map_take, List.map_drop], r⟩
  rw [if_neg h3]
  by_cases h4 : k = 4
  · subst h4
    rw [if_pos rfl]
    by_cases h5 : n < 0 ∨ ((ps[i]'hi).2.length : Int) ≤ n / 8
    · rw [if_pos h5]
      exact (damage_noflip h hb i hi n hn63 h5).mono fun _ _ r => ⟨_, rfl, r⟩
    · rw [if_neg h5]
      obtain ⟨m, rfl⟩ : ∃ m : Nat, n = (m : Int) := ⟨n.toNat, by omega⟩
      have hm : m / 8 < (ps[i]'hi).2.length := by omega
      have hx : (ps[i]'hi).2[m / 8]? = some ((ps[i]'hi).2.getD (m / 8) 0) := by simp [List.getD, hm]
      refine (damage_flip h hb i hi m _ hx).mono fun _ _ r => ⟨_, ?_, r⟩
      rw [List.map_set]
      rfl
  rw [if_neg h4]
  by_cases h5 : k = 5
  · subst h5
    rw [if_pos rfl]
    exact (damage_cut h hb i hi n).mono fun _ _ ⟨u, r⟩ => ⟨_, by rw [List.map_set], r⟩
  rw [if_neg h5]
  exact (damage_other h hb i hi k n h1 h2 h3 h4 h5).mono fun _ _ r => ⟨_, rfl, r⟩
end Go.Proofs.Ytkakbeiehggkiaa
