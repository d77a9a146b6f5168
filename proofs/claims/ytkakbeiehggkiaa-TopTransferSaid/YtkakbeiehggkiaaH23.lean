/-
  The channel's list: slices of bytes of the call's own, each in a block of its own.
  The program's damage.
  The program's damage: a datagram is moved.
-/
import Derived.Test.YtkakbeiehggkiaaH22
import Derived.Test.YtkakbeiehggkiaaH06
namespace Go.Proofs.Ytkakbeiehggkiaa
open Go.RowKit

def Apart (p q : Value × List Nat) : Prop := ∀ b, p.1.ownBlock = some b → q.1.ownBlock ≠ some b
theorem Apart.symm {p q : Value × List Nat} (h : Apart p q) : Apart q p := fun b hq hp => h b hp hq
/-- One datagram. -/
def El (w : World) (base : Nat) (p : Value × List Nat) : Prop := w.ownsRow base 5 1 p.1 p.2.length (bys p.2) ∧ AllB p.2 ∧ p.2.length ≤ 1048576
structure Chs (w : World) (base : Nat) (v : Value) (ps : List (Value × List Nat)) : Prop where
  ex : ∃ g c cur, v = .slice (some ⟨g, 0, none⟩) ps.length c ∧ base ≤ g ∧ w.heap[g]? = some (.cells cur 33 (0, 0)) ∧ cur.size = c ∧ ps.length ≤ c ∧ c ≤ maxLen ∧ ∀ j, j < ps.length → cur[j]? = (ps[j]?).map Prod.fst
  els : ∀ p ∈ ps, El w base p
  apart : ps.Pairwise Apart

theorem el_one {w : World} {base : Nat} {p : Value × List Nat} (h : El w base p) : p.1.oneCell' = true := by
  obtain ⟨_, h2⟩ := h.1
  rcases h2 with ⟨e, _⟩ | ⟨g, cap, cur, e, _⟩ <;> rw [e] <;> rfl
/-- A block of slices is no datagram's. -/
theorem el_not {w : World} {base : Nat} {p : Value × List Nat} (h : El w base p) {g : Nat} {cur : Array Value} (hg : w.heap[g]? = some (.cells cur 33 (0, 0))) : ∀ k, p.1.ownBlock = some k → ¬ k = g := by
  rintro k hk rfl
  obtain ⟨_, _, cs, hc⟩ := own_block h.1 hk
  rw [hg] at hc
  injection hc with hc
  injection hc with _ hc
  exact absurd hc (by decide)
theorem El.only {w w' : World} {base : Nat} {p : Value × List Nat} (h : El w base p) {S : Nat → Prop} (hO : Only S w w') (hn : ∀ k, p.1.ownBlock = some k → ¬ S k) : El w' base p := ⟨hO.own h.1 hn, h.2⟩

theorem chs_cell {w : World} {base : Nat} {ps : List (Value × List Nat)} {g c : Nat} {cur : Array Value} (hc : ∀ j, j < ps.length → cur[j]? = (ps[j]?).map Prod.fst) (hels : ∀ p ∈ ps, El w base p) : ∀ j v, j < ps.length → cur[j]? = some v → v.oneCell' = true := by
  intro j v hj h
  rw [hc j hj, List.getElem?_eq_getElem hj] at h
  injection h with h
  rw [← h]
  exact el_one (hels _ (List.getElem_mem hj))

def RetChs (w : World) (base : Nat) (qs : List (Value × List Nat)) (e : Ending) (w' : World) : Prop := ∃ v', e = .returned v' ∧ Chs w' base v' qs ∧ Below base w w'

def RetChO (v : Value) (w : World) (base : Nat) (qs : List (Value × List Nat)) (e : Ending) (w' : World) : Prop := ∃ v', e = .returned v' ∧ Chs w' base v' qs ∧ Below base w w' ∧ Only (fun k => v.ownBlock = some k) w w'

theorem chs_delete {w : World} {base : Nat} {v : Value} {ps : List (Value × List Nat)} (h : Chs w base v ps) (hb : base ≤ w.heap.size) (i : Nat) (hi : i < ps.length) :
    Calls Try.prog 77 #[v, .int .i64 (i : Int), .int .i64 ((i : Int) + 1)] w (RetChO v w base (ps.eraseIdx i)) := by
  obtain ⟨⟨g, c, cur, rfl, hbg, hg, hs, hn, hc, hcur⟩, hels, hap⟩ := h
  refine (delete_one g ps.length c i cur w hg hs hn hc hi (chs_cell (g := g) (c := c) hcur hels)).mono ?_
  rintro e w' ⟨rfl, cur', hh, hs', hlo, hhi, hO⟩
  have hl : (ps.eraseIdx i).length = ps.length - 1 := List.length_eraseIdx_of_lt hi
  refine ⟨_, rfl, ⟨⟨g, c, cur', by rw [hl], hbg, hh, hs', by omega, hc, fun j hj => ?_⟩, fun p hp => ?_, hap.sublist (List.eraseIdx_sublist _ _)⟩, hO.below hb (fun k e => e ▸ hbg), hO.mono (fun k _ e => by rw [e]; rfl)⟩
  · rw [hl] at hj
    rw [List.getElem?_eraseIdx]
    by_cases h1 : j < i
    · rw [if_pos h1, hlo j h1, hcur j (by omega)]
    · rw [if_neg h1, hhi j (by omega) hj, hcur (j + 1) (by omega)]
  · have hp' : p ∈ ps := List.mem_of_mem_eraseIdx hp
    exact (hels p hp').only hO (el_not (hels p hp') hg)

theorem mem_insert {ps : List (Value × List Nat)} {q p : Value × List Nat} {i : Nat} (h : p ∈ ps.take i ++ q :: ps.drop i) : p = q ∨ p ∈ ps := by
  rcases List.mem_append.1 h with h | h
  · exact .inr (List.mem_of_mem_take h)
  · rcases List.mem_cons.1 h with h | h
    · exact .inl h
    · exact .inr (List.mem_of_mem_drop h)
theorem apart_insert {ps : List (Value × List Nat)} {q : Value × List Nat} (h : ps.Pairwise Apart) (hq : ∀ p ∈ ps, Apart q p) (i : Nat) : (ps.take i ++ q :: ps.drop i).Pairwise Apart := by
  have h0 : (ps.take i ++ ps.drop i).Pairwise Apart := by rw [List.take_append_drop]; exact h
  obtain ⟨a, b, c⟩ := List.pairwise_append.1 h0
  refine List.pairwise_append.2 ⟨a, List.pairwise_cons.2 ⟨fun p hp => hq p (List.mem_of_mem_drop hp), b⟩, fun p hp r hr => ?_⟩
  rcases List.mem_cons.1 hr with rfl | hr
  · exact (hq p (List.mem_of_mem_take hp)).symm
  · exact c p hp r hr

theorem chs_insert {w : World} {base : Nat} {v : Value} {ps : List (Value × List Nat)} (h : Chs w base v ps) (hb : base ≤ w.heap.size) (hn2 : ps.length ≤ 1000) (i : Nat) (z : Int) (hz : z = (i : Int)) (hi : i ≤ ps.length) (q : Value × List Nat) (hq : El w base q) (hqa : ∀ p ∈ ps, Apart q p)
    (vb : Nat) (hv : w.heap[vb]? = some (.cells #[q.1] 33 (0, 0))) (hvn : ∀ A n c, v = .slice (some A) n c → vb ≠ A.block) :
    Calls Try.prog 78 #[v, .int .i64 z, .slice (some ⟨vb, 0, none⟩) 1 1] w (RetChO v w base (ps.take i ++ q :: ps.drop i)) := by
  subst hz
  obtain ⟨⟨g, c, cur, rfl, hbg, hg, hs, hn, hc, hcur⟩, hels, hap⟩ := h
  have hvg : vb ≠ g := hvn _ _ _ rfl
  have hcell := chs_cell (g := g) (c := c) hcur hels
  have hcall : Calls Try.prog 78 #[.slice (some ⟨g, 0, none⟩) ps.length c, .int .i64 (i : Int), .slice (some ⟨vb, 0, none⟩) 1 1] w (RetInsert w g ps.length i cur q.1) := by
    by_cases h1 : i = ps.length
    · rw [h1]
      exact insert_end g ps.length c vb q.1 cur w hg hs hn hc hn2 (by rw [cell_of_row _ vb 0 _ _ _ hv]; rfl) (el_one hq)
    · by_cases h2 : ps.length + 1 ≤ c
      · exact insert_room g ps.length c i vb q.1 cur w hg hs (by omega) h2 hc hv hvg (el_one hq) hcell
      · have h3 : c = ps.length := by omega
        subst h3
        exact insert_grow g ps.length i vb q.1 cur w hg hs (by omega) hn2 hv hvg (el_one hq) hcell
  refine hcall.mono ?_
  rintro e w' ⟨g', c', cur', rfl, hh, hs', hn', hc', hlo, hmid, hhi, hgg, hO⟩
  have hl : (ps.take i ++ q :: ps.drop i).length = ps.length + 1 := by simp; omega
  have hbel : Below base w w' := hO.below hb (fun k e => e ▸ hbg)
  refine ⟨_, rfl, ⟨⟨g', c', cur', by rw [hl], by rcases hgg with rfl | h <;> omega, hh, hs', by omega, hc', fun j hj => ?_⟩, fun p hp => ?_, apart_insert hap hqa i⟩, hbel, hO.mono (fun k _ e => by rw [e]; rfl)⟩
  · rw [hl] at hj
    have ht : (ps.take i).length = i := by rw [List.length_take]; omega
    by_cases h1 : j < i
    · rw [List.getElem?_append_left (by omega), List.getElem?_take, if_pos h1, hlo j h1, hcur j (by omega)]
    · rw [List.getElem?_append_right (by omega), ht]
      by_cases h2 : j = i
      · rw [h2, Nat.sub_self, List.getElem?_cons_zero, hmid]
        rfl
      · have e : j - i = (j - 1 - i) + 1 := by omega
        rw [e, List.getElem?_cons_succ, List.getElem?_drop, hhi j (by omega) (by omega), hcur (j - 1) (by omega)]
        congr 2
        omega
  · rcases mem_insert hp with rfl | hp'
    · exact hq.only hO (el_not hq hg)
    · exact (hels p hp').only hO (el_not (hels p hp') hg)
end Go.Proofs.Ytkakbeiehggkiaa

namespace Go.Proofs.Ytkakbeiehggkiaa
open Go.RowKit

def wi (n : Int) (m : Nat) : Nat := (max 0 (min n (m : Int))).toNat
set_option maxRecDepth 100000 in
theorem within_run (n : Int) (m : Nat) (w : World) : Calls Try.prog 79 #[.int .i64 n, .int .i64 (m : Int)] w fun e w' => e = .returned (.int .i64 (wi n m : Nat)) ∧ w' = w := by
  have h1 : ((wi n m : Nat) : Int) = max 0 (min n (m : Int)) := by unfold wi; omega
  rw [h1]
  go_enter Try.func79, Try.ntmps79
  go_wp2
  all_goals
    go_ret
    exact ⟨congrArg (fun z => Ending.returned (.int .i64 z)) (by first | omega | (simp_all; omega) | (split at * <;> omega)), rfl⟩

theorem chs_below {w w' : World} {base : Nat} {v : Value} {ps : List (Value × List Nat)} (h : Chs w base v ps) (hb : Below w.heap.size w w') : Chs w' base v ps := by
  obtain ⟨⟨g, c, cur, rfl, hbg, hg, hs, hn, hc, hcur⟩, hels, hap⟩ := h
  have hO := only_below (S := fun _ => False) hb
  exact ⟨⟨g, c, cur, rfl, hbg, (hO.block g (Array.getElem?_eq_some_iff.1 hg).1 (fun h => h)).trans hg, hs, hn, hc, hcur⟩, fun p hp => (hels p hp).only hO (fun _ _ h => h), hap⟩

/-- The list's cell. -/
theorem chs_at {w : World} {base g n c : Nat} {ps : List (Value × List Nat)} (h : Chs w base (.slice (some ⟨g, 0, none⟩) n c) ps) (i : Nat) (hi : i < ps.length) : w.cell? ⟨g, i, none⟩ = some (ps[i]'hi).1 := by
  obtain ⟨⟨g', c', cur, e, _, hg, _, _, _, hcur⟩, _, _⟩ := h
  injection e with e1 e2 e3
  injection e1 with e1
  injection e1 with e1
  subst e1
  rw [cell_of_row _ _ _ _ _ _ hg, hcur i hi, List.getElem?_eq_getElem hi]
  rfl

set_option maxRecDepth 100000 in
set_option maxHeartbeats 1000000 in
theorem damage_drop {w : World} {base : Nat} {v : Value} {ps : List (Value × List Nat)} (h : Chs w base v ps) (hb : base ≤ w.heap.size) (hn2 : ps.length ≤ 1000) (i : Nat) (hi : i < ps.length) (n : Int) :
    Calls Try.prog 67 #[v, .agg #[.int .i64 1, .int .i64 (i : Int), .int .i64 n]] w (RetChs w base (ps.eraseIdx i)) := by
  obtain ⟨g, c, hv⟩ : ∃ g c, v = .slice (some ⟨g, 0, none⟩) ps.length c := by
    obtain ⟨⟨g, c, cur, rfl, _⟩, _, _⟩ := h
    exact ⟨g, c, rfl⟩
  subst hv
  have hb0 : Below w.heap.size w (w.alloc (.cells #[.int .i64 1, .int .i64 (i : Int), .int .i64 n] 106)) := (Below.refl _ _).alloc (Nat.le_refl _) _
  have h0 := chs_below h hb0
  have hcell := chs_at h0 i hi
  have H0 := Lib.hid (And.intro h0 hb0)
  have i1 : (i : Int) < (ps.length : Int) := by omega
  have i2 : IntKind.i64.wrap ((i : Int) + 1) = (i : Int) + 1 := by rw [IntKind.wrap_i64]; omega
  clear h0 hb0 h
  go_enter Try.func67, Try.ntmps67
  go_wp2_with (go_at_call 77
               refine (chs_delete H0.out.1 (Nat.le_trans hb H0.out.2.size) i hi).mono ?_
               rintro e w1 ⟨v1, rfl, hc1, hb1, _⟩)
  go_ret
  exact ⟨v1, rfl, hc1, (H0.out.2.mono hb).trans hb1⟩

theorem chs_lt {w : World} {base g n c : Nat} {ps : List (Value × List Nat)} (h : Chs w base (.slice (some ⟨g, 0, none⟩) n c) ps) : g < w.heap.size := by
  obtain ⟨⟨g', c', cur, e, _, hg, _⟩, _, _⟩ := h
  injection e with e1 e2 e3
  injection e1 with e1
  injection e1 with e1
  rw [e1]
  exact (Array.getElem?_eq_some_iff.1 hg).1
/-- What a clone is beside the list that it is taken from. -/
theorem clone_el {W w2 : World} {base : Nat} {v v2 : Value} {ps : List (Value × List Nat)} (h : Chs W base v ps) (hb : base ≤ W.heap.size) {p : Value × List Nat} (hp : p ∈ ps) (o2 : w2.ownsRow W.heap.size 5 1 v2 p.2.length (bys p.2)) (b2 : Below W.heap.size W w2) :
    Chs (w2.alloc (.cells #[v2] 33)) base v ps ∧ El (w2.alloc (.cells #[v2] 33)) base (v2, p.2) ∧ (∀ q ∈ ps, Apart (v2, p.2) q) ∧ (w2.alloc (.cells #[v2] 33)).heap[w2.heap.size]? = some (.cells #[v2] 33 (0, 0)) ∧
      base ≤ (w2.alloc (.cells #[v2] 33)).heap.size ∧ (∀ A n c, v = .slice (some A) n c → w2.heap.size ≠ A.block) ∧ Below W.heap.size W (w2.alloc (.cells #[v2] 33)) := by
  have b3 : Below w2.heap.size w2 (w2.alloc (.cells #[v2] 33)) := (Below.refl _ _).alloc (Nat.le_refl _) _
  have b4 : Below W.heap.size W (w2.alloc (.cells #[v2] 33)) := b2.trans (b3.mono b2.size)
  have el : El w2 base (v2, p.2) := ⟨owns_base o2 hb, (h.els p hp).2⟩
  refine ⟨chs_below h b4, el.only (only_below (S := fun _ => False) b3) (fun _ _ h => h), fun q hq b h1 h2 => ?_, heap_alloc_new w2 _, Nat.le_trans hb b4.size, fun A n c e => ?_, b4⟩
  · have k1 := (own_block o2 h1).1
    have k2 := (own_block (h.els q hq).1 h2).2.1
    omega
  · obtain ⟨⟨g, c, cur, e2, _, hg, _⟩, _, _⟩ := h
    rw [e2] at e
    injection e with e
    injection e with e
    subst e
    have := (Array.getElem?_eq_some_iff.1 hg).1
    have := b2.size
    show w2.heap.size ≠ g
    omega

set_option maxRecDepth 100000 in
set_option maxHeartbeats 1000000 in
theorem damage_double {w : World} {base : Nat} {v : Value} {ps : List (Value × List Nat)} (h : Chs w base v ps) (hb : base ≤ w.heap.size) (hn2 : ps.length ≤ 1000) (i : Nat) (hi : i < ps.length) (n : Int) :
    Calls Try.prog 67 #[v, .agg #[.int .i64 2, .int .i64 (i : Int), .int .i64 n]] w (fun e w' => ∃ u, RetChs w base (ps.take (i + 1) ++ (u, (ps[i]'hi).2) :: ps.drop (i + 1)) e w') := by
  obtain ⟨g, c, hv⟩ : ∃ g c, v = .slice (some ⟨g, 0, none⟩) ps.length c := by
    obtain ⟨⟨g, c, cur, rfl, _⟩, _, _⟩ := h
    exact ⟨g, c, rfl⟩
  subst hv
  obtain ⟨W0, hW0⟩ : ∃ W0, W0 = w.alloc (.cells #[.int .i64 2, .int .i64 (i : Int), .int .i64 n] 106) := ⟨_, rfl⟩
  have hb0 : Below w.heap.size w W0 := by rw [hW0]; exact (Below.refl _ _).alloc (Nat.le_refl _) _
  have z0 : w.heap.size < W0.heap.size := by rw [hW0]; simp
  have hG : W0.heap[w.heap.size]? = some (.cells #[.int .i64 2, .int .i64 (i : Int), .int .i64 n] 106 (0, 0)) := by rw [hW0]; exact heap_alloc_new w _
  have HG := Lib.hid hG
  have HW := Lib.hid hW0
  obtain ⟨k0, k1, k2, kf⟩ := fr_blk hG (Below.refl _ _)
  have h0 := chs_below h hb0
  have hcell := chs_at h0 i hi
  have hcellA := hcell
  rw [hW0] at hcellA
  have hel := h0.els _ (List.getElem_mem hi)
  obtain ⟨_, hrb⟩ := rb_of_owns hel.1
  have hgne : ¬ g = w.heap.size := fun e => by
    have := chs_lt h
    omega
  have hd0 := chs_below h0 (Below.refl _ _).drew
  have H0 := Lib.hid (And.intro hd0 (And.intro hb0 (And.intro hrb hel)))
  have i1 : (i : Int) < (ps.length : Int) := by omega
  have i2 : IntKind.i64.wrap ((i : Int) + 1) = (i : Int) + 1 := by rw [IntKind.wrap_i64]; omega
  clear h0 hb0 h hrb hel hG hd0
  go_enter Try.func67, Try.ntmps67
  clear hW0
  go_wp2_with fail
  rw [← HW.out]
  go_region_held3 (fun w' => w'.cell? ⟨w.heap.size, 1, none⟩ = some (.int .i64 (i : Int)))
    (first | exact k1 | exact j1 | exact q1 | (rw [World.cell?_drew]; exact k1) | (rw [World.cell?_alloc_past _ _ _ jl]; exact j1) | go_keep)
    (first
      | (go_at_call 60
         refine (clone_any (ps[i]'hi).2 _ W0.heap.size _ (by exact ⟨H0.out.2.2.1.1.drew, H0.out.2.2.1.2⟩) (by exact Nat.le_refl _) H0.out.2.2.2.2.2).mono ?_
         rintro e w2 ⟨v2, rfl, o2, b2⟩
         obtain ⟨A2, c2, e2⟩ := (rb_of_owns o2).2.form
         subst e2
         have CE := Lib.hid (clone_el H0.out.1 (Nat.le_trans hb H0.out.2.1.size) (List.getElem_mem hi) o2 b2)
         have b2' : Below W0.heap.size W0 w2 := below_un b2
         have jl : w.heap.size < w2.heap.size := Nat.lt_of_lt_of_le z0 b2'.size
         obtain ⟨j0, j1, j2, jf⟩ := fr_blk HG.out b2')
      | (go_at_call 78
         refine (chs_insert CE.out.1 CE.out.2.2.2.2.1 hn2 (i + 1) ((i : Int) + 1) (by omega) hi _ CE.out.2.1 CE.out.2.2.1 w2.heap.size CE.out.2.2.2.1 CE.out.2.2.2.2.2.1).mono ?_
         rintro e w3 ⟨v3, rfl, hc3, hb3, hO3⟩
         have q1 : w3.cell? ⟨w.heap.size, 1, none⟩ = some (.int .i64 (i : Int)) := (hO3.cell (p := ⟨w.heap.size, 1, none⟩) (Nat.lt_of_lt_of_le z0 CE.out.2.2.2.2.2.2.size) (fun e => by injection e with e; exact hgne e)).trans ((World.cell?_alloc_past _ _ _ jl).trans j1)
         have B3 := (CE.out.2.2.2.2.2.2.mono (Nat.le_trans hb H0.out.2.1.size)).trans hb3))
  go_wp2
  go_ret
  exact ⟨_, v3, rfl, hc3, (H0.out.2.1.mono hb).trans ((Below.refl _ _).drew.trans B3)⟩
end Go.Proofs.Ytkakbeiehggkiaa

namespace Go.Proofs.Ytkakbeiehggkiaa
open Go.RowKit

theorem apart_erase : ∀ {ps : List (Value × List Nat)} (_ : ps.Pairwise Apart) (i : Nat) (hi : i < ps.length), ∀ p ∈ ps.eraseIdx i, Apart (ps[i]'hi) p
  | [], _, _, hi => absurd hi (by simp)
  | a :: l, h, 0, _ => fun p hp => (List.pairwise_cons.1 h).1 p (by simpa using hp)
  | a :: l, h, i + 1, hi => fun p hp => by
    have hi' : i < l.length := by simpa using hi
    have hp' : p = a ∨ p ∈ l.eraseIdx i := by simpa using hp
    show Apart (l[i]'hi') p
    rcases hp' with rfl | hp'
    · exact ((List.pairwise_cons.1 h).1 _ (List.getElem_mem hi')).symm
    · exact apart_erase (List.pairwise_cons.1 h).2 i hi' p hp'

theorem chs_form {w : World} {base : Nat} {v : Value} {ps : List (Value × List Nat)} (h : Chs w base v ps) : ∃ g c, v = .slice (some ⟨g, 0, none⟩) ps.length c := by
  obtain ⟨⟨g, c, cur, e, _⟩, _, _⟩ := h
  exact ⟨g, c, e⟩

/-- The datagram that was taken out, beside the list that is left. -/
theorem move_el {W w1 : World} {base g : Nat} {v1 : Value} {ps M : List (Value × List Nat)} {n c : Nat} (h : Chs W base (.slice (some ⟨g, 0, none⟩) n c) ps) (hb : base ≤ W.heap.size) {i : Nat} (hi : i < ps.length) (hM : M = ps.eraseIdx i) (h1 : Chs w1 base v1 M)
    (hO : Only (fun k => (Value.slice (some ⟨g, 0, none⟩) n c).ownBlock = some k) W w1) :
    Chs (w1.alloc (.cells #[(ps[i]'hi).1] 33)) base v1 M ∧ El (w1.alloc (.cells #[(ps[i]'hi).1] 33)) base (ps[i]'hi) ∧ (∀ q ∈ M, Apart (ps[i]'hi) q) ∧ (w1.alloc (.cells #[(ps[i]'hi).1] 33)).heap[w1.heap.size]? = some (.cells #[(ps[i]'hi).1] 33 (0, 0)) ∧
      base ≤ (w1.alloc (.cells #[(ps[i]'hi).1] 33)).heap.size ∧ (∀ A n c, v1 = .slice (some A) n c → w1.heap.size ≠ A.block) ∧ Below w1.heap.size w1 (w1.alloc (.cells #[(ps[i]'hi).1] 33)) := by
  have b3 : Below w1.heap.size w1 (w1.alloc (.cells #[(ps[i]'hi).1] 33)) := (Below.refl _ _).alloc (Nat.le_refl _) _
  obtain ⟨⟨g', c', cur, e, _, hg, _⟩, hels, hap⟩ := h
  have hgg : g = g' := by
    injection e with e
    injection e with e
    injection e
  have hel := hels _ (List.getElem_mem hi)
  have e1 : El w1 base (ps[i]'hi) := hel.only hO (fun k hk hg2 => by
    have hg3 : g = k := by
      simp [Value.ownBlock] at hg2
      exact hg2
    exact el_not hel hg k hk (by rw [← hg3, hgg]))
  refine ⟨chs_below h1 b3, e1.only (only_below (S := fun _ => False) b3) (fun _ _ h => h), fun q hq => apart_erase hap i hi q (by rw [← hM]; exact hq), heap_alloc_new w1 _, Nat.le_trans hb (Nat.le_trans hO.size b3.size), fun A n c e => ?_, b3⟩
  obtain ⟨g1, c1, e2⟩ := chs_form h1
  subst e2
  have hl := chs_lt h1
  injection e with e
  injection e with e
  subst e
  show w1.heap.size ≠ g1
  omega

set_option maxRecDepth 100000 in
set_option maxHeartbeats 1000000 in
theorem damage_move {w : World} {base : Nat} {v : Value} {ps M : List (Value × List Nat)} (h : Chs w base v ps) (hb : base ≤ w.heap.size) (hn2 : ps.length ≤ 1000) (i : Nat) (hi : i < ps.length) (n : Int) (hM : M = ps.eraseIdx i) :
    Calls Try.prog 67 #[v, .agg #[.int .i64 3, .int .i64 (i : Int), .int .i64 n]] w (RetChs w base (M.take (wi n M.length) ++ (ps[i]'hi) :: M.drop (wi n M.length))) := by
  obtain ⟨g, c, hv⟩ := chs_form h
  subst hv
  obtain ⟨W0, hW0⟩ : ∃ W0, W0 = w.alloc (.cells #[.int .i64 3, .int .i64 (i : Int), .int .i64 n] 106) := ⟨_, rfl⟩
  have hb0 : Below w.heap.size w W0 := by rw [hW0]; exact (Below.refl _ _).alloc (Nat.le_refl _) _
  have z0 : w.heap.size < W0.heap.size := by rw [hW0]; simp
  have hG : W0.heap[w.heap.size]? = some (.cells #[.int .i64 3, .int .i64 (i : Int), .int .i64 n] 106 (0, 0)) := by rw [hW0]; exact heap_alloc_new w _
  have h0 := chs_below h hb0
  have hcell := chs_at h0 i hi
  have hel := h0.els _ (List.getElem_mem hi)
  obtain ⟨_, hrb⟩ := rb_of_owns hel.1
  obtain ⟨A, cp, hform⟩ := hrb.form
  have hcellA := hcell
  rw [hW0, hform] at hcellA
  have hgne : ¬ g = w.heap.size := fun e => by
    have := chs_lt h
    omega
  have hMl : M.length + 1 = ps.length := by rw [hM, List.length_eraseIdx_of_lt hi]; omega
  have hdel := chs_delete h0 (Nat.le_trans hb hb0.size) i hi
  rw [← hM] at hdel
  have hwi : wi n M.length ≤ M.length := by unfold wi; omega
  have H0 := Lib.hid (And.intro h0 (And.intro hb0 hG))
  have HD := Lib.hid hdel
  have HM := Lib.hid hM
  have HL := Lib.hid (And.intro hMl hwi)
  have HF := Lib.hid hform
  have HW := Lib.hid hW0
  have i1 : (i : Int) < (ps.length : Int) := by omega
  have i2 : IntKind.i64.wrap ((i : Int) + 1) = (i : Int) + 1 := by rw [IntKind.wrap_i64]; omega
  clear h0 hb0 h hrb hel hG hdel hcell hM hform hMl hwi
  go_enter Try.func67, Try.ntmps67
  clear hW0
  go_wp2_with (first
    | (go_at_call 77
       rw [← HW.out]
       refine HD.out.mono ?_
       rintro e w1 ⟨v1, rfl, hc1, hb1, hO1⟩
       have ME := Lib.hid (move_el H0.out.1 (Nat.le_trans hb H0.out.2.1.size) hi HM.out hc1 hO1)
       have HB1 := Lib.hid hb1
       rw [HF.out] at ME
       obtain ⟨g1, c1, e1⟩ := chs_form hc1
       subst e1
       have q2 : w1.cell? ⟨w.heap.size, 2, none⟩ = some (.int .i64 n) := (hO1.cell (p := ⟨w.heap.size, 2, none⟩) z0 (fun e => by injection e with e; exact hgne e)).trans (cell_of_row _ _ _ _ _ _ H0.out.2.2)
       clear hc1 hb1 hO1)
    | (go_at_call 79
       refine (within_run n M.length _).mono ?_
       rintro e w2 ⟨rfl, e2⟩
       rw [e2]
       clear e2)
    | (go_at_call 78
       refine (chs_insert ME.out.1 ME.out.2.2.2.2.1 (by have := HL.out.1; omega) (wi n M.length) _ rfl HL.out.2 (ps[i]'hi) (by exact ME.out.2.1) ME.out.2.2.1 w1.heap.size (by rw [HF.out]; exact ME.out.2.2.2.1) ME.out.2.2.2.2.2.1).mono ?_
       rintro e w3 ⟨v3, rfl, hc3, hb3, hO3⟩))
  go_ret
  exact ⟨v3, rfl, hc3, (H0.out.2.1.mono hb).trans (HB1.out.trans ((ME.out.2.2.2.2.2.2.mono (Nat.le_trans (Nat.le_trans hb H0.out.2.1.size) HB1.out.size)).trans hb3))⟩
end Go.Proofs.Ytkakbeiehggkiaa
