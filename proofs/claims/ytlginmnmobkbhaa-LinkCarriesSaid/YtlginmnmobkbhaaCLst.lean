/-
  The channel's list: slices of bytes of the call's own, each in a block of its own.
-/
import Derived.Test.YtlginmnmobkbhaaCIns3
import Derived.Test.YtlginmnmobkbhaaZHold
namespace Go.Proofs.Ytlginmnmobkbhaa
open Go.RowKit

def Apart (p q : Value × List Nat) : Prop := ∀ b, p.1.ownBlock = some b → q.1.ownBlock ≠ some b
theorem Apart.symm {p q : Value × List Nat} (h : Apart p q) : Apart q p := fun b hq hp => h b hp hq
/-- One datagram. -/
def El (w : World) (base : Nat) (p : Value × List Nat) : Prop := w.ownsRow base 5 1 p.1 p.2.length (bys p.2) ∧ AllB p.2 ∧ p.2.length ≤ 1048576
structure Chs (w : World) (base : Nat) (v : Value) (ps : List (Value × List Nat)) : Prop where
  ex : ∃ g c cur, v = .slice (some ⟨g, 0, none⟩) ps.length c ∧ base ≤ g ∧ w.heap[g]? = some (.cells cur 33 (0, 0)) ∧ cur.size = c ∧ ps.length ≤ c ∧ c ≤ maxLen ∧ ∀ j, j < ps.length → cur[j]? = (ps[j]?).map Prod.fst
  els : ∀ p ∈ ps, El w base p
  apart : ps.Pairwise Apart

theorem el_one {w : World} {base : Nat} {p : Value × List Nat} (h : El w base p) : p.1.oneCell' = true := by
  obtain ⟨_, h2⟩ := h.1
  rcases h2 with ⟨e, _⟩ | ⟨g, cap, cur, e, _⟩ <;> rw [e] <;> rfl
/-- A block of slices is no datagram's. -/
theorem el_not {w : World} {base : Nat} {p : Value × List Nat} (h : El w base p) {g : Nat} {cur : Array Value} (hg : w.heap[g]? = some (.cells cur 33 (0, 0))) : ∀ k, p.1.ownBlock = some k → ¬ k = g := by
  rintro k hk rfl
  obtain ⟨_, _, cs, hc⟩ := own_block h.1 hk
  rw [hg] at hc
  injection hc with hc
  injection hc with _ hc
  exact absurd hc (by decide)
theorem El.only {w w' : World} {base : Nat} {p : Value × List Nat} (h : El w base p) {S : Nat → Prop} (hO : Only S w w') (hn : ∀ k, p.1.ownBlock = some k → ¬ S k) : El w' base p := ⟨hO.own h.1 hn, h.2⟩

theorem chs_cell {w : World} {base : Nat} {ps : List (Value × List Nat)} {g c : Nat} {cur : Array Value} (hc : ∀ j, j < ps.length → cur[j]? = (ps[j]?).map Prod.fst) (hels : ∀ p ∈ ps, El w base p) : ∀ j v, j < ps.length → cur[j]? = some v → v.oneCell' = true := by
  intro j v hj h
  rw [hc j hj, List.getElem?_eq_getElem hj] at h
  injection h with h
  rw [← h]
  exact el_one (hels _ (List.getElem_mem hj))

def RetChs (w : World) (base : Nat) (qs : List (Value × List Nat)) (e : Ending) (w' : World) : Prop := ∃ v', e = .returned v' ∧ Chs w' base v' qs ∧ Below base w w'

def RetChO (v : Value) (w : World) (base : Nat) (qs : List (Value × List Nat)) (e : Ending) (w' : World) : Prop := ∃ v', e = .returned v' ∧ Chs w' base v' qs ∧ Below base w w' ∧ Only (fun k => v.ownBlock = some k) w w'

theorem chs_delete {w : World} {base : Nat} {v : Value} {ps : List (Value × List Nat)} (h : Chs w base v ps) (hb : base ≤ w.heap.size) (i : Nat) (hi : i < ps.length) :
    Calls Try.prog 77 #[v, .int .i64 (i : Int), .int .i64 ((i : Int) + 1)] w (RetChO v w base (ps.eraseIdx i)) := by
  obtain ⟨⟨g, c, cur, rfl, hbg, hg, hs, hn, hc, hcur⟩, hels, hap⟩ := h
  refine (delete_one g ps.length c i cur w hg hs hn hc hi (chs_cell (g := g) (c := c) hcur hels)).mono ?_
  rintro e w' ⟨rfl, cur', hh, hs', hlo, hhi, hO⟩
  have hl : (ps.eraseIdx i).length = ps.length - 1 := List.length_eraseIdx_of_lt hi
  refine ⟨_, rfl, ⟨⟨g, c, cur', by rw [hl], hbg, hh, hs', by omega, hc, fun j hj => ?_⟩, fun p hp => ?_, hap.sublist (List.eraseIdx_sublist _ _)⟩, hO.below hb (fun k e => e ▸ hbg), hO.mono (fun k _ e => by rw [e]; rfl)⟩
  · rw [hl] at hj
    rw [List.getElem?_eraseIdx]
    by_cases h1 : j < i
    · rw [if_pos h1, hlo j h1, hcur j (by omega)]
    · rw [if_neg h1, hhi j (by omega) hj, hcur (j + 1) (by omega)]
  · have hp' : p ∈ ps := List.mem_of_mem_eraseIdx hp
    exact (hels p hp').only hO (el_not (hels p hp') hg)

theorem mem_insert {ps : List (Value × List Nat)} {q p : Value × List Nat} {i : Nat} (h : p ∈ ps.take i ++ q :: ps.drop i) : p = q ∨ p ∈ ps := by
  rcases List.mem_append.1 h with h | h
  · exact .inr (List.mem_of_mem_take h)
  · rcases List.mem_cons.1 h with h | h
    · exact .inl h
    · exact .inr (List.mem_of_mem_drop h)
theorem apart_insert {ps : List (Value × List Nat)} {q : Value × List Nat} (h : ps.Pairwise Apart) (hq : ∀ p ∈ ps, Apart q p) (i : Nat) : (ps.take i ++ q :: ps.drop i).Pairwise Apart := by
  have h0 : (ps.take i ++ ps.drop i).Pairwise Apart := by rw [List.take_append_drop]; exact h
  obtain ⟨a, b, c⟩ := List.pairwise_append.1 h0
  refine List.pairwise_append.2 ⟨a, List.pairwise_cons.2 ⟨fun p hp => hq p (List.mem_of_mem_drop hp), b⟩, fun p hp r hr => ?_⟩
  rcases List.mem_cons.1 hr with rfl | hr
  · exact (hq p (List.mem_of_mem_take hp)).symm
  · exact c p hp r hr

theorem chs_insert {w : World} {base : Nat} {v : Value} {ps : List (Value × List Nat)} (h : Chs w base v ps) (hb : base ≤ w.heap.size) (hn2 : ps.length ≤ 1000) (i : Nat) (z : Int) (hz : z = (i : Int)) (hi : i ≤ ps.length) (q : Value × List Nat) (hq : El w base q) (hqa : ∀ p ∈ ps, Apart q p)
    (vb : Nat) (hv : w.heap[vb]? = some (.cells #[q.1] 33 (0, 0))) (hvn : ∀ A n c, v = .slice (some A) n c → vb ≠ A.block) :
    Calls Try.prog 78 #[v, .int .i64 z, .slice (some ⟨vb, 0, none⟩) 1 1] w (RetChO v w base (ps.take i ++ q :: ps.drop i)) := by
  subst hz
  obtain ⟨⟨g, c, cur, rfl, hbg, hg, hs, hn, hc, hcur⟩, hels, hap⟩ := h
  have hvg : vb ≠ g := hvn _ _ _ rfl
  have hcell := chs_cell (g := g) (c := c) hcur hels
  have hcall : Calls Try.prog 78 #[.slice (some ⟨g, 0, none⟩) ps.length c, .int .i64 (i : Int), .slice (some ⟨vb, 0, none⟩) 1 1] w (RetInsert w g ps.length i cur q.1) := by
    by_cases h1 : i = ps.length
    · rw [h1]
      exact insert_end g ps.length c vb q.1 cur w hg hs hn hc hn2 (by rw [cell_of_row _ vb 0 _ _ _ hv]; rfl) (el_one hq)
    · by_cases h2 : ps.length + 1 ≤ c
      · exact insert_room g ps.length c i vb q.1 cur w hg hs (by omega) h2 hc hv hvg (el_one hq) hcell
      · have h3 : c = ps.length := by omega
        subst h3
        exact insert_grow g ps.length i vb q.1 cur w hg hs (by omega) hn2 hv hvg (el_one hq) hcell
  refine hcall.mono ?_
  rintro e w' ⟨g', c', cur', rfl, hh, hs', hn', hc', hlo, hmid, hhi, hgg, hO⟩
  have hl : (ps.take i ++ q :: ps.drop i).length = ps.length + 1 := by simp; omega
  have hbel : Below base w w' := hO.below hb (fun k e => e ▸ hbg)
  refine ⟨_, rfl, ⟨⟨g', c', cur', by rw [hl], by rcases hgg with rfl | h <;> omega, hh, hs', by omega, hc', fun j hj => ?_⟩, fun p hp => ?_, apart_insert hap hqa i⟩, hbel, hO.mono (fun k _ e => by rw [e]; rfl)⟩
  · rw [hl] at hj
    have ht : (ps.take i).length = i := by rw [List.length_take]; omega
    by_cases h1 : j < i
    · rw [List.getElem?_append_left (by omega), List.getElem?_take, if_pos h1, hlo j h1, hcur j (by omega)]
    · rw [List.getElem?_append_right (by omega), ht]
      by_cases h2 : j = i
      · rw [h2, Nat.sub_self, List.getElem?_cons_zero, hmid]
        rfl
      · have e : j - i = (j - 1 - i) + 1 := by omega
        rw [e, List.getElem?_cons_succ, List.getElem?_drop, hhi j (by omega) (by omega), hcur (j - 1) (by omega)]
        congr 2
        omega
  · rcases mem_insert hp with rfl | hp'
    · exact hq.only hO (el_not hq hg)
    · exact (hels p hp').only hO (el_not (hels p hp') hg)
end Go.Proofs.Ytlginmnmobkbhaa
