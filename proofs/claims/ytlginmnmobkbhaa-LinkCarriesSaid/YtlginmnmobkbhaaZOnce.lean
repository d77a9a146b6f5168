/-
  What the statement LinkOnce keeps.
-/
import Derived.Test.YtlginmnmobkbhaaZTake
import Derived.Test.YtlginmnmobkbhaaZOpenW
namespace Go.Proofs.Ytlginmnmobkbhaa
open Go.RowKit Go.Maps

theorem takeE_zero {st win nx fst sq : Int} {F : Hf} {n : Nat} (h : takeE st win nx F fst sq n = 0) : okF fst sq n ∧ fst = st ∧ nx ≤ sq ∧ F sq = none ∧ sq < nx + win := by
  unfold takeE at h
  by_cases h1 : okF fst sq n
  · rw [if_pos h1] at h
    by_cases h2 : fst = st
    · rw [if_pos h2] at h
      unfold holdE at h
      by_cases h3 : sq < nx
      · rw [if_pos h3] at h; omega
      · rw [if_neg h3] at h
        by_cases h4 : F sq ≠ none
        · rw [if_pos h4] at h; omega
        · rw [if_neg h4] at h
          by_cases h5 : nx + win ≤ sq
          · rw [if_pos h5] at h; omega
          · exact ⟨h1, h2, by omega, by simpa using h4, by omega⟩
    · rw [if_neg h2] at h; omega
  · rw [if_neg h1] at h; omega

def OnceF (F : Hf) (f : Int → Option Value) (nx win : Int) : Prop :=
  (∀ k x, F k = some x → nx < k ∧ k < nx + win ∧ k ≤ 4294967295 ∧ x.2 = false) ∧ ∀ k, nx ≤ k → f k = (F k).map (fun x => .string (strB x.1))
theorem OnceF.inW {F : Hf} {f : Int → Option Value} {nx win : Int} (h : OnceF F f nx win) : InW F nx win := fun k x hk => by
  have := h.1 k x hk
  omega
theorem once_none {F : Hf} {f : Int → Option Value} {nx win : Int} (h : OnceF F f nx win) : f nx = none := by
  rw [h.2 nx (by omega)]
  cases e : F nx with
  | none => rfl
  | some x => have := (h.1 nx x e).1; omega
theorem once_ok {F : Hf} {f : Int → Option Value} {nx win sq : Int} {X : List Nat} {m : Nat} (h : OnceF F f nx win) (h1 : nx ≤ sq) (h2 : sq < nx + win) (h3 : sq ≤ 4294967295) (hnx : nx ≤ 4294967296)
    (hm : ∀ i : Nat, i < m → putH F sq X false (nx + i) ≠ none) (hz : putH F sq X false (nx + m) = none) :
    (∀ i : Nat, i < m → ∃ Y, putH F sq X false (nx + i) = some (Y, false) ∧ (if nx + i = sq then some (Value.string (strB X)) else f (nx + i)) = some (.string (strB Y))) ∧
    OnceF (cutF (putH F sq X false) (nx + m)) (fun z => if z = sq then some (.string (strB X)) else f z) (nx + m) win ∧ nx + m ≤ 4294967296 := by
  have hb : ∀ k x, putH F sq X false k = some x → nx ≤ k ∧ k < nx + win ∧ k ≤ 4294967295 ∧ x.2 = false := by
    intro k x hk
    unfold putH at hk
    by_cases e : k = sq
    · subst e
      rw [if_pos rfl] at hk
      injection hk with hk
      subst hk
      exact ⟨h1, h2, h3, rfl⟩
    · rw [if_neg e] at hk
      have := h.1 k x hk
      exact ⟨by omega, this.2.1, this.2.2.1, this.2.2.2⟩
  have hf : ∀ k, nx ≤ k → (if k = sq then some (Value.string (strB X)) else f k) = (putH F sq X false k).map (fun x => .string (strB x.1)) := by
    intro k hk
    unfold putH
    by_cases e : k = sq
    · rw [if_pos e, if_pos e]; rfl
    · rw [if_neg e, if_neg e, h.2 k hk]
  refine ⟨fun i hi => ?_, ⟨fun k x hk => ?_, fun k hk => ?_⟩, ?_⟩
  · obtain ⟨y, hy⟩ := Option.ne_none_iff_exists'.1 (hm i hi)
    obtain ⟨Y, l⟩ := y
    have hl := (hb _ _ hy).2.2.2
    simp only at hl
    subst hl
    refine ⟨Y, hy, ?_⟩
    rw [hf (nx + i) (by omega), hy]
    rfl
  · unfold cutF at hk
    by_cases e : k < nx + m
    · rw [if_pos e] at hk; cases hk
    · rw [if_neg e] at hk
      have h4 := hb k x hk
      have : k ≠ nx + m := fun e2 => by rw [e2, hz] at hk; cases hk
      exact ⟨by omega, by omega, h4.2.2.1, h4.2.2.2⟩
  · show (if k = sq then some (Value.string (strB X)) else f k) = _
    rw [hf k (by omega)]
    unfold cutF
    rw [if_neg (by omega)]
  · by_cases e : m = 0
    · subst e; omega
    · obtain ⟨y, hy⟩ := Option.ne_none_iff_exists'.1 (hm (m - 1) (by omega))
      have := (hb _ _ hy).2.2.1
      omega

/-- The cells of a list of deliveries. -/
theorem dls_cells {w : World} {base : Nat} {v : Value} {Ds : List Dl} (h : DlS w base v Ds) : ∃ A c, v = .slice A Ds.length c ∧ Ds.length ≤ c ∧
    ∀ i (hi : i < Ds.length), ∃ g A' n' c', A = some ⟨g, 0, none⟩ ∧ g < w.heap.size ∧ w.cell? ⟨g, i * 3, none⟩ = some (.int .i64 (Ds[i]'hi).1) ∧ w.cell? ⟨g, i * 3 + 1, none⟩ = some (.slice A' n' c') ∧
      w.cell? ⟨g, i * 3 + 2, none⟩ = some (.bool (Ds[i]'hi).2.2) ∧ RB w w.heap.size (.slice A' n' c') (Ds[i]'hi).2.1 := by
  obtain ⟨vs, h1, ho, h3⟩ := h
  obtain ⟨hl, ⟨rfl, h0⟩ | ⟨g, cap, cur, rfl, _, hblk, hle, _, _, ht⟩⟩ := id ho
  · exact ⟨none, 0, by rw [h0], by omega, fun i hi => by omega⟩
  · refine ⟨some ⟨g, 0, none⟩, cap, rfl, hle, fun i hi => ?_⟩
    obtain ⟨c1, c2, c3⟩ := dlC_get Ds vs i hi h1
    have hn := bd_rb (h3 i hi (by omega))
    obtain ⟨A', c', e⟩ := hn.form
    rw [e] at c2
    rw [e] at hn
    exact ⟨g, A', _, c', rfl, (Array.getElem?_eq_some_iff.1 hblk).1, (ho.cellAt (i * 3) (by omega)).trans c1, (ho.cellAt (i * 3 + 1) (by omega)).trans c2, (ho.cellAt (i * 3 + 2) (by omega)).trans c3, hn⟩
/-- Such a list is kept where a map is written. -/
theorem dls_turned {w w' : World} {base b : Nat} {v : Value} {Ds : List Dl} (h : DlS w base v Ds) (ht : w.mapTurned w' b) : DlS w' base v Ds := by
  obtain ⟨es, c, es', c', hb, _⟩ := id ht
  refine dls_only (S := fun k => k = b) h (only_turned ht rfl) (fun k cs fr hk e => ?_) (fun k hk e => ?_)
  · subst e; rw [hb] at hk; cases hk
  · subst e
    obtain ⟨vs, _, ho, _⟩ := h
    obtain ⟨_, _, cs, hc⟩ := own_block ho hk
    rw [hb] at hc; cases hc
theorem rcv_turned {w w' : World} {g mb N b : Nat} {st win nx : Int} {F : Hf} (h : Rcv w g mb N st win nx F) (ht : w.mapTurned w' b) (h1 : g ≠ b) (h2 : mb ≠ b) : Rcv w' g mb N st win nx F := by
  obtain ⟨es, c, es', c', hb, _⟩ := id ht
  refine rcv_only (S := fun k => k = b) h (only_turned ht rfl) (fun k cs fr hk e => ?_) h1 h2
  subst e; rw [hb] at hk; cases hk
end Go.Proofs.Ytlginmnmobkbhaa
