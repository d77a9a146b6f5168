/-
  Navigation records, rules and tracks that came in: opened.
-/
import Derived.Test.YtdmopmgabieciaaKFlat
namespace Go.Proofs.Ytdmopmgabieciaa
open Go.RowKit Go.WideShapes Go.ChangeShapes Go.Joins

theorem ints_of : ∀ (cs : List Value), (∀ j, j < cs.length → ∃ z : Int, cs[j]? = some (.int .i64 z) ∧ -9223372036854775808 ≤ z ∧ z ≤ 9223372036854775807) → ∃ L : List Int, AllI L ∧ L.length = cs.length ∧ cs = L.map (.int .i64)
  | [], _ => ⟨[], AllI.nil_, rfl, rfl⟩
  | c :: cs, h => by
    obtain ⟨z, hz, hb⟩ := h 0 (by simp)
    obtain ⟨L, hA, hL, hcs⟩ := ints_of cs (fun j hj => by
      have := h (j + 1) (by simpa using hj)
      simpa using this)
    simp at hz
    subst hz
    refine ⟨z :: L, ?_, by simp [hL], by rw [hcs]; rfl⟩
    intro y hy
    rcases List.mem_cons.1 hy with rfl | hy
    · exact hb
    · exact hA y hy

theorem open_records_cs {H : Type} {enc : TypeId × Value → H} {P : Program} {W : World} {t e : TypeId} {fuel : Nat} {cs : List Value} {x : DataW H × List MemPlace} {k : Nat} (hu : P.underlying t = some (.slice e)) (hk : 0 < k)
    (hce : P.cellsOf e = k) (hf : flatI P e k = true) (hf1 : DataW.trod enc P W 0 (fun _ => true) true fuel t cs = some x) :
    ∃ A n c L, cs = [.slice A n c] ∧ AllI L ∧ IR W W.heap.size k (.slice A n c) n L := by
  rcases Go.Deep.open_slice hu hf1 with ⟨hcs, _⟩ | ⟨a, len, cap, m, k', D, Pl, hcs, hb, hl, hm, hmm, hx, hel⟩
  · exact ⟨_, _, _, [], hcs, AllI.nil_, none, 0, rfl, by simp, Nat.le_refl _, by simp [maxLen], fun h => absurd h (by omega)⟩
  · have hz : ∀ i q, i < len → q < k → ∃ z : Int, W.cell? (a.add (i * k + q)) = some (.int .i64 z) ∧ -9223372036854775808 ≤ z ∧ z ≤ 9223372036854775807 := by
      intro i q hi hq
      obtain ⟨cs', h1, h2⟩ := hel i (by rw [hmm]; split <;> omega)
      rw [hce] at h1
      obtain ⟨_, hlen, hcell⟩ := World.cells?_some h1
      obtain ⟨z, hz, hb⟩ := flat_cell hf h2 q hq
      refine ⟨z, ?_, hb⟩
      rw [← hz, ← hcell q hq, Go.Deep.add_add]
    have hz2 : ∀ j, j < len * k → ∃ z : Int, W.cell? (a.add j) = some (.int .i64 z) ∧ -9223372036854775808 ≤ z ∧ z ≤ 9223372036854775807 := by
      intro j hj
      have h1 := hz (j / k) (j % k) (Nat.div_lt_of_lt_mul (by rw [Nat.mul_comm]; exact hj)) (Nat.mod_lt _ hk)
      rwa [Nat.mul_comm, Nat.div_add_mod] at h1
    obtain ⟨f, hfz⟩ : ∃ f : Nat → Int, ∀ j, j < len * k → W.cell? (a.add j) = some (.int .i64 (f j)) ∧ -9223372036854775808 ≤ f j ∧ f j ≤ 9223372036854775807 :=
      ⟨fun j => if hj : j < len * k then (hz2 j hj).choose else 0, fun j hj => by simp only [dif_pos hj]; exact (hz2 j hj).choose_spec⟩
    refine ⟨some a, len, cap, (List.range (len * k)).map f, hcs, ?_, some a, cap, rfl, by simp, hl, hm, fun hn => ?_⟩
    · intro y hy
      obtain ⟨j, hj, rfl⟩ := List.mem_map.1 hy
      exact (hfz j (List.mem_range.1 hj)).2
    · have h0 : 0 < len * k := Nat.mul_pos hn hk
      have hsp : a.spot = none := by simpa [Addr.add] using World.cell?_spot (hfz 0 h0).1
      obtain ⟨bb, off, spot⟩ := a
      simp only at hsp
      subst hsp
      refine ⟨bb, off, rfl, World.block_lt_of_cell? _ _ (hfz 0 h0).1, fun j hj => ?_⟩
      have := (hfz j hj).1
      rw [Go.WideShapes.add_plain] at this
      rw [this]
      simp [ith, hj]

/-- A list of parts: a slice of slices of records of ten. -/
def PW (w : World) (B : Nat) (v : Value) (Ps : List (Nat × List Int)) : Prop :=
  ∃ A c, v = .slice A Ps.length c ∧ Ps.length ≤ c ∧ c ≤ maxLen ∧ (0 < Ps.length → ∃ b o, A = some ⟨b, o, none⟩ ∧ b < B ∧
    ∀ i (h : i < Ps.length), ∃ Ai ci, w.cell? ⟨b, o + i, none⟩ = some (.slice Ai (Ps[i]).1 ci) ∧ IR w B 10 (.slice Ai (Ps[i]).1 ci) (Ps[i]).1 (Ps[i]).2)
theorem PW.below {w w' : World} {B : Nat} {v : Value} {Ps : List (Nat × List Int)} (h : PW w B v Ps) (hb : Below B w w') : PW w' B v Ps := by
  obtain ⟨A, c, h1, h2, h3, h4⟩ := h
  refine ⟨A, c, h1, h2, h3, fun h0 => ?_⟩
  obtain ⟨b, o, e, hg, hc⟩ := h4 h0
  refine ⟨b, o, e, hg, fun i h => ?_⟩
  obtain ⟨Ai, ci, h5, h6⟩ := hc i h
  exact ⟨Ai, ci, (hb.cell (p := ⟨b, o + i, none⟩) hg).trans h5, h6.below hb⟩
theorem PW.at_ {w : World} {B n c : Nat} {A : Option Addr} {Ps : List (Nat × List Int)} (h : PW w B (.slice A n c) Ps) (hn : 0 < n) : ∃ b o, A = some ⟨b, o, none⟩ ∧ b < B ∧
    ∀ i (h : i < Ps.length), ∃ Ai ci, w.cell? ⟨b, o + i, none⟩ = some (.slice Ai (Ps[i]).1 ci) ∧ IR w B 10 (.slice Ai (Ps[i]).1 ci) (Ps[i]).1 (Ps[i]).2 := by
  obtain ⟨A', c', e, h2, h3, h4⟩ := h
  injection e with e1 e2 e3
  subst e1 e2 e3
  exact h4 hn
theorem PW.len {w : World} {B n c : Nat} {A : Option Addr} {Ps : List (Nat × List Int)} (h : PW w B (.slice A n c) Ps) : n = Ps.length ∧ n ≤ c ∧ c ≤ maxLen := by
  obtain ⟨A', c', e, h2, h3, h4⟩ := h
  injection e with e1 e2 e3
  subst e1 e2 e3
  exact ⟨rfl, h2, h3⟩

set_option maxRecDepth 100000 in
theorem open_track {H : Type} {enc : TypeId × Value → H} {W : World} {b : Nat} {v : Value} {d : DataW H} {ps : List MemPlace}
    (hok : Value.okWide Try.prog W .any b 63 v) (h : DataW.Trod enc Try.prog W 0 (fun _ => true) true 63 v d ps) :
    ∃ A n c Ps, v = .agg #[.slice A n c] ∧ PW W W.heap.size (.slice A n c) Ps := by
  obtain ⟨cs, rfl, hs⟩ := okWide_struct Try.underlying63 hok
  obtain ⟨fuel, hx⟩ := h
  have hs1 : cs.size = 1 := hs.trans (by kernel_rfl)
  obtain ⟨c0, rfl⟩ : ∃ c0, cs = #[c0] := by
    obtain ⟨l⟩ := cs
    match l, hs1 with
    | [c0], _ => exact ⟨c0, rfl⟩
  obtain ⟨fuel', cs', x', h2, h3⟩ := leaf_reads 8 63 0 61 fuel _ _ (by kernel_rfl) hx
  rcases Go.Deep.open_slice1 Try.underlying61 (by kernel_rfl) h2 with ⟨rfl, _⟩ | ⟨a, len, cap, m, n, V, D, Pl, rfl, hb, hl', hm, hmm, hxx, hel⟩
  · simp [Value.cells] at h3
    subst h3
    exact ⟨none, 0, 0, [], rfl, none, 0, rfl, Nat.le_refl _, by simp [maxLen], fun h => absurd h (by simp)⟩
  · simp [Value.cells] at h3
    subst h3
    have hV : ∀ i, i < len → ∃ A n c L, W.cell? (a.add i) = some (.slice A n c) ∧ IR W W.heap.size 10 (.slice A n c) n L := by
      intro i hi
      obtain ⟨h4, h5⟩ := hel i (by rw [hmm]; split <;> omega)
      obtain ⟨A, n', c, L, h6, _, h7⟩ := open_records_cs (k := 10) Try.underlying88 (by omega) (by kernel_rfl) (by kernel_rfl) h5
      injection h6 with h6
      rw [h6] at h4
      exact ⟨A, n', c, L, h4, h7⟩
    refine ⟨some a, len, cap, (List.range len).map (fun i => if hi : i < len then ((hV i hi).choose_spec.choose, (hV i hi).choose_spec.choose_spec.choose_spec.choose) else (0, [])), rfl, some a, cap, by simp, by simpa using hl', hm, fun h0 => ?_⟩
    simp only [List.length_map, List.length_range] at h0
    obtain ⟨A0, n0, c0', L0, e0, _⟩ := hV 0 h0
    have hsp : a.spot = none := by simpa [Addr.add] using World.cell?_spot e0
    obtain ⟨bb, off, spot⟩ := a
    simp only at hsp
    subst hsp
    refine ⟨bb, off, rfl, World.block_lt_of_cell? _ _ e0, fun i h => ?_⟩
    have hi : i < len := by simpa using h
    have hsp2 := (hV i hi).choose_spec.choose_spec.choose_spec.choose_spec
    refine ⟨(hV i hi).choose, (hV i hi).choose_spec.choose_spec.choose, ?_, ?_⟩
    · simp only [List.getElem_map, List.getElem_range, dif_pos hi]
      exact (show W.cell? ⟨bb, off + i, none⟩ = W.cell? ((⟨bb, off, none⟩ : Addr).add i) by rw [Go.WideShapes.add_plain]).trans hsp2.1
    · simp only [List.getElem_map, List.getElem_range, dif_pos hi]
      exact hsp2.2

theorem leafNav : ∀ j : Nat, 0 < j → j < 14 → leaf Try.prog 8 60 j = some 3
  | 0, h, _ => absurd h (by omega)
  | 1, _, _ => by kernel_rfl
  | 2, _, _ => by kernel_rfl
  | 3, _, _ => by kernel_rfl
  | 4, _, _ => by kernel_rfl
  | 5, _, _ => by kernel_rfl
  | 6, _, _ => by kernel_rfl
  | 7, _, _ => by kernel_rfl
  | 8, _, _ => by kernel_rfl
  | 9, _, _ => by kernel_rfl
  | 10, _, _ => by kernel_rfl
  | 11, _, _ => by kernel_rfl
  | 12, _, _ => by kernel_rfl
  | 13, _, _ => by kernel_rfl
  | k + 14, _, h => absurd h (by omega)

set_option maxRecDepth 100000 in
theorem open_nav {H : Type} {enc : TypeId × Value → H} {W : World} {b : Nat} {v : Value} {d : DataW H} {ps : List MemPlace}
    (hok : Value.okWide Try.prog W .any b 60 v) (h : DataW.Trod enc Try.prog W 0 (fun _ => true) true 60 v d ps) :
    ∃ (s : Bool) (t x y z e q0 q1 q2 q3 tl sc nv er : Int), AllI [t, x, y, z, e, q0, q1, q2, q3, tl, sc, nv, er] ∧ v = .agg #[.bool s, .int .i64 t, .int .i64 x, .int .i64 y, .int .i64 z, .int .i64 e, .int .i64 q0, .int .i64 q1, .int .i64 q2, .int .i64 q3, .int .i64 tl, .int .i64 sc, .int .i64 nv, .int .i64 er] := by
  obtain ⟨cs, rfl, hs⟩ := okWide_struct Try.underlying60 hok
  obtain ⟨fuel, hx⟩ := h
  have hs1 : cs.size = 14 := hs.trans (by kernel_rfl)
  have h0 : ∃ s, cs[0]? = some (.bool s) := by
    obtain ⟨fuel', cs', x', h2, h3⟩ := leaf_reads 8 60 0 4 fuel _ _ (by kernel_rfl) hx
    obtain ⟨s, rfl, _⟩ := DataW.trod_bool Try.underlying4 h2
    exact ⟨s, by simpa [Value.cells] using h3.symm⟩
  have hj : ∀ j, 0 < j → j < 14 → ∃ z : Int, cs[j]? = some (.int .i64 z) ∧ -9223372036854775808 ≤ z ∧ z ≤ 9223372036854775807 := by
    intro j hj0 hj
    obtain ⟨fuel', cs', x', h2, h3⟩ := leaf_reads 8 60 j 3 fuel _ _ (leafNav j hj0 hj) hx
    obtain ⟨z, rfl, _, hw⟩ := DataW.trod_int Try.underlying3 h2
    exact ⟨z, by simpa [Value.cells] using h3.symm, bounds_i64 hw⟩
  obtain ⟨l⟩ := cs
  obtain ⟨s, hs0⟩ := h0
  cases l with
  | nil => simp at hs1
  | cons c0 l' =>
    have hl : l'.length = 13 := by simpa using hs1
    simp at hs0
    subst hs0
    obtain ⟨L, hA, hL, rfl⟩ := ints_of l' (fun j hj' => by
      have := hj (j + 1) (by omega) (by omega)
      simpa using this)
    rw [List.length_map] at hl
    match L, hl, hA with
    | [t, x, y, z, e, q0, q1, q2, q3, tl, sc, nv, er], _, hA => exact ⟨s, t, x, y, z, e, q0, q1, q2, q3, tl, sc, nv, er, hA, rfl⟩
end Go.Proofs.Ytdmopmgabieciaa
