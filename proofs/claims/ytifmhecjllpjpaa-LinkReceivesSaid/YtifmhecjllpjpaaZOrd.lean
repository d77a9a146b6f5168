/-
  What the statement LinkOrders keeps; append of deliveries.
-/
import Derived.Test.YtifmhecjllpjpaaZLong
namespace Go.Proofs.Ytifmhecjllpjpaa
open Go.RowKit

theorem dls_r {w : World} {base : Nat} {v : Value} {Ds : List Dl} (h : DlS w base v Ds) : DlR w v Ds := dls_cells h

set_option maxRecDepth 100000 in
/-- append(v, y...) of deliveries. -/
theorem wpList_append_dls {w : World} {ops : Array Oper} {rest : List Oper} {o : Oper} {a : Act} {Q : Exit → Act → World → Prop} (hgd : o.guard = none) (s x : Operand)
    (ho : o.op = .call { callee := .builtin .append, args := #[s, x], argTypes := #[43, 43] })
    (base b2 : Nat) (v y : Value) (Ds Es : List Dl) (hs : a.eval s = v) (hv : DlS w base v Ds) (hx : a.eval x = y) (hy : DlS w b2 y Es) (hsz : Ds.length + Es.length ≤ 1048576) (hbase : base ≤ w.heap.size)
    (h : ∀ v' w', DlS w' base v' (Ds ++ Es) → Only (fun k => v.ownBlock = some k) w w' → wpList Try.prog ops Q rest (a.put o.dst v') w') : wpList Try.prog ops Q (o :: rest) a w := by
  obtain ⟨i0, hi0, hz0, hz1, hz2⟩ := info_parts infoD
  obtain ⟨vs, h1, h2, h3⟩ := id hv
  obtain ⟨us, u1, u2, u3⟩ := hy
  obtain ⟨ul, ⟨rfl, u0⟩ | ⟨g, cap, cur, rfl, _, hblk, hle, _, _, ht⟩⟩ := id u2
  · have hE : Es = [] := List.eq_nil_of_length_eq_zero u0
    subst hE
    refine wpList_append_own_none hgd s x _ ho base 71 i0 3 Try.underlying43 hi0 v Ds.length _ hs h2 hx ?_
    exact h v w (by simpa using hv) (Only.refl _ _)
  · refine wpList_append_own_at w hgd s x _ ho base 71 i0 _ 3 40 Try.underlying43 hi0 hz0 hz1 hz2 rfl (by decide) v Ds.length _ hs h2 ⟨g, 0, none⟩ Es.length cap (dlC Es us) hx (dlC_len Es us u1) (fun j u hj => ?_) (fun u hu => ?_) (by unfold maxLen; omega) (by omega) hbase ?_
    · rw [add_none, Nat.zero_add]
      have hj' : j < (dlC Es us).length := (List.getElem?_eq_some_iff.1 hj).1
      rw [dlC_len Es us u1] at hj'
      exact (u2.cellAt j (by omega)).trans hj
    · obtain ⟨j, hj⟩ := List.mem_iff_getElem?.1 hu
      have hj' : j < (dlC Es us).length := (List.getElem?_eq_some_iff.1 hj).1
      rw [dlC_len Es us u1] at hj'
      obtain ⟨i, hi⟩ : ∃ i, i = j / 3 := ⟨_, rfl⟩
      have hil : i < Es.length := by omega
      obtain ⟨q1, q2, q3⟩ := dlC_get Es us i hil u1
      have hbd := bd_rb (u3 i hil (by omega))
      obtain ⟨A', c', e⟩ := hbd.form
      rw [e] at q2
      have hm : j = i * 3 ∨ j = i * 3 + 1 ∨ j = i * 3 + 2 := by omega
      rcases hm with hm | hm | hm
      · rw [hm, q1] at hj
        exact (Option.some.inj hj) ▸ rfl
      · rw [hm, q2] at hj
        exact (Option.some.inj hj) ▸ rfl
      · rw [hm, q3] at hj
        exact (Option.some.inj hj) ▸ rfl
    · intro v' w' r1 r2 _ _
      have hO : Only (fun k => v.ownBlock = some k) w w' := only_grown r2 (fun k e => e)
      have hN := nob_row h2 types_apart2
      refine h v' w' ⟨vs ++ us, by simp [h1, u1], ?_, fun i hi hi' => ?_⟩ hO
      · rw [dlC_append2 Ds vs Es us h1, List.length_append]
        exact r1
      · by_cases hlt : i < Ds.length
        · rw [List.getElem_append_left (by omega), List.getElem_append_left hlt]
          exact (h3 i hlt (by omega)).only hO hN
        · have hi2 : i < Ds.length + Es.length := by simpa using hi
          rw [List.getElem_append_right (by omega), List.getElem_append_right (by omega)]
          have := (u3 (i - Ds.length) (by omega) (by omega)).only hO hN
          simpa [h1] using this

theorem app_rcv {w w' : World} {base g mb N : Nat} {st win nx : Int} {F : Hf} {v : Value} {Ds : List Dl} (hD : DlS w base v Ds) (hO : Only (fun k => v.ownBlock = some k) w w') (hR : Rcv w g mb N st win nx F) : Rcv w' g mb N st win nx F := by
  obtain ⟨vs, h1, h2, h3⟩ := hD
  obtain ⟨n1, n2⟩ := row_not_rcv h2 (by decide) hR
  exact rcv_only hR hO (nob_row h2 types_apart2) n1 n2
theorem app_below {w0 w w' : World} {base : Nat} {v : Value} {Ds : List Dl} (hD : DlS w base v Ds) (hO : Only (fun k => v.ownBlock = some k) w w') (hb : Below base w0 w) (hs : base ≤ w.heap.size) : Below base w0 w' := by
  obtain ⟨vs, h1, h2, h3⟩ := hD
  exact hb.trans (hO.below hs (fun k hk => (own_block h2 hk).1))
theorem dls_rcv {w w' : World} {base g mb N : Nat} {st win nx : Int} {F : Hf} {v : Value} {Ds : List Dl} (hD : DlS w base v Ds) (hO : Only (fun k => k = g ∨ k = mb) w w') (hR : Rcv w g mb N st win nx F) : DlS w' base v Ds := by
  obtain ⟨vs, h1, h2, h3⟩ := id hD
  obtain ⟨n1, n2⟩ := row_not_rcv h2 (by decide) hR
  refine dls_only hD hO (rcv_nob hR) (fun k hk e => ?_)
  rcases e with rfl | rfl
  · exact n1 hk
  · exact n2 hk

/-- A list of deliveries whose bytes lie in memory that was there. -/
def DlW (w : World) (base : Nat) (v : Value) (Ds : List Dl) : Prop :=
  ∃ vs : List Value, vs.length = Ds.length ∧ w.ownsRow base 71 3 v Ds.length (dlC Ds vs) ∧ ∀ i (h : i < Ds.length) (h' : i < vs.length), RB w base (vs[i]'h') (Ds[i]'h).2.1
theorem dlw_nil (w : World) (base : Nat) : DlW w base (.slice none 0 0) [] := ⟨[], rfl, World.ownsRow_nil _ _ _ _, fun i h => by simp at h⟩
theorem dlw_r {w : World} {base : Nat} {v : Value} {Ds : List Dl} (h : DlW w base v Ds) (hB : base ≤ w.heap.size) : DlR w v Ds := by
  obtain ⟨vs, h1, ho, h3⟩ := h
  obtain ⟨hl, ⟨rfl, h0⟩ | ⟨g, cap, cur, rfl, _, hblk, hle, _, _, ht⟩⟩ := id ho
  · exact ⟨none, 0, by rw [h0], by omega, fun i hi => by omega⟩
  · refine ⟨some ⟨g, 0, none⟩, cap, rfl, hle, fun i hi => ?_⟩
    obtain ⟨c1, c2, c3⟩ := dlC_get Ds vs i hi h1
    have hn := (h3 i hi (by omega)).more hB
    obtain ⟨A', c', e⟩ := hn.form
    rw [e] at c2
    rw [e] at hn
    exact ⟨g, A', _, c', rfl, (Array.getElem?_eq_some_iff.1 hblk).1, (ho.cellAt (i * 3) (by omega)).trans c1, (ho.cellAt (i * 3 + 1) (by omega)).trans c2, (ho.cellAt (i * 3 + 2) (by omega)).trans c3, hn⟩
theorem dlw_append {w w' : World} {base : Nat} {v v' u : Value} {Ds : List Dl} {vs : List Value} {sq : Int} {X : List Nat} {l : Bool} (h1 : vs.length = Ds.length) (h3 : ∀ i (h : i < Ds.length) (h' : i < vs.length), RB w base (vs[i]'h') (Ds[i]'h).2.1)
    (ho : w'.ownsRow base 71 3 v' (Ds.length + 1) (dlC Ds vs ++ [.int .i64 sq, u, .bool l])) (hB : base ≤ w.heap.size) (hg : w.grownBy w' v.ownBlock) (hr : ∀ k, v.ownBlock = some k → base ≤ k) (hu : RB w base u X) : DlW w' base v' (Ds ++ [(sq, X, l)]) := by
  refine ⟨vs ++ [u], by simp [h1], ?_, fun i hi hi' => ?_⟩
  · rw [dlC_append Ds vs (sq, X, l) u h1, List.length_append]
    exact ho
  · by_cases hlt : i < Ds.length
    · rw [List.getElem_append_left (by omega), List.getElem_append_left hlt]
      exact (h3 i hlt (by omega)).grown hB hg hr
    · have e : i = Ds.length := by simp at hi; omega
      subst e
      have e1 : (vs ++ [u])[Ds.length]'hi' = u := by
        rw [List.getElem_append_right (by omega)]
        simp [h1]
      have e2 : (Ds ++ [(sq, X, l)])[Ds.length]'hi = (sq, X, l) := by
        rw [List.getElem_append_right (by omega)]
        simp
      rw [e1, e2]
      exact hu.grown hB hg hr

/-- All of the records. -/
def allF (X : Nat → List Nat) : Hf := fun q => some (X (q - 5).toNat, false)
def OrdF (F : Hf) (X : Nat → List Nat) (j n : Nat) : Prop := ∀ q x, F q = some x → 5 + (j : Int) < q ∧ q < 5 + (n : Int) ∧ x = (X (q - 5).toNat, false)
theorem ord_inW {F : Hf} {X : Nat → List Nat} {j n : Nat} (h : OrdF F X j n) (hn : n ≤ 64) : InW F (5 + (j : Int)) 64 := fun k x hk => by
  have := h k x hk
  omega
theorem ord_ok {F : Hf} {X : Nat → List Nat} {j n kk m : Nat} (h : OrdF F X j n) (hkk : kk < n) (h1 : j ≤ kk)
    (hm : ∀ i : Nat, i < m → putH F (5 + (kk : Int)) (X kk) false (5 + (j : Int) + i) ≠ none) (hz : putH F (5 + (kk : Int)) (X kk) false (5 + (j : Int) + m) = none) (hj : j ≤ n) :
    dsOf (allF X) 5 (j + m) = dsOf (allF X) 5 j ++ dsOf (putH F (5 + (kk : Int)) (X kk) false) (5 + (j : Int)) m ∧ j + m ≤ n ∧ OrdF (cutF (putH F (5 + (kk : Int)) (X kk) false) (5 + (j : Int) + m)) X (j + m) n ∧
    (∀ i : Nat, (i < j ∨ F (5 + (i : Int)) ≠ none ∨ i = kk) → i < j + m ∨ cutF (putH F (5 + (kk : Int)) (X kk) false) (5 + (j : Int) + m) (5 + (i : Int)) ≠ none) := by
  have hb : ∀ q x, putH F (5 + (kk : Int)) (X kk) false q = some x → 5 + (j : Int) ≤ q ∧ q < 5 + (n : Int) ∧ x = (X (q - 5).toNat, false) := by
    intro q x hq
    unfold putH at hq
    by_cases e : q = 5 + (kk : Int)
    · rw [if_pos e] at hq
      injection hq with hq
      subst hq
      refine ⟨by omega, by omega, ?_⟩
      rw [e, show (5 + (kk : Int) - 5).toNat = kk by omega]
    · rw [if_neg e] at hq
      have := h q x hq
      exact ⟨by omega, this.2.1, this.2.2⟩
  refine ⟨?_, ?_, fun q x hq => ?_, fun i hi => ?_⟩
  · clear hz
    induction m with
    | zero => simp [dsOf]
    | succ m ih =>
      rw [← Nat.add_assoc]
      simp only [dsOf]
      rw [ih (fun i hi => hm i (by omega)), List.append_assoc]
      congr 2
      obtain ⟨y, hy⟩ := Option.ne_none_iff_exists'.1 (hm m (by omega))
      have h5 := (hb _ _ hy).2.2
      rw [hy, h5]
      simp only [allF, Option.getD_some]
      have e1 : (5 : Int) + ((j + m : Nat) : Int) = 5 + (j : Int) + m := by push_cast; omega
      rw [e1]
  · by_cases e : m = 0
    · omega
    · obtain ⟨y, hy⟩ := Option.ne_none_iff_exists'.1 (hm (m - 1) (by omega))
      have := (hb _ _ hy).2.1
      omega
  · unfold cutF at hq
    by_cases e : q < 5 + (j : Int) + m
    · rw [if_pos e] at hq; cases hq
    · rw [if_neg e] at hq
      have h4 := hb q x hq
      have : q ≠ 5 + (j : Int) + m := fun e2 => by rw [e2, hz] at hq; cases hq
      exact ⟨by omega, h4.2.1, h4.2.2⟩
  · by_cases e : i < j + m
    · exact .inl e
    · refine .inr ?_
      unfold cutF
      rw [if_neg (by omega)]
      unfold putH
      by_cases e2 : (5 : Int) + (i : Int) = 5 + (kk : Int)
      · rw [if_pos e2]; simp
      · rw [if_neg e2]
        rcases hi with hi | hi | hi
        · omega
        · exact hi
        · omega
theorem ord_bad {F : Hf} {j n kk l : Nat} {ce : Int} (h : takeE 7 64 (5 + (j : Int)) F 7 (5 + (kk : Int)) l = ce) (h0 : ce ≠ 0) (hk : kk < 64) (hl : l ≤ 64) : kk < j ∨ F (5 + (kk : Int)) ≠ none := by
  unfold takeE at h
  rw [if_pos (by unfold okF; omega), if_pos rfl] at h
  unfold holdE at h
  by_cases h1 : 5 + (kk : Int) < 5 + (j : Int)
  · exact .inl (by omega)
  · rw [if_neg h1] at h
    by_cases h2 : F (5 + (kk : Int)) ≠ none
    · exact .inr h2
    · rw [if_neg h2, if_neg (by omega)] at h
      omega
theorem ord_end {F : Hf} {X : Nat → List Nat} {j n : Nat} (h : OrdF F X j n) (hj : j ≤ n) (ht : ∀ i : Nat, i < n → i < j ∨ F (5 + (i : Int)) ≠ none) : j = n := by
  by_cases e : j < n
  · rcases ht j e with h1 | h1
    · omega
    · obtain ⟨x, hx⟩ := Option.ne_none_iff_exists'.1 h1
      have := (h _ _ hx).1
      omega
  · omega
end Go.Proofs.Ytifmhecjllpjpaa
