/-
  What the statement LinkOrders keeps; append of deliveries.
  Both receivers beside each other: what a call of each leaves.
-/
import Derived.Test.YtkakbeiehggkiaaH13
import Derived.Test.YtkakbeiehggkiaaH12
namespace Go.Proofs.Ytkakbeiehggkiaa
open Go.RowKit

theorem dls_r {w : World} {base : Nat} {v : Value} {Ds : List Dl} (h : DlS w base v Ds) : DlR w v Ds := dls_cells h

set_option maxRecDepth 100000 in
/-- append(v, y...) of deliveries. -/
theorem wpList_append_dls {w : World} {ops : Array Oper} {rest : List Oper} {o : Oper} {a : Act} {Q : Exit → Act → World → Prop} (hgd : o.guard = none) (s x : Operand)
    (ho : o.op = .call { callee := .builtin .append, args := #[s, x], argTypes := #[38, 38] })
    (base b2 : Nat) (v y : Value) (Ds Es : List Dl) (hs : a.eval s = v) (hv : DlS w base v Ds) (hx : a.eval x = y) (hy : DlS w b2 y Es) (hsz : Ds.length + Es.length ≤ 1048576) (hbase : base ≤ w.heap.size)
    (h : ∀ v' w', DlS w' base v' (Ds ++ Es) → Only (fun k => v.ownBlock = some k) w w' → wpList Try.prog ops Q rest (a.put o.dst v') w') : wpList Try.prog ops Q (o :: rest) a w := by
  obtain ⟨i0, hi0, hz0, hz1, hz2⟩ := info_parts infoD
  obtain ⟨vs, h1, h2, h3⟩ := id hv
  obtain ⟨us, u1, u2, u3⟩ := hy
  obtain ⟨ul, ⟨rfl, u0⟩ | ⟨g, cap, cur, rfl, _, hblk, hle, _, _, ht⟩⟩ := id u2
  · have hE : Es = [] := List.eq_nil_of_length_eq_zero u0
    subst hE
    refine wpList_append_own_none hgd s x _ ho base 85 i0 3 Try.underlying38 hi0 v Ds.length _ hs h2 hx ?_
    exact h v w (by simpa using hv) (Only.refl _ _)
  · refine wpList_append_own_at w hgd s x _ ho base 85 i0 _ 3 40 Try.underlying38 hi0 hz0 hz1 hz2 rfl (by decide) v Ds.length _ hs h2 ⟨g, 0, none⟩ Es.length cap (dlC Es us) hx (dlC_len Es us u1) (fun j u hj => ?_) (fun u hu => ?_) (by unfold maxLen; omega) (by omega) hbase ?_
    · rw [add_none, Nat.zero_add]
      have hj' : j < (dlC Es us).length := (List.getElem?_eq_some_iff.1 hj).1
      rw [dlC_len Es us u1] at hj'
      exact (u2.cellAt j (by omega)).trans hj
    · obtain ⟨j, hj⟩ := List.mem_iff_getElem?.1 hu
      have hj' : j < (dlC Es us).length := (List.getElem?_eq_some_iff.1 hj).1
      rw [dlC_len Es us u1] at hj'
      obtain ⟨i, hi⟩ : ∃ i, i = j / 3 := ⟨_, rfl⟩
      have hil : i < Es.length := by omega
      obtain ⟨q1, q2, q3⟩ := dlC_get Es us i hil u1
      have hbd := bd_rb (u3 i hil (by omega))
      obtain ⟨A', c', e⟩ := hbd.form
      rw [e] at q2
      have hm : j = i * 3 ∨ j = i * 3 + 1 ∨ j = i * 3 + 2 := by omega
      rcases hm with hm | hm | hm
      · rw [hm, q1] at hj
        exact (Option.some.inj hj) ▸ rfl
      · rw [hm, q2] at hj
        exact (Option.some.inj hj) ▸ rfl
      · rw [hm, q3] at hj
        exact (Option.some.inj hj) ▸ rfl
    · intro v' w' r1 r2 _ _
      have hO : Only (fun k => v.ownBlock = some k) w w' := only_grown r2 (fun k e => e)
      have hN := nob_row h2 types_apart2
      refine h v' w' ⟨vs ++ us, by simp [h1, u1], ?_, fun i hi hi' => ?_⟩ hO
      · rw [dlC_append2 Ds vs Es us h1, List.length_append]
        exact r1
      · by_cases hlt : i < Ds.length
        · rw [List.getElem_append_left (by omega), List.getElem_append_left hlt]
          exact (h3 i hlt (by omega)).only hO hN
        · have hi2 : i < Ds.length + Es.length := by simpa using hi
          rw [List.getElem_append_right (by omega), List.getElem_append_right (by omega)]
          have := (u3 (i - Ds.length) (by omega) (by omega)).only hO hN
          simpa [h1] using this

theorem app_rcv {w w' : World} {base g mb N : Nat} {st win nx : Int} {F : Hf} {v : Value} {Ds : List Dl} (hD : DlS w base v Ds) (hO : Only (fun k => v.ownBlock = some k) w w') (hR : Rcv w g mb N st win nx F) : Rcv w' g mb N st win nx F := by
  obtain ⟨vs, h1, h2, h3⟩ := hD
  obtain ⟨n1, n2⟩ := row_not_rcv h2 (by decide) hR
  exact rcv_only hR hO (nob_row h2 types_apart2) n1 n2
theorem app_below {w0 w w' : World} {base : Nat} {v : Value} {Ds : List Dl} (hD : DlS w base v Ds) (hO : Only (fun k => v.ownBlock = some k) w w') (hb : Below base w0 w) (hs : base ≤ w.heap.size) : Below base w0 w' := by
  obtain ⟨vs, h1, h2, h3⟩ := hD
  exact hb.trans (hO.below hs (fun k hk => (own_block h2 hk).1))
theorem dls_rcv {w w' : World} {base g mb N : Nat} {st win nx : Int} {F : Hf} {v : Value} {Ds : List Dl} (hD : DlS w base v Ds) (hO : Only (fun k => k = g ∨ k = mb) w w') (hR : Rcv w g mb N st win nx F) : DlS w' base v Ds := by
  obtain ⟨vs, h1, h2, h3⟩ := id hD
  obtain ⟨n1, n2⟩ := row_not_rcv h2 (by decide) hR
  refine dls_only hD hO (rcv_nob hR) (fun k hk e => ?_)
  rcases e with rfl | rfl
  · exact n1 hk
  · exact n2 hk

/-- A list of deliveries whose bytes lie in memory that was there. -/
def DlW (w : World) (base : Nat) (v : Value) (Ds : List Dl) : Prop :=
  ∃ vs : List Value, vs.length = Ds.length ∧ w.ownsRow base 85 3 v Ds.length (dlC Ds vs) ∧ ∀ i (h : i < Ds.length) (h' : i < vs.length), RB w base (vs[i]'h') (Ds[i]'h).2.1
theorem dlw_nil (w : World) (base : Nat) : DlW w base (.slice none 0 0) [] := ⟨[], rfl, World.ownsRow_nil _ _ _ _, fun i h => by simp at h⟩
theorem dlw_r {w : World} {base : Nat} {v : Value} {Ds : List Dl} (h : DlW w base v Ds) (hB : base ≤ w.heap.size) : DlR w v Ds := by
  obtain ⟨vs, h1, ho, h3⟩ := h
  obtain ⟨hl, ⟨rfl, h0⟩ | ⟨g, cap, cur, rfl, _, hblk, hle, _, _, ht⟩⟩ := id ho
  · exact ⟨none, 0, by rw [h0], by omega, fun i hi => by omega⟩
  · refine ⟨some ⟨g, 0, none⟩, cap, rfl, hle, fun i hi => ?_⟩
    obtain ⟨c1, c2, c3⟩ := dlC_get Ds vs i hi h1
    have hn := (h3 i hi (by omega)).more hB
    obtain ⟨A', c', e⟩ := hn.form
    rw [e] at c2
    rw [e] at hn
    exact ⟨g, A', _, c', rfl, (Array.getElem?_eq_some_iff.1 hblk).1, (ho.cellAt (i * 3) (by omega)).trans c1, (ho.cellAt (i * 3 + 1) (by omega)).trans c2, (ho.cellAt (i * 3 + 2) (by omega)).trans c3, hn⟩
theorem dlw_append {w w' : World} {base : Nat} {v v' u : Value} {Ds : List Dl} {vs : List Value} {sq : Int} {X : List Nat} {l : Bool} (h1 : vs.length = Ds.length) (h3 : ∀ i (h : i < Ds.length) (h' : i < vs.length), RB w base (vs[i]'h') (Ds[i]'h).2.1)
    (ho : w'.ownsRow base 85 3 v' (Ds.length + 1) (dlC Ds vs ++ [.int .i64 sq, u, .bool l])) (hB : base ≤ w.heap.size) (hg : w.grownBy w' v.ownBlock) (hr : ∀ k, v.ownBlock = some k → base ≤ k) (hu : RB w base u X) : DlW w' base v' (Ds ++ [(sq, X, l)]) := by
  refine ⟨vs ++ [u], by simp [h1], ?_, fun i hi hi' => ?_⟩
  · rw [dlC_append Ds vs (sq, X, l) u h1, List.length_append]
    exact ho
  · by_cases hlt : i < Ds.length
    · rw [List.getElem_append_left (by omega), List.getElem_append_left hlt]
      exact (h3 i hlt (by omega)).grown hB hg hr
    · have e : i = Ds.length := by simp at hi; omega
      subst e
      have e1 : (vs ++ [u])[Ds.length]'hi' = u := by
        rw [List.getElem_append_right (by omega)]
        simp [h1]
      have e2 : (Ds ++ [(sq, X, l)])[Ds.length]'hi = (sq, X, l) := by
        rw [List.getElem_append_right (by omega)]
        simp
      rw [e1, e2]
      exact hu.grown hB hg hr

/-- All of the records. -/
def allF (X : Nat → List Nat) : Hf := fun q => some (X (q - 5).toNat, false)
def OrdF (F : Hf) (X : Nat → List Nat) (j n : Nat) : Prop := ∀ q x, F q = some x → 5 + (j : Int) < q ∧ q < 5 + (n : Int) ∧ x = (X (q - 5).toNat, false)
theorem ord_inW {F : Hf} {X : Nat → List Nat} {j n : Nat} (h : OrdF F X j n) (hn : n ≤ 64) : InW F (5 + (j : Int)) 64 := fun k x hk => by
  have := h k x hk
  omega
theorem ord_ok {F : Hf} {X : Nat → List Nat} {j n kk m : Nat} (h : OrdF F X j n) (hkk : kk < n) (h1 : j ≤ kk)
    (hm : ∀ i : Nat, i < m → putH F (5 + (kk : Int)) (X kk) false (5 + (j : Int) + i) ≠ none) (hz : putH F (5 + (kk : Int)) (X kk) false (5 + (j : Int) + m) = none) (hj : j ≤ n) :
    dsOf (allF X) 5 (j + m) = dsOf (allF X) 5 j ++ dsOf (putH F (5 + (kk : Int)) (X kk) false) (5 + (j : Int)) m ∧ j + m ≤ n ∧ OrdF (cutF (putH F (5 + (kk : Int)) (X kk) false) (5 + (j : Int) + m)) X (j + m) n ∧
    (∀ i : Nat, (i < j ∨ F (5 + (i : Int)) ≠ none ∨ i = kk) → i < j + m ∨ cutF (putH F (5 + (kk : Int)) (X kk) false) (5 + (j : Int) + m) (5 + (i : Int)) ≠ none) := by
  have hb : ∀ q x, putH F (5 + (kk : Int)) (X kk) false q = some x → 5 + (j : Int) ≤ q ∧ q < 5 + (n : Int) ∧ x = (X (q - 5).toNat, false) := by
    intro q x hq
    unfold putH at hq
    by_cases e : q = 5 + (kk : Int)
    · rw [if_pos e] at hq
      injection hq with hq
      subst hq
      refine ⟨by omega, by omega, ?_⟩
      rw [e, show (5 + (kk : Int) - 5).toNat = kk by omega]
    · rw [if_neg e] at hq
      have := h q x hq
      exact ⟨by omega, this.2.1, this.2.2⟩
  refine ⟨?_, ?_, fun q x hq => ?_, fun i hi => ?_⟩
  · clear hz
    induction m with
    | zero => simp [dsOf]
    | succ m ih =>
      rw [← Nat.add_assoc]
      simp only [dsOf]
      rw [ih (fun i hi => hm i (by omega)), List.append_assoc]
      congr 2
      obtain ⟨y, hy⟩ := Option.ne_none_iff_exists'.1 (hm m (by omega))
      have h5 := (hb _ _ hy).2.2
      rw [hy, h5]
      simp only [allF, Option.getD_some]
      have e1 : (5 : Int) + ((j + m : Nat) : Int) = 5 + (j : Int) + m := by push_cast; omega
      rw [e1]
  · by_cases e : m = 0
    · omega
    · obtain ⟨y, hy⟩ := Option.ne_none_iff_exists'.1 (hm (m - 1) (by omega))
      have := (hb _ _ hy).2.1
      omega
  · unfold cutF at hq
    by_cases e : q < 5 + (j : Int) + m
    · rw [if_pos e] at hq; cases hq
    · rw [if_neg e] at hq
      have h4 := hb q x hq
      have : q ≠ 5 + (j : Int) + m := fun e2 => by rw [e2, hz] at hq; cases hq
      exact ⟨by omega, h4.2.1, h4.2.2⟩
  · by_cases e : i < j + m
    · exact .inl e
    · refine .inr ?_
      unfold cutF
      rw [if_neg (by omega)]
      unfold putH
      by_cases e2 : (5 : Int) + (i : Int) = 5 + (kk : Int)
      · rw [if_pos e2]; simp
      · rw [if_neg e2]
        rcases hi with hi | hi | hi
        · omega
        · exact hi
        · omega
theorem ord_bad {F : Hf} {j n kk l : Nat} {ce : Int} (h : takeE 7 64 (5 + (j : Int)) F 7 (5 + (kk : Int)) l = ce) (h0 : ce ≠ 0) (hk : kk < 64) (hl : l ≤ 64) : kk < j ∨ F (5 + (kk : Int)) ≠ none := by
  unfold takeE at h
  rw [if_pos (by unfold okF; omega), if_pos rfl] at h
  unfold holdE at h
  by_cases h1 : 5 + (kk : Int) < 5 + (j : Int)
  · exact .inl (by omega)
  · rw [if_neg h1] at h
    by_cases h2 : F (5 + (kk : Int)) ≠ none
    · exact .inr h2
    · rw [if_neg h2, if_neg (by omega)] at h
      omega
theorem ord_end {F : Hf} {X : Nat → List Nat} {j n : Nat} (h : OrdF F X j n) (hj : j ≤ n) (ht : ∀ i : Nat, i < n → i < j ∨ F (5 + (i : Int)) ≠ none) : j = n := by
  by_cases e : j < n
  · rcases ht j e with h1 | h1
    · omega
    · obtain ⟨x, hx⟩ := Option.ne_none_iff_exists'.1 h1
      have := (h _ _ hx).1
      omega
  · omega
end Go.Proofs.Ytkakbeiehggkiaa

namespace Go.Proofs.Ytkakbeiehggkiaa
open Go.RowKit Go.Maps

/-- What is held lies above nx, within the window. -/
def GoodF (F : Hf) (nx win : Int) : Prop := ∀ k x, F k = some x → nx < k ∧ k < nx + win ∧ k ≤ 4294967295 ∧ x.1.length ≤ 2048
theorem GoodF.inW {F : Hf} {nx win : Int} (h : GoodF F nx win) : InW F nx win := fun k x hk => by
  have := h k x hk
  omega
theorem good_put {F : Hf} {nx win sq : Int} {X : List Nat} {l : Bool} {m : Nat} (h : GoodF F nx win) (h1 : nx ≤ sq) (h2 : sq < nx + win) (h3 : sq ≤ 4294967295) (hX : X.length ≤ 2048) (hnx : nx ≤ 4294967296)
    (hm : ∀ i : Nat, i < m → putH F sq X l (nx + i) ≠ none) (hz : putH F sq X l (nx + m) = none) : GoodF (cutF (putH F sq X l) (nx + m)) (nx + m) win ∧ nx + m ≤ 4294967296 := by
  have hb : ∀ k x, putH F sq X l k = some x → nx ≤ k ∧ k < nx + win ∧ k ≤ 4294967295 ∧ x.1.length ≤ 2048 := by
    intro k x hk
    unfold putH at hk
    by_cases e : k = sq
    · subst e
      rw [if_pos rfl] at hk
      injection hk with hk
      subst hk
      exact ⟨h1, h2, h3, hX⟩
    · rw [if_neg e] at hk
      have := h k x hk
      exact ⟨by omega, this.2.1, this.2.2.1, this.2.2.2⟩
  refine ⟨fun k x hk => ?_, ?_⟩
  · unfold cutF at hk
    by_cases e : k < nx + m
    · rw [if_pos e] at hk; cases hk
    · rw [if_neg e] at hk
      have h4 := hb k x hk
      have : k ≠ nx + m := fun e2 => by rw [e2, hz] at hk; cases hk
      exact ⟨by omega, by omega, h4.2.2.1, h4.2.2.2⟩
  · by_cases e : m = 0
    · subst e; omega
    · obtain ⟨y, hy⟩ := Option.ne_none_iff_exists'.1 (hm (m - 1) (by omega))
      have := (hb _ _ hy).2.2.1
      omega

/-- A receiver's map has as many entries as the document's list has elements. -/
theorem rcv_len {w : World} {g mb N : Nat} {st win nx : Int} {F : Hf} {Ds : List Dl} (h : Rcv w g mb N st win nx F) (hD : DsF Ds F) : N = Ds.length := by
  obtain ⟨_, f, hM, hH⟩ := h
  obtain ⟨ks, e1, p1, m1, m2⟩ := hM.keys uI
  have hfF : ∀ k, f k ≠ none ↔ F k ≠ none := by
    intro k
    cases e : F k with
    | none => rw [hH.none_ e]; simp
    | some x => obtain ⟨v, hv, _⟩ := hH.some_ e; rw [hv]; simp
  have hp2 : (Ds.map (fun d => litI d.1)).Pairwise (fun x y => x ≠ y) := by
    rw [List.pairwise_map]
    exact hD.once.imp (fun h => litI_ne h)
  have h1 := len_sub ks (Ds.map (fun d => litI d.1)) p1 (fun x hx => by
    obtain ⟨k, rfl, hk⟩ := m1 x hx
    obtain ⟨d, hd, e⟩ := (held_iff hD k).2 ((hfF k).1 hk)
    exact List.mem_map.2 ⟨d, hd, by rw [e]⟩)
  have h2 := len_sub (Ds.map (fun d => litI d.1)) ks hp2 (fun x hx => by
    obtain ⟨d, hd, rfl⟩ := List.mem_map.1 hx
    exact m2 _ ((hfF _).2 ((held_iff hD d.1).1 ⟨d, hd, rfl⟩)))
  rw [List.length_map] at h1 h2
  omega

def Both (w : World) (base g mb g2 N : Nat) (st win nx : Int) (F : Hf) (Ds : List Dl) : Prop :=
  Rcv w g mb N st win nx F ∧ Rrc w g2 base st win nx Ds ∧ DsF Ds F ∧ GoodF F nx win ∧ 0 ≤ nx ∧ nx ≤ 4294967296 ∧ base ≤ g ∧ base ≤ mb ∧ base ≤ g2
theorem both_below {w w' : World} {base g mb g2 N : Nat} {st win nx : Int} {F : Hf} {Ds : List Dl} (h : Both w base g mb g2 N st win nx F Ds) (hb : Below w.heap.size w w') : Both w' base g mb g2 N st win nx F Ds :=
  ⟨rcv_below h.1 hb, rrc_below h.2.1 hb, h.2.2⟩

theorem rrc_g {w : World} {g base : Nat} {st win nx : Int} {Ds : List Dl} (h : Rrc w g base st win nx Ds) : ∃ cs, w.heap[g]? = some (.cells cs 91 (0, 0)) := by
  obtain ⟨hv, h1, _⟩ := h
  exact ⟨_, h1⟩
theorem rcv_m {w : World} {g mb N : Nat} {st win nx : Int} {F : Hf} (h : Rcv w g mb N st win nx F) : ∃ es c, w.heap[mb]? = some (.map es c) := by
  obtain ⟨_, f, hM, _⟩ := h
  exact hM.block
/-- The two receivers' blocks are apart. -/
theorem rr_apart {w : World} {g mb N g2 base : Nat} {st win nx st2 win2 nx2 : Int} {F : Hf} {Ds : List Dl} (h : Rcv w g mb N st win nx F) (h2 : Rrc w g2 base st2 win2 nx2 Ds) : g ≠ g2 ∧ mb ≠ g2 ∧ ∀ k, lB w g2 k → k ≠ g ∧ k ≠ mb ∧ k ≠ g2 := by
  obtain ⟨cs2, e2⟩ := rrc_g h2
  obtain ⟨es, c, em⟩ := rcv_m h
  have e1 := h.1
  refine ⟨fun e => ?_, fun e => ?_, fun k hk => ?_⟩
  · subst e
    rw [e1] at e2
    injection e2 with e2
    injection e2 with _ e2
    exact absurd e2 (by decide)
  · subst e
    rw [em] at e2
    cases e2
  · obtain ⟨_, _, cs, hc⟩ := lB_of h2 hk
    refine ⟨fun e => ?_, fun e => ?_, fun e => ?_⟩
    · subst e
      rw [e1] at hc
      injection hc with hc
      injection hc with _ hc
      exact absurd hc (by decide)
    · subst e
      rw [em] at hc
      cases hc
    · subst e
      rw [e2] at hc
      injection hc with hc
      injection hc with _ hc
      exact absurd hc (by decide)
theorem nob_kp {w : World} {g base : Nat} {st win nx : Int} {Ds : List Dl} (h : Rrc w g base st win nx Ds) : NoB w (fun k => k = g ∨ lB w g k) := by
  intro k cs fr hk e
  rcases e with rfl | e
  · obtain ⟨cs2, e2⟩ := rrc_g h
    rw [e2] at hk
    injection hk with hk
    injection hk with _ hk
    exact absurd hk (by decide)
  · obtain ⟨_, _, cs', hc⟩ := lB_of h e
    rw [hc] at hk
    injection hk with hk
    injection hk with _ hk
    exact absurd hk (by decide)

/-- What a call of the program's receiver leaves. -/
def HoldC (w : World) (g mb N : Nat) (st win nx : Int) (F : Hf) (ce : Int) (v : Value) (w' : World) : Prop :=
  (ce ≠ 0 ∧ v = .slice none 0 0 ∧ Below w.heap.size w w') ∨ (ce = 0 ∧ ∃ (m N' : Nat), (∀ i : Nat, i < m → F (nx + i) ≠ none) ∧ F (nx + m) = none ∧ (m : Int) ≤ win ∧ N' + m = N ∧ Rcv w' g mb N' st win (nx + m) (cutF F (nx + m)) ∧
    DlS w' w.heap.size v (dsOf F nx m) ∧ Only (fun k => k = g ∨ k = mb) w w')
theorem holdC_of {w : World} {g mb N : Nat} {st win nx : Int} {F : Hf} {ce : Int} {e : Ending} {w' : World} (h : RetHold w g mb N st win nx F ce e w') : ∃ v, e = .returned (.tuple #[v, .int .i64 ce]) ∧ HoldC w g mb N st win nx F ce v w' := by
  rcases h with ⟨h0, rfl, h2⟩ | ⟨rfl, v, m, N', rfl, q⟩
  · exact ⟨_, rfl, .inl ⟨h0, rfl, h2⟩⟩
  · exact ⟨_, rfl, .inr ⟨rfl, m, N', q⟩⟩
theorem HoldC.only {w : World} {g mb N : Nat} {st win nx : Int} {F : Hf} {ce : Int} {v : Value} {w' : World} (h : HoldC w g mb N st win nx F ce v w') : Only (fun k => k = g ∨ k = mb) w w' := by
  rcases h with ⟨_, _, h⟩ | ⟨_, _, _, _, _, _, _, _, _, h⟩
  · exact only_below h
  · exact h
theorem HoldC.form {w : World} {g mb N : Nat} {st win nx : Int} {F : Hf} {ce : Int} {v : Value} {w' : World} (h : HoldC w g mb N st win nx F ce v w') : ∃ A n c, v = .slice A n c := by
  rcases h with ⟨_, rfl, h⟩ | ⟨_, _, _, _, _, _, _, _, h, _⟩
  · exact ⟨_, _, _, rfl⟩
  · obtain ⟨A, c, e, _⟩ := dls_cells h
    exact ⟨_, _, _, e⟩
theorem kpC_form {w : World} {g base : Nat} {st win nx : Int} {F : Hf} {ce : Int} {v : Value} {w' : World} (h : KpC w g base st win nx F ce v w') : ∃ A n c, v = .slice A n c := by
  rcases h with ⟨_, rfl, h⟩ | ⟨_, _, _, _, _, _, _, _, _, h, _⟩
  · exact ⟨_, _, _, rfl⟩
  · obtain ⟨A, c, e, _⟩ := dls_cells h
    exact ⟨_, _, _, e⟩

/-- The document's receiver stays while the program's is called. -/
theorem both_a {w w3 : World} {base g mb g2 N : Nat} {st win nx : Int} {F : Hf} {Ds : List Dl} (h : Both w base g mb g2 N st win nx F Ds) (hO : Only (fun k => k = g ∨ k = mb) w w3) : Rrc w3 g2 base st win nx Ds := by
  obtain ⟨h1, h2, _⟩ := h
  obtain ⟨a1, a2, a3⟩ := rr_apart h1 h2
  exact rrc_only2 h2 hO (rcv_nob h1) (fun e => by rcases e with e | e <;> omega) (fun k hk e => by
    have := a3 k hk
    rcases e with e | e
    · exact this.1 e
    · exact this.2.1 e)

/-- The blocks that both receivers may write. -/
def BothS (w : World) (base g mb g2 k : Nat) : Prop := k = g ∨ k = mb ∨ k = g2 ∨ (base ≤ k ∧ ∃ cs, w.heap[k]? = some (.cells cs 85 (0, 0)))
theorem nob_both {w : World} {base g mb g2 N : Nat} {st win nx : Int} {F : Hf} {Ds : List Dl} (h : Both w base g mb g2 N st win nx F Ds) : NoB w (BothS w base g mb g2) := by
  intro k cs fr hk e
  rcases e with e | e | e | ⟨_, cs', hc⟩
  · exact rcv_nob h.1 k cs fr hk (.inl e)
  · exact rcv_nob h.1 k cs fr hk (.inr e)
  · exact nob_kp h.2.1 k cs fr hk (.inl e)
  · rw [hc] at hk
    injection hk with hk
    injection hk with _ hk
    exact absurd hk (by decide)

theorem ends_m {F : Hf} {nx : Int} {m m' : Nat} (h1 : ∀ i : Nat, i < m → F (nx + i) ≠ none) (h2 : F (nx + m) = none) (h3 : ∀ i : Nat, i < m' → F (nx + i) ≠ none) (h4 : F (nx + m') = none) : m = m' := by
  rcases Nat.lt_trichotomy m m' with h | h | h
  · exact absurd h2 (h3 m h)
  · exact h
  · exact absurd h4 (h1 m' h)
theorem dlr_nil (w : World) : DlR w (.slice none 0 0) [] := dls_r (dls_nil w 0)

theorem both_step {w w3 w3' w4 : World} {base g mb g2 N : Nat} {st win nx sq ce : Int} {F : Hf} {Ds : List Dl} {X : List Nat} {l : Bool} {v3 v4 : Value} (h : Both w base g mb g2 N st win nx F Ds) (hbase : base ≤ w.heap.size)
    (H1 : HoldC w g mb (N + 1) st win nx (putH F sq X l) ce v3 w3) (hb : Below w3.heap.size w3 w3') (H2 : KpC w3' g2 base st win nx (putH F sq X l) ce v4 w4)
    (hz : ce = 0 → nx ≤ sq ∧ sq < nx + win ∧ sq ≤ 4294967295 ∧ X.length ≤ 2048) (hw : win ≤ 64) :
    ∃ (N' : Nat) (nx' : Int) (F' : Hf) (Ds' Es : List Dl), Both w4 base g mb g2 N' st win nx' F' Ds' ∧ N' ≤ N + 1 ∧ Es.length ≤ 64 ∧ DlR w4 v3 Es ∧ DlR w4 v4 Es ∧ Only (BothS w base g mb g2) w w4 := by
  have hR3' := rrc_below (both_a h H1.only) hb
  have hO13 : Only (fun k => k = g ∨ k = mb) w w3' := H1.only.trans (only_below hb)
  obtain ⟨h1, h2, h3, h4, h5, h6, h7, h8, h9⟩ := id h
  obtain ⟨a1, a2, a3⟩ := rr_apart h1 h2
  have hg2l : g2 < w.heap.size := by obtain ⟨_, e⟩ := rrc_g h2; exact (Array.getElem?_eq_some_iff.1 e).1
  have hlB : ∀ k, lB w3' g2 k → lB w g2 k := fun k hk => by
    obtain ⟨hv, e1, e2⟩ := hk
    exact ⟨hv, (hO13.cell (p := ⟨g2, 3, none⟩) hg2l (by rintro (e | e) <;> simp at e <;> omega)).symm.trans e1, e2⟩
  have hS12 : ∀ k, (k = g ∨ k = mb) → BothS w base g mb g2 k := fun k e => e.elim Or.inl (fun e => .inr (.inl e))
  have hSlB : ∀ k, lB w g2 k → BothS w base g mb g2 k := fun k e => by
    have := lB_of h2 e
    exact .inr (.inr (.inr ⟨this.1, this.2.2⟩))
  rcases H1 with ⟨z1, rfl, b3⟩ | ⟨z1, m, N', q1, q2, q3, q4, q5, q6, q7⟩
  · rcases H2 with ⟨_, rfl, b4⟩ | ⟨z2, _⟩
    · have hb4 : Below w.heap.size w w4 := b3.trans ((hb.trans (b4.mono hb.size)).mono b3.size)
      exact ⟨N, nx, F, Ds, [], both_below h hb4, by omega, by simp, dlr_nil _, dlr_nil _, only_below hb4⟩
    · exact absurd z2 z1
  · subst z1
    rcases H2 with ⟨z2, _⟩ | ⟨_, m', Ds', r1, r2, r3, r4, r5, r6, r7, r8⟩
    · exact absurd rfl z2
    · obtain rfl := ends_m q1 q2 r1 r2
      obtain ⟨s1, s2, s3, s4⟩ := hz rfl
      obtain ⟨t1, t2⟩ := good_put h4 s1 s2 s3 s4 h6 q1 q2
      have hn8 := nob_kp hR3'
      have hq5 := rcv_below q5 hb
      have hR4 : Rcv w4 g mb N' st win (nx + m) (cutF (putH F sq X l) (nx + m)) := rcv_only hq5 r8 hn8 (fun e => by
        rcases e with e | e
        · exact a1 e
        · exact (a3 g (hlB g e)).1 rfl) (fun e => by
        rcases e with e | e
        · exact a2 e
        · exact (a3 mb (hlB mb e)).2.1 rfl)
      have hD3 := dls_only (dls_below q6 hb) r8 hn8 (fun k hk e => by
        have hge : w.heap.size ≤ k := by obtain ⟨vs, _, o, _⟩ := q6; exact (own_block o hk).1
        rcases e with e | e
        · omega
        · have := (lB_of h2 (hlB k e)).2.1
          omega)
      refine ⟨N', nx + m, _, Ds', dsOf (putH F sq X l) nx m, ⟨hR4, r6, r4, t1, by omega, t2, h7, h8, h9⟩, by omega, by rw [dsOf_len]; omega, dls_r hD3, dls_r r7, ?_⟩
      refine (hO13.mono (fun k _ e => hS12 k e)).trans (r8.mono ?_ |>.mono (fun _ _ e => e))
      intro k hk e
      rcases e with e | e
      · exact .inr (.inr (.inl e))
      · exact hSlB k (hlB k e)
end Go.Proofs.Ytkakbeiehggkiaa
