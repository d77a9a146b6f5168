/-
  Both receivers beside each other: what a call of each leaves.
-/
import Derived.Test.YtifmhecjllpjpaaZRtk
import Derived.Test.YtifmhecjllpjpaaZCopy
import Derived.Test.YtifmhecjllpjpaaZOrd
namespace Go.Proofs.Ytifmhecjllpjpaa
open Go.RowKit Go.Maps

/-- What is held lies above nx, within the window. -/
def GoodF (F : Hf) (nx win : Int) : Prop := ∀ k x, F k = some x → nx < k ∧ k < nx + win ∧ k ≤ 4294967295 ∧ x.1.length ≤ 2048
theorem GoodF.inW {F : Hf} {nx win : Int} (h : GoodF F nx win) : InW F nx win := fun k x hk => by
  have := h k x hk
  omega
theorem good_put {F : Hf} {nx win sq : Int} {X : List Nat} {l : Bool} {m : Nat} (h : GoodF F nx win) (h1 : nx ≤ sq) (h2 : sq < nx + win) (h3 : sq ≤ 4294967295) (hX : X.length ≤ 2048) (hnx : nx ≤ 4294967296)
    (hm : ∀ i : Nat, i < m → putH F sq X l (nx + i) ≠ none) (hz : putH F sq X l (nx + m) = none) : GoodF (cutF (putH F sq X l) (nx + m)) (nx + m) win ∧ nx + m ≤ 4294967296 := by
  have hb : ∀ k x, putH F sq X l k = some x → nx ≤ k ∧ k < nx + win ∧ k ≤ 4294967295 ∧ x.1.length ≤ 2048 := by
    intro k x hk
    unfold putH at hk
    by_cases e : k = sq
    · subst e
      rw [if_pos rfl] at hk
      injection hk with hk
      subst hk
      exact ⟨h1, h2, h3, hX⟩
    · rw [if_neg e] at hk
      have := h k x hk
      exact ⟨by omega, this.2.1, this.2.2.1, this.2.2.2⟩
  refine ⟨fun k x hk => ?_, ?_⟩
  · unfold cutF at hk
    by_cases e : k < nx + m
    · rw [if_pos e] at hk; cases hk
    · rw [if_neg e] at hk
      have h4 := hb k x hk
      have : k ≠ nx + m := fun e2 => by rw [e2, hz] at hk; cases hk
      exact ⟨by omega, by omega, h4.2.2.1, h4.2.2.2⟩
  · by_cases e : m = 0
    · subst e; omega
    · obtain ⟨y, hy⟩ := Option.ne_none_iff_exists'.1 (hm (m - 1) (by omega))
      have := (hb _ _ hy).2.2.1
      omega

/-- A receiver's map has as many entries as the document's list has elements. -/
theorem rcv_len {w : World} {g mb N : Nat} {st win nx : Int} {F : Hf} {Ds : List Dl} (h : Rcv w g mb N st win nx F) (hD : DsF Ds F) : N = Ds.length := by
  obtain ⟨_, f, hM, hH⟩ := h
  obtain ⟨ks, e1, p1, m1, m2⟩ := hM.keys uI
  have hfF : ∀ k, f k ≠ none ↔ F k ≠ none := by
    intro k
    cases e : F k with
    | none => rw [hH.none_ e]; simp
    | some x => obtain ⟨v, hv, _⟩ := hH.some_ e; rw [hv]; simp
  have hp2 : (Ds.map (fun d => litI d.1)).Pairwise (fun x y => x ≠ y) := by
    rw [List.pairwise_map]
    exact hD.once.imp (fun h => litI_ne h)
  have h1 := len_sub ks (Ds.map (fun d => litI d.1)) p1 (fun x hx => by
    obtain ⟨k, rfl, hk⟩ := m1 x hx
    obtain ⟨d, hd, e⟩ := (held_iff hD k).2 ((hfF k).1 hk)
    exact List.mem_map.2 ⟨d, hd, by rw [e]⟩)
  have h2 := len_sub (Ds.map (fun d => litI d.1)) ks hp2 (fun x hx => by
    obtain ⟨d, hd, rfl⟩ := List.mem_map.1 hx
    exact m2 _ ((hfF _).2 ((held_iff hD d.1).1 ⟨d, hd, rfl⟩)))
  rw [List.length_map] at h1 h2
  omega

def Both (w : World) (base g mb g2 N : Nat) (st win nx : Int) (F : Hf) (Ds : List Dl) : Prop :=
  Rcv w g mb N st win nx F ∧ Rrc w g2 base st win nx Ds ∧ DsF Ds F ∧ GoodF F nx win ∧ 0 ≤ nx ∧ nx ≤ 4294967296 ∧ base ≤ g ∧ base ≤ mb ∧ base ≤ g2
theorem both_below {w w' : World} {base g mb g2 N : Nat} {st win nx : Int} {F : Hf} {Ds : List Dl} (h : Both w base g mb g2 N st win nx F Ds) (hb : Below w.heap.size w w') : Both w' base g mb g2 N st win nx F Ds :=
  ⟨rcv_below h.1 hb, rrc_below h.2.1 hb, h.2.2⟩

theorem rrc_g {w : World} {g base : Nat} {st win nx : Int} {Ds : List Dl} (h : Rrc w g base st win nx Ds) : ∃ cs, w.heap[g]? = some (.cells cs 83 (0, 0)) := by
  obtain ⟨hv, h1, _⟩ := h
  exact ⟨_, h1⟩
theorem rcv_m {w : World} {g mb N : Nat} {st win nx : Int} {F : Hf} (h : Rcv w g mb N st win nx F) : ∃ es c, w.heap[mb]? = some (.map es c) := by
  obtain ⟨_, f, hM, _⟩ := h
  exact hM.block
/-- The two receivers' blocks are apart. -/
theorem rr_apart {w : World} {g mb N g2 base : Nat} {st win nx st2 win2 nx2 : Int} {F : Hf} {Ds : List Dl} (h : Rcv w g mb N st win nx F) (h2 : Rrc w g2 base st2 win2 nx2 Ds) : g ≠ g2 ∧ mb ≠ g2 ∧ ∀ k, lB w g2 k → k ≠ g ∧ k ≠ mb ∧ k ≠ g2 := by
  obtain ⟨cs2, e2⟩ := rrc_g h2
  obtain ⟨es, c, em⟩ := rcv_m h
  have e1 := h.1
  refine ⟨fun e => ?_, fun e => ?_, fun k hk => ?_⟩
  · subst e
    rw [e1] at e2
    injection e2 with e2
    injection e2 with _ e2
    exact absurd e2 (by decide)
  · subst e
    rw [em] at e2
    cases e2
  · obtain ⟨_, _, cs, hc⟩ := lB_of h2 hk
    refine ⟨fun e => ?_, fun e => ?_, fun e => ?_⟩
    · subst e
      rw [e1] at hc
      injection hc with hc
      injection hc with _ hc
      exact absurd hc (by decide)
    · subst e
      rw [em] at hc
      cases hc
    · subst e
      rw [e2] at hc
      injection hc with hc
      injection hc with _ hc
      exact absurd hc (by decide)
theorem nob_kp {w : World} {g base : Nat} {st win nx : Int} {Ds : List Dl} (h : Rrc w g base st win nx Ds) : NoB w (fun k => k = g ∨ lB w g k) := by
  intro k cs fr hk e
  rcases e with rfl | e
  · obtain ⟨cs2, e2⟩ := rrc_g h
    rw [e2] at hk
    injection hk with hk
    injection hk with _ hk
    exact absurd hk (by decide)
  · obtain ⟨_, _, cs', hc⟩ := lB_of h e
    rw [hc] at hk
    injection hk with hk
    injection hk with _ hk
    exact absurd hk (by decide)

/-- What a call of the program's receiver leaves. -/
def HoldC (w : World) (g mb N : Nat) (st win nx : Int) (F : Hf) (ce : Int) (v : Value) (w' : World) : Prop :=
  (ce ≠ 0 ∧ v = .slice none 0 0 ∧ Below w.heap.size w w') ∨ (ce = 0 ∧ ∃ (m N' : Nat), (∀ i : Nat, i < m → F (nx + i) ≠ none) ∧ F (nx + m) = none ∧ (m : Int) ≤ win ∧ N' + m = N ∧ Rcv w' g mb N' st win (nx + m) (cutF F (nx + m)) ∧
    DlS w' w.heap.size v (dsOf F nx m) ∧ Only (fun k => k = g ∨ k = mb) w w')
theorem holdC_of {w : World} {g mb N : Nat} {st win nx : Int} {F : Hf} {ce : Int} {e : Ending} {w' : World} (h : RetHold w g mb N st win nx F ce e w') : ∃ v, e = .returned (.tuple #[v, .int .i64 ce]) ∧ HoldC w g mb N st win nx F ce v w' := by
  rcases h with ⟨h0, rfl, h2⟩ | ⟨rfl, v, m, N', rfl, q⟩
  · exact ⟨_, rfl, .inl ⟨h0, rfl, h2⟩⟩
  · exact ⟨_, rfl, .inr ⟨rfl, m, N', q⟩⟩
theorem HoldC.only {w : World} {g mb N : Nat} {st win nx : Int} {F : Hf} {ce : Int} {v : Value} {w' : World} (h : HoldC w g mb N st win nx F ce v w') : Only (fun k => k = g ∨ k = mb) w w' := by
  rcases h with ⟨_, _, h⟩ | ⟨_, _, _, _, _, _, _, _, _, h⟩
  · exact only_below h
  · exact h
theorem HoldC.form {w : World} {g mb N : Nat} {st win nx : Int} {F : Hf} {ce : Int} {v : Value} {w' : World} (h : HoldC w g mb N st win nx F ce v w') : ∃ A n c, v = .slice A n c := by
  rcases h with ⟨_, rfl, h⟩ | ⟨_, _, _, _, _, _, _, _, h, _⟩
  · exact ⟨_, _, _, rfl⟩
  · obtain ⟨A, c, e, _⟩ := dls_cells h
    exact ⟨_, _, _, e⟩
theorem kpC_form {w : World} {g base : Nat} {st win nx : Int} {F : Hf} {ce : Int} {v : Value} {w' : World} (h : KpC w g base st win nx F ce v w') : ∃ A n c, v = .slice A n c := by
  rcases h with ⟨_, rfl, h⟩ | ⟨_, _, _, _, _, _, _, _, _, h, _⟩
  · exact ⟨_, _, _, rfl⟩
  · obtain ⟨A, c, e, _⟩ := dls_cells h
    exact ⟨_, _, _, e⟩

/-- The document's receiver stays while the program's is called. -/
theorem both_a {w w3 : World} {base g mb g2 N : Nat} {st win nx : Int} {F : Hf} {Ds : List Dl} (h : Both w base g mb g2 N st win nx F Ds) (hO : Only (fun k => k = g ∨ k = mb) w w3) : Rrc w3 g2 base st win nx Ds := by
  obtain ⟨h1, h2, _⟩ := h
  obtain ⟨a1, a2, a3⟩ := rr_apart h1 h2
  exact rrc_only2 h2 hO (rcv_nob h1) (fun e => by rcases e with e | e <;> omega) (fun k hk e => by
    have := a3 k hk
    rcases e with e | e
    · exact this.1 e
    · exact this.2.1 e)

/-- The blocks that both receivers may write. -/
def BothS (w : World) (base g mb g2 k : Nat) : Prop := k = g ∨ k = mb ∨ k = g2 ∨ (base ≤ k ∧ ∃ cs, w.heap[k]? = some (.cells cs 71 (0, 0)))
theorem nob_both {w : World} {base g mb g2 N : Nat} {st win nx : Int} {F : Hf} {Ds : List Dl} (h : Both w base g mb g2 N st win nx F Ds) : NoB w (BothS w base g mb g2) := by
  intro k cs fr hk e
  rcases e with e | e | e | ⟨_, cs', hc⟩
  · exact rcv_nob h.1 k cs fr hk (.inl e)
  · exact rcv_nob h.1 k cs fr hk (.inr e)
  · exact nob_kp h.2.1 k cs fr hk (.inl e)
  · rw [hc] at hk
    injection hk with hk
    injection hk with _ hk
    exact absurd hk (by decide)

theorem ends_m {F : Hf} {nx : Int} {m m' : Nat} (h1 : ∀ i : Nat, i < m → F (nx + i) ≠ none) (h2 : F (nx + m) = none) (h3 : ∀ i : Nat, i < m' → F (nx + i) ≠ none) (h4 : F (nx + m') = none) : m = m' := by
  rcases Nat.lt_trichotomy m m' with h | h | h
  · exact absurd h2 (h3 m h)
  · exact h
  · exact absurd h4 (h1 m' h)
theorem dlr_nil (w : World) : DlR w (.slice none 0 0) [] := dls_r (dls_nil w 0)

theorem both_step {w w3 w3' w4 : World} {base g mb g2 N : Nat} {st win nx sq ce : Int} {F : Hf} {Ds : List Dl} {X : List Nat} {l : Bool} {v3 v4 : Value} (h : Both w base g mb g2 N st win nx F Ds) (hbase : base ≤ w.heap.size)
    (H1 : HoldC w g mb (N + 1) st win nx (putH F sq X l) ce v3 w3) (hb : Below w3.heap.size w3 w3') (H2 : KpC w3' g2 base st win nx (putH F sq X l) ce v4 w4)
    (hz : ce = 0 → nx ≤ sq ∧ sq < nx + win ∧ sq ≤ 4294967295 ∧ X.length ≤ 2048) (hw : win ≤ 64) :
    ∃ (N' : Nat) (nx' : Int) (F' : Hf) (Ds' Es : List Dl), Both w4 base g mb g2 N' st win nx' F' Ds' ∧ N' ≤ N + 1 ∧ Es.length ≤ 64 ∧ DlR w4 v3 Es ∧ DlR w4 v4 Es ∧ Only (BothS w base g mb g2) w w4 := by
  have hR3' := rrc_below (both_a h H1.only) hb
  have hO13 : Only (fun k => k = g ∨ k = mb) w w3' := H1.only.trans (only_below hb)
  obtain ⟨h1, h2, h3, h4, h5, h6, h7, h8, h9⟩ := id h
  obtain ⟨a1, a2, a3⟩ := rr_apart h1 h2
  have hg2l : g2 < w.heap.size := by obtain ⟨_, e⟩ := rrc_g h2; exact (Array.getElem?_eq_some_iff.1 e).1
  have hlB : ∀ k, lB w3' g2 k → lB w g2 k := fun k hk => by
    obtain ⟨hv, e1, e2⟩ := hk
    exact ⟨hv, (hO13.cell (p := ⟨g2, 3, none⟩) hg2l (by rintro (e | e) <;> simp at e <;> omega)).symm.trans e1, e2⟩
  have hS12 : ∀ k, (k = g ∨ k = mb) → BothS w base g mb g2 k := fun k e => e.elim Or.inl (fun e => .inr (.inl e))
  have hSlB : ∀ k, lB w g2 k → BothS w base g mb g2 k := fun k e => by
    have := lB_of h2 e
    exact .inr (.inr (.inr ⟨this.1, this.2.2⟩))
  rcases H1 with ⟨z1, rfl, b3⟩ | ⟨z1, m, N', q1, q2, q3, q4, q5, q6, q7⟩
  · rcases H2 with ⟨_, rfl, b4⟩ | ⟨z2, _⟩
    · have hb4 : Below w.heap.size w w4 := b3.trans ((hb.trans (b4.mono hb.size)).mono b3.size)
      exact ⟨N, nx, F, Ds, [], both_below h hb4, by omega, by simp, dlr_nil _, dlr_nil _, only_below hb4⟩
    · exact absurd z2 z1
  · subst z1
    rcases H2 with ⟨z2, _⟩ | ⟨_, m', Ds', r1, r2, r3, r4, r5, r6, r7, r8⟩
    · exact absurd rfl z2
    · obtain rfl := ends_m q1 q2 r1 r2
      obtain ⟨s1, s2, s3, s4⟩ := hz rfl
      obtain ⟨t1, t2⟩ := good_put h4 s1 s2 s3 s4 h6 q1 q2
      have hn8 := nob_kp hR3'
      have hq5 := rcv_below q5 hb
      have hR4 : Rcv w4 g mb N' st win (nx + m) (cutF (putH F sq X l) (nx + m)) := rcv_only hq5 r8 hn8 (fun e => by
        rcases e with e | e
        · exact a1 e
        · exact (a3 g (hlB g e)).1 rfl) (fun e => by
        rcases e with e | e
        · exact a2 e
        · exact (a3 mb (hlB mb e)).2.1 rfl)
      have hD3 := dls_only (dls_below q6 hb) r8 hn8 (fun k hk e => by
        have hge : w.heap.size ≤ k := by obtain ⟨vs, _, o, _⟩ := q6; exact (own_block o hk).1
        rcases e with e | e
        · omega
        · have := (lB_of h2 (hlB k e)).2.1
          omega)
      refine ⟨N', nx + m, _, Ds', dsOf (putH F sq X l) nx m, ⟨hR4, r6, r4, t1, by omega, t2, h7, h8, h9⟩, by omega, by rw [dsOf_len]; omega, dls_r hD3, dls_r r7, ?_⟩
      refine (hO13.mono (fun k _ e => hS12 k e)).trans (r8.mono ?_ |>.mono (fun _ _ e => e))
      intro k hk e
      rcases e with e | e
      · exact .inr (.inr (.inl e))
      · exact hSlB k (hlB k e)
end Go.Proofs.Ytifmhecjllpjpaa
