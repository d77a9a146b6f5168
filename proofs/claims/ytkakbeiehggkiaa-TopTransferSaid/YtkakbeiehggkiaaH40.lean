/-
  The document's Transfer: what its loops need.
-/
import Derived.Test.YtkakbeiehggkiaaH37
import Derived.Test.YtkakbeiehggkiaaH38
import Derived.Test.YtkakbeiehggkiaaH39
import Derived.Test.YtkakbeiehggkiaaH08
namespace Go.Proofs.Ytkakbeiehggkiaa
open Go.RowKit Go.Maps
attribute [local go_sem ↓] Go.wp_at_zero Go.wp_at_succ

set_option maxRecDepth 100000 in
/-- append(v, y...) of deliveries. -/
theorem wpList_append_dls3 {w : World} {ops : Array Oper} {rest : List Oper} {o : Oper} {a : Act} {Q : Exit → Act → World → Prop} (hgd : o.guard = none) (s x : Operand)
    (ho : o.op = .call { callee := .builtin .append, args := #[s, x], argTypes := #[38, 38] })
    (base b2 : Nat) (v y : Value) (Ds Es : List Dl) (hs : a.eval s = v) (hv : DlS w base v Ds) (hx : a.eval x = y) (hy : DlS w b2 y Es) (hsz : Ds.length + Es.length ≤ 1000000000) (hbase : base ≤ w.heap.size)
    (h : ∀ v' w', DlS w' base v' (Ds ++ Es) → Only (fun k => v.ownBlock = some k) w w' → (v'.ownBlock = v.ownBlock ∨ v'.ownBlock = some w.heap.size) → wpList Try.prog ops Q rest (a.put o.dst v') w') : wpList Try.prog ops Q (o :: rest) a w := by
  obtain ⟨i0, hi0, hz0, hz1, hz2⟩ := info_parts infoD
  obtain ⟨vs, h1, h2, h3⟩ := id hv
  obtain ⟨us, u1, u2, u3⟩ := hy
  obtain ⟨ul, ⟨rfl, u0⟩ | ⟨g, cap, cur, rfl, _, hblk, hle, _, _, ht⟩⟩ := id u2
  · have hE : Es = [] := List.eq_nil_of_length_eq_zero u0
    subst hE
    refine wpList_append_own_none hgd s x _ ho base 85 i0 3 Try.underlying38 hi0 v Ds.length _ hs h2 hx ?_
    exact h v w (by simpa using hv) (Only.refl _ _) (Or.inl rfl)
  · refine wpList_append_own_at w hgd s x _ ho base 85 i0 _ 3 40 Try.underlying38 hi0 hz0 hz1 hz2 rfl (by decide) v Ds.length _ hs h2 ⟨g, 0, none⟩ Es.length cap (dlC Es us) hx (dlC_len Es us u1) (fun j u hj => ?_) (fun u hu => ?_) (by unfold maxLen; omega) (by omega) hbase ?_
    · rw [add_none, Nat.zero_add]
      have hj' : j < (dlC Es us).length := (List.getElem?_eq_some_iff.1 hj).1
      rw [dlC_len Es us u1] at hj'
      exact (u2.cellAt j (by omega)).trans hj
    · obtain ⟨j, hj⟩ := List.mem_iff_getElem?.1 hu
      have hj' : j < (dlC Es us).length := (List.getElem?_eq_some_iff.1 hj).1
      rw [dlC_len Es us u1] at hj'
      obtain ⟨i, hi⟩ : ∃ i, i = j / 3 := ⟨_, rfl⟩
      have hil : i < Es.length := by omega
      obtain ⟨q1, q2, q3⟩ := dlC_get Es us i hil u1
      have hbd := bd_rb (u3 i hil (by omega))
      obtain ⟨A', c', e⟩ := hbd.form
      rw [e] at q2
      have hm : j = i * 3 ∨ j = i * 3 + 1 ∨ j = i * 3 + 2 := by omega
      rcases hm with hm | hm | hm
      · rw [hm, q1] at hj
        exact (Option.some.inj hj) ▸ rfl
      · rw [hm, q2] at hj
        exact (Option.some.inj hj) ▸ rfl
      · rw [hm, q3] at hj
        exact (Option.some.inj hj) ▸ rfl
    · intro v' w' r1 r2 _ r4
      have hO : Only (fun k => v.ownBlock = some k) w w' := only_grown r2 (fun k e => e)
      have hN := nob_row h2 types_apart2
      refine h v' w' ⟨vs ++ us, by simp [h1, u1], ?_, fun i hi hi' => ?_⟩ hO r4
      · rw [dlC_append2 Ds vs Es us h1, List.length_append]
        exact r1
      · by_cases hlt : i < Ds.length
        · rw [List.getElem_append_left (by omega), List.getElem_append_left hlt]
          exact (h3 i hlt (by omega)).only hO hN
        · have hi2 : i < Ds.length + Es.length := by simpa using hi
          rw [List.getElem_append_right (by omega), List.getElem_append_right (by omega)]
          have := (u3 (i - Ds.length) (by omega) (by omega)).only hO hN
          simpa [h1] using this


/-- What is held lies within the window: no more than 64. -/
theorem dsF_small {Ds : List Dl} {F : Hf} {nx win : Int} (h : DsF Ds F) (hG : GoodF F nx win) (hw : win ≤ 64) : Ds.length ≤ 64 := by
  have hp2 : (Ds.map (fun d => litI d.1)).Pairwise (fun x y => x ≠ y) := by
    rw [List.pairwise_map]
    exact h.once.imp (fun h => litI_ne h)
  have h1 := len_sub (Ds.map (fun d => litI d.1)) ((List.range 64).map (fun i : Nat => litI (nx + (i : Int)))) hp2 (fun x hx => by
    obtain ⟨d, hd, rfl⟩ := List.mem_map.1 hx
    have hg := hG d.1 d.2 (h.get d hd)
    refine List.mem_map.2 ⟨(d.1 - nx).toNat, List.mem_range.2 (by omega), ?_⟩
    have e : nx + ((d.1 - nx).toNat : Int) = d.1 := by omega
    show litI _ = litI _
    rw [e])
  simpa using h1

/-- How far the document's receiver and what was delivered are. -/
def TxP (w : World) (T : Nat) (BB : List (List Nat)) (RR : List (List Ft)) (gs gr : Nat) (dv iv : Value) (wr : World) : Prop :=
  ∃ (j k a : Nat) (nx : Int) (F : Hf) (D : List Dl), j ≤ 64 ∧ k ≤ BB.length ∧ iv = .int .i64 (j : Int) ∧
    Hid (trN T BB RR j = (a, (nx, F, D)) ∧ TrX w w.heap.size gs gr (T : Int) a (BB.take k) nx F D dv wr ∧ GoodR (T : Int) (nx, F, D) ∧ D.length ≤ 204800 * j ∧ a ≤ k ∧ k ≤ a + T ∧ ∀ i, i < j → (trN T BB RR i).2.1 < (BB.length : Int))

theorem txP_next {w wr : World} {T j k' a a2 : Nat} {nx : Int} {F : Hf} {D : List Dl} {BB : List (List Nat)} {RR : List (List Ft)} {gs gr : Nat} {dv : Value} {Ls : List (List Nat)}
    (h0 : trN T BB RR j = (a, (nx, F, D))) (hk : k' = min BB.length (a + T)) (hL : Ls = carried (RR[j]?) (pkts BB a k')) (ha : a ≤ k') (ha2 : a2 = if (a : Int) ≤ (tkLs (T : Int) (nx, F, D) Ls).1 ∧ (tkLs (T : Int) (nx, F, D) Ls).1 ≤ (k' : Int) then (tkLs (T : Int) (nx, F, D) Ls).1.toNat else a)
    (hW : TrX w w.heap.size gs gr (T : Int) a2 (BB.take k') (tkLs (T : Int) (nx, F, D) Ls).1 (tkLs (T : Int) (nx, F, D) Ls).2.1 (tkLs (T : Int) (nx, F, D) Ls).2.2 dv wr) (hG : GoodR (T : Int) (tkLs (T : Int) (nx, F, D) Ls)) (hD : (tkLs (T : Int) (nx, F, D) Ls).2.2.length ≤ 204800 * (j + 1)) (hj : j + 1 ≤ 64)
    (hi : ∀ i, i < j → (trN T BB RR i).2.1 < (BB.length : Int)) (hnx : nx < (BB.length : Int)) {iv : Value} (hiv : iv = .int .i64 ((j + 1 : Nat) : Int)) : TxP w T BB RR gs gr dv iv wr := by
  have hs : trN T BB RR (j + 1) = (a2, tkLs (T : Int) (nx, F, D) Ls) := by
    show trStep T BB (RR[j]?) (trN T BB RR j) = _
    rw [h0]
    unfold trStep
    simp only
    rw [← hk, ← hL, ha2]
  obtain ⟨⟨n2, F2, D2⟩, hr⟩ : ∃ r, r = tkLs (T : Int) (nx, F, D) Ls := ⟨_, rfl⟩
  rw [← hr] at hs hW hG hD ha2
  have hle : a ≤ a2 ∧ a2 ≤ k' := by
    rw [ha2]
    split <;> omega
  refine ⟨j + 1, k', a2, n2, F2, D2, hj, by omega, hiv, Lib.hid ⟨hs, hW, hG, hD, hle.2, by omega, fun i hij => ?_⟩⟩
  by_cases e : i = j
  · subst e; rw [h0]; exact hnx
  · exact hi i (by omega)

/-- A frame, taken by the document's receiver: behind the append. -/
def TxF (w : World) (base gs gr a : Nat) (T : Int) (Bs : List (List Nat)) (d0 cnt : Nat) (s : Rp) (dv : Value) (wr : World) : Prop :=
  TrX w base gs gr T a Bs s.1 s.2.1 s.2.2 dv wr ∧ GoodR T s ∧ s.2.2.length ≤ d0 + 64 * cnt
theorem txF_below {w wr wr' : World} {base gs gr a d0 cnt : Nat} {T : Int} {Bs : List (List Nat)} {s : Rp} {dv : Value} (h : TxF w base gs gr a T Bs d0 cnt s dv wr) (hb : Below wr.heap.size wr wr') : TxF w base gs gr a T Bs d0 cnt s dv wr' := ⟨h.1.below hb, h.2⟩
theorem txF_no {w wr w3 w6 : World} {base gs gr a d0 cnt : Nat} {T nx : Int} {F : Hf} {D : List Dl} {Bs : List (List Nat)} {f : Fr} {dv v6 : Value} (h : TxF w base gs gr a T Bs d0 cnt (nx, F, D) dv wr) (hE : takeE 0 T nx F (f.1 : Int) (f.2.1 : Int) f.2.2.length ≠ 0) (b3 : Below wr.heap.size wr w3)
    (hD : DlS w6 base v6 (D ++ [])) (hO : Only (fun k => dv.ownBlock = some k) w3 w6) (hr : v6.ownBlock = dv.ownBlock ∨ v6.ownBlock = some w3.heap.size) : TxF w base gs gr a T Bs d0 (cnt + 1) (tkS T (nx, F, D) f) v6 w6 := by
  rw [tkS_no hE]
  obtain ⟨h1, h2, h3⟩ := h
  refine ⟨(h1.below b3).app hO (by simpa using hD) hr, h2, ?_⟩
  have h3' : D.length ≤ d0 + 64 * cnt := h3
  show D.length ≤ _
  omega
theorem txF_ok {w wr w3 w6 : World} {base gs gr a d0 cnt m : Nat} {T nx : Int} {F : Hf} {D : List Dl} {Bs : List (List Nat)} {Ds : List Dl} {f : Fr} {dv v6 : Value} (hT : T ≤ 64) (h : TxF w base gs gr a T Bs d0 cnt (nx, F, D) dv wr)
    (hE : takeE 0 T nx F (f.1 : Int) (f.2.1 : Int) f.2.2.length = 0) (q1 : ∀ i : Nat, i < m → putH F (f.2.1 : Int) f.2.2 false (nx + i) ≠ none) (q2 : putH F (f.2.1 : Int) f.2.2 false (nx + m) = none) (q3 : (m : Int) ≤ T) (q4 : DsF Ds (cutF (putH F (f.2.1 : Int) f.2.2 false) (nx + m))) (q5 : Ds.length ≤ 1024)
    (q6 : Rrc w3 gr base 0 T (nx + m) Ds) (q8 : Only (fun k => k = gr ∨ lB wr gr k) wr w3) (q9 : ∀ k, lB w3 gr k → lB wr gr k ∨ wr.heap.size ≤ k)
    (hD : DlS w6 base v6 (D ++ dsOf (putH F (f.2.1 : Int) f.2.2 false) nx m)) (hO : Only (fun k => dv.ownBlock = some k) w3 w6) (hr : v6.ownBlock = dv.ownBlock ∨ v6.ownBlock = some w3.heap.size) : TxF w base gs gr a T Bs d0 (cnt + 1) (tkS T (nx, F, D) f) v6 w6 := by
  obtain ⟨h1, h2, h3⟩ := h
  rw [tkS_ok hT hE q1 q2 q3]
  refine ⟨(h1.took q8 q6 q4 q5 q9).app hO hD hr, goodR_ok h2 hE q1 q2, ?_⟩
  have h3' : D.length ≤ d0 + 64 * cnt := h3
  show (D ++ dsOf _ nx m).length ≤ _
  rw [List.length_append, dsOf_len]
  omega
end Go.Proofs.Ytkakbeiehggkiaa
