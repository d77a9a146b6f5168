/-
  The document's integers: end; lists of whole rational numbers of the call's own.
  The document's rational numbers: whole ones.
-/
import Derived.Test.YtdpmfenikomfkaaGreatE11
import Derived.Maps.AppendAt
namespace Go.Proofs.YtdpmfenikomfkaaGreat
open Go.RowKit

def RetEnd (w : World) (z : Int) (e : Ending) (w' : World) : Prop :=
  ((z.natAbs ≤ 1152921504606846976 ∧ e = .returned (.tuple #[.int .i64 z, .int .i64 0])) ∨ (1152921504606846976 < z.natAbs ∧ e = .returned (.tuple #[.int .i64 0, .int .i64 3]))) ∧ Below w.heap.size w w'
set_option maxRecDepth 100000 in
set_option maxHeartbeats 2000000 in
theorem dend_any (z : Int) (s : Bool) (hs : Hid (s = decide (z < 0))) (A1 : Option Addr) (n1 c1 B : Nat) (w : World) (hx : RW .i64 w B (.slice A1 n1 c1) (words16 z.natAbs)) (hB : B ≤ w.heap.size) :
    Calls Tryz.prog 36 #[.agg #[.bool s, .slice A1 n1 c1]] w (RetEnd w z) := by
  obtain ⟨W0, HW0, HW, HG⟩ := qbox1 w #[.bool s, .slice A1 n1 c1] 39
  have HF := Lib.hid (fits_any z s hs A1 n1 c1 B W0 (hx.belowM HW.out hB) (Nat.le_trans hB HW.out.size))
  clear hx hs
  go_enter Tryz.func36, Tryz.ntmps36
  go_wp2_with fail
  rw [← HW0.out]
  refine HF.out.mono ?_
  rintro e w3 ⟨⟨h1, rfl⟩ | ⟨h1, rfl⟩, hb3⟩
  · have HB := Lib.hid (HW.out.trans (hb3.mono HW.out.size))
    clear hb3
    by_cases hlo : z < -1152921504606846976
    · have H1 := Lib.hid (show 1152921504606846976 < z.natAbs by omega)
      clear h1
      go_wp2
      go_ret2
      exact ⟨.inr ⟨H1.out, rfl⟩, HB.out⟩
    · by_cases hhi : 1152921504606846976 < z
      · have H1 := Lib.hid (show 1152921504606846976 < z.natAbs by omega)
        clear h1
        go_wp2
        go_ret2
        exact ⟨.inr ⟨H1.out, rfl⟩, HB.out⟩
      · have H1 := Lib.hid (show z.natAbs ≤ 1152921504606846976 by omega)
        clear h1
        go_wp2
        go_ret2
        exact ⟨.inl ⟨H1.out, rfl⟩, HB.out⟩
  · have HB := Lib.hid (HW.out.trans (hb3.mono HW.out.size))
    have H1 := Lib.hid (show 1152921504606846976 < z.natAbs by omega)
    clear hb3 h1
    go_wp2
    go_ret2
    exact ⟨.inr ⟨H1.out, rfl⟩, HB.out⟩

/-- A slice of limbs in a block that is not 'row'. -/
def RWn (w : World) (row : Option Nat) (u : Value) (xs : List Nat) : Prop := RW .i64 w w.heap.size u xs ∧ ∀ A m c, u = .slice A m c → (A = none → c = 0) ∧ ∀ ad, A = some ad → 0 < m → some ad.block ≠ row
theorem rwn_grown {w w' : World} {row row' : Option Nat} {u : Value} {xs : List Nat} (h : RWn w row u xs) (hg : w.grownBy w' row) (hr : row' = row ∨ row' = some w.heap.size) : RWn w' row' u xs := by
  obtain ⟨hrw, hne⟩ := h
  obtain ⟨A, c, rfl⟩ := hrw.form
  obtain ⟨hz, hne⟩ := hne _ _ _ rfl
  have hcap := hrw.cap
  refine ⟨RW.mk rfl hcap.1 hcap.2 (fun h0 => ?_), fun A' m' c' e => ?_⟩
  · obtain ⟨b, o, e, hb, hc⟩ := hrw.at_ h0
    subst e
    refine ⟨b, o, rfl, Nat.lt_of_lt_of_le hb hg.size, fun j hj => ?_⟩
    have : w'.heap[b]? = w.heap[b]? := hg.block b hb (hne _ rfl h0)
    rw [← hc j hj]
    simp [World.cell?, this]
  · injection e with e1 e2 e3
    subst e1 e2 e3
    refine ⟨hz, fun ad hA h0 => ?_⟩
    rcases hr with rfl | rfl
    · exact hne ad hA h0
    · obtain ⟨b, o, e, hb, _⟩ := hrw.at_ h0
      rw [hA] at e
      injection e with e
      subst e
      intro h
      injection h with h
      change b = _ at h
      omega
def qlC : List (Bool × Value × Value) → List Value
  | [] => []
  | t :: ts => .bool t.1 :: t.2.1 :: t.2.2 :: qlC ts
theorem qlC_append : ∀ (L : List (Bool × Value × Value)) (t : Bool × Value × Value), qlC (L ++ [t]) = qlC L ++ [.bool t.1, t.2.1, t.2.2]
  | [], t => rfl
  | x :: L, t => by simp [qlC, qlC_append L t]
theorem qlC_len : ∀ L : List (Bool × Value × Value), (qlC L).length = L.length * 3
  | [] => rfl
  | x :: L => by simp [qlC, qlC_len L]; omega
theorem qlC_get : ∀ (L : List (Bool × Value × Value)) (i : Nat) (h : i < L.length), (qlC L)[i * 3]? = some (.bool (L[i]'h).1) ∧ (qlC L)[i * 3 + 1]? = some (L[i]'h).2.1 ∧ (qlC L)[i * 3 + 2]? = some (L[i]'h).2.2
  | [], i, h => by simp at h
  | x :: L, 0, _ => ⟨rfl, rfl, rfl⟩
  | x :: L, i + 1, h => by
    have h' : i < L.length := by simpa using h
    obtain ⟨h1, h2, h3⟩ := qlC_get L i h'
    have e : (i + 1) * 3 = i * 3 + 1 + 1 + 1 := by omega
    rw [e]
    simp only [qlC, List.getElem?_cons_succ, List.getElem_cons_succ]
    exact ⟨h1, h2, h3⟩
/-- A list of whole numbers of the call's own. -/
def QS (w : World) (base : Nat) (v : Value) (zs : List Int) : Prop :=
  ∃ L : List (Bool × Value × Value), L.length = zs.length ∧ w.ownsRow base 41 3 v zs.length (qlC L) ∧
    ∀ i (h : i < zs.length) (h' : i < L.length), (L[i]'h').1 = decide (zs[i]'h < 0) ∧ RWn w v.ownBlock (L[i]'h').2.1 (words16 (zs[i]'h).natAbs) ∧ RWn w v.ownBlock (L[i]'h').2.2 (words16 1)
theorem qs_nil (w : World) (base : Nat) : QS w base (.slice none 0 0) [] := ⟨[], rfl, World.ownsRow_nil _ _ _ _, fun i h => by simp at h⟩
theorem qs_below {w w' : World} {base : Nat} {v : Value} {zs : List Int} (h : QS w base v zs) (hb : Below w.heap.size w w') : QS w' base v zs := by
  obtain ⟨L, h1, h2, h3⟩ := h
  have hg : w.grownBy w' v.ownBlock := ⟨hb.os, hb.tape, hb.output, hb.size, fun k hk _ => hb.block k hk⟩
  refine ⟨L, h1, ?_, fun i hi hi' => ?_⟩
  · refine ⟨h2.1, ?_⟩
    rcases h2.2 with h | ⟨g, cap, cur, a, b, c, d⟩
    · exact .inl h
    · exact .inr ⟨g, cap, cur, a, b, (hb.block g (Array.getElem?_eq_some_iff.1 c).1).trans c, d⟩
  · obtain ⟨a, b, c⟩ := h3 i hi hi'
    exact ⟨a, rwn_grown b hg (.inl rfl), rwn_grown c hg (.inl rfl)⟩
theorem qs_cells {w : World} {base : Nat} {v : Value} {zs : List Int} (h : QS w base v zs) : ∃ A c, v = .slice A zs.length c ∧ zs.length ≤ c ∧
    ∀ i (hi : i < zs.length), ∃ g s A1 n1 c1 A2 n2 c2, A = some ⟨g, 0, none⟩ ∧ g < w.heap.size ∧ w.cell? ⟨g, i * 3, none⟩ = some (.bool s) ∧ w.cell? ⟨g, i * 3 + 1, none⟩ = some (.slice A1 n1 c1) ∧ w.cell? ⟨g, i * 3 + 2, none⟩ = some (.slice A2 n2 c2) ∧
      QV w w.heap.size (.agg #[.bool s, .slice A1 n1 c1, .slice A2 n2 c2]) (zs[i]'hi) 1 := by
  obtain ⟨L, h1, ho, h3⟩ := h
  obtain ⟨hl, ⟨rfl, h0⟩ | ⟨g, cap, cur, rfl, _, hblk, hle, _, _, ht⟩⟩ := id ho
  · exact ⟨none, 0, by rw [h0], by omega, fun i hi => by omega⟩
  · refine ⟨some ⟨g, 0, none⟩, cap, rfl, hle, fun i hi => ?_⟩
    obtain ⟨e1, ⟨r1, n1⟩, ⟨r2, n2⟩⟩ := h3 i hi (by omega)
    obtain ⟨q1, q2, q3⟩ := qlC_get L i (by omega)
    obtain ⟨A1, c1, f1⟩ := r1.form
    obtain ⟨A2, c2, f2⟩ := r2.form
    have k1 := ho.cellAt (i * 3) (by omega)
    have k2 := ho.cellAt (i * 3 + 1) (by omega)
    have k3 := ho.cellAt (i * 3 + 2) (by omega)
    rw [q1] at k1
    rw [q2, f1] at k2
    rw [q3, f2] at k3
    rw [f1] at r1 n1
    rw [f2] at r2 n2
    exact ⟨g, _, A1, _, c1, A2, _, c2, rfl, (Array.getElem?_eq_some_iff.1 hblk).1, k1, k2, k3, ⟨_, _, _, _, _, _, _, rfl, e1, r1, (n1 _ _ _ rfl).1, r2, (n2 _ _ _ rfl).1⟩⟩
theorem infoQQ : (Tryz.prog.info? 41).map (fun i => (i.zero, i.size, i.bytes)) = some (some (.agg #[.bool false, .slice none 0 0, .slice none 0 0]), 3, 56) := by kernel_rfl
theorem qcells3 {w : World} {g : Nat} {T : TypeId} {a b c : Value} (h : w.heap[g]? = some (.cells #[a, b, c] T (0, 0))) : ∀ j u, [a, b, c][j]? = some u → w.cell? ((⟨g, 0, none⟩ : Addr).add j) = some u := by
  intro j u hj
  match j, hj with
  | 0, hj => simp at hj; subst hj; exact cell_of_row _ _ _ _ _ _ h
  | 1, hj => simp at hj; subst hj; exact cell_of_row _ _ _ _ _ _ h
  | 2, hj => simp at hj; subst hj; exact cell_of_row _ _ _ _ _ _ h
  | j + 3, hj => simp at hj
set_option maxRecDepth 100000 in
/-- append(u, x) behind the block that the translation lays for x. -/
theorem wpList_append_q {w3 : World} {ops : Array Oper} {rest : List Oper} {o : Oper} {a : Act} {Q : Exit → Act → World → Prop} (hgd : o.guard = none) (s x : Operand)
    (ho : o.op = .call { callee := .builtin .append, args := #[s, x], argTypes := #[37, 37] })
    (base : Nat) (u : Value) (zs : List Int) (hs : a.eval s = u) (hv : QS w3 base u zs) (sg : Bool) (A A' : Option Addr) (n c n' c' : Nat) (z : Int) (hx : a.eval x = .slice (some ⟨w3.heap.size, 0, none⟩) 1 1)
    (hq : QV w3 w3.heap.size (.agg #[.bool sg, .slice A n c, .slice A' n' c']) z 1) (hn1 : ∀ ad, A = some ad → 0 < n → some ad.block ≠ u.ownBlock) (hn2 : ∀ ad, A' = some ad → 0 < n' → some ad.block ≠ u.ownBlock) (hsz : zs.length + 1 ≤ 1048576) (hbase : base ≤ w3.heap.size)
    (h : ∀ v' w', QS w' base v' (zs ++ [z]) → Below base w3 w' → wpList Tryz.prog ops Q rest (a.put o.dst v') w') :
    wpList Tryz.prog ops Q (o :: rest) a (w3.alloc (.cells #[.bool sg, .slice A n c, .slice A' n' c'] 41)) := by
  obtain ⟨i0, hi0, hz0, hz1, hz2⟩ := info_parts infoQQ
  have hb4 : Below w3.heap.size w3 (w3.alloc (.cells #[.bool sg, .slice A n c, .slice A' n' c'] 41)) := (Below.refl _ _).alloc (Nat.le_refl _) _
  obtain ⟨L, v1, v2, v4⟩ := qs_below hv hb4
  obtain ⟨s0, A0, m0, c0, A0', m0', c0', e0, hs0, r1, z1, r2, z2⟩ := hq
  have e0' : #[Value.bool sg, Value.slice A n c, Value.slice A' n' c'] = #[Value.bool s0, Value.slice A0 m0 c0, Value.slice A0' m0' c0'] := by injection e0
  simp at e0'
  obtain ⟨rfl, ⟨rfl, rfl, rfl⟩, rfl, rfl, rfl⟩ := e0'
  have t1 : RWn w3 u.ownBlock (.slice A n c) (words16 z.natAbs) := ⟨r1, fun A1 m1 c1 e => by injection e with a b d; subst a b d; exact ⟨z1, hn1⟩⟩
  have t2 : RWn w3 u.ownBlock (.slice A' n' c') (words16 1) := ⟨r2, fun A1 m1 c1 e => by injection e with a b d; subst a b d; exact ⟨z2, hn2⟩⟩
  have hg4 : w3.grownBy (w3.alloc (.cells #[.bool sg, .slice A n c, .slice A' n' c'] 41)) u.ownBlock := ⟨hb4.os, hb4.tape, hb4.output, hb4.size, fun k hk _ => hb4.block k hk⟩
  have t1 := rwn_grown t1 hg4 (.inl rfl)
  have t2 := rwn_grown t2 hg4 (.inl rfl)
  refine wpList_append_own_at _ hgd s x _ ho base 41 i0 _ 3 56 Tryz.underlying37 hi0 hz0 hz1 hz2 rfl (by decide) u zs.length _ hs v2 ⟨w3.heap.size, 0, none⟩ 1 1 [.bool sg, .slice A n c, .slice A' n' c'] hx rfl (qcells3 (heap_alloc_new w3 _)) (by intro u hu; simp at hu; rcases hu with rfl | rfl | rfl <;> rfl) (by unfold maxLen; omega) (by omega) (by simp; omega) ?_
  intro v6 w6 ho6 hg _ hr6
  refine h v6 w6 ⟨L ++ [(sg, .slice A n c, .slice A' n' c')], by simp [v1], ?_, fun i hi hi' => ?_⟩ ?_
  · rw [qlC_append, List.length_append]; exact ho6
  · by_cases hlt : i < zs.length
    · rw [List.getElem_append_left (by omega), List.getElem_append_left hlt]
      obtain ⟨a, b, c⟩ := v4 i hlt (by omega)
      exact ⟨a, rwn_grown b hg hr6, rwn_grown c hg hr6⟩
    · have e : i = zs.length := by simp at hi; omega
      subst e
      have e1 : (L ++ [(sg, Value.slice A n c, Value.slice A' n' c')])[zs.length]'hi' = (sg, .slice A n c, .slice A' n' c') := by
        rw [List.getElem_append_right (by omega)]
        simp [v1]
      have e2 : (zs ++ [z])[zs.length]'hi = z := by
        rw [List.getElem_append_right (by omega)]
        simp
      rw [e1, e2]
      exact ⟨hs0, rwn_grown t1 hg hr6, rwn_grown t2 hg hr6⟩
  · refine (hb4.mono hbase).trans ⟨hg.os, hg.tape, hg.output, hg.size, fun k hk => ?_⟩
    refine hg.block k (by have := hb4.size; omega) (fun e => ?_)
    rcases v2.2 with ⟨h, _⟩ | ⟨g, cap, cur, a, b, _⟩
    · rw [h] at e; cases e
    · rw [a] at e
      have e' : k = g := by simpa [Value.ownBlock] using e
      omega
end Go.Proofs.YtdpmfenikomfkaaGreat

namespace Go.Proofs.YtdpmfenikomfkaaGreat
open Go.RowKit

theorem qadd_one (z1 z2 : Int) (K : Nat) (hK : K ≤ 100000) (hk1 : z1.natAbs < B16 ^ K) (hk2 : z2.natAbs < B16 ^ K) (v1 v2 : Value) (B : Nat) (w : World) (hv1 : QV w B v1 z1 1) (hv2 : QV w B v2 z2 1) (hB : B ≤ w.heap.size) :
    Calls Tryz.prog 20 #[v1, v2] w (RetQf w (z1 + z2) 1) :=
  qadd_any z1 z2 1 1 K hK hk1 hk2 (by omega) (by omega) (by omega) v1 v2 B w hv1 hv2 hB _ _ (Lib.hid ⟨by simp, by simp⟩)
theorem qsub_one (z1 z2 : Int) (K : Nat) (hK : K ≤ 100000) (hk1 : z1.natAbs < B16 ^ K) (hk2 : z2.natAbs < B16 ^ K) (v1 v2 : Value) (B : Nat) (w : World) (hv1 : QV w B v1 z1 1) (hv2 : QV w B v2 z2 1) (hB : B ≤ w.heap.size) :
    Calls Tryz.prog 21 #[v1, v2] w (RetQf w (z1 - z2) 1) :=
  qsub_any z1 z2 1 1 K hK hk1 hk2 (by omega) (by omega) (by omega) v1 v2 B w hv1 hv2 hB _ _ (Lib.hid ⟨by simp; omega, by simp⟩)
theorem qmul_one (z1 z2 : Int) (K : Nat) (hK : K ≤ 100000) (hk1 : z1.natAbs < B16 ^ K) (hk2 : z2.natAbs < B16 ^ K) (v1 v2 : Value) (B : Nat) (w : World) (hv1 : QV w B v1 z1 1) (hv2 : QV w B v2 z2 1) (hB : B ≤ w.heap.size) :
    Calls Tryz.prog 22 #[v1, v2] w (RetQf w (z1 * z2) 1) :=
  qmul_any z1 z2 1 1 K hK hk1 hk2 (by omega) (by omega) (by omega) v1 v2 B w hv1 hv2 hB _ _ (Lib.hid ⟨by simp, by simp⟩)
theorem qcmp_one (z1 z2 : Int) (K : Nat) (hK : K ≤ 100000) (hk1 : z1.natAbs < B16 ^ K) (hk2 : z2.natAbs < B16 ^ K) (v1 v2 : Value) (B : Nat) (w : World) (hv1 : QV w B v1 z1 1) (hv2 : QV w B v2 z2 1) (hB : B ≤ w.heap.size) :
    Calls Tryz.prog 35 #[v1, v2] w (RetI w (isgn (z1 - z2))) := by
  have h := qcmp_any z1 z2 1 1 K hK hk1 hk2 (by omega) (by omega) (by omega) v1 v2 B w hv1 hv2 hB
  have e : (z1 * ((1 : Nat) : Int) + -z2 * ((1 : Nat) : Int)) / ((Nat.gcd (z1 * ((1 : Nat) : Int) + -z2 * ((1 : Nat) : Int)).natAbs (1 * 1) : Nat) : Int) = z1 - z2 := by simp; omega
  rw [e] at h
  exact h
theorem qfloor_one (z : Int) (K : Nat) (hK : K ≤ 900000) (hk : z.natAbs < B16 ^ K) (v : Value) (B : Nat) (w : World) (hv : QV w B v z 1) (hB : B ≤ w.heap.size) :
    Calls Tryz.prog 37 #[v] w (RetIs w z) := by
  have h := qfloor_any z 1 (by omega) (by omega) K hK hk v B w hv hB
  have e : z / ((1 : Nat) : Int) = z := by simp
  rw [e] at h
  exact h
theorem qceil_one (z : Int) (K : Nat) (hK : K ≤ 900000) (hk : z.natAbs < B16 ^ K) (v : Value) (B : Nat) (w : World) (hv : QV w B v z 1) (hB : B ≤ w.heap.size) :
    Calls Tryz.prog 38 #[v] w (RetIs w z) := by
  have h := qceil_any z 1 (by omega) (by omega) K hK hk v B w hv hB
  have e : -(-z / ((1 : Nat) : Int)) = z := by simp
  rw [e] at h
  exact h
end Go.Proofs.YtdpmfenikomfkaaGreat
