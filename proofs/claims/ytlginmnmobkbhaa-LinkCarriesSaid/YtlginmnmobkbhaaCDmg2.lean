/-
  The program's damage: a datagram is moved.
-/
import Derived.Test.YtlginmnmobkbhaaCDmg
namespace Go.Proofs.Ytlginmnmobkbhaa
open Go.RowKit

theorem apart_erase : ∀ {ps : List (Value × List Nat)} (_ : ps.Pairwise Apart) (i : Nat) (hi : i < ps.length), ∀ p ∈ ps.eraseIdx i, Apart (ps[i]'hi) p
  | [], _, _, hi => absurd hi (by simp)
  | a :: l, h, 0, _ => fun p hp => (List.pairwise_cons.1 h).1 p (by simpa using hp)
  | a :: l, h, i + 1, hi => fun p hp => by
    have hi' : i < l.length := by simpa using hi
    have hp' : p = a ∨ p ∈ l.eraseIdx i := by simpa using hp
    show Apart (l[i]'hi') p
    rcases hp' with rfl | hp'
    · exact ((List.pairwise_cons.1 h).1 _ (List.getElem_mem hi')).symm
    · exact apart_erase (List.pairwise_cons.1 h).2 i hi' p hp'

theorem chs_form {w : World} {base : Nat} {v : Value} {ps : List (Value × List Nat)} (h : Chs w base v ps) : ∃ g c, v = .slice (some ⟨g, 0, none⟩) ps.length c := by
  obtain ⟨⟨g, c, cur, e, _⟩, _, _⟩ := h
  exact ⟨g, c, e⟩

/-- The datagram that was taken out, beside the list that is left. -/
theorem move_el {W w1 : World} {base g : Nat} {v1 : Value} {ps M : List (Value × List Nat)} {n c : Nat} (h : Chs W base (.slice (some ⟨g, 0, none⟩) n c) ps) (hb : base ≤ W.heap.size) {i : Nat} (hi : i < ps.length) (hM : M = ps.eraseIdx i) (h1 : Chs w1 base v1 M)
    (hO : Only (fun k => (Value.slice (some ⟨g, 0, none⟩) n c).ownBlock = some k) W w1) :
    Chs (w1.alloc (.cells #[(ps[i]'hi).1] 33)) base v1 M ∧ El (w1.alloc (.cells #[(ps[i]'hi).1] 33)) base (ps[i]'hi) ∧ (∀ q ∈ M, Apart (ps[i]'hi) q) ∧ (w1.alloc (.cells #[(ps[i]'hi).1] 33)).heap[w1.heap.size]? = some (.cells #[(ps[i]'hi).1] 33 (0, 0)) ∧
      base ≤ (w1.alloc (.cells #[(ps[i]'hi).1] 33)).heap.size ∧ (∀ A n c, v1 = .slice (some A) n c → w1.heap.size ≠ A.block) ∧ Below w1.heap.size w1 (w1.alloc (.cells #[(ps[i]'hi).1] 33)) := by
  have b3 : Below w1.heap.size w1 (w1.alloc (.cells #[(ps[i]'hi).1] 33)) := (Below.refl _ _).alloc (Nat.le_refl _) _
  obtain ⟨⟨g', c', cur, e, _, hg, _⟩, hels, hap⟩ := h
  have hgg : g = g' := by
    injection e with e
    injection e with e
    injection e
  have hel := hels _ (List.getElem_mem hi)
  have e1 : El w1 base (ps[i]'hi) := hel.only hO (fun k hk hg2 => by
    have hg3 : g = k := by
      simp [Value.ownBlock] at hg2
      exact hg2
    exact el_not hel hg k hk (by rw [← hg3, hgg]))
  refine ⟨chs_below h1 b3, e1.only (only_below (S := fun _ => False) b3) (fun _ _ h => h), fun q hq => apart_erase hap i hi q (by rw [← hM]; exact hq), heap_alloc_new w1 _, Nat.le_trans hb (Nat.le_trans hO.size b3.size), fun A n c e => ?_, b3⟩
  obtain ⟨g1, c1, e2⟩ := chs_form h1
  subst e2
  have hl := chs_lt h1
  injection e with e
  injection e with e
  subst e
  show w1.heap.size ≠ g1
  omega

set_option maxRecDepth 100000 in
set_option maxHeartbeats 1000000 in
theorem damage_move {w : World} {base : Nat} {v : Value} {ps M : List (Value × List Nat)} (h : Chs w base v ps) (hb : base ≤ w.heap.size) (hn2 : ps.length ≤ 1000) (i : Nat) (hi : i < ps.length) (n : Int) (hM : M = ps.eraseIdx i) :
    Calls Try.prog 67 #[v, .agg #[.int .i64 3, .int .i64 (i : Int), .int .i64 n]] w (RetChs w base (M.take (wi n M.length) ++ (ps[i]'hi) :: M.drop (wi n M.length))) := by
  obtain ⟨g, c, hv⟩ := chs_form h
  subst hv
  obtain ⟨W0, hW0⟩ : ∃ W0, W0 = w.alloc (.cells #[.int .i64 3, .int .i64 (i : Int), .int .i64 n] 106) := ⟨_, rfl⟩
  have hb0 : Below w.heap.size w W0 := by rw [hW0]; exact (Below.refl _ _).alloc (Nat.le_refl _) _
  have z0 : w.heap.size < W0.heap.size := by rw [hW0]; simp
  have hG : W0.heap[w.heap.size]? = some (.cells #[.int .i64 3, .int .i64 (i : Int), .int .i64 n] 106 (0, 0)) := by rw [hW0]; exact heap_alloc_new w _
  have h0 := chs_below h hb0
  have hcell := chs_at h0 i hi
  have hel := h0.els _ (List.getElem_mem hi)
  obtain ⟨_, hrb⟩ := rb_of_owns hel.1
  obtain ⟨A, cp, hform⟩ := hrb.form
  have hcellA := hcell
  rw [hW0, hform] at hcellA
  have hgne : ¬ g = w.heap.size := fun e => by
    have := chs_lt h
    omega
  have hMl : M.length + 1 = ps.length := by rw [hM, List.length_eraseIdx_of_lt hi]; omega
  have hdel := chs_delete h0 (Nat.le_trans hb hb0.size) i hi
  rw [← hM] at hdel
  have hwi : wi n M.length ≤ M.length := by unfold wi; omega
  have H0 := Lib.hid (And.intro h0 (And.intro hb0 hG))
  have HD := Lib.hid hdel
  have HM := Lib.hid hM
  have HL := Lib.hid (And.intro hMl hwi)
  have HF := Lib.hid hform
  have HW := Lib.hid hW0
  have i1 : (i : Int) < (ps.length : Int) := by omega
  have i2 : IntKind.i64.wrap ((i : Int) + 1) = (i : Int) + 1 := by rw [IntKind.wrap_i64]; omega
  clear h0 hb0 h hrb hel hG hdel hcell hM hform hMl hwi
  go_enter Try.func67, Try.ntmps67
  clear hW0
  go_wp2_with (first
    | (go_at_call 77
       rw [← HW.out]
       refine HD.out.mono ?_
       rintro e w1 ⟨v1, rfl, hc1, hb1, hO1⟩
       have ME := Lib.hid (move_el H0.out.1 (Nat.le_trans hb H0.out.2.1.size) hi HM.out hc1 hO1)
       have HB1 := Lib.hid hb1
       rw [HF.out] at ME
       obtain ⟨g1, c1, e1⟩ := chs_form hc1
       subst e1
       have q2 : w1.cell? ⟨w.heap.size, 2, none⟩ = some (.int .i64 n) := (hO1.cell (p := ⟨w.heap.size, 2, none⟩) z0 (fun e => by injection e with e; exact hgne e)).trans (cell_of_row _ _ _ _ _ _ H0.out.2.2)
       clear hc1 hb1 hO1)
    | (go_at_call 79
       refine (within_run n M.length _).mono ?_
       rintro e w2 ⟨rfl, e2⟩
       rw [e2]
       clear e2)
    | (go_at_call 78
       refine (chs_insert ME.out.1 ME.out.2.2.2.2.1 (by have := HL.out.1; omega) (wi n M.length) _ rfl HL.out.2 (ps[i]'hi) (by exact ME.out.2.1) ME.out.2.2.1 w1.heap.size (by rw [HF.out]; exact ME.out.2.2.2.1) ME.out.2.2.2.2.2.1).mono ?_
       rintro e w3 ⟨v3, rfl, hc3, hb3, hO3⟩))
  go_ret
  exact ⟨v3, rfl, hc3, (H0.out.2.1.mono hb).trans (HB1.out.trans ((ME.out.2.2.2.2.2.2.mono (Nat.le_trans (Nat.le_trans hb H0.out.2.1.size) HB1.out.size)).trans hb3))⟩
end Go.Proofs.Ytlginmnmobkbhaa
