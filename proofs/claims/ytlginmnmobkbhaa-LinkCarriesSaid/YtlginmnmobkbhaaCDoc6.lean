/-
  The document's fault: a datagram is moved. Made by gen_cdoc6.py.
-/
import Derived.Test.YtlginmnmobkbhaaCDoc5
namespace Go.Proofs.Ytlginmnmobkbhaa
open Go.RowKit

set_option maxRecDepth 100000 in
set_option maxHeartbeats 400000 in
theorem fault_moveA {w : World} {base : Nat} {v : Value} {ps M : List (Value × List Nat)} (h : Dcs w base base v ps) (hb : base ≤ w.heap.size) (hn2 : ps.length ≤ 900) (i : Nat) (hi : i < ps.length) (n : Int) (p : Nat) (hM : M = ps.eraseIdx i) (hn : n < 0 ∧ p = 0) :
    Calls Try.prog 68 #[v, .agg #[.int .i64 3, .int .i64 (i : Int), .int .i64 n]] w (RetFd w base ((M.take p).map Prod.snd ++ (ps[i]'hi).2 :: (M.drop p).map Prod.snd)) := by
  obtain ⟨W0, hW0⟩ : ∃ W0, W0 = w.alloc (.cells #[.int .i64 3, .int .i64 (i : Int), .int .i64 n] 106) := ⟨_, rfl⟩
  have hb0 : Below w.heap.size w W0 := by rw [hW0]; exact (Below.refl _ _).alloc (Nat.le_refl _) _
  have z0 : w.heap.size < W0.heap.size := by rw [hW0]; simp
  have hG : W0.heap[w.heap.size]? = some (.cells #[.int .i64 3, .int .i64 (i : Int), .int .i64 n] 106 (0, 0)) := by rw [hW0]; exact heap_alloc_new w _
  have h0 := dcs_below h hb0
  have hMl : M.length + 1 = ps.length := by rw [hM, List.length_eraseIdx_of_lt hi]; omega
  obtain ⟨g, c, e, hgl, hcell⟩ := dcs_at h0 i hi
  subst e
  have hel := h0.els _ (List.getElem_mem hi)
  obtain ⟨_, hrb⟩ := rb_of_owns hel.1
  obtain ⟨A, cp, hform⟩ := hrb.form
  obtain ⟨X, hX⟩ : ∃ X, X = (ps[i]'hi).2 := ⟨_, rfl⟩
  rw [← hX] at hform ⊢
  rw [hform] at hcell
  have hcellA := hcell
  rw [hW0] at hcellA
  have hel2 : El W0 base (.slice A X.length cp, X) := by
    have e : ps[i]'hi = (.slice A X.length cp, X) := by rw [← hform, hX]
    rw [← e]; exact hel
  obtain ⟨k0, k1, k2, kf⟩ := fr_blk hG (Below.refl _ _)
  have hpM : p ≤ M.length := by omega
  have hwo := without_any (dcs_below h0 (Below.refl _ _).drew) (by omega) i
  rw [← hM] at hwo
  have HO := Lib.hid hwo
  have HG := Lib.hid hG
  have HW := Lib.hid hW0
  have HM := Lib.hid (And.intro hMl hpM)
  have HE := Lib.hid hel2
  have H0 := Lib.hid (And.intro h0 hb0)
  have HN := Lib.hid hn2
  obtain ⟨L, hL⟩ : ∃ L, L = ps.length := ⟨_, rfl⟩
  have i1 : (i : Int) < (ps.length : Int) := by omega
  have i2 : ¬ (i : Int) < 0 := by omega
  have i3 : IntKind.i64.wrap ((ps.length : Int) - 1) = (ps.length : Int) - 1 := by rw [IntKind.wrap_i64]; omega
  obtain ⟨hn, hp0⟩ := hn
  have f1 : ¬ 0 < n := by omega
  have f2 : n ≤ 0 := by omega
  have f3 : (0 : Int) ≤ (ps.length : Int) - 1 := by omega
  have f4 : ¬ (ps.length : Int) - 1 < 0 := by omega
  clear h0 hb0 h hG hel hrb hform hX hM hwo hMl hpM hel2 hn2 hL
  go_enter Try.func68, Try.ntmps68
  clear hW0
  go_wp2_with fail
  rw [← HW.out]
  go_region_held3 (fun w' => w'.cell? ⟨w.heap.size, 1, none⟩ = some (.int .i64 (i : Int)) ∧ w'.cell? ⟨w.heap.size, 2, none⟩ = some (.int .i64 n))
    (first | exact ⟨k1, k2⟩ | exact ⟨j1, j2⟩ | exact ⟨q1, q2⟩ | go_keep)
    (first
      | (go_at_call 80
         refine HO.out.mono ?_
         rintro e w2 ⟨v2, rfl, hd2, b2⟩
         have b3 : Below W0.heap.size W0 w2 := (Below.refl _ _).drew.trans b2
         have e3 : El w2 base (.slice A X.length cp, X) := HE.out.only (only_below (S := fun _ => False) b3) (fun _ _ h => h)
         obtain ⟨j0, j1, j2, jf⟩ := fr_blk HG.out b3
         have HJ := Lib.hid (And.intro hd2 (And.intro b3 e3))
         clear hd2 b2 b3 e3)
      | (go_at_call 81
         refine (with_any HJ.out.1 (by have := HM.out.1; have := HN.out; omega) p _ (by have := HM.out.1; omega) HM.out.2 A cp X HJ.out.2.2).mono ?_
         rintro e w3 ⟨v3, rfl, hd3, hb3⟩
         have q1 : w3.cell? ⟨w.heap.size, 1, none⟩ = some (.int .i64 (i : Int)) := (hb3.cell (p := ⟨w.heap.size, 1, none⟩) (Nat.lt_of_lt_of_le z0 HJ.out.2.1.size)).trans j1
         have q2 : w3.cell? ⟨w.heap.size, 2, none⟩ = some (.int .i64 n) := (hb3.cell (p := ⟨w.heap.size, 2, none⟩) (Nat.lt_of_lt_of_le z0 HJ.out.2.1.size)).trans j2
         have HT := Lib.hid (And.intro hd3 hb3)
         clear hd3 hb3))
  all_goals go_wp2
  all_goals go_ret
  all_goals exact ⟨_, _, by rw [List.map_append, List.map_cons], rfl, dcs_lb HT.out.1 (Nat.le_trans (Nat.le_trans hb H0.out.2.size) HJ.out.2.1.size), (H0.out.2.mono hb).trans ((HJ.out.2.1.mono (Nat.le_trans hb H0.out.2.size)).trans (HT.out.2.mono (Nat.le_trans (Nat.le_trans hb H0.out.2.size) HJ.out.2.1.size)))⟩

set_option maxRecDepth 100000 in
set_option maxHeartbeats 400000 in
theorem fault_moveB {w : World} {base : Nat} {v : Value} {ps M : List (Value × List Nat)} (h : Dcs w base base v ps) (hb : base ≤ w.heap.size) (hn2 : ps.length ≤ 900) (i : Nat) (hi : i < ps.length) (n : Int) (p : Nat) (hM : M = ps.eraseIdx i) (hn : n = (p : Int) ∧ p < ps.length) :
    Calls Try.prog 68 #[v, .agg #[.int .i64 3, .int .i64 (i : Int), .int .i64 n]] w (RetFd w base ((M.take p).map Prod.snd ++ (ps[i]'hi).2 :: (M.drop p).map Prod.snd)) := by
  obtain ⟨W0, hW0⟩ : ∃ W0, W0 = w.alloc (.cells #[.int .i64 3, .int .i64 (i : Int), .int .i64 n] 106) := ⟨_, rfl⟩
  have hb0 : Below w.heap.size w W0 := by rw [hW0]; exact (Below.refl _ _).alloc (Nat.le_refl _) _
  have z0 : w.heap.size < W0.heap.size := by rw [hW0]; simp
  have hG : W0.heap[w.heap.size]? = some (.cells #[.int .i64 3, .int .i64 (i : Int), .int .i64 n] 106 (0, 0)) := by rw [hW0]; exact heap_alloc_new w _
  have h0 := dcs_below h hb0
  have hMl : M.length + 1 = ps.length := by rw [hM, List.length_eraseIdx_of_lt hi]; omega
  obtain ⟨g, c, e, hgl, hcell⟩ := dcs_at h0 i hi
  subst e
  have hel := h0.els _ (List.getElem_mem hi)
  obtain ⟨_, hrb⟩ := rb_of_owns hel.1
  obtain ⟨A, cp, hform⟩ := hrb.form
  obtain ⟨X, hX⟩ : ∃ X, X = (ps[i]'hi).2 := ⟨_, rfl⟩
  rw [← hX] at hform ⊢
  rw [hform] at hcell
  have hcellA := hcell
  rw [hW0] at hcellA
  have hel2 : El W0 base (.slice A X.length cp, X) := by
    have e : ps[i]'hi = (.slice A X.length cp, X) := by rw [← hform, hX]
    rw [← e]; exact hel
  obtain ⟨k0, k1, k2, kf⟩ := fr_blk hG (Below.refl _ _)
  have hpM : p ≤ M.length := by omega
  have hwo := without_any (dcs_below h0 (Below.refl _ _).drew) (by omega) i
  rw [← hM] at hwo
  have HO := Lib.hid hwo
  have HG := Lib.hid hG
  have HW := Lib.hid hW0
  have HM := Lib.hid (And.intro hMl hpM)
  have HE := Lib.hid hel2
  have H0 := Lib.hid (And.intro h0 hb0)
  have HN := Lib.hid hn2
  obtain ⟨L, hL⟩ : ∃ L, L = ps.length := ⟨_, rfl⟩
  have i1 : (i : Int) < (ps.length : Int) := by omega
  have i2 : ¬ (i : Int) < 0 := by omega
  have i3 : IntKind.i64.wrap ((ps.length : Int) - 1) = (ps.length : Int) - 1 := by rw [IntKind.wrap_i64]; omega
  obtain ⟨rfl, hn1⟩ := hn
  have f1 : ¬ (p : Int) < 0 := by omega
  have f2 : (0 : Int) ≤ (p : Int) := by omega
  have f3 : (p : Int) ≤ (ps.length : Int) - 1 := by omega
  have f4 : ¬ (ps.length : Int) - 1 < (p : Int) := by omega
  clear h0 hb0 h hG hel hrb hform hX hM hwo hMl hpM hel2 hn2 hL
  go_enter Try.func68, Try.ntmps68
  clear hW0
  go_wp2_with fail
  rw [← HW.out]
  go_region_held3 (fun w' => w'.cell? ⟨w.heap.size, 1, none⟩ = some (.int .i64 (i : Int)) ∧ w'.cell? ⟨w.heap.size, 2, none⟩ = some (.int .i64 (p : Int)))
    (first | exact ⟨k1, k2⟩ | exact ⟨j1, j2⟩ | exact ⟨q1, q2⟩ | go_keep)
    (first
      | (go_at_call 80
         refine HO.out.mono ?_
         rintro e w2 ⟨v2, rfl, hd2, b2⟩
         have b3 : Below W0.heap.size W0 w2 := (Below.refl _ _).drew.trans b2
         have e3 : El w2 base (.slice A X.length cp, X) := HE.out.only (only_below (S := fun _ => False) b3) (fun _ _ h => h)
         obtain ⟨j0, j1, j2, jf⟩ := fr_blk HG.out b3
         have HJ := Lib.hid (And.intro hd2 (And.intro b3 e3))
         clear hd2 b2 b3 e3)
      | (go_at_call 81
         refine (with_any HJ.out.1 (by have := HM.out.1; have := HN.out; omega) p _ (by have := HM.out.1; omega) HM.out.2 A cp X HJ.out.2.2).mono ?_
         rintro e w3 ⟨v3, rfl, hd3, hb3⟩
         have q1 : w3.cell? ⟨w.heap.size, 1, none⟩ = some (.int .i64 (i : Int)) := (hb3.cell (p := ⟨w.heap.size, 1, none⟩) (Nat.lt_of_lt_of_le z0 HJ.out.2.1.size)).trans j1
         have q2 : w3.cell? ⟨w.heap.size, 2, none⟩ = some (.int .i64 (p : Int)) := (hb3.cell (p := ⟨w.heap.size, 2, none⟩) (Nat.lt_of_lt_of_le z0 HJ.out.2.1.size)).trans j2
         have HT := Lib.hid (And.intro hd3 hb3)
         clear hd3 hb3))
  all_goals go_wp2
  all_goals go_ret
  all_goals exact ⟨_, _, by rw [List.map_append, List.map_cons], rfl, dcs_lb HT.out.1 (Nat.le_trans (Nat.le_trans hb H0.out.2.size) HJ.out.2.1.size), (H0.out.2.mono hb).trans ((HJ.out.2.1.mono (Nat.le_trans hb H0.out.2.size)).trans (HT.out.2.mono (Nat.le_trans (Nat.le_trans hb H0.out.2.size) HJ.out.2.1.size)))⟩

set_option maxRecDepth 100000 in
set_option maxHeartbeats 400000 in
theorem fault_moveC {w : World} {base : Nat} {v : Value} {ps M : List (Value × List Nat)} (h : Dcs w base base v ps) (hb : base ≤ w.heap.size) (hn2 : ps.length ≤ 900) (i : Nat) (hi : i < ps.length) (n : Int) (p : Nat) (hM : M = ps.eraseIdx i) (hn : (ps.length : Int) ≤ n ∧ p + 1 = ps.length) :
    Calls Try.prog 68 #[v, .agg #[.int .i64 3, .int .i64 (i : Int), .int .i64 n]] w (RetFd w base ((M.take p).map Prod.snd ++ (ps[i]'hi).2 :: (M.drop p).map Prod.snd)) := by
  obtain ⟨W0, hW0⟩ : ∃ W0, W0 = w.alloc (.cells #[.int .i64 3, .int .i64 (i : Int), .int .i64 n] 106) := ⟨_, rfl⟩
  have hb0 : Below w.heap.size w W0 := by rw [hW0]; exact (Below.refl _ _).alloc (Nat.le_refl _) _
  have z0 : w.heap.size < W0.heap.size := by rw [hW0]; simp
  have hG : W0.heap[w.heap.size]? = some (.cells #[.int .i64 3, .int .i64 (i : Int), .int .i64 n] 106 (0, 0)) := by rw [hW0]; exact heap_alloc_new w _
  have h0 := dcs_below h hb0
  have hMl : M.length + 1 = ps.length := by rw [hM, List.length_eraseIdx_of_lt hi]; omega
  obtain ⟨g, c, e, hgl, hcell⟩ := dcs_at h0 i hi
  subst e
  have hel := h0.els _ (List.getElem_mem hi)
  obtain ⟨_, hrb⟩ := rb_of_owns hel.1
  obtain ⟨A, cp, hform⟩ := hrb.form
  obtain ⟨X, hX⟩ : ∃ X, X = (ps[i]'hi).2 := ⟨_, rfl⟩
  rw [← hX] at hform ⊢
  rw [hform] at hcell
  have hcellA := hcell
  rw [hW0] at hcellA
  have hel2 : El W0 base (.slice A X.length cp, X) := by
    have e : ps[i]'hi = (.slice A X.length cp, X) := by rw [← hform, hX]
    rw [← e]; exact hel
  obtain ⟨k0, k1, k2, kf⟩ := fr_blk hG (Below.refl _ _)
  have hpM : p ≤ M.length := by omega
  have hwo := without_any (dcs_below h0 (Below.refl _ _).drew) (by omega) i
  rw [← hM] at hwo
  have HO := Lib.hid hwo
  have HG := Lib.hid hG
  have HW := Lib.hid hW0
  have HM := Lib.hid (And.intro hMl hpM)
  have HE := Lib.hid hel2
  have H0 := Lib.hid (And.intro h0 hb0)
  have HN := Lib.hid hn2
  obtain ⟨L, hL⟩ : ∃ L, L = ps.length := ⟨_, rfl⟩
  have i1 : (i : Int) < (ps.length : Int) := by omega
  have i2 : ¬ (i : Int) < 0 := by omega
  have i3 : IntKind.i64.wrap ((ps.length : Int) - 1) = (ps.length : Int) - 1 := by rw [IntKind.wrap_i64]; omega
  obtain ⟨hn, hp1⟩ := hn
  have f1 : ¬ n < 0 := by omega
  have f2 : 0 ≤ n := by omega
  have f3 : (ps.length : Int) - 1 < n := by omega
  have f4 : ¬ n ≤ (ps.length : Int) - 1 := by omega
  clear h0 hb0 h hG hel hrb hform hX hM hwo hMl hpM hel2 hn2 hL
  go_enter Try.func68, Try.ntmps68
  clear hW0
  go_wp2_with fail
  rw [← HW.out]
  go_region_held3 (fun w' => w'.cell? ⟨w.heap.size, 1, none⟩ = some (.int .i64 (i : Int)) ∧ w'.cell? ⟨w.heap.size, 2, none⟩ = some (.int .i64 n))
    (first | exact ⟨k1, k2⟩ | exact ⟨j1, j2⟩ | exact ⟨q1, q2⟩ | go_keep)
    (first
      | (go_at_call 80
         refine HO.out.mono ?_
         rintro e w2 ⟨v2, rfl, hd2, b2⟩
         have b3 : Below W0.heap.size W0 w2 := (Below.refl _ _).drew.trans b2
         have e3 : El w2 base (.slice A X.length cp, X) := HE.out.only (only_below (S := fun _ => False) b3) (fun _ _ h => h)
         obtain ⟨j0, j1, j2, jf⟩ := fr_blk HG.out b3
         have HJ := Lib.hid (And.intro hd2 (And.intro b3 e3))
         clear hd2 b2 b3 e3)
      | (go_at_call 81
         refine (with_any HJ.out.1 (by have := HM.out.1; have := HN.out; omega) p _ (by have := HM.out.1; omega) HM.out.2 A cp X HJ.out.2.2).mono ?_
         rintro e w3 ⟨v3, rfl, hd3, hb3⟩
         have q1 : w3.cell? ⟨w.heap.size, 1, none⟩ = some (.int .i64 (i : Int)) := (hb3.cell (p := ⟨w.heap.size, 1, none⟩) (Nat.lt_of_lt_of_le z0 HJ.out.2.1.size)).trans j1
         have q2 : w3.cell? ⟨w.heap.size, 2, none⟩ = some (.int .i64 n) := (hb3.cell (p := ⟨w.heap.size, 2, none⟩) (Nat.lt_of_lt_of_le z0 HJ.out.2.1.size)).trans j2
         have HT := Lib.hid (And.intro hd3 hb3)
         clear hd3 hb3))
  all_goals go_wp2
  all_goals go_ret
  all_goals exact ⟨_, _, by rw [List.map_append, List.map_cons], rfl, dcs_lb HT.out.1 (Nat.le_trans (Nat.le_trans hb H0.out.2.size) HJ.out.2.1.size), (H0.out.2.mono hb).trans ((HJ.out.2.1.mono (Nat.le_trans hb H0.out.2.size)).trans (HT.out.2.mono (Nat.le_trans (Nat.le_trans hb H0.out.2.size) HJ.out.2.1.size)))⟩

end Go.Proofs.Ytlginmnmobkbhaa
