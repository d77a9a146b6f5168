/-
  The document's fault: a flip that lies behind the datagram.
  The document's fault: a datagram is moved. Made by gen_cdoc6.py.
  The document's fault: a bit is flipped.
-/
import Derived.Test.YtkakbeiehggkiaaH25
namespace Go.Proofs.Ytkakbeiehggkiaa
open Go.RowKit

set_option maxRecDepth 100000 in
set_option maxHeartbeats 1000000 in
theorem fault_noflip {w : World} {base : Nat} {v : Value} {ps : List (Value × List Nat)} (h : Dcs w base base v ps) (hb : base ≤ w.heap.size) (i : Nat) (hi : i < ps.length) (n : Int) (hn63 : n ≤ 9223372036854775807) (hno : n < 0 ∨ ((ps[i]'hi).2.length : Int) ≤ n / 8) :
    Calls Try.prog 68 #[v, .agg #[.int .i64 4, .int .i64 (i : Int), .int .i64 n]] w (RetFd w base (ps.map Prod.snd)) := by
  have hb0 : Below w.heap.size w (w.alloc (.cells #[.int .i64 4, .int .i64 (i : Int), .int .i64 n] 106)) := (Below.refl _ _).alloc (Nat.le_refl _) _
  have h0 := dcs_below h hb0
  obtain ⟨g, c, e, hgl, hcell⟩ := dcs_at h0 i hi
  subst e
  have hel := h0.els _ (List.getElem_mem hi)
  obtain ⟨_, hrb⟩ := rb_of_owns hel.1
  obtain ⟨A, cp, hform⟩ := hrb.form
  obtain ⟨X, hX⟩ : ∃ X, X = (ps[i]'hi).2 := ⟨_, rfl⟩
  rw [← hX] at hform hno
  rw [hform] at hcell
  have H0 := Lib.hid (And.intro h0 hb0)
  have i1 : (i : Int) < (ps.length : Int) := by omega
  have i2 : ¬ (i : Int) < 0 := by omega
  clear h0 hb0 h hrb hel hform hX
  rcases Int.lt_or_le n 0 with hn | hn
  · clear hno
    go_enter Try.func68, Try.ntmps68
    go_wp2
    go_ret
    exact ⟨ps, _, rfl, rfl, H0.out.1, H0.out.2.mono hb⟩
  · have i3 : n.tdiv 8 = n / 8 := Int.tdiv_eq_ediv_of_nonneg hn
    have i4 : (X.length : Int) ≤ n / 8 := by omega
    have i5 : wrap64 (n / 8) = n / 8 := by unfold wrap64; omega
    have i6 : ¬ n < 0 := by omega
    clear hno
    go_enter Try.func68, Try.ntmps68
    go_wp2
    go_ret
    exact ⟨ps, _, rfl, rfl, H0.out.1, H0.out.2.mono hb⟩
end Go.Proofs.Ytkakbeiehggkiaa

namespace Go.Proofs.Ytkakbeiehggkiaa
open Go.RowKit

set_option maxRecDepth 100000 in
set_option maxHeartbeats 400000 in
theorem fault_moveA {w : World} {base : Nat} {v : Value} {ps M : List (Value × List Nat)} (h : Dcs w base base v ps) (hb : base ≤ w.heap.size) (hn2 : ps.length ≤ 900) (i : Nat) (hi : i < ps.length) (n : Int) (p : Nat) (hM : M = ps.eraseIdx i) (hn : n < 0 ∧ p = 0) :
    Calls Try.prog 68 #[v, .agg #[.int .i64 3, .int .i64 (i : Int), .int .i64 n]] w (RetFd w base ((M.take p).map Prod.snd ++ (ps[i]'hi).2 :: (M.drop p).map Prod.snd)) := by
  obtain ⟨W0, hW0⟩ : ∃ W0, W0 = w.alloc (.cells #[.int .i64 3, .int .i64 (i : Int), .int .i64 n] 106) := ⟨_, rfl⟩
  have hb0 : Below w.heap.size w W0 := by rw [hW0]; exact (Below.refl _ _).alloc (Nat.le_refl _) _
  have z0 : w.heap.size < W0.heap.size := by rw [hW0]; simp
  have hG : W0.heap[w.heap.size]? = some (.cells #[.int .i64 3, .int .i64 (i : Int), .int .i64 n] 106 (0, 0)) := by rw [hW0]; exact heap_alloc_new w _
  have h0 := dcs_below h hb0
  have hMl : M.length + 1 = ps.length := by rw [hM, List.length_eraseIdx_of_lt hi]; omega
  obtain ⟨g, c, e, hgl, hcell⟩ := dcs_at h0 i hi
  subst e
  have hel := h0.els _ (List.getElem_mem hi)
  obtain ⟨_, hrb⟩ := rb_of_owns hel.1
  obtain ⟨A, cp, hform⟩ := hrb.form
  obtain ⟨X, hX⟩ : ∃ X, X = (ps[i]'hi).2 := ⟨_, rfl⟩
  rw [← hX] at hform ⊢
  rw [hform] at hcell
  have hcellA := hcell
  rw [hW0] at hcellA
  have hel2 : El W0 base (.slice A X.length cp, X) := by
    have e : ps[i]'hi = (.slice A X.length cp, X) := by rw [← hform, hX]
    rw [← e]; exact hel
  obtain ⟨k0, k1, k2, kf⟩ := fr_blk hG (Below.refl _ _)
  have hpM : p ≤ M.length := by omega
  have hwo := without_any (dcs_below h0 (Below.refl _ _).drew) (by omega) i
  rw [← hM] at hwo
  have HO := Lib.hid hwo
  have HG := Lib.hid hG
  have HW := Lib.hid hW0
  have HM := Lib.hid (And.intro hMl hpM)
  have HE := Lib.hid hel2
  have H0 := Lib.hid (And.intro h0 hb0)
  have HN := Lib.hid hn2
  obtain ⟨L, hL⟩ : ∃ L, L = ps.length := ⟨_, rfl⟩
  have i1 : (i : Int) < (ps.length : Int) := by omega
  have i2 : ¬ (i : Int) < 0 := by omega
  have i3 : IntKind.i64.wrap ((ps.length : Int) - 1) = (ps.length : Int) - 1 := by rw [IntKind.wrap_i64]; omega
  obtain ⟨hn, hp0⟩ := hn
  have f1 : ¬ 0 < n := by omega
  have f2 : n ≤ 0 := by omega
  have f3 : (0 : Int) ≤ (ps.length : Int) - 1 := by omega
  have f4 : ¬ (ps.length : Int) - 1 < 0 := by omega
  clear h0 hb0 h hG hel hrb hform hX hM hwo hMl hpM hel2 hn2 hL
  go_enter Try.func68, Try.ntmps68
  clear hW0
  go_wp2_with fail
  rw [← HW.out]
  go_region_held3 (fun w' => w'.cell? ⟨w.heap.size, 1, none⟩ = some (.int .i64 (i : Int)) ∧ w'.cell? ⟨w.heap.size, 2, none⟩ = some (.int .i64 n))
    (first | exact ⟨k1, k2⟩ | exact ⟨j1, j2⟩ | exact ⟨q1, q2⟩ | go_keep)
    (first
      | (go_at_call 80
         refine HO.out.mono ?_
         rintro e w2 ⟨v2, rfl, hd2, b2⟩
         have b3 : Below W0.heap.size W0 w2 := (Below.refl _ _).drew.trans b2
         have e3 : El w2 base (.slice A X.length cp, X) := HE.out.only (only_below (S := fun _ => False) b3) (fun _ _ h => h)
         obtain ⟨j0, j1, j2, jf⟩ := fr_blk HG.out b3
         have HJ := Lib.hid (And.intro hd2 (And.intro b3 e3))
         clear hd2 b2 b3 e3)
      | (go_at_call 81
         refine (with_any HJ.out.1 (by have := HM.out.1; have := HN.out; omega) p _ (by have := HM.out.1; omega) HM.out.2 A cp X HJ.out.2.2).mono ?_
         rintro e w3 ⟨v3, rfl, hd3, hb3⟩
         have q1 : w3.cell? ⟨w.heap.size, 1, none⟩ = some (.int .i64 (i : Int)) := (hb3.cell (p := ⟨w.heap.size, 1, none⟩) (Nat.lt_of_lt_of_le z0 HJ.out.2.1.size)).trans j1
         have q2 : w3.cell? ⟨w.heap.size, 2, none⟩ = some (.int .i64 n) := (hb3.cell (p := ⟨w.heap.size, 2, none⟩) (Nat.lt_of_lt_of_le z0 HJ.out.2.1.size)).trans j2
         have HT := Lib.hid (And.intro hd3 hb3)
         clear hd3 hb3))
  all_goals go_wp2
  all_goals go_ret
  all_goals exact ⟨_, _, by rw [List.map_append, List.map_cons], rfl, dcs_lb HT.out.1 (Nat.le_trans (Nat.le_trans hb H0.out.2.size) HJ.out.2.1.size), (H0.out.2.mono hb).trans ((HJ.out.2.1.mono (Nat.le_trans hb H0.out.2.size)).trans (HT.out.2.mono (Nat.le_trans (Nat.le_trans hb H0.out.2.size) HJ.out.2.1.size)))⟩

set_option maxRecDepth 100000 in
set_option maxHeartbeats 400000 in
theorem fault_moveB {w : World} {base : Nat} {v : Value} {ps M : List (Value × List Nat)} (h : Dcs w base base v ps) (hb : base ≤ w.heap.size) (hn2 : ps.length ≤ 900) (i : Nat) (hi : i < ps.length) (n : Int) (p : Nat) (hM : M = ps.eraseIdx i) (hn : n = (p : Int) ∧ p < ps.length) :
    Calls Try.prog 68 #[v, .agg #[.int .i64 3, .int .i64 (i : Int), .int .i64 n]] w (RetFd w base ((M.take p).map Prod.snd ++ (ps[i]'hi).2 :: (M.drop p).map Prod.snd)) := by
  obtain ⟨W0, hW0⟩ : ∃ W0, W0 = w.alloc (.cells #[.int .i64 3, .int .i64 (i : Int), .int .i64 n] 106) := ⟨_, rfl⟩
  have hb0 : Below w.heap.size w W0 := by rw [hW0]; exact (Below.refl _ _).alloc (Nat.le_refl _) _
  have z0 : w.heap.size < W0.heap.size := by rw [hW0]; simp
  have hG : W0.heap[w.heap.size]? = some (.cells #[.int .i64 3, .int .i64 (i : Int), .int .i64 n] 106 (0, 0)) := by rw [hW0]; exact heap_alloc_new w _
  have h0 := dcs_below h hb0
  have hMl : M.length + 1 = ps.length := by rw [hM, List.length_eraseIdx_of_lt hi]; omega
  obtain ⟨g, c, e, hgl, hcell⟩ := dcs_at h0 i hi
  subst e
  have hel := h0.els _ (List.getElem_mem hi)
  obtain ⟨_, hrb⟩ := rb_of_owns hel.1
  obtain ⟨A, cp, hform⟩ := hrb.form
  obtain ⟨X, hX⟩ : ∃ X, X = (ps[i]'hi).2 := ⟨_, rfl⟩
  rw [← hX] at hform ⊢
  rw [hform] at hcell
  have hcellA := hcell
  rw [hW0] at hcellA
  have hel2 : El W0 base (.slice A X.length cp, X) := by
    have e : ps[i]'hi = (.slice A X.length cp, X) := by rw [← hform, hX]
    rw [← e]; exact hel
  obtain ⟨k0, k1, k2, kf⟩ := fr_blk hG (Below.refl _ _)
  have hpM : p ≤ M.length := by omega
  have hwo := without_any (dcs_below h0 (Below.refl _ _).drew) (by omega) i
  rw [← hM] at hwo
  have HO := Lib.hid hwo
  have HG := Lib.hid hG
  have HW := Lib.hid hW0
  have HM := Lib.hid (And.intro hMl hpM)
  have HE := Lib.hid hel2
  have H0 := Lib.hid (And.intro h0 hb0)
  have HN := Lib.hid hn2
  obtain ⟨L, hL⟩ : ∃ L, L = ps.length := ⟨_, rfl⟩
  have i1 : (i : Int) < (ps.length : Int) := by omega
  have i2 : ¬ (i : Int) < 0 := by omega
  have i3 : IntKind.i64.wrap ((ps.length : Int) - 1) = (ps.length : Int) - 1 := by rw [IntKind.wrap_i64]; omega
  obtain ⟨rfl, hn1⟩ := hn
  have f1 : ¬ (p : Int) < 0 := by omega
  have f2 : (0 : Int) ≤ (p : Int) := by omega
  have f3 : (p : Int) ≤ (ps.length : Int) - 1 := by omega
  have f4 : ¬ (ps.length : Int) - 1 < (p : Int) := by omega
  clear h0 hb0 h hG hel hrb hform hX hM hwo hMl hpM hel2 hn2 hL
  go_enter Try.func68, Try.ntmps68
  clear hW0
  go_wp2_with fail
  rw [← HW.out]
  go_region_held3 (fun w' => w'.cell? ⟨w.heap.size, 1, none⟩ = some (.int .i64 (i : Int)) ∧ w'.cell? ⟨w.heap.size, 2, none⟩ = some (.int .i64 (p : Int)))
    (first | exact ⟨k1, k2⟩ | exact ⟨j1, j2⟩ | exact ⟨q1, q2⟩ | go_keep)
    (first
      | (go_at_call 80
         refine HO.out.mono ?_
         rintro e w2 ⟨v2, rfl, hd2, b2⟩
         have b3 : Below W0.heap.size W0 w2 := (Below.refl _ _).drew.trans b2
         have e3 : El w2 base (.slice A X.length cp, X) := HE.out.only (only_below (S := fun _ => False) b3) (fun _ _ h => h)
         obtain ⟨j0, j1, j2, jf⟩ := fr_blk HG.out b3
         have HJ := Lib.hid (And.intro hd2 (And.intro b3 e3))
         clear hd2 b2 b3 e3)
      | (go_at_call 81
         refine (with_any HJ.out.1 (by have := HM.out.1; have := HN.out; omega) p _ (by have := HM.out.1; omega) HM.out.2 A cp X HJ.out.2.2).mono ?_
         rintro e w3 ⟨v3, rfl, hd3, hb3⟩
         have q1 : w3.cell? ⟨w.heap.size, 1, none⟩ = some (.int .i64 (i : Int)) := (hb3.cell (p := ⟨w.heap.size, 1, none⟩) (Nat.lt_of_lt_of_le z0 HJ.out.2.1.size)).trans j1
         have q2 : w3.cell? ⟨w.heap.size, 2, none⟩ = some (.int .i64 (p : Int)) := (hb3.cell (p := ⟨w.heap.size, 2, none⟩) (Nat.lt_of_lt_of_le z0 HJ.out.2.1.size)).trans j2
         have HT := Lib.hid (And.intro hd3 hb3)
         clear hd3 hb3))
  all_goals go_wp2
  all_goals go_ret
  all_goals exact ⟨_, _, by rw [List.map_append, List.map_cons], rfl, dcs_lb HT.out.1 (Nat.le_trans (Nat.le_trans hb H0.out.2.size) HJ.out.2.1.size), (H0.out.2.mono hb).trans ((HJ.out.2.1.mono (Nat.le_trans hb H0.out.2.size)).trans (HT.out.2.mono (Nat.le_trans (Nat.le_trans hb H0.out.2.size) HJ.out.2.1.size)))⟩

set_option maxRecDepth 100000 in
set_option maxHeartbeats 400000 in
theorem fault_moveC {w : World} {base : Nat} {v : Value} {ps M : List (Value × List Nat)} (h : Dcs w base base v ps) (hb : base ≤ w.heap.size) (hn2 : ps.length ≤ 900) (i : Nat) (hi : i < ps.length) (n : Int) (p : Nat) (hM : M = ps.eraseIdx i) (hn : (ps.length : Int) ≤ n ∧ p + 1 = ps.length) :
    Calls Try.prog 68 #[v, .agg #[.int .i64 3, .int .i64 (i : Int), .int .i64 n]] w (RetFd w base ((M.take p).map Prod.snd ++ (ps[i]'hi).2 :: (M.drop p).map Prod.snd)) := by
  obtain ⟨W0, hW0⟩ : ∃ W0, W0 = w.alloc (.cells #[.int .i64 3, .int .i64 (i : Int), .int .i64 n] 106) := ⟨_, rfl⟩
  have hb0 : Below w.heap.size w W0 := by rw [hW0]; exact (Below.refl _ _).alloc (Nat.le_refl _) _
  have z0 : w.heap.size < W0.heap.size := by rw [hW0]; simp
  have hG : W0.heap[w.heap.size]? = some (.cells #[.int .i64 3, .int .i64 (i : Int), .int .i64 n] 106 (0, 0)) := by rw [hW0]; exact heap_alloc_new w _
  have h0 := dcs_below h hb0
  have hMl : M.length + 1 = ps.length := by rw [hM, List.length_eraseIdx_of_lt hi]; omega
  obtain ⟨g, c, e, hgl, hcell⟩ := dcs_at h0 i hi
  subst e
  have hel := h0.els _ (List.getElem_mem hi)
  obtain ⟨_, hrb⟩ := rb_of_owns hel.1
  obtain ⟨A, cp, hform⟩ := hrb.form
  obtain ⟨X, hX⟩ : ∃ X, X = (ps[i]'hi).2 := ⟨_, rfl⟩
  rw [← hX] at hform ⊢
  rw [hform] at hcell
  have hcellA := hcell
  rw [hW0] at hcellA
  have hel2 : El W0 base (.slice A X.length cp, X) := by
    have e : ps[i]'hi = (.slice A X.length cp, X) := by rw [← hform, hX]
    rw [← e]; exact hel
  obtain ⟨k0, k1, k2, kf⟩ := fr_blk hG (Below.refl _ _)
  have hpM : p ≤ M.length := by omega
  have hwo := without_any (dcs_below h0 (Below.refl _ _).drew) (by omega) i
  rw [← hM] at hwo
  have HO := Lib.hid hwo
  have HG := Lib.hid hG
  have HW := Lib.hid hW0
  have HM := Lib.hid (And.intro hMl hpM)
  have HE := Lib.hid hel2
  have H0 := Lib.hid (And.intro h0 hb0)
  have HN := Lib.hid hn2
  obtain ⟨L, hL⟩ : ∃ L, L = ps.length := ⟨_, rfl⟩
  have i1 : (i : Int) < (ps.length : Int) := by omega
  have i2 : ¬ (i : Int) < 0 := by omega
  have i3 : IntKind.i64.wrap ((ps.length : Int) - 1) = (ps.length : Int) - 1 := by rw [IntKind.wrap_i64]; omega
  obtain ⟨hn, hp1⟩ := hn
  have f1 : ¬ n < 0 := by omega
  have f2 : 0 ≤ n := by omega
  have f3 : (ps.length : Int) - 1 < n := by omega
  have f4 : ¬ n ≤ (ps.length : Int) - 1 := by omega
  clear h0 hb0 h hG hel hrb hform hX hM hwo hMl hpM hel2 hn2 hL
  go_enter Try.func68, Try.ntmps68
  clear hW0
  go_wp2_with fail
  rw [← HW.out]
  go_region_held3 (fun w' => w'.cell? ⟨w.heap.size, 1, none⟩ = some (.int .i64 (i : Int)) ∧ w'.cell? ⟨w.heap.size, 2, none⟩ = some (.int .i64 n))
    (first | exact ⟨k1, k2⟩ | exact ⟨j1, j2⟩ | exact ⟨q1, q2⟩ | go_keep)
    (first
      | (go_at_call 80
         refine HO.out.mono ?_
         rintro e w2 ⟨v2, rfl, hd2, b2⟩
         have b3 : Below W0.heap.size W0 w2 := (Below.refl _ _).drew.trans b2
         have e3 : El w2 base (.slice A X.length cp, X) := HE.out.only (only_below (S := fun _ => False) b3) (fun _ _ h => h)
         obtain ⟨j0, j1, j2, jf⟩ := fr_blk HG.out b3
         have HJ := Lib.hid (And.intro hd2 (And.intro b3 e3))
         clear hd2 b2 b3 e3)
      | (go_at_call 81
         refine (with_any HJ.out.1 (by have := HM.out.1; have := HN.out; omega) p _ (by have := HM.out.1; omega) HM.out.2 A cp X HJ.out.2.2).mono ?_
         rintro e w3 ⟨v3, rfl, hd3, hb3⟩
         have q1 : w3.cell? ⟨w.heap.size, 1, none⟩ = some (.int .i64 (i : Int)) := (hb3.cell (p := ⟨w.heap.size, 1, none⟩) (Nat.lt_of_lt_of_le z0 HJ.out.2.1.size)).trans j1
         have q2 : w3.cell? ⟨w.heap.size, 2, none⟩ = some (.int .i64 n) := (hb3.cell (p := ⟨w.heap.size, 2, none⟩) (Nat.lt_of_lt_of_le z0 HJ.out.2.1.size)).trans j2
         have HT := Lib.hid (And.intro hd3 hb3)
         clear hd3 hb3))
  all_goals go_wp2
  all_goals go_ret
  all_goals exact ⟨_, _, by rw [List.map_append, List.map_cons], rfl, dcs_lb HT.out.1 (Nat.le_trans (Nat.le_trans hb H0.out.2.size) HJ.out.2.1.size), (H0.out.2.mono hb).trans ((HJ.out.2.1.mono (Nat.le_trans hb H0.out.2.size)).trans (HT.out.2.mono (Nat.le_trans (Nat.le_trans hb H0.out.2.size) HJ.out.2.1.size)))⟩

end Go.Proofs.Ytkakbeiehggkiaa

namespace Go.Proofs.Ytkakbeiehggkiaa
open Go.RowKit

theorem joined_bel0 {W w2 : World} {o : Obj} (b2 : Below (W.alloc o).heap.size (W.alloc o) w2) : Below W.heap.size W w2 := by
  have h1 : Below W.heap.size W (W.alloc o) := (Below.refl W.heap.size W).alloc (Nat.le_refl _) o
  exact h1.trans (b2.mono h1.size)
theorem joined_el0 {W w2 : World} {o : Obj} {base c2 : Nat} {A2 : Option Addr} {X : List Nat} (hb : base ≤ W.heap.size) (o2 : w2.ownsRow (W.alloc o).heap.size 5 1 (.slice A2 X.length c2) X.length (bys X)) (hX : X.length ≤ 1048576) (hB : AllB X) : El w2 base (.slice A2 X.length c2, X) ∧ El w2 W.heap.size (.slice A2 X.length c2, X) := by
  have h1 : Below W.heap.size W (W.alloc o) := (Below.refl W.heap.size W).alloc (Nat.le_refl _) o
  exact ⟨⟨owns_base o2 (Nat.le_trans hb h1.size), hB, hX⟩, ⟨owns_base o2 h1.size, hB, hX⟩⟩

set_option maxRecDepth 100000 in
set_option maxHeartbeats 1000000 in
theorem fault_flip {w : World} {base : Nat} {v : Value} {ps M : List (Value × List Nat)} (h : Dcs w base base v ps) (hb : base ≤ w.heap.size) (hn2 : ps.length ≤ 900) (i : Nat) (hi : i < ps.length) (hM : M = ps.eraseIdx i) (m x : Nat) (hm63 : m ≤ 9223372036854775807) (hx : (ps[i]'hi).2[m / 8]? = some x) :
    Calls Try.prog 68 #[v, .agg #[.int .i64 4, .int .i64 (i : Int), .int .i64 (m : Int)]] w (RetFd w base ((M.take i).map Prod.snd ++ ((ps[i]'hi).2.set (m / 8) (flB x m)) :: (M.drop i).map Prod.snd)) := by
  obtain ⟨W0, hW0⟩ : ∃ W0, W0 = w.alloc (.cells #[.int .i64 4, .int .i64 (i : Int), .int .i64 (m : Int)] 106) := ⟨_, rfl⟩
  have hb0 : Below w.heap.size w W0 := by rw [hW0]; exact (Below.refl _ _).alloc (Nat.le_refl _) _
  have z0 : w.heap.size < W0.heap.size := by rw [hW0]; simp
  have hG : W0.heap[w.heap.size]? = some (.cells #[.int .i64 4, .int .i64 (i : Int), .int .i64 (m : Int)] 106 (0, 0)) := by rw [hW0]; exact heap_alloc_new w _
  have h0 := dcs_below h hb0
  have hMl : M.length + 1 = ps.length := by rw [hM, List.length_eraseIdx_of_lt hi]; omega
  obtain ⟨g, c, e, hgl, hcell⟩ := dcs_at h0 i hi
  subst e
  have hel := h0.els _ (List.getElem_mem hi)
  obtain ⟨_, hrb⟩ := rb_of_owns hel.1
  obtain ⟨A, cp, hform⟩ := hrb.form
  obtain ⟨X, hX⟩ : ∃ X, X = (ps[i]'hi).2 := ⟨_, rfl⟩
  rw [← hX] at hform hrb hx ⊢
  rw [hform] at hcell hrb
  have hcellA := hcell
  rw [hW0] at hcellA
  have hX2 : X.length ≤ 1048576 ∧ AllB X := by rw [hX]; exact ⟨hel.2.2, hel.2.1⟩
  have hm : m / 8 < X.length := (List.getElem?_eq_some_iff.1 hx).1
  obtain ⟨k0, k1, k2, kf⟩ := fr_blk hG (Below.refl _ _)
  have hjo := joined_1 hrb hX2.1
  have z1 : W0.heap.size = w.heap.size + 1 := by rw [hW0]; simp
  rw [z1, hW0] at hjo
  have HJO := Lib.hid hjo
  have HG := Lib.hid hG
  have HW := Lib.hid hW0
  have HR := Lib.hid (And.intro hrb (And.intro hX2 (And.intro hx hM)))
  have H0 := Lib.hid (And.intro h0 hb0)
  have HN := Lib.hid (And.intro hn2 hMl)
  have i1 : (i : Int) < (ps.length : Int) := by omega
  have i0 : ¬ (i : Int) < 0 := by omega
  have i2 : (m : Int).tdiv 8 = ((m / 8 : Nat) : Int) := by rw [Int.tdiv_eq_ediv_of_nonneg (by omega)]; omega
  have i3 : (m : Int).tmod 8 = ((m % 8 : Nat) : Int) := by rw [Int.tmod_eq_emod_of_nonneg (by omega)]; omega
  have i4 : ((m / 8 : Nat) : Int) < (X.length : Int) := by omega
  have i5 : ((m : Int) / 8).toNat = m / 8 := by omega
  have i6 : ((m : Int) % 8).toNat = m % 8 := by omega
  have i7 : (0 : Int) ≤ (m : Int) / 8 := by omega
  have i8 : (0 : Int) ≤ (m : Int) % 8 := by omega
  have i9 : (m : Int) / 8 < (X.length : Int) := by omega
  clear hjo h0 hb0 h hG hel hrb hform hX hX2 hM hMl hn2 hx
  go_enter Try.func68, Try.ntmps68
  clear hW0
  go_wp2_with (go_at_call 59
               refine HJO.out.mono ?_
               rintro e w2 ⟨v2, rfl, o2, b2⟩
               rw [← HW.out] at o2 b2
               obtain ⟨A2, c2, e2⟩ := (rb_of_owns o2).2.form
               subst e2
               have b3 : Below W0.heap.size W0 w2 := joined_bel0 b2
               obtain ⟨el1, el2⟩ := joined_el0 (base := base) (Nat.le_trans hb H0.out.2.size) o2 HR.out.2.1.1 HR.out.2.1.2
               obtain ⟨b, cp2, cur, e5, hbb, hblk, hcap, hcs, hcm, hget⟩ := el_blk el2 (Nat.lt_of_le_of_lt (Nat.zero_le _) hm)
               injection e5 with e6 e7 e8
               subst e6
               subst e8
               obtain ⟨j0, j1, j2, jf⟩ := fr_blk HG.out b3
               have hxc : w2.cell? ⟨b, m / 8, none⟩ = some (.int .u8 (x : Int)) := (cell_of_row _ _ _ _ _ _ hblk).trans (hget _ _ HR.out.2.2.1)
               have hxf : ∀ j, w2.frozen? ⟨b, j, none⟩ = false := fun j => by simp [World.frozen?, hblk]
               have HB := Lib.hid (And.intro hbb (And.intro b3 (And.intro el1 hblk)))
               clear o2 b2 b3 el1 el2 hbb hblk hcap hcs hcm hget e7)
  go_region
  rw [flB_int]
  go_wp2_with fail
  obtain ⟨Y, hY⟩ : ∃ Y, Y = X.set (m / 8) (flB x m) := ⟨_, rfl⟩
  rw [← hY]
  have hYl : Y.length = X.length := by rw [hY, List.length_set]
  have HY := Lib.hid hYl
  have HYe := Lib.hid hY
  have bs : Below W0.heap.size W0 (w2.setCell ⟨b, m / 8, none⟩ (.int .u8 (flB x m : Nat))).drew := HB.out.2.1.trans (((only_set (S := fun k => k = b) (p := ⟨b, m / 8, none⟩) _ rfl).below HB.out.2.1.size (fun k e => e ▸ HB.out.1)).trans (Below.refl _ _).drew)
  have es : El (w2.setCell ⟨b, m / 8, none⟩ (.int .u8 (flB x m : Nat))).drew base (.slice (some ⟨b, 0, none⟩) X.length c2, Y) := by
    rw [hY]
    exact (el_put HB.out.2.2.1 (m / 8) (flB x m) (flB_lt x m)).only (only_below (S := fun _ => False) (Below.refl _ _).drew) (fun _ _ h => h)
  generalize (w2.setCell ⟨b, m / 8, none⟩ (.int .u8 (flB x m : Nat))).drew = W5 at bs es ⊢
  have hwo := without_any (dcs_below (dcs_below H0.out.1 bs) (Below.refl _ _).drew) (by have := HN.out.1; omega) i
  rw [← HR.out.2.2.2] at hwo
  have HO := Lib.hid hwo
  obtain ⟨t0, t1, t2, tf⟩ := fr_blk HG.out bs
  have HS := Lib.hid (And.intro bs es)
  clear bs es hwo hY hYl j0 j1 j2 jf hxc hxf
  go_region_held3 (fun w' => w'.cell? ⟨w.heap.size, 1, none⟩ = some (.int .i64 (i : Int)))
    (first | exact t1 | exact j1 | exact q1 | go_keep)
    (first
      | (go_at_call 80
         refine HO.out.mono ?_
         rintro e w6 ⟨v6, rfl, hd6, b6⟩
         have b7 : Below W0.heap.size W0 w6 := HS.out.1.trans (((Below.refl W5.heap.size W5).drew.trans b6).mono HS.out.1.size)
         have e7 : El w6 base (.slice (some ⟨b, 0, none⟩) X.length c2, Y) := HS.out.2.only (only_below (S := fun _ => False) ((Below.refl _ _).drew.trans b6)) (fun _ _ h => h)
         obtain ⟨j0, j1, j2, jf⟩ := fr_blk HG.out b7
         have HJ := Lib.hid (And.intro hd6 (And.intro b7 e7))
         clear hd6 b6 b7 e7)
      | (go_at_call 81
         have hw := with_any HJ.out.1 (by have := HN.out; omega) i _ rfl (by have := HN.out; omega) (some ⟨b, 0, none⟩) c2 Y (by rw [HY.out]; exact HJ.out.2.2)
         rw [HY.out] at hw
         refine hw.mono ?_
         rintro e w3 ⟨v3, rfl, hd3, hb3⟩
         have q1 : w3.cell? ⟨w.heap.size, 1, none⟩ = some (.int .i64 (i : Int)) := (hb3.cell (p := ⟨w.heap.size, 1, none⟩) (Nat.lt_of_lt_of_le z0 HJ.out.2.1.size)).trans j1
         have HT := Lib.hid (And.intro hd3 hb3)
         clear hd3 hb3 hw))
  all_goals go_wp2
  all_goals go_ret
  all_goals exact ⟨_, _, by rw [List.map_append, List.map_cons, ← HYe.out], rfl, dcs_lb HT.out.1 (Nat.le_trans (Nat.le_trans hb H0.out.2.size) HJ.out.2.1.size), (H0.out.2.mono hb).trans ((HJ.out.2.1.mono (Nat.le_trans hb H0.out.2.size)).trans (HT.out.2.mono (Nat.le_trans (Nat.le_trans hb H0.out.2.size) HJ.out.2.1.size)))⟩
end Go.Proofs.Ytkakbeiehggkiaa
