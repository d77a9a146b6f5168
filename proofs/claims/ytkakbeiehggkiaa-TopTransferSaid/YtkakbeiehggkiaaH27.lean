/-
  The document's fault: a datagram is cut. Made by gen_cdoc8.py.
-/
import Derived.Test.YtkakbeiehggkiaaH26
namespace Go.Proofs.Ytkakbeiehggkiaa
open Go.RowKit

theorem rb_cut {w : World} {B c m : Nat} {A : Option Addr} {X : List Nat} (h : RB w B (.slice A X.length c) X) (hm : m ≤ X.length) : RB w B (.slice A m c) (X.take m) := by
  refine ⟨h.1.take hm, ?_⟩
  cases A with
  | some a => exact nz_some
  | none =>
    obtain ⟨h1, h2⟩ := h.2 _ _ rfl
    intro n' c' e
    injection e with _ e1 e2
    omega
/-- joined of one, wherever the one lies. -/
theorem joined_at {W : World} {k : Nat} {A : Option Addr} {n c : Nat} {Z : List Nat} (hc : W.cell? ⟨k, 0, none⟩ = some (.slice A n c)) (hk : k < W.heap.size) (hr : RB W W.heap.size (.slice A n c) Z) (hl : Z.length ≤ 1048576) :
    Calls Try.prog 59 #[.slice (some ⟨k, 0, none⟩) 1 1] W (RetOwn W Z) := by
  have h := joined_any 1 k W.heap.size 1 (fun _ => .slice A n c) (fun _ => Z) W (fun j hj => by
      have : j = 0 := by omega
      subst this
      exact hc) (fun j _ => hr) (Nat.le_refl _) hk (by omega) (Nat.le_refl _) (by simp [flat]; omega)
  have e : flat (fun _ => Z) 1 = Z := by simp [flat]
  rw [e] at h
  exact h
/-- Behind joined, whatever was there. -/
theorem cut_joined {W0 w2 w4 : World} {base : Nat} {v2 : Value} {M : List (Value × List Nat)} {A4 : Option Addr} {c4 : Nat} {Z : List Nat} (hb : base ≤ W0.heap.size) (b : Below W0.heap.size W0 w2) (hd : Dcs w2 base base v2 M) (o4 : w4.ownsRow w2.heap.size 5 1 (.slice A4 Z.length c4) Z.length (bys Z)) (b4 : Below w2.heap.size w2 w4) (hZ : Z.length ≤ 1048576) (hB : AllB Z) :
    Dcs w4 base base v2 M ∧ Below W0.heap.size W0 w4 ∧ El w4 base (.slice A4 Z.length c4, Z) :=
  ⟨dcs_below hd b4, b.trans (b4.mono b.size), owns_base o4 (Nat.le_trans hb b.size), hB, hZ⟩

set_option maxRecDepth 100000 in
set_option maxHeartbeats 1000000 in
theorem fault_cutA {w : World} {base : Nat} {v : Value} {ps M : List (Value × List Nat)} (h : Dcs w base base v ps) (hb : base ≤ w.heap.size) (hn2 : ps.length ≤ 900) (i : Nat) (hi : i < ps.length) (hM : M = ps.eraseIdx i) (n : Int) (X : List Nat) (hX : X = (ps[i]'hi).2) (p : Nat) (hn : n < 0 ∧ p = 0) :
    Calls Try.prog 68 #[v, .agg #[.int .i64 5, .int .i64 (i : Int), .int .i64 n]] w (RetFd w base ((M.take i).map Prod.snd ++ X.take p :: (M.drop i).map Prod.snd)) := by
  obtain ⟨W0, hW0⟩ : ∃ W0, W0 = w.alloc (.cells #[.int .i64 5, .int .i64 (i : Int), .int .i64 n] 106) := ⟨_, rfl⟩
  have hb0 : Below w.heap.size w W0 := by rw [hW0]; exact (Below.refl _ _).alloc (Nat.le_refl _) _
  have z0 : w.heap.size < W0.heap.size := by rw [hW0]; simp
  have hG : W0.heap[w.heap.size]? = some (.cells #[.int .i64 5, .int .i64 (i : Int), .int .i64 n] 106 (0, 0)) := by rw [hW0]; exact heap_alloc_new w _
  have h0 := dcs_below h hb0
  have hMl : M.length + 1 = ps.length := by rw [hM, List.length_eraseIdx_of_lt hi]; omega
  obtain ⟨g, c, e, hgl, hcell⟩ := dcs_at h0 i hi
  subst e
  have hel := h0.els _ (List.getElem_mem hi)
  obtain ⟨_, hrb⟩ := rb_of_owns hel.1
  obtain ⟨A, cp, hform⟩ := hrb.form
  rw [← hX] at hform hrb
  rw [hform] at hcell hrb
  have hcellA := hcell
  rw [hW0] at hcellA
  have hX2 : X.length ≤ 1048576 ∧ AllB X := by rw [hX]; exact ⟨hel.2.2, hel.2.1⟩
  have hcap : X.length ≤ cp := hrb.1.cap.1
  have hpX : p ≤ X.length := by omega
  obtain ⟨Z, hZ⟩ : ∃ Z, Z = X.take p := ⟨_, rfl⟩
  have hZl : Z.length = p := by rw [hZ, List.length_take]; omega
  have hrz : RB W0 W0.heap.size (.slice A p cp) Z := by rw [hZ]; exact rb_cut hrb hpX
  have hZB : AllB Z := by rw [hZ]; exact fun x hx => hX2.2 x (List.mem_of_mem_take hx)
  rw [← hZ]
  obtain ⟨hn, rfl⟩ := hn
  obtain ⟨k0, k1, k2, kf⟩ := fr_blk hG (Below.refl _ _)
  have hda := dcs_below h0 (((Below.refl W0.heap.size W0).drew).alloc (Nat.le_refl _) (.cells #[.slice A 0 cp] 33))
  have hwo1 := without_any (dcs_below h0 (Below.refl _ _).drew) (by omega) i
  have hwo2 := without_any hda (by omega) i
  rw [← hM] at hwo1 hwo2
  have HO1 := Lib.hid hwo1
  have HO2 := Lib.hid hwo2
  have HG := Lib.hid hG
  have HW := Lib.hid hW0
  have HR := Lib.hid (And.intro hrz (And.intro (show Z.length ≤ 1048576 by omega) hZB))
  have H0 := Lib.hid (And.intro h0 hb0)
  have HN := Lib.hid (And.intro hn2 hMl)
  have i1 : (i : Int) < (ps.length : Int) := by omega
  have i0 : ¬ (i : Int) < 0 := by omega
  have s1 : (0 : Nat) ≤ cp := by omega
  have s2 : (0 : Int) ≤ (cp : Int) := by omega
  have f1 : ¬ 0 < n := by omega
  have f2 : n ≤ 0 := by omega
  have f3 : (0 : Int) ≤ (X.length : Int) := by omega
  have f4 : ¬ (X.length : Int) < 0 := by omega
  have f5 : (0 : Int) ≤ (cp : Int) := by omega
  have f6 : (X.length : Int) ≤ (cp : Int) := by omega
  clear hda hwo1 hwo2 h0 hb0 h hG hel hrb hform hX hX2 hM hMl hn2 hZ hZl hrz hZB
  go_enter Try.func68, Try.ntmps68
  clear hW0
  go_wp2_with fail
  rw [← HW.out]
  have hmx : (if n < 0 then (0 : Int) else n) = 0 := if_pos (by omega)
  have hmn : (if (X.length : Int) < 0 then (X.length : Int) else 0) = 0 := if_neg (by omega)
  cases A with
  | some a =>
    go_region_held3 (fun w' => w'.cell? ⟨w.heap.size, 1, none⟩ = some (.int .i64 (i : Int)) ∧ w'.cell? ⟨w.heap.size, 2, none⟩ = some (.int .i64 n))
      (first | exact ⟨k1, k2⟩ | exact ⟨j1, j2⟩ | exact ⟨l1, l2⟩ | exact ⟨q1, q2⟩ | go_keep)
      (first
        | (go_at_call 80
           refine HO1.out.mono ?_
           rintro e w2 ⟨v2, rfl, hd2, b2⟩
           have b3 : Below W0.heap.size W0 w2 := (Below.refl _ _).drew.trans b2
           obtain ⟨j0, j1, j2, jf⟩ := fr_blk HG.out b3
           have HJ := Lib.hid (And.intro (dcs_lb (lb' := base) hd2 (Nat.le_trans hb H0.out.2.size)) (And.intro b3 (show RB w2 w2.heap.size (.slice (some a) 0 cp) Z from (HR.out.1.belowM b3 (Nat.le_refl _)).more b3.size)))
           clear hd2 b2 b3)
        | (go_at_call 80
           refine HO2.out.mono ?_
           rintro e w2 ⟨v2, rfl, hd2, b2⟩
           have ba : Below W0.heap.size W0 (W0.drew.alloc (.cells #[.slice (some a) 0 cp] 33)) := (Below.refl W0.heap.size W0).drew.alloc (Nat.le_refl _) _
           have b3 : Below W0.heap.size W0 w2 := ba.trans (b2.mono ba.size)
           have hcA : w2.cell? ⟨W0.heap.size, 0, none⟩ = some (.slice (some a) 0 cp) := (b2.cell (p := ⟨W0.heap.size, 0, none⟩) (by show W0.heap.size < _; simp)).trans (cell_of_row _ _ _ _ _ _ (heap_alloc_new W0.drew _))
           have hlA : W0.heap.size < w2.heap.size := Nat.lt_of_lt_of_le (by simp) b2.size
           obtain ⟨j0, j1, j2, jf⟩ := fr_blk HG.out b3
           have HJ := Lib.hid (And.intro (dcs_lb (lb' := base) hd2 (Nat.le_trans hb (Nat.le_trans H0.out.2.size ba.size))) (And.intro b3 (And.intro (show RB w2 w2.heap.size (.slice (some a) 0 cp) Z from (HR.out.1.belowM b3 (Nat.le_refl _)).more b3.size) (And.intro hcA hlA))))
           clear hd2 b2 b3 ba hcA hlA)
        | (go_at_call 59
           refine (joined_at HJ.out.2.2.2.1 HJ.out.2.2.2.2 HJ.out.2.2.1 HR.out.2.1).mono ?_
           rintro e w4 ⟨v4, rfl, o4, b4⟩
           obtain ⟨A4, c4, e4⟩ := (rb_of_owns o4).2.form
           subst e4
           have hk := cut_joined (Nat.le_trans hb H0.out.2.size) HJ.out.2.1 HJ.out.1 o4 b4 HR.out.2.1 HR.out.2.2
           obtain ⟨l0, l1, l2, lf⟩ := fr_blk HG.out hk.2.1
           have HK := Lib.hid hk
           clear o4 b4 hk)
        | (go_at_call 59
           have ba : Below w2.heap.size w2 (w2.alloc (.cells #[.slice (some a) 0 cp] 33)) := (Below.refl w2.heap.size w2).alloc (Nat.le_refl _) _
           refine (joined_at (cell_of_row _ _ _ _ _ _ (heap_alloc_new w2 _)) (by simp) ((HJ.out.2.2.belowM ba (Nat.le_refl _)).more ba.size) HR.out.2.1).mono ?_
           rintro e w4 ⟨v4, rfl, o4, b4⟩
           obtain ⟨A4, c4, e4⟩ := (rb_of_owns o4).2.form
           subst e4
           have hk := cut_joined (Nat.le_trans hb H0.out.2.size) (HJ.out.2.1.trans (ba.mono HJ.out.2.1.size)) (dcs_below HJ.out.1 ba) o4 b4 HR.out.2.1 HR.out.2.2
           obtain ⟨l0, l1, l2, lf⟩ := fr_blk HG.out hk.2.1
           have HK := Lib.hid hk
           clear o4 b4 hk ba)
        | (go_at_call 81
           refine (with_any HK.out.1 (by have := HN.out; omega) i _ rfl (by have := HN.out; omega) A4 c4 Z HK.out.2.2).mono ?_
           rintro e w3 ⟨v3, rfl, hd3, hb3⟩
           have q1 : w3.cell? ⟨w.heap.size, 1, none⟩ = some (.int .i64 (i : Int)) := (hb3.cell (p := ⟨w.heap.size, 1, none⟩) (Nat.lt_of_lt_of_le z0 HK.out.2.1.size)).trans l1
           have q2 : w3.cell? ⟨w.heap.size, 2, none⟩ = some (.int .i64 n) := (hb3.cell (p := ⟨w.heap.size, 2, none⟩) (Nat.lt_of_lt_of_le z0 HK.out.2.1.size)).trans l2
           have HT := Lib.hid (And.intro hd3 hb3)
           clear hd3 hb3)
        | (go_simp; rw [hmx])
        | (go_simp; rw [hmn]))
    all_goals go_wp2
    all_goals go_ret
    all_goals exact ⟨_, _, by rw [List.map_append, List.map_cons], rfl, dcs_lb HT.out.1 (Nat.le_trans (Nat.le_trans hb H0.out.2.size) HK.out.2.1.size), (H0.out.2.mono hb).trans ((HK.out.2.1.mono (Nat.le_trans hb H0.out.2.size)).trans (HT.out.2.mono (Nat.le_trans (Nat.le_trans hb H0.out.2.size) HK.out.2.1.size)))⟩
  | none =>
    go_region_held3 (fun w' => w'.cell? ⟨w.heap.size, 1, none⟩ = some (.int .i64 (i : Int)) ∧ w'.cell? ⟨w.heap.size, 2, none⟩ = some (.int .i64 n))
      (first | exact ⟨k1, k2⟩ | exact ⟨j1, j2⟩ | exact ⟨l1, l2⟩ | exact ⟨q1, q2⟩ | go_keep)
      (first
        | (go_at_call 80
           refine HO1.out.mono ?_
           rintro e w2 ⟨v2, rfl, hd2, b2⟩
           have b3 : Below W0.heap.size W0 w2 := (Below.refl _ _).drew.trans b2
           obtain ⟨j0, j1, j2, jf⟩ := fr_blk HG.out b3
           have HJ := Lib.hid (And.intro (dcs_lb (lb' := base) hd2 (Nat.le_trans hb H0.out.2.size)) (And.intro b3 (show RB w2 w2.heap.size (.slice none 0 cp) Z from (HR.out.1.belowM b3 (Nat.le_refl _)).more b3.size)))
           clear hd2 b2 b3)
        | (go_at_call 80
           refine HO2.out.mono ?_
           rintro e w2 ⟨v2, rfl, hd2, b2⟩
           have ba : Below W0.heap.size W0 (W0.drew.alloc (.cells #[.slice none 0 cp] 33)) := (Below.refl W0.heap.size W0).drew.alloc (Nat.le_refl _) _
           have b3 : Below W0.heap.size W0 w2 := ba.trans (b2.mono ba.size)
           have hcA : w2.cell? ⟨W0.heap.size, 0, none⟩ = some (.slice none 0 cp) := (b2.cell (p := ⟨W0.heap.size, 0, none⟩) (by show W0.heap.size < _; simp)).trans (cell_of_row _ _ _ _ _ _ (heap_alloc_new W0.drew _))
           have hlA : W0.heap.size < w2.heap.size := Nat.lt_of_lt_of_le (by simp) b2.size
           obtain ⟨j0, j1, j2, jf⟩ := fr_blk HG.out b3
           have HJ := Lib.hid (And.intro (dcs_lb (lb' := base) hd2 (Nat.le_trans hb (Nat.le_trans H0.out.2.size ba.size))) (And.intro b3 (And.intro (show RB w2 w2.heap.size (.slice none 0 cp) Z from (HR.out.1.belowM b3 (Nat.le_refl _)).more b3.size) (And.intro hcA hlA))))
           clear hd2 b2 b3 ba hcA hlA)
        | (go_at_call 59
           refine (joined_at HJ.out.2.2.2.1 HJ.out.2.2.2.2 HJ.out.2.2.1 HR.out.2.1).mono ?_
           rintro e w4 ⟨v4, rfl, o4, b4⟩
           obtain ⟨A4, c4, e4⟩ := (rb_of_owns o4).2.form
           subst e4
           have hk := cut_joined (Nat.le_trans hb H0.out.2.size) HJ.out.2.1 HJ.out.1 o4 b4 HR.out.2.1 HR.out.2.2
           obtain ⟨l0, l1, l2, lf⟩ := fr_blk HG.out hk.2.1
           have HK := Lib.hid hk
           clear o4 b4 hk)
        | (go_at_call 59
           have ba : Below w2.heap.size w2 (w2.alloc (.cells #[.slice none 0 cp] 33)) := (Below.refl w2.heap.size w2).alloc (Nat.le_refl _) _
           refine (joined_at (cell_of_row _ _ _ _ _ _ (heap_alloc_new w2 _)) (by simp) ((HJ.out.2.2.belowM ba (Nat.le_refl _)).more ba.size) HR.out.2.1).mono ?_
           rintro e w4 ⟨v4, rfl, o4, b4⟩
           obtain ⟨A4, c4, e4⟩ := (rb_of_owns o4).2.form
           subst e4
           have hk := cut_joined (Nat.le_trans hb H0.out.2.size) (HJ.out.2.1.trans (ba.mono HJ.out.2.1.size)) (dcs_below HJ.out.1 ba) o4 b4 HR.out.2.1 HR.out.2.2
           obtain ⟨l0, l1, l2, lf⟩ := fr_blk HG.out hk.2.1
           have HK := Lib.hid hk
           clear o4 b4 hk ba)
        | (go_at_call 81
           refine (with_any HK.out.1 (by have := HN.out; omega) i _ rfl (by have := HN.out; omega) A4 c4 Z HK.out.2.2).mono ?_
           rintro e w3 ⟨v3, rfl, hd3, hb3⟩
           have q1 : w3.cell? ⟨w.heap.size, 1, none⟩ = some (.int .i64 (i : Int)) := (hb3.cell (p := ⟨w.heap.size, 1, none⟩) (Nat.lt_of_lt_of_le z0 HK.out.2.1.size)).trans l1
           have q2 : w3.cell? ⟨w.heap.size, 2, none⟩ = some (.int .i64 n) := (hb3.cell (p := ⟨w.heap.size, 2, none⟩) (Nat.lt_of_lt_of_le z0 HK.out.2.1.size)).trans l2
           have HT := Lib.hid (And.intro hd3 hb3)
           clear hd3 hb3)
        | (go_simp; rw [hmx])
        | (go_simp; rw [hmn]))
    all_goals go_wp2
    all_goals go_ret
    all_goals exact ⟨_, _, by rw [List.map_append, List.map_cons], rfl, dcs_lb HT.out.1 (Nat.le_trans (Nat.le_trans hb H0.out.2.size) HK.out.2.1.size), (H0.out.2.mono hb).trans ((HK.out.2.1.mono (Nat.le_trans hb H0.out.2.size)).trans (HT.out.2.mono (Nat.le_trans (Nat.le_trans hb H0.out.2.size) HK.out.2.1.size)))⟩
set_option maxRecDepth 100000 in
set_option maxHeartbeats 1000000 in
theorem fault_cutB {w : World} {base : Nat} {v : Value} {ps M : List (Value × List Nat)} (h : Dcs w base base v ps) (hb : base ≤ w.heap.size) (hn2 : ps.length ≤ 900) (i : Nat) (hi : i < ps.length) (hM : M = ps.eraseIdx i) (n : Int) (X : List Nat) (hX : X = (ps[i]'hi).2) (p : Nat) (hn : n = (p : Int) ∧ p ≤ X.length) :
    Calls Try.prog 68 #[v, .agg #[.int .i64 5, .int .i64 (i : Int), .int .i64 n]] w (RetFd w base ((M.take i).map Prod.snd ++ X.take p :: (M.drop i).map Prod.snd)) := by
  obtain ⟨W0, hW0⟩ : ∃ W0, W0 = w.alloc (.cells #[.int .i64 5, .int .i64 (i : Int), .int .i64 n] 106) := ⟨_, rfl⟩
  have hb0 : Below w.heap.size w W0 := by rw [hW0]; exact (Below.refl _ _).alloc (Nat.le_refl _) _
  have z0 : w.heap.size < W0.heap.size := by rw [hW0]; simp
  have hG : W0.heap[w.heap.size]? = some (.cells #[.int .i64 5, .int .i64 (i : Int), .int .i64 n] 106 (0, 0)) := by rw [hW0]; exact heap_alloc_new w _
  have h0 := dcs_below h hb0
  have hMl : M.length + 1 = ps.length := by rw [hM, List.length_eraseIdx_of_lt hi]; omega
  obtain ⟨g, c, e, hgl, hcell⟩ := dcs_at h0 i hi
  subst e
  have hel := h0.els _ (List.getElem_mem hi)
  obtain ⟨_, hrb⟩ := rb_of_owns hel.1
  obtain ⟨A, cp, hform⟩ := hrb.form
  rw [← hX] at hform hrb
  rw [hform] at hcell hrb
  have hcellA := hcell
  rw [hW0] at hcellA
  have hX2 : X.length ≤ 1048576 ∧ AllB X := by rw [hX]; exact ⟨hel.2.2, hel.2.1⟩
  have hcap : X.length ≤ cp := hrb.1.cap.1
  have hpX : p ≤ X.length := by omega
  obtain ⟨Z, hZ⟩ : ∃ Z, Z = X.take p := ⟨_, rfl⟩
  have hZl : Z.length = p := by rw [hZ, List.length_take]; omega
  have hrz : RB W0 W0.heap.size (.slice A p cp) Z := by rw [hZ]; exact rb_cut hrb hpX
  have hZB : AllB Z := by rw [hZ]; exact fun x hx => hX2.2 x (List.mem_of_mem_take hx)
  rw [← hZ]
  obtain ⟨rfl, hn1⟩ := hn
  obtain ⟨k0, k1, k2, kf⟩ := fr_blk hG (Below.refl _ _)
  have hda := dcs_below h0 (((Below.refl W0.heap.size W0).drew).alloc (Nat.le_refl _) (.cells #[.slice A p cp] 33))
  have hwo1 := without_any (dcs_below h0 (Below.refl _ _).drew) (by omega) i
  have hwo2 := without_any hda (by omega) i
  rw [← hM] at hwo1 hwo2
  have HO1 := Lib.hid hwo1
  have HO2 := Lib.hid hwo2
  have HG := Lib.hid hG
  have HW := Lib.hid hW0
  have HR := Lib.hid (And.intro hrz (And.intro (show Z.length ≤ 1048576 by omega) hZB))
  have H0 := Lib.hid (And.intro h0 hb0)
  have HN := Lib.hid (And.intro hn2 hMl)
  have i1 : (i : Int) < (ps.length : Int) := by omega
  have i0 : ¬ (i : Int) < 0 := by omega
  have s1 : (p : Nat) ≤ cp := by omega
  have s2 : ((p : Int) : Int) ≤ (cp : Int) := by omega
  have f1 : ¬ (p : Int) < 0 := by omega
  have f2 : (0 : Int) ≤ (p : Int) := by omega
  have f3 : (p : Int) ≤ (X.length : Int) := by omega
  have f4 : ¬ (X.length : Int) < (p : Int) := by omega
  clear hda hwo1 hwo2 h0 hb0 h hG hel hrb hform hX hX2 hM hMl hn2 hZ hZl hrz hZB
  go_enter Try.func68, Try.ntmps68
  clear hW0
  go_wp2_with fail
  rw [← HW.out]
  have hmx : (if (p : Int) < 0 then (0 : Int) else (p : Int)) = (p : Int) := if_neg (by omega)
  have hmn : (if (X.length : Int) < (p : Int) then (X.length : Int) else (p : Int)) = (p : Int) := if_neg (by omega)
  have hm3 : (if X.length < p then (X.length : Int) else (p : Int)) = (p : Int) := if_neg (by omega)
  cases A with
  | some a =>
    go_region_held3 (fun w' => w'.cell? ⟨w.heap.size, 1, none⟩ = some (.int .i64 (i : Int)) ∧ w'.cell? ⟨w.heap.size, 2, none⟩ = some (.int .i64 (p : Int)))
      (first | exact ⟨k1, k2⟩ | exact ⟨j1, j2⟩ | exact ⟨l1, l2⟩ | exact ⟨q1, q2⟩ | go_keep)
      (first
        | (go_at_call 80
           refine HO1.out.mono ?_
           rintro e w2 ⟨v2, rfl, hd2, b2⟩
           have b3 : Below W0.heap.size W0 w2 := (Below.refl _ _).drew.trans b2
           obtain ⟨j0, j1, j2, jf⟩ := fr_blk HG.out b3
           have HJ := Lib.hid (And.intro (dcs_lb (lb' := base) hd2 (Nat.le_trans hb H0.out.2.size)) (And.intro b3 (show RB w2 w2.heap.size (.slice (some a) p cp) Z from (HR.out.1.belowM b3 (Nat.le_refl _)).more b3.size)))
           clear hd2 b2 b3)
        | (go_at_call 80
           refine HO2.out.mono ?_
           rintro e w2 ⟨v2, rfl, hd2, b2⟩
           have ba : Below W0.heap.size W0 (W0.drew.alloc (.cells #[.slice (some a) p cp] 33)) := (Below.refl W0.heap.size W0).drew.alloc (Nat.le_refl _) _
           have b3 : Below W0.heap.size W0 w2 := ba.trans (b2.mono ba.size)
           have hcA : w2.cell? ⟨W0.heap.size, 0, none⟩ = some (.slice (some a) p cp) := (b2.cell (p := ⟨W0.heap.size, 0, none⟩) (by show W0.heap.size < _; simp)).trans (cell_of_row _ _ _ _ _ _ (heap_alloc_new W0.drew _))
           have hlA : W0.heap.size < w2.heap.size := Nat.lt_of_lt_of_le (by simp) b2.size
           obtain ⟨j0, j1, j2, jf⟩ := fr_blk HG.out b3
           have HJ := Lib.hid (And.intro (dcs_lb (lb' := base) hd2 (Nat.le_trans hb (Nat.le_trans H0.out.2.size ba.size))) (And.intro b3 (And.intro (show RB w2 w2.heap.size (.slice (some a) p cp) Z from (HR.out.1.belowM b3 (Nat.le_refl _)).more b3.size) (And.intro hcA hlA))))
           clear hd2 b2 b3 ba hcA hlA)
        | (go_at_call 59
           refine (joined_at HJ.out.2.2.2.1 HJ.out.2.2.2.2 HJ.out.2.2.1 HR.out.2.1).mono ?_
           rintro e w4 ⟨v4, rfl, o4, b4⟩
           obtain ⟨A4, c4, e4⟩ := (rb_of_owns o4).2.form
           subst e4
           have hk := cut_joined (Nat.le_trans hb H0.out.2.size) HJ.out.2.1 HJ.out.1 o4 b4 HR.out.2.1 HR.out.2.2
           obtain ⟨l0, l1, l2, lf⟩ := fr_blk HG.out hk.2.1
           have HK := Lib.hid hk
           clear o4 b4 hk)
        | (go_at_call 59
           have ba : Below w2.heap.size w2 (w2.alloc (.cells #[.slice (some a) p cp] 33)) := (Below.refl w2.heap.size w2).alloc (Nat.le_refl _) _
           refine (joined_at (cell_of_row _ _ _ _ _ _ (heap_alloc_new w2 _)) (by simp) ((HJ.out.2.2.belowM ba (Nat.le_refl _)).more ba.size) HR.out.2.1).mono ?_
           rintro e w4 ⟨v4, rfl, o4, b4⟩
           obtain ⟨A4, c4, e4⟩ := (rb_of_owns o4).2.form
           subst e4
           have hk := cut_joined (Nat.le_trans hb H0.out.2.size) (HJ.out.2.1.trans (ba.mono HJ.out.2.1.size)) (dcs_below HJ.out.1 ba) o4 b4 HR.out.2.1 HR.out.2.2
           obtain ⟨l0, l1, l2, lf⟩ := fr_blk HG.out hk.2.1
           have HK := Lib.hid hk
           clear o4 b4 hk ba)
        | (go_at_call 81
           refine (with_any HK.out.1 (by have := HN.out; omega) i _ rfl (by have := HN.out; omega) A4 c4 Z HK.out.2.2).mono ?_
           rintro e w3 ⟨v3, rfl, hd3, hb3⟩
           have q1 : w3.cell? ⟨w.heap.size, 1, none⟩ = some (.int .i64 (i : Int)) := (hb3.cell (p := ⟨w.heap.size, 1, none⟩) (Nat.lt_of_lt_of_le z0 HK.out.2.1.size)).trans l1
           have q2 : w3.cell? ⟨w.heap.size, 2, none⟩ = some (.int .i64 (p : Int)) := (hb3.cell (p := ⟨w.heap.size, 2, none⟩) (Nat.lt_of_lt_of_le z0 HK.out.2.1.size)).trans l2
           have HT := Lib.hid (And.intro hd3 hb3)
           clear hd3 hb3)
        | (go_simp; rw [hmx])
        | (go_simp; rw [hmn])
        | (go_simp; rw [hm3]))
    all_goals go_wp2
    all_goals go_ret
    all_goals exact ⟨_, _, by rw [List.map_append, List.map_cons], rfl, dcs_lb HT.out.1 (Nat.le_trans (Nat.le_trans hb H0.out.2.size) HK.out.2.1.size), (H0.out.2.mono hb).trans ((HK.out.2.1.mono (Nat.le_trans hb H0.out.2.size)).trans (HT.out.2.mono (Nat.le_trans (Nat.le_trans hb H0.out.2.size) HK.out.2.1.size)))⟩
  | none =>
    go_region_held3 (fun w' => w'.cell? ⟨w.heap.size, 1, none⟩ = some (.int .i64 (i : Int)) ∧ w'.cell? ⟨w.heap.size, 2, none⟩ = some (.int .i64 (p : Int)))
      (first | exact ⟨k1, k2⟩ | exact ⟨j1, j2⟩ | exact ⟨l1, l2⟩ | exact ⟨q1, q2⟩ | go_keep)
      (first
        | (go_at_call 80
           refine HO1.out.mono ?_
           rintro e w2 ⟨v2, rfl, hd2, b2⟩
           have b3 : Below W0.heap.size W0 w2 := (Below.refl _ _).drew.trans b2
           obtain ⟨j0, j1, j2, jf⟩ := fr_blk HG.out b3
           have HJ := Lib.hid (And.intro (dcs_lb (lb' := base) hd2 (Nat.le_trans hb H0.out.2.size)) (And.intro b3 (show RB w2 w2.heap.size (.slice none p cp) Z from (HR.out.1.belowM b3 (Nat.le_refl _)).more b3.size)))
           clear hd2 b2 b3)
        | (go_at_call 80
           refine HO2.out.mono ?_
           rintro e w2 ⟨v2, rfl, hd2, b2⟩
           have ba : Below W0.heap.size W0 (W0.drew.alloc (.cells #[.slice none p cp] 33)) := (Below.refl W0.heap.size W0).drew.alloc (Nat.le_refl _) _
           have b3 : Below W0.heap.size W0 w2 := ba.trans (b2.mono ba.size)
           have hcA : w2.cell? ⟨W0.heap.size, 0, none⟩ = some (.slice none p cp) := (b2.cell (p := ⟨W0.heap.size, 0, none⟩) (by show W0.heap.size < _; simp)).trans (cell_of_row _ _ _ _ _ _ (heap_alloc_new W0.drew _))
           have hlA : W0.heap.size < w2.heap.size := Nat.lt_of_lt_of_le (by simp) b2.size
           obtain ⟨j0, j1, j2, jf⟩ := fr_blk HG.out b3
           have HJ := Lib.hid (And.intro (dcs_lb (lb' := base) hd2 (Nat.le_trans hb (Nat.le_trans H0.out.2.size ba.size))) (And.intro b3 (And.intro (show RB w2 w2.heap.size (.slice none p cp) Z from (HR.out.1.belowM b3 (Nat.le_refl _)).more b3.size) (And.intro hcA hlA))))
           clear hd2 b2 b3 ba hcA hlA)
        | (go_at_call 59
           refine (joined_at HJ.out.2.2.2.1 HJ.out.2.2.2.2 HJ.out.2.2.1 HR.out.2.1).mono ?_
           rintro e w4 ⟨v4, rfl, o4, b4⟩
           obtain ⟨A4, c4, e4⟩ := (rb_of_owns o4).2.form
           subst e4
           have hk := cut_joined (Nat.le_trans hb H0.out.2.size) HJ.out.2.1 HJ.out.1 o4 b4 HR.out.2.1 HR.out.2.2
           obtain ⟨l0, l1, l2, lf⟩ := fr_blk HG.out hk.2.1
           have HK := Lib.hid hk
           clear o4 b4 hk)
        | (go_at_call 59
           have ba : Below w2.heap.size w2 (w2.alloc (.cells #[.slice none p cp] 33)) := (Below.refl w2.heap.size w2).alloc (Nat.le_refl _) _
           refine (joined_at (cell_of_row _ _ _ _ _ _ (heap_alloc_new w2 _)) (by simp) ((HJ.out.2.2.belowM ba (Nat.le_refl _)).more ba.size) HR.out.2.1).mono ?_
           rintro e w4 ⟨v4, rfl, o4, b4⟩
           obtain ⟨A4, c4, e4⟩ := (rb_of_owns o4).2.form
           subst e4
           have hk := cut_joined (Nat.le_trans hb H0.out.2.size) (HJ.out.2.1.trans (ba.mono HJ.out.2.1.size)) (dcs_below HJ.out.1 ba) o4 b4 HR.out.2.1 HR.out.2.2
           obtain ⟨l0, l1, l2, lf⟩ := fr_blk HG.out hk.2.1
           have HK := Lib.hid hk
           clear o4 b4 hk ba)
        | (go_at_call 81
           refine (with_any HK.out.1 (by have := HN.out; omega) i _ rfl (by have := HN.out; omega) A4 c4 Z HK.out.2.2).mono ?_
           rintro e w3 ⟨v3, rfl, hd3, hb3⟩
           have q1 : w3.cell? ⟨w.heap.size, 1, none⟩ = some (.int .i64 (i : Int)) := (hb3.cell (p := ⟨w.heap.size, 1, none⟩) (Nat.lt_of_lt_of_le z0 HK.out.2.1.size)).trans l1
           have q2 : w3.cell? ⟨w.heap.size, 2, none⟩ = some (.int .i64 (p : Int)) := (hb3.cell (p := ⟨w.heap.size, 2, none⟩) (Nat.lt_of_lt_of_le z0 HK.out.2.1.size)).trans l2
           have HT := Lib.hid (And.intro hd3 hb3)
           clear hd3 hb3)
        | (go_simp; rw [hmx])
        | (go_simp; rw [hmn])
        | (go_simp; rw [hm3]))
    all_goals go_wp2
    all_goals go_ret
    all_goals exact ⟨_, _, by rw [List.map_append, List.map_cons], rfl, dcs_lb HT.out.1 (Nat.le_trans (Nat.le_trans hb H0.out.2.size) HK.out.2.1.size), (H0.out.2.mono hb).trans ((HK.out.2.1.mono (Nat.le_trans hb H0.out.2.size)).trans (HT.out.2.mono (Nat.le_trans (Nat.le_trans hb H0.out.2.size) HK.out.2.1.size)))⟩
set_option maxRecDepth 100000 in
set_option maxHeartbeats 1000000 in
theorem fault_cutC {w : World} {base : Nat} {v : Value} {ps M : List (Value × List Nat)} (h : Dcs w base base v ps) (hb : base ≤ w.heap.size) (hn2 : ps.length ≤ 900) (i : Nat) (hi : i < ps.length) (hM : M = ps.eraseIdx i) (n : Int) (X : List Nat) (hX : X = (ps[i]'hi).2) (p : Nat) (hn : (X.length : Int) < n ∧ p = X.length) :
    Calls Try.prog 68 #[v, .agg #[.int .i64 5, .int .i64 (i : Int), .int .i64 n]] w (RetFd w base ((M.take i).map Prod.snd ++ X.take p :: (M.drop i).map Prod.snd)) := by
  obtain ⟨W0, hW0⟩ : ∃ W0, W0 = w.alloc (.cells #[.int .i64 5, .int .i64 (i : Int), .int .i64 n] 106) := ⟨_, rfl⟩
  have hb0 : Below w.heap.size w W0 := by rw [hW0]; exact (Below.refl _ _).alloc (Nat.le_refl _) _
  have z0 : w.heap.size < W0.heap.size := by rw [hW0]; simp
  have hG : W0.heap[w.heap.size]? = some (.cells #[.int .i64 5, .int .i64 (i : Int), .int .i64 n] 106 (0, 0)) := by rw [hW0]; exact heap_alloc_new w _
  have h0 := dcs_below h hb0
  have hMl : M.length + 1 = ps.length := by rw [hM, List.length_eraseIdx_of_lt hi]; omega
  obtain ⟨g, c, e, hgl, hcell⟩ := dcs_at h0 i hi
  subst e
  have hel := h0.els _ (List.getElem_mem hi)
  obtain ⟨_, hrb⟩ := rb_of_owns hel.1
  obtain ⟨A, cp, hform⟩ := hrb.form
  rw [← hX] at hform hrb
  rw [hform] at hcell hrb
  have hcellA := hcell
  rw [hW0] at hcellA
  have hX2 : X.length ≤ 1048576 ∧ AllB X := by rw [hX]; exact ⟨hel.2.2, hel.2.1⟩
  have hcap : X.length ≤ cp := hrb.1.cap.1
  have hpX : p ≤ X.length := by omega
  obtain ⟨Z, hZ⟩ : ∃ Z, Z = X.take p := ⟨_, rfl⟩
  have hZl : Z.length = p := by rw [hZ, List.length_take]; omega
  have hrz : RB W0 W0.heap.size (.slice A p cp) Z := by rw [hZ]; exact rb_cut hrb hpX
  have hZB : AllB Z := by rw [hZ]; exact fun x hx => hX2.2 x (List.mem_of_mem_take hx)
  rw [← hZ]
  obtain ⟨hn, rfl⟩ := hn
  obtain ⟨k0, k1, k2, kf⟩ := fr_blk hG (Below.refl _ _)
  have hda := dcs_below h0 (((Below.refl W0.heap.size W0).drew).alloc (Nat.le_refl _) (.cells #[.slice A X.length cp] 33))
  have hwo1 := without_any (dcs_below h0 (Below.refl _ _).drew) (by omega) i
  have hwo2 := without_any hda (by omega) i
  rw [← hM] at hwo1 hwo2
  have HO1 := Lib.hid hwo1
  have HO2 := Lib.hid hwo2
  have HG := Lib.hid hG
  have HW := Lib.hid hW0
  have HR := Lib.hid (And.intro hrz (And.intro (show Z.length ≤ 1048576 by omega) hZB))
  have H0 := Lib.hid (And.intro h0 hb0)
  have HN := Lib.hid (And.intro hn2 hMl)
  have i1 : (i : Int) < (ps.length : Int) := by omega
  have i0 : ¬ (i : Int) < 0 := by omega
  have s1 : (X.length : Nat) ≤ cp := by omega
  have s2 : ((X.length : Int) : Int) ≤ (cp : Int) := by omega
  have f1 : ¬ n < 0 := by omega
  have f2 : 0 ≤ n := by omega
  have f3 : (X.length : Int) < n := by omega
  have f4 : ¬ n ≤ (X.length : Int) := by omega
  clear hda hwo1 hwo2 h0 hb0 h hG hel hrb hform hX hX2 hM hMl hn2 hZ hZl hrz hZB
  go_enter Try.func68, Try.ntmps68
  clear hW0
  go_wp2_with fail
  rw [← HW.out]
  have hmx : (if n < 0 then (0 : Int) else n) = n := if_neg (by omega)
  have hmn : (if (X.length : Int) < n then (X.length : Int) else n) = (X.length : Int) := if_pos (by omega)
  cases A with
  | some a =>
    go_region_held3 (fun w' => w'.cell? ⟨w.heap.size, 1, none⟩ = some (.int .i64 (i : Int)) ∧ w'.cell? ⟨w.heap.size, 2, none⟩ = some (.int .i64 n))
      (first | exact ⟨k1, k2⟩ | exact ⟨j1, j2⟩ | exact ⟨l1, l2⟩ | exact ⟨q1, q2⟩ | go_keep)
      (first
        | (go_at_call 80
           refine HO1.out.mono ?_
           rintro e w2 ⟨v2, rfl, hd2, b2⟩
           have b3 : Below W0.heap.size W0 w2 := (Below.refl _ _).drew.trans b2
           obtain ⟨j0, j1, j2, jf⟩ := fr_blk HG.out b3
           have HJ := Lib.hid (And.intro (dcs_lb (lb' := base) hd2 (Nat.le_trans hb H0.out.2.size)) (And.intro b3 (show RB w2 w2.heap.size (.slice (some a) X.length cp) Z from (HR.out.1.belowM b3 (Nat.le_refl _)).more b3.size)))
           clear hd2 b2 b3)
        | (go_at_call 80
           refine HO2.out.mono ?_
           rintro e w2 ⟨v2, rfl, hd2, b2⟩
           have ba : Below W0.heap.size W0 (W0.drew.alloc (.cells #[.slice (some a) X.length cp] 33)) := (Below.refl W0.heap.size W0).drew.alloc (Nat.le_refl _) _
           have b3 : Below W0.heap.size W0 w2 := ba.trans (b2.mono ba.size)
           have hcA : w2.cell? ⟨W0.heap.size, 0, none⟩ = some (.slice (some a) X.length cp) := (b2.cell (p := ⟨W0.heap.size, 0, none⟩) (by show W0.heap.size < _; simp)).trans (cell_of_row _ _ _ _ _ _ (heap_alloc_new W0.drew _))
           have hlA : W0.heap.size < w2.heap.size := Nat.lt_of_lt_of_le (by simp) b2.size
           obtain ⟨j0, j1, j2, jf⟩ := fr_blk HG.out b3
           have HJ := Lib.hid (And.intro (dcs_lb (lb' := base) hd2 (Nat.le_trans hb (Nat.le_trans H0.out.2.size ba.size))) (And.intro b3 (And.intro (show RB w2 w2.heap.size (.slice (some a) X.length cp) Z from (HR.out.1.belowM b3 (Nat.le_refl _)).more b3.size) (And.intro hcA hlA))))
           clear hd2 b2 b3 ba hcA hlA)
        | (go_at_call 59
           refine (joined_at HJ.out.2.2.2.1 HJ.out.2.2.2.2 HJ.out.2.2.1 HR.out.2.1).mono ?_
           rintro e w4 ⟨v4, rfl, o4, b4⟩
           obtain ⟨A4, c4, e4⟩ := (rb_of_owns o4).2.form
           subst e4
           have hk := cut_joined (Nat.le_trans hb H0.out.2.size) HJ.out.2.1 HJ.out.1 o4 b4 HR.out.2.1 HR.out.2.2
           obtain ⟨l0, l1, l2, lf⟩ := fr_blk HG.out hk.2.1
           have HK := Lib.hid hk
           clear o4 b4 hk)
        | (go_at_call 59
           have ba : Below w2.heap.size w2 (w2.alloc (.cells #[.slice (some a) X.length cp] 33)) := (Below.refl w2.heap.size w2).alloc (Nat.le_refl _) _
           refine (joined_at (cell_of_row _ _ _ _ _ _ (heap_alloc_new w2 _)) (by simp) ((HJ.out.2.2.belowM ba (Nat.le_refl _)).more ba.size) HR.out.2.1).mono ?_
           rintro e w4 ⟨v4, rfl, o4, b4⟩
           obtain ⟨A4, c4, e4⟩ := (rb_of_owns o4).2.form
           subst e4
           have hk := cut_joined (Nat.le_trans hb H0.out.2.size) (HJ.out.2.1.trans (ba.mono HJ.out.2.1.size)) (dcs_below HJ.out.1 ba) o4 b4 HR.out.2.1 HR.out.2.2
           obtain ⟨l0, l1, l2, lf⟩ := fr_blk HG.out hk.2.1
           have HK := Lib.hid hk
           clear o4 b4 hk ba)
        | (go_at_call 81
           refine (with_any HK.out.1 (by have := HN.out; omega) i _ rfl (by have := HN.out; omega) A4 c4 Z HK.out.2.2).mono ?_
           rintro e w3 ⟨v3, rfl, hd3, hb3⟩
           have q1 : w3.cell? ⟨w.heap.size, 1, none⟩ = some (.int .i64 (i : Int)) := (hb3.cell (p := ⟨w.heap.size, 1, none⟩) (Nat.lt_of_lt_of_le z0 HK.out.2.1.size)).trans l1
           have q2 : w3.cell? ⟨w.heap.size, 2, none⟩ = some (.int .i64 n) := (hb3.cell (p := ⟨w.heap.size, 2, none⟩) (Nat.lt_of_lt_of_le z0 HK.out.2.1.size)).trans l2
           have HT := Lib.hid (And.intro hd3 hb3)
           clear hd3 hb3)
        | (go_simp; rw [hmx])
        | (go_simp; rw [hmn]))
    all_goals go_wp2
    all_goals go_ret
    all_goals exact ⟨_, _, by rw [List.map_append, List.map_cons], rfl, dcs_lb HT.out.1 (Nat.le_trans (Nat.le_trans hb H0.out.2.size) HK.out.2.1.size), (H0.out.2.mono hb).trans ((HK.out.2.1.mono (Nat.le_trans hb H0.out.2.size)).trans (HT.out.2.mono (Nat.le_trans (Nat.le_trans hb H0.out.2.size) HK.out.2.1.size)))⟩
  | none =>
    go_region_held3 (fun w' => w'.cell? ⟨w.heap.size, 1, none⟩ = some (.int .i64 (i : Int)) ∧ w'.cell? ⟨w.heap.size, 2, none⟩ = some (.int .i64 n))
      (first | exact ⟨k1, k2⟩ | exact ⟨j1, j2⟩ | exact ⟨l1, l2⟩ | exact ⟨q1, q2⟩ | go_keep)
      (first
        | (go_at_call 80
           refine HO1.out.mono ?_
           rintro e w2 ⟨v2, rfl, hd2, b2⟩
           have b3 : Below W0.heap.size W0 w2 := (Below.refl _ _).drew.trans b2
           obtain ⟨j0, j1, j2, jf⟩ := fr_blk HG.out b3
           have HJ := Lib.hid (And.intro (dcs_lb (lb' := base) hd2 (Nat.le_trans hb H0.out.2.size)) (And.intro b3 (show RB w2 w2.heap.size (.slice none X.length cp) Z from (HR.out.1.belowM b3 (Nat.le_refl _)).more b3.size)))
           clear hd2 b2 b3)
        | (go_at_call 80
           refine HO2.out.mono ?_
           rintro e w2 ⟨v2, rfl, hd2, b2⟩
           have ba : Below W0.heap.size W0 (W0.drew.alloc (.cells #[.slice none X.length cp] 33)) := (Below.refl W0.heap.size W0).drew.alloc (Nat.le_refl _) _
           have b3 : Below W0.heap.size W0 w2 := ba.trans (b2.mono ba.size)
           have hcA : w2.cell? ⟨W0.heap.size, 0, none⟩ = some (.slice none X.length cp) := (b2.cell (p := ⟨W0.heap.size, 0, none⟩) (by show W0.heap.size < _; simp)).trans (cell_of_row _ _ _ _ _ _ (heap_alloc_new W0.drew _))
           have hlA : W0.heap.size < w2.heap.size := Nat.lt_of_lt_of_le (by simp) b2.size
           obtain ⟨j0, j1, j2, jf⟩ := fr_blk HG.out b3
           have HJ := Lib.hid (And.intro (dcs_lb (lb' := base) hd2 (Nat.le_trans hb (Nat.le_trans H0.out.2.size ba.size))) (And.intro b3 (And.intro (show RB w2 w2.heap.size (.slice none X.length cp) Z from (HR.out.1.belowM b3 (Nat.le_refl _)).more b3.size) (And.intro hcA hlA))))
           clear hd2 b2 b3 ba hcA hlA)
        | (go_at_call 59
           refine (joined_at HJ.out.2.2.2.1 HJ.out.2.2.2.2 HJ.out.2.2.1 HR.out.2.1).mono ?_
           rintro e w4 ⟨v4, rfl, o4, b4⟩
           obtain ⟨A4, c4, e4⟩ := (rb_of_owns o4).2.form
           subst e4
           have hk := cut_joined (Nat.le_trans hb H0.out.2.size) HJ.out.2.1 HJ.out.1 o4 b4 HR.out.2.1 HR.out.2.2
           obtain ⟨l0, l1, l2, lf⟩ := fr_blk HG.out hk.2.1
           have HK := Lib.hid hk
           clear o4 b4 hk)
        | (go_at_call 59
           have ba : Below w2.heap.size w2 (w2.alloc (.cells #[.slice none X.length cp] 33)) := (Below.refl w2.heap.size w2).alloc (Nat.le_refl _) _
           refine (joined_at (cell_of_row _ _ _ _ _ _ (heap_alloc_new w2 _)) (by simp) ((HJ.out.2.2.belowM ba (Nat.le_refl _)).more ba.size) HR.out.2.1).mono ?_
           rintro e w4 ⟨v4, rfl, o4, b4⟩
           obtain ⟨A4, c4, e4⟩ := (rb_of_owns o4).2.form
           subst e4
           have hk := cut_joined (Nat.le_trans hb H0.out.2.size) (HJ.out.2.1.trans (ba.mono HJ.out.2.1.size)) (dcs_below HJ.out.1 ba) o4 b4 HR.out.2.1 HR.out.2.2
           obtain ⟨l0, l1, l2, lf⟩ := fr_blk HG.out hk.2.1
           have HK := Lib.hid hk
           clear o4 b4 hk ba)
        | (go_at_call 81
           refine (with_any HK.out.1 (by have := HN.out; omega) i _ rfl (by have := HN.out; omega) A4 c4 Z HK.out.2.2).mono ?_
           rintro e w3 ⟨v3, rfl, hd3, hb3⟩
           have q1 : w3.cell? ⟨w.heap.size, 1, none⟩ = some (.int .i64 (i : Int)) := (hb3.cell (p := ⟨w.heap.size, 1, none⟩) (Nat.lt_of_lt_of_le z0 HK.out.2.1.size)).trans l1
           have q2 : w3.cell? ⟨w.heap.size, 2, none⟩ = some (.int .i64 n) := (hb3.cell (p := ⟨w.heap.size, 2, none⟩) (Nat.lt_of_lt_of_le z0 HK.out.2.1.size)).trans l2
           have HT := Lib.hid (And.intro hd3 hb3)
           clear hd3 hb3)
        | (go_simp; rw [hmx])
        | (go_simp; rw [hmn]))
    all_goals go_wp2
    all_goals go_ret
    all_goals exact ⟨_, _, by rw [List.map_append, List.map_cons], rfl, dcs_lb HT.out.1 (Nat.le_trans (Nat.le_trans hb H0.out.2.size) HK.out.2.1.size), (H0.out.2.mono hb).trans ((HK.out.2.1.mono (Nat.le_trans hb H0.out.2.size)).trans (HT.out.2.mono (Nat.le_trans (Nat.le_trans hb H0.out.2.size) HK.out.2.1.size)))⟩
end Go.Proofs.Ytkakbeiehggkiaa
