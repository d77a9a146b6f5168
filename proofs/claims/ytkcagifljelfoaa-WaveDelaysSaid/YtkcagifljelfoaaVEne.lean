/-
  Energy, the program's and the document's.
-/
import Derived.Test.YtkcagifljelfoaaVRtm
namespace Go.Proofs.Ytkcagifljelfoaa
open Go.RowKit

def eneK (zs : List Int) (m : Int) (fr : Nat) : Nat → Int
  | 0 => 0
  | k + 1 => eneK zs m fr k + (ith zs (fr + k) - m)
theorem eneK_le {zs : List Int} {m : Int} {fr : Nat} (hok : okZ zs) (hm : 0 ≤ m ∧ m ≤ 1023) : ∀ k, fr + k ≤ zs.length → -1023 * (k : Int) ≤ eneK zs m fr k ∧ eneK zs m fr k ≤ 1023 * (k : Int)
  | 0, _ => by simp [eneK]
  | k + 1, h => by
    have ih := eneK_le (fr := fr) hok hm k (by omega)
    have := hok.ith (j := fr + k) (by omega)
    unfold eneK
    omega
def RetEn (w : World) (v c : Int) (e : Ending) (w' : World) : Prop := e = .returned (.tuple #[.int .i64 v, .int .i64 c]) ∧ Below w.heap.size w w'
theorem one_block (w : World) (fr to pk lv tp : Int) : ∃ W0, Hid (W0 = w.alloc (.cells #[.int .i64 fr, .int .i64 to, .int .i64 pk, .int .i64 lv, .int .i64 tp] 50)) ∧ Hid (Below w.heap.size w W0 ∧
    W0.heap[w.heap.size]? = some (.cells #[.int .i64 fr, .int .i64 to, .int .i64 pk, .int .i64 lv, .int .i64 tp] 50 (0, 0))) :=
  ⟨_, rfl, (Below.refl _ _).alloc (Nat.le_refl _) _, heap_alloc_new _ _⟩

set_option maxRecDepth 100000 in
set_option maxHeartbeats 2000000 in
theorem energy_bad (zs : List Int) (fr to pk lv tp : Int) (A : Option Addr) (n c : Nat) (w : World) (hx : IW w w.heap.size (.slice A n c) zs) (hbad : zs = [] ∨ ¬ okZ zs) :
    Calls Try.prog 24 #[.slice A n c, .agg #[.int .i64 fr, .int .i64 to, .int .i64 pk, .int .i64 lv, .int .i64 tp]] w (RetEn w 0 2) := by
  obtain ⟨W0, HW0, HX⟩ := one_block w fr to pk lv tp
  have hB := base_bad zs A n c _ W0 (hx.below HX.out.1) hbad
  rw [HW0.out] at hB
  clear hx
  go_enter Try.func24, Try.ntmps24
  go_wp2_with (go_at_call 28; refine hB.mono ?_; rintro e w' ⟨rfl, rfl⟩; rw [← HW0.out])
  go_ret2
  exact ⟨rfl, HX.out.1⟩
set_option maxRecDepth 100000 in
set_option maxHeartbeats 2000000 in
theorem energy_nopart (zs : List Int) (hok : okZ zs) (hne : zs ≠ []) (fr to pk lv tp : Int) (A : Option Addr) (n c : Nat) (w : World) (hx : IW w w.heap.size (.slice A n c) zs) (hbad : ¬ partZ fr to n) :
    Calls Try.prog 24 #[.slice A n c, .agg #[.int .i64 fr, .int .i64 to, .int .i64 pk, .int .i64 lv, .int .i64 tp]] w (RetEn w 0 2) := by
  obtain ⟨W0, HW0, HX⟩ := one_block w fr to pk lv tp
  have hl := hx.len
  have hn : n ≤ 256 := by have := hok.1; omega
  have hB := base_ok zs A n c W0 ((hx.below HX.out.1).more HX.out.1.size) hne hok
  have hP := part_no fr to pk lv tp A n c (by omega) hbad
  have HP := Lib.hid hP
  clear hx hl hok hne hbad hP
  go_enter Try.func24, Try.ntmps24
  go_wp2_with (go_at_call 28; rw [← HW0.out]; refine hB.mono ?_; rintro e w1 ⟨rfl, hb1⟩; have g1 := (hb1.block _ (Array.getElem?_eq_some_iff.1 HX.out.2).1).trans HX.out.2; have k0 : w1.cell? ⟨w.heap.size, 0, none⟩ = some (.int .i64 fr) := cell_of_row _ _ _ _ _ _ g1; have k1 : w1.cell? ⟨w.heap.size, 1, none⟩ = some (.int .i64 to) := cell_of_row _ _ _ _ _ _ g1; have k2 : w1.cell? ⟨w.heap.size, 2, none⟩ = some (.int .i64 pk) := cell_of_row _ _ _ _ _ _ g1; have k3 : w1.cell? ⟨w.heap.size, 3, none⟩ = some (.int .i64 lv) := cell_of_row _ _ _ _ _ _ g1; have k4 : w1.cell? ⟨w.heap.size, 4, none⟩ = some (.int .i64 tp) := cell_of_row _ _ _ _ _ _ g1; have HW1 := Lib.hid (HX.out.1.trans (hb1.mono HX.out.1.size)); clear hb1 g1)
  refine (HP.out _).mono ?_
  rintro e w2 ⟨rfl, hb2⟩
  go_wp2
  go_ret2
  exact ⟨rfl, HW1.out.trans (hb2.mono HW1.out.size)⟩
set_option maxRecDepth 100000 in
set_option maxHeartbeats 2000000 in
theorem energy_ok (zs : List Int) (hok : okZ zs) (fr to : Nat) (pk lv tp : Int) (A : Option Addr) (n c : Nat) (w : World) (hx : IW w w.heap.size (.slice A n c) zs) (h1 : fr < to) (h2 : to ≤ n) :
    Calls Try.prog 24 #[.slice A n c, .agg #[.int .i64 (fr : Int), .int .i64 (to : Int), .int .i64 pk, .int .i64 lv, .int .i64 tp]] w (RetEn w (eneK zs (med zs) fr (to - fr)) 0) := by
  obtain ⟨W0, HW0, HX⟩ := one_block w (fr : Int) (to : Int) pk lv tp
  have hl := Lib.hid hx.len
  have hn : n ≤ 256 := by have := hok.1; have := hl.out; omega
  have hne : zs ≠ [] := fun h => by have := hl.out; rw [h] at this; simp at this; omega
  have hm := hok.2 _ (med_mem hne)
  have hB := base_ok zs A n c W0 ((hx.below HX.out.1).more HX.out.1.size) hne hok
  obtain ⟨m, hmd⟩ : ∃ m, med zs = m := ⟨_, rfl⟩
  rw [hmd] at hB hm ⊢
  obtain ⟨b, o, rfl, hb, hcz⟩ := hx.at_ (by omega)
  have hcap := hx.cap
  unfold maxLen at hcap
  have HC := Lib.hid (fun (wx : World) (h : Below w.heap.size w wx) (j : Nat) (hj : j < n) => (h.cell (p := ⟨b, o + j, none⟩) hb).trans (hcz j hj))
  have HP := Lib.hid (part_yes (fr : Int) (to : Int) pk lv tp (some ⟨b, o, none⟩) n c (by omega) (by omega) (by omega) (by omega))
  have HO := Lib.hid hok
  obtain ⟨K, hK⟩ : ∃ K, to - fr = K := ⟨_, rfl⟩
  have HK := Lib.hid hK
  rw [hK]
  clear hx hcz hok hne hmd hK
  go_enter Try.func24, Try.ntmps24
  go_wp2_with (go_at_call 28; rw [← HW0.out]; refine hB.mono ?_; rintro e w1 ⟨rfl, hb1⟩; have g1 := (hb1.block _ (Array.getElem?_eq_some_iff.1 HX.out.2).1).trans HX.out.2; have k0 : w1.cell? ⟨w.heap.size, 0, none⟩ = some (.int .i64 (fr : Int)) := cell_of_row _ _ _ _ _ _ g1; have k1 : w1.cell? ⟨w.heap.size, 1, none⟩ = some (.int .i64 (to : Int)) := cell_of_row _ _ _ _ _ _ g1; have k2 : w1.cell? ⟨w.heap.size, 2, none⟩ = some (.int .i64 pk) := cell_of_row _ _ _ _ _ _ g1; have k3 : w1.cell? ⟨w.heap.size, 3, none⟩ = some (.int .i64 lv) := cell_of_row _ _ _ _ _ _ g1; have k4 : w1.cell? ⟨w.heap.size, 4, none⟩ = some (.int .i64 tp) := cell_of_row _ _ _ _ _ _ g1; have HW1 := Lib.hid (And.intro (HX.out.1.trans (hb1.mono HX.out.1.size)) g1); clear hb1 g1)
  clear hB
  refine (HP.out w1).mono ?_
  rintro e w2 ⟨rfl, hb2⟩
  have g2 := (hb2.block _ (Array.getElem?_eq_some_iff.1 HW1.out.2).1).trans HW1.out.2
  clear k0 k1 k2 k3 k4
  have k0 : w2.cell? ⟨w.heap.size, 0, none⟩ = some (.int .i64 (fr : Int)) := cell_of_row _ _ _ _ _ _ g2
  have k1 : w2.cell? ⟨w.heap.size, 1, none⟩ = some (.int .i64 (to : Int)) := cell_of_row _ _ _ _ _ _ g2
  have HB := Lib.hid (HW1.out.1.trans (hb2.mono HW1.out.1.size))
  clear g2 hb2
  go_wp2
  go_loopw [8, 30] (fun ev iv wr => ∃ k : Nat, iv = .int .i64 (k : Int) ∧ k ≤ K ∧ ev = .int .i64 (eneK zs m fr k) ∧ wr = w2) (fun _ iv _ => K - (intOf iv).toNat)
  case atStart => exact ⟨0, rfl, Nat.zero_le _, rfl, rfl⟩
  case round =>
    obtain ⟨k, rfl, hk, rfl, rfl⟩ := hrel
    have hE := eneK_le (fr := fr) HO.out hm k (by have := hl.out; have := HK.out; omega)
    have hKe : to - fr = K := HK.out
    have hk256 : (k : Int) ≤ 256 := by omega
    by_cases hkK : k < K
    · have ck := HC.out wr HB.out (fr + k) (by omega)
      have bz := HO.out.ith (j := fr + k) (by have := hl.out; omega)
      obtain ⟨z, hz⟩ : ∃ z, ith zs (fr + k) = z := ⟨_, rfl⟩
      rw [hz] at ck bz
      have ck' : wr.cell? ⟨b, o + fr + k, none⟩ = some (.int .i64 z) := by rw [Nat.add_assoc]; exact ck
      have HS : Hid (eneK zs m fr (k + 1) = eneK zs m fr k + (z - m)) := by rw [eneK, hz]; rfl
      obtain ⟨E, hEd⟩ : ∃ E, eneK zs m fr k = E := ⟨_, rfl⟩
      rw [hEd] at hE ⊢
      have HE := Lib.hid hEd
      have hkt : k < to - fr := by omega
      clear hz hEd ck
      go_wp2
      go_roundw
      case rel => exact ⟨k + 1, by simp, by omega, by rw [HS.out, HE.out], by first | rfl | trivial⟩
      case measure => simp [intOf]; omega
    · obtain rfl : k = K := by omega
      go_wp2
      go_ret2
      exact ⟨rfl, HB.out⟩

set_option maxRecDepth 100000 in
set_option maxHeartbeats 2000000 in
theorem refEnergy_bad (zs : List Int) (fr to pk lv tp : Int) (A : Option Addr) (n c : Nat) (w : World) (hx : IW w w.heap.size (.slice A n c) zs) (hbad : zs = [] ∨ ¬ okZ zs) :
    Calls Try.prog 25 #[.slice A n c, .agg #[.int .i64 fr, .int .i64 to, .int .i64 pk, .int .i64 lv, .int .i64 tp]] w (RetEn w 0 2) := by
  obtain ⟨W0, HW0, HX⟩ := one_block w fr to pk lv tp
  have hB := refBase_bad zs A n c _ W0 (hx.below HX.out.1) hbad
  rw [HW0.out] at hB
  clear hx
  go_enter Try.func25, Try.ntmps25
  go_wp2_with (go_at_call 33; refine hB.mono ?_; rintro e w' ⟨rfl, rfl⟩; rw [← HW0.out])
  go_ret2
  exact ⟨rfl, HX.out.1⟩
set_option maxRecDepth 100000 in
set_option maxHeartbeats 2000000 in
theorem refEnergy_nopart (zs : List Int) (hok : okZ zs) (hne : zs ≠ []) (fr to pk lv tp : Int) (A : Option Addr) (n c : Nat) (w : World) (hx : IW w w.heap.size (.slice A n c) zs) (hbad : ¬ partZ fr to n) :
    Calls Try.prog 25 #[.slice A n c, .agg #[.int .i64 fr, .int .i64 to, .int .i64 pk, .int .i64 lv, .int .i64 tp]] w (RetEn w 0 2) := by
  obtain ⟨W0, HW0, HX⟩ := one_block w fr to pk lv tp
  have hl := hx.len
  have hn : n ≤ 256 := by have := hok.1; omega
  have hB := refBase_ok zs A n c _ W0 (hx.below HX.out.1) hne hok
  have hP := within_any fr to pk lv tp A n c (by omega) W0
  rw [decide_eq_false hbad] at hP
  have p0 : W0.cell? ⟨w.heap.size, 0, none⟩ = some (.int .i64 fr) := cell_of_row _ _ _ _ _ _ HX.out.2
  have p1 : W0.cell? ⟨w.heap.size, 1, none⟩ = some (.int .i64 to) := cell_of_row _ _ _ _ _ _ HX.out.2
  have p2 : W0.cell? ⟨w.heap.size, 2, none⟩ = some (.int .i64 pk) := cell_of_row _ _ _ _ _ _ HX.out.2
  have p3 : W0.cell? ⟨w.heap.size, 3, none⟩ = some (.int .i64 lv) := cell_of_row _ _ _ _ _ _ HX.out.2
  have p4 : W0.cell? ⟨w.heap.size, 4, none⟩ = some (.int .i64 tp) := cell_of_row _ _ _ _ _ _ HX.out.2
  rw [HW0.out] at hB p0 p1 p2 p3 p4
  clear hx hl hok hne hbad
  go_enter Try.func25, Try.ntmps25
  go_wp2_with (first
    | (go_at_call 33; refine hB.mono ?_; rintro e w' ⟨rfl, rfl⟩)
    | (go_at_call 42; rw [← HW0.out]; refine hP.mono ?_; rintro e w1 ⟨rfl, hb1⟩; have HW1 := Lib.hid (HX.out.1.trans (hb1.mono HX.out.1.size)); clear hb1))
  go_ret2
  exact ⟨rfl, HW1.out⟩
set_option maxRecDepth 100000 in
set_option maxHeartbeats 2000000 in
theorem refEnergy_ok (zs : List Int) (hok : okZ zs) (fr to : Nat) (pk lv tp : Int) (A : Option Addr) (n c : Nat) (w : World) (hx : IW w w.heap.size (.slice A n c) zs) (h1 : fr < to) (h2 : to ≤ n) :
    Calls Try.prog 25 #[.slice A n c, .agg #[.int .i64 (fr : Int), .int .i64 (to : Int), .int .i64 pk, .int .i64 lv, .int .i64 tp]] w (RetEn w (eneK zs (med zs) fr (to - fr)) 0) := by
  obtain ⟨W0, HW0, HX⟩ := one_block w (fr : Int) (to : Int) pk lv tp
  have hl := Lib.hid hx.len
  have hn : n ≤ 256 := by have := hok.1; have := hl.out; omega
  have hne : zs ≠ [] := fun h => by have := hl.out; rw [h] at this; simp at this; omega
  have hm := hok.2 _ (med_mem hne)
  have hB := refBase_ok zs A n c _ W0 (hx.below HX.out.1) hne hok
  obtain ⟨m, hmd⟩ : ∃ m, med zs = m := ⟨_, rfl⟩
  rw [hmd] at hB hm ⊢
  obtain ⟨b, o, rfl, hb, hcz⟩ := hx.at_ (by omega)
  have hcap := hx.cap
  unfold maxLen at hcap
  have HC := Lib.hid (fun (wx : World) (h : Below w.heap.size w wx) (j : Nat) (hj : j < n) => (h.cell (p := ⟨b, o + j, none⟩) hb).trans (hcz j hj))
  have hP := within_any (fr : Int) (to : Int) pk lv tp (some ⟨b, o, none⟩) n c (by omega) W0
  rw [decide_eq_true (show partZ (fr : Int) (to : Int) n from ⟨by omega, by omega, by omega⟩)] at hP
  have p0 : W0.cell? ⟨w.heap.size, 0, none⟩ = some (.int .i64 (fr : Int)) := cell_of_row _ _ _ _ _ _ HX.out.2
  have p1 : W0.cell? ⟨w.heap.size, 1, none⟩ = some (.int .i64 (to : Int)) := cell_of_row _ _ _ _ _ _ HX.out.2
  have p2 : W0.cell? ⟨w.heap.size, 2, none⟩ = some (.int .i64 pk) := cell_of_row _ _ _ _ _ _ HX.out.2
  have p3 : W0.cell? ⟨w.heap.size, 3, none⟩ = some (.int .i64 lv) := cell_of_row _ _ _ _ _ _ HX.out.2
  have p4 : W0.cell? ⟨w.heap.size, 4, none⟩ = some (.int .i64 tp) := cell_of_row _ _ _ _ _ _ HX.out.2
  have HO := Lib.hid hok
  rw [HW0.out] at hB p0 p1 p2 p3 p4
  clear hx hcz hok hne hmd
  go_enter Try.func25, Try.ntmps25
  go_wp2_with (first
    | (go_at_call 33; refine hB.mono ?_; rintro e w' ⟨rfl, rfl⟩)
    | (go_at_call 42; rw [← HW0.out]; refine hP.mono ?_; rintro e w1 ⟨rfl, hb1⟩; have g1 := (hb1.block _ (Array.getElem?_eq_some_iff.1 HX.out.2).1).trans HX.out.2; have k0 : w1.cell? ⟨w.heap.size, 0, none⟩ = some (.int .i64 (fr : Int)) := cell_of_row _ _ _ _ _ _ g1; have k1 : w1.cell? ⟨w.heap.size, 1, none⟩ = some (.int .i64 (to : Int)) := cell_of_row _ _ _ _ _ _ g1; have HB := Lib.hid (HX.out.1.trans (hb1.mono HX.out.1.size)); clear hb1 g1 p0 p1 p2 p3 p4))
  clear hB hP
  go_loopw [8, 9] (fun ev iv wr => ∃ k : Nat, iv = .int .i64 ((fr + k : Nat) : Int) ∧ fr + k ≤ to ∧ ev = .int .i64 (eneK zs m fr k) ∧ wr = w1) (fun _ iv _ => to - (intOf iv).toNat)
  case atStart => exact ⟨0, by simp, by omega, rfl, rfl⟩
  case round =>
    obtain ⟨k, rfl, hk, rfl, rfl⟩ := hrel
    have hE := eneK_le (fr := fr) HO.out hm k (by have := hl.out; omega)
    have hk256 : (k : Int) ≤ 256 := by omega
    obtain ⟨I, hI⟩ : ∃ I, fr + k = I := ⟨_, rfl⟩
    have HI := Lib.hid hI
    rw [hI] at hk ⊢
    by_cases hkK : I < to
    · have ck := HC.out wr HB.out I (by omega)
      have bz := HO.out.ith (j := I) (by have := hl.out; omega)
      obtain ⟨z, hz⟩ : ∃ z, ith zs I = z := ⟨_, rfl⟩
      rw [hz] at ck bz
      have HS : Hid (eneK zs m fr (k + 1) = eneK zs m fr k + (z - m)) := by rw [eneK, hI, hz]; rfl
      obtain ⟨E, hEd⟩ : ∃ E, eneK zs m fr k = E := ⟨_, rfl⟩
      rw [hEd] at hE ⊢
      have HE := Lib.hid hEd
      have hIn : I < n := by omega
      clear hz hEd hI
      go_wp2
      go_roundw
      case rel => exact ⟨k + 1, by rw [← Nat.add_assoc, HI.out]; simp, by have := HI.out; omega, by rw [HS.out, HE.out], by first | rfl | trivial⟩
      case measure => simp [intOf]; omega
    · have hIt : I = to := by omega
      have HKT : Hid (to - fr = k) := (by omega : to - fr = k)
      clear hI
      go_wp2
      go_ret2
      exact ⟨by rw [HKT.out]; rfl, HB.out⟩
end Go.Proofs.Ytkcagifljelfoaa
