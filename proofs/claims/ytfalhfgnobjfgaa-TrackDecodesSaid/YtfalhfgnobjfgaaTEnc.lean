/-
  The program's Encode of a record.
-/
import Derived.Test.YtfalhfgnobjfgaaTRec
namespace Go.Proofs.Ytfalhfgnobjfgaa
open Go.RowKit Go.Maps

theorem writer_new (sg : Bool) (eb bb nb k : Nat) (os : Nat → Nat) (zs : Nat → Int) (L : List Nat) (w : World) (cs : Array Value) (T : TypeId) (hcs : ∀ j, j < k → cs[j]? = some (.pointer (some ⟨nb, os j, none⟩)))
    (hnb : nb < w.heap.size) (hv : ∀ j, j < k → w.cell? ⟨nb, os j, none⟩ = some (.int .i64 (zs j))) (hok : ∀ j, j < k → nmOk sg (zs j)) (he : w.cell? ⟨eb, 0, none⟩ = some (.func (.func (fnE sg)) #[] #[])) (heb : eb < w.heap.size)
    (hL : VarB w bb L) (hl : L.length ≤ 1000) (hk : k ≤ 100) (h2 : nb ≠ bb) (h3 : eb ≠ bb) :
    Calls Try.prog 12 #[.slice (some ⟨w.heap.size, 0, none⟩) k k, .pointer (some ⟨eb, 0, none⟩), .pointer (some ⟨bb, 0, none⟩)] (w.alloc (.cells cs T)) (RetWr w bb (L ++ encs sg zs k)) := by
  have hb : Below w.heap.size w (w.alloc (.cells cs T)) := (Below.refl _ _).alloc (Nat.le_refl _) _
  have hbl := hL.lt
  refine (writer_any sg w.heap.size eb bb nb k os zs L (w.alloc (.cells cs T)) (by simp) (fun j hj => (cell_of_row _ _ _ _ _ _ (heap_alloc_new w (.cells cs T))).trans (hcs j hj)) (by simp; omega) (fun j hj => (hb.cell (p := ⟨nb, os j, none⟩) hnb).trans (hv j hj)) hok ((hb.cell (p := ⟨eb, 0, none⟩) heb).trans he) (by simp; omega)
    (hL.below hb) hl hk (by omega) h2 h3).mono ?_
  rintro e w' ⟨rfl, q1, q2⟩
  exact ⟨rfl, q1, (only_below hb).trans q2⟩

theorem sync_ok {sc nv er : Int} (h : okSync sc nv er) : nmOk false sc ∧ nmOk false nv ∧ nmOk false er := by
  obtain ⟨h1, h2, h3⟩ := h
  refine ⟨?_, ?_, ?_⟩ <;> (show 0 ≤ _ ∧ _ ≤ (4611686018427387903 : Int); omega)
theorem fix_ok {t x y z e a b c d tl : Int} (h : okFix t x y z e a b c d tl) : nmOk false t ∧ (nmOk true x ∧ nmOk true y ∧ nmOk true z) ∧ nmOk false e ∧ (nmOk true a ∧ nmOk true b ∧ nmOk true c ∧ nmOk true d) ∧ nmOk false tl := by
  obtain ⟨h1, h2, h3, h4, h5⟩ := h
  have h4 := h4.2
  simp [InB] at h2 h4
  refine ⟨?_, ⟨?_, ?_, ?_⟩, ?_, ⟨?_, ?_, ?_, ?_⟩, ?_⟩
  all_goals first | (show 0 ≤ _ ∧ _ ≤ (4611686018427387903 : Int); omega) | (show (-2305843009213693952 : Int) ≤ _ ∧ _ ≤ (2305843009213693951 : Int); omega)

def syncN (sc nv er : Int) : Nat → Int | 0 => sc | 1 => nv | _ => er
def posN (x y z : Int) : Nat → Int | 0 => x | 1 => y | _ => z
def quatN (a b c d : Int) : Nat → Int | 0 => a | 1 => b | 2 => c | _ => d
def oneN (t : Int) : Nat → Int := fun _ => t
def syncL (sc nv er : Int) : List Nat := encs false (syncN sc nv er) 3
def fixL (t x y z e a b c d tl : Int) : List Nat := ((((encs false (oneN t) 1 ++ encs true (posN x y z) 3) ++ encs false (oneN e) 1) ++ encs true (quatN a b c d) 4) ++ encs false (oneN tl) 1)

set_option maxRecDepth 100000 in
set_option maxHeartbeats 2000000 in
theorem each_sync (nb e1 e2 bb : Nat) (t x y z e a b c d tl sc nv er : Int) (L : List Nat) (w : World) (hN : w.heap[nb]? = some (.cells #[.bool true, .int .i64 t, .int .i64 x, .int .i64 y, .int .i64 z, .int .i64 e, .int .i64 a, .int .i64 b, .int .i64 c, .int .i64 d, .int .i64 tl, .int .i64 sc, .int .i64 nv, .int .i64 er] 29 (0, 0))) (he : w.cell? ⟨e1, 0, none⟩ = some (.func (.func 14) #[] #[])) (heb : e1 < w.heap.size)
    (hL : VarB w bb L) (hl : L.length ≤ 100) (h2 : nb ≠ bb) (h3 : e1 ≠ bb) (hok : okSync sc nv er) :
    Calls Try.prog 13 #[.pointer (some ⟨nb, 0, none⟩), .func (.func 12) #[] #[.pointer (some ⟨e1, 0, none⟩), .pointer (some ⟨bb, 0, none⟩)], .func (.func 12) #[] #[.pointer (some ⟨e2, 0, none⟩), .pointer (some ⟨bb, 0, none⟩)]] w (RetWr w bb (L ++ syncL sc nv er)) := by
  obtain ⟨⟨k0, k1, k2, k3, k4, k5, k6⟩, k7, k8, k9, k10, k11, k12, k13⟩ := nv_blk hN (Below.refl _ _)
  have hnl := (Array.getElem?_eq_some_iff.1 hN).1
  obtain ⟨g1, g2, g3⟩ := sync_ok hok
  have HL := Lib.hid hL
  have HW := Lib.hid (writer_new false e1 bb nb 3 (fun j => 11 + j) (syncN sc nv er) L w.drew #[.pointer (some ⟨nb, 11, none⟩), .pointer (some ⟨nb, 12, none⟩), .pointer (some ⟨nb, 13, none⟩)] 43
    (by intro j hj; match j, hj with | 0, _ => rfl | 1, _ => rfl | 2, _ => rfl) hnl (by intro j hj; match j, hj with | 0, _ => exact k11 | 1, _ => exact k12 | 2, _ => exact k13) (by intro j hj; match j, hj with | 0, _ => exact g1 | 1, _ => exact g2 | 2, _ => exact g3) he heb (hL.below (Below.refl _ _).drew) (by omega) (by omega) h2 h3)
  clear hL he hN g1 g2 g3 hok k1 k2 k3 k4 k5 k6 k7 k8 k9 k10 k11 k12 k13
  go_enter Try.func13, Try.ntmps13
  go_wp2_with fail
  go_region_law
    (first
      | (go_simp
         go_at_call 12
         refine HW.out.mono ?_
         rintro e w2 ⟨rfl, q1, q2⟩
         have HQ := Lib.hid (And.intro q1 q2)
         clear q1 q2))
  all_goals
    go_wp2
    refine bodyPost_ret (results_none rfl _ _ _) rfl ?_
    exact ⟨rfl, HQ.out.1, (only_drew (S := fun k => k = bb)).trans HQ.out.2⟩

set_option maxRecDepth 100000 in
set_option maxHeartbeats 4000000 in
theorem each_fix (nb e1 e2 bb : Nat) (t x y z e a b c d tl sc nv er : Int) (w : World) (hN : w.heap[nb]? = some (.cells #[.bool false, .int .i64 t, .int .i64 x, .int .i64 y, .int .i64 z, .int .i64 e, .int .i64 a, .int .i64 b, .int .i64 c, .int .i64 d, .int .i64 tl, .int .i64 sc, .int .i64 nv, .int .i64 er] 29 (0, 0))) (he1 : w.cell? ⟨e1, 0, none⟩ = some (.func (.func 14) #[] #[])) (heb1 : e1 < w.heap.size)
    (he2 : w.cell? ⟨e2, 0, none⟩ = some (.func (.func 15) #[] #[])) (heb2 : e2 < w.heap.size) (L : List Nat)
    (hL : VarB w bb L) (hl : L.length ≤ 100) (h2 : nb ≠ bb) (h3 : e1 ≠ bb) (h4 : e2 ≠ bb) (hok : okFix t x y z e a b c d tl) :
    Calls Try.prog 13 #[.pointer (some ⟨nb, 0, none⟩), .func (.func 12) #[] #[.pointer (some ⟨e1, 0, none⟩), .pointer (some ⟨bb, 0, none⟩)], .func (.func 12) #[] #[.pointer (some ⟨e2, 0, none⟩), .pointer (some ⟨bb, 0, none⟩)]] w (RetWr w bb (L ++ fixL t x y z e a b c d tl)) := by
  obtain ⟨⟨k0, k1, k2, k3, k4, k5, k6⟩, k7, k8, k9, k10, k11, k12, k13⟩ := nv_blk hN (Below.refl _ _)
  have hnl := (Array.getElem?_eq_some_iff.1 hN).1
  obtain ⟨g0, ⟨g1, g2, g3⟩, g4, ⟨g5, g6, g7, g8⟩, g9⟩ := fix_ok hok
  have HG := Lib.hid (And.intro hN (And.intro he1 he2))
  have HL0 := Lib.hid hL
  have HO0 := Lib.hid (Only.refl (fun k => k = bb) w)
  clear hL hN he1 he2 hok
  have HLEN0 := Lib.hid (show (L).length ≤ 100 from hl)
  have hnl0 : nb < w.heap.size := Nat.lt_of_lt_of_le hnl HO0.out.size
  have hel0 : e1 < w.heap.size := Nat.lt_of_lt_of_le heb1 HO0.out.size
  have hev0 : w.cell? ⟨e1, 0, none⟩ = _ := (HO0.out.cell (p := ⟨e1, 0, none⟩) heb1 h3).trans HG.out.2.1
  have HW0 := Lib.hid (writer_new false e1 bb nb 1 (fun j => 1 + j) (oneN t) (L) w #[.pointer (some ⟨nb, 1, none⟩)] 43 (by intro j hj; match j, hj with | 0, _ => rfl) hnl0 (by intro j hj; match j, hj with | 0, _ => exact k1) (by intro j hj; match j, hj with | 0, _ => exact g0) hev0 hel0 (HL0.out.below (Below.refl _ _)) (by have := HLEN0.out; omega) (by omega) h2 h3)
  clear hnl0 hel0 hev0
  go_enter Try.func13, Try.ntmps13
  go_wp2_with fail
  refine HW0.out.mono ?_
  rintro e w1 ⟨rfl, q1, q2⟩
  have HL1 := Lib.hid q1
  have HO1 := Lib.hid (HO0.out.trans q2)
  clear q1 q2
  have hN1 := (HO1.out.block nb hnl h2).trans HG.out.1
  clear k0 k1 k2 k3 k4 k5 k6 k7 k8 k9 k10 k11 k12 k13
  obtain ⟨⟨k0, k1, k2, k3, k4, k5, k6⟩, k7, k8, k9, k10, k11, k12, k13⟩ := nv_blk hN1 (Below.refl _ _)
  clear hN1
  have HLEN1 := Lib.hid (show ((L ++ encs false (oneN t) 1)).length ≤ 136 from by rw [List.length_append]; have h1 := HLEN0.out; have h2 := encs_len (sg := false) (zs := (oneN t)) 1 (by intro j hj; match j, hj with | 0, _ => exact g0); omega)
  have hnl1 : nb < w1.heap.size := Nat.lt_of_lt_of_le hnl HO1.out.size
  have hel1 : e2 < w1.heap.size := Nat.lt_of_lt_of_le heb2 HO1.out.size
  have hev1 : w1.cell? ⟨e2, 0, none⟩ = _ := (HO1.out.cell (p := ⟨e2, 0, none⟩) heb2 h4).trans HG.out.2.2
  have HW1 := Lib.hid (writer_new true e2 bb nb 3 (fun j => 2 + j) (posN x y z) ((L ++ encs false (oneN t) 1)) w1.drew #[.pointer (some ⟨nb, 2, none⟩), .pointer (some ⟨nb, 3, none⟩), .pointer (some ⟨nb, 4, none⟩)] 43 (by intro j hj; match j, hj with | 0, _ => rfl | 1, _ => rfl | 2, _ => rfl) hnl1 (by intro j hj; match j, hj with | 0, _ => exact k2 | 1, _ => exact k3 | 2, _ => exact k4) (by intro j hj; match j, hj with | 0, _ => exact g1 | 1, _ => exact g2 | 2, _ => exact g3) hev1 hel1 (HL1.out.below (Below.refl _ _).drew) (by have := HLEN1.out; omega) (by omega) h2 h4)
  clear hnl1 hel1 hev1
  go_wp2_with fail
  go_region_law
    (first
      | (go_simp
         go_at_call 12
         refine HW1.out.mono ?_
         rintro e w2 ⟨rfl, q1, q2⟩
         have HL2 := Lib.hid q1
         have HO2 := Lib.hid (HO1.out.trans ((only_drew (S := fun k => k = bb)).trans q2))
         clear q1 q2))
  have hN2 := (HO2.out.block nb hnl h2).trans HG.out.1
  clear k0 k1 k2 k3 k4 k5 k6 k7 k8 k9 k10 k11 k12 k13
  obtain ⟨⟨k0, k1, k2, k3, k4, k5, k6⟩, k7, k8, k9, k10, k11, k12, k13⟩ := nv_blk hN2 (Below.refl _ _)
  clear hN2
  have HLEN2 := Lib.hid (show (((L ++ encs false (oneN t) 1) ++ encs true (posN x y z) 3)).length ≤ 172 from by rw [List.length_append]; have h1 := HLEN1.out; have h2 := encs_len (sg := true) (zs := (posN x y z)) 3 (by intro j hj; match j, hj with | 0, _ => exact g1 | 1, _ => exact g2 | 2, _ => exact g3); omega)
  have hnl2 : nb < w2.heap.size := Nat.lt_of_lt_of_le hnl HO2.out.size
  have hel2 : e1 < w2.heap.size := Nat.lt_of_lt_of_le heb1 HO2.out.size
  have hev2 : w2.cell? ⟨e1, 0, none⟩ = _ := (HO2.out.cell (p := ⟨e1, 0, none⟩) heb1 h3).trans HG.out.2.1
  have HW2 := Lib.hid (writer_new false e1 bb nb 1 (fun j => 5 + j) (oneN e) (((L ++ encs false (oneN t) 1) ++ encs true (posN x y z) 3)) w2 #[.pointer (some ⟨nb, 5, none⟩)] 43 (by intro j hj; match j, hj with | 0, _ => rfl) hnl2 (by intro j hj; match j, hj with | 0, _ => exact k5) (by intro j hj; match j, hj with | 0, _ => exact g4) hev2 hel2 (HL2.out.below (Below.refl _ _)) (by have := HLEN2.out; omega) (by omega) h2 h3)
  clear hnl2 hel2 hev2
  go_wp2_with fail
  refine HW2.out.mono ?_
  rintro e w3 ⟨rfl, q1, q2⟩
  have HL3 := Lib.hid q1
  have HO3 := Lib.hid (HO2.out.trans q2)
  clear q1 q2
  have hN3 := (HO3.out.block nb hnl h2).trans HG.out.1
  clear k0 k1 k2 k3 k4 k5 k6 k7 k8 k9 k10 k11 k12 k13
  obtain ⟨⟨k0, k1, k2, k3, k4, k5, k6⟩, k7, k8, k9, k10, k11, k12, k13⟩ := nv_blk hN3 (Below.refl _ _)
  clear hN3
  have HLEN3 := Lib.hid (show ((((L ++ encs false (oneN t) 1) ++ encs true (posN x y z) 3) ++ encs false (oneN e) 1)).length ≤ 208 from by rw [List.length_append]; have h1 := HLEN2.out; have h2 := encs_len (sg := false) (zs := (oneN e)) 1 (by intro j hj; match j, hj with | 0, _ => exact g4); omega)
  have hnl3 : nb < w3.heap.size := Nat.lt_of_lt_of_le hnl HO3.out.size
  have hel3 : e2 < w3.heap.size := Nat.lt_of_lt_of_le heb2 HO3.out.size
  have hev3 : w3.cell? ⟨e2, 0, none⟩ = _ := (HO3.out.cell (p := ⟨e2, 0, none⟩) heb2 h4).trans HG.out.2.2
  have HW3 := Lib.hid (writer_new true e2 bb nb 4 (fun j => 6 + j) (quatN a b c d) ((((L ++ encs false (oneN t) 1) ++ encs true (posN x y z) 3) ++ encs false (oneN e) 1)) w3.drew #[.pointer (some ⟨nb, 6, none⟩), .pointer (some ⟨nb, 7, none⟩), .pointer (some ⟨nb, 8, none⟩), .pointer (some ⟨nb, 9, none⟩)] 43 (by intro j hj; match j, hj with | 0, _ => rfl | 1, _ => rfl | 2, _ => rfl | 3, _ => rfl) hnl3 (by intro j hj; match j, hj with | 0, _ => exact k6 | 1, _ => exact k7 | 2, _ => exact k8 | 3, _ => exact k9) (by intro j hj; match j, hj with | 0, _ => exact g5 | 1, _ => exact g6 | 2, _ => exact g7 | 3, _ => exact g8) hev3 hel3 (HL3.out.below (Below.refl _ _).drew) (by have := HLEN3.out; omega) (by omega) h2 h4)
  clear hnl3 hel3 hev3
  go_wp2_with fail
  go_region_law
    (first
      | (go_simp
         go_at_call 12
         refine HW3.out.mono ?_
         rintro e w4 ⟨rfl, q1, q2⟩
         have HL4 := Lib.hid q1
         have HO4 := Lib.hid (HO3.out.trans ((only_drew (S := fun k => k = bb)).trans q2))
         clear q1 q2))
  have hN4 := (HO4.out.block nb hnl h2).trans HG.out.1
  clear k0 k1 k2 k3 k4 k5 k6 k7 k8 k9 k10 k11 k12 k13
  obtain ⟨⟨k0, k1, k2, k3, k4, k5, k6⟩, k7, k8, k9, k10, k11, k12, k13⟩ := nv_blk hN4 (Below.refl _ _)
  clear hN4
  have HLEN4 := Lib.hid (show (((((L ++ encs false (oneN t) 1) ++ encs true (posN x y z) 3) ++ encs false (oneN e) 1) ++ encs true (quatN a b c d) 4)).length ≤ 244 from by rw [List.length_append]; have h1 := HLEN3.out; have h2 := encs_len (sg := true) (zs := (quatN a b c d)) 4 (by intro j hj; match j, hj with | 0, _ => exact g5 | 1, _ => exact g6 | 2, _ => exact g7 | 3, _ => exact g8); omega)
  have hnl4 : nb < w4.heap.size := Nat.lt_of_lt_of_le hnl HO4.out.size
  have hel4 : e1 < w4.heap.size := Nat.lt_of_lt_of_le heb1 HO4.out.size
  have hev4 : w4.cell? ⟨e1, 0, none⟩ = _ := (HO4.out.cell (p := ⟨e1, 0, none⟩) heb1 h3).trans HG.out.2.1
  have HW4 := Lib.hid (writer_new false e1 bb nb 1 (fun j => 10 + j) (oneN tl) (((((L ++ encs false (oneN t) 1) ++ encs true (posN x y z) 3) ++ encs false (oneN e) 1) ++ encs true (quatN a b c d) 4)) w4 #[.pointer (some ⟨nb, 10, none⟩)] 43 (by intro j hj; match j, hj with | 0, _ => rfl) hnl4 (by intro j hj; match j, hj with | 0, _ => exact k10) (by intro j hj; match j, hj with | 0, _ => exact g9) hev4 hel4 (HL4.out.below (Below.refl _ _)) (by have := HLEN4.out; omega) (by omega) h2 h3)
  clear hnl4 hel4 hev4
  go_wp2_with fail
  refine HW4.out.mono ?_
  rintro e w5 ⟨rfl, q1, q2⟩
  have HL5 := Lib.hid q1
  have HO5 := Lib.hid (HO4.out.trans q2)
  clear q1 q2
  go_wp2
  go_end0
  exact ⟨rfl, by have := HL5.out; simpa [fixL, List.append_assoc] using this, HO5.out⟩

end Go.Proofs.Ytfalhfgnobjfgaa
