/-
  The program's eachField where it reads.
-/
import Derived.Test.YtfalhfgnobjfgaaTRd
import Derived.Deep.RegionLaw
namespace Go.Proofs.Ytfalhfgnobjfgaa
open Go.RowKit Go.Maps

theorem reader_new (sg : Bool) (eb rb qb nb B k : Nat) (os : Nat → Nat) (X : List Nat) (ok0 : Bool) (cs : Array Value) (w : World) (ca : Array Value) (T : TypeId) (hca : ∀ j, j < k → ca[j]? = some (.pointer (some ⟨nb, os j, none⟩)))
    (hos : ∀ j, j < k → os j < cs.size) (he : w.cell? ⟨eb, 0, none⟩ = some (.func (.func (fnD sg)) #[] #[])) (heb : eb < w.heap.size) (hS : RdSt w B rb qb nb X ok0 cs) (hk : k ≤ 100) (hX : X.length ≤ 1048576) (hB : B ≤ w.heap.size)
    (h1 : rb ≠ qb) (h2 : rb ≠ nb) (h3 : qb ≠ nb) (hr : B ≤ rb) (hq : B ≤ qb) (hn : B ≤ nb) (f2 : ¬ ThreeS rb qb nb eb) :
    Calls Try.prog 22 #[.slice (some ⟨w.heap.size, 0, none⟩) k k, .pointer (some ⟨eb, 0, none⟩), .pointer (some ⟨rb, 0, none⟩), .pointer (some ⟨qb, 0, none⟩)] (w.alloc (.cells ca T)) (RetRdr w B rb qb nb k sg X ok0 cs os) := by
  have hb : Below w.heap.size w (w.alloc (.cells ca T)) := (Below.refl _ _).alloc (Nat.le_refl _) _
  obtain ⟨⟨b, o, n, c, g1, g2⟩, g3, g4⟩ := id hS
  have l1 := (Array.getElem?_eq_some_iff.1 g1).1
  have l2 := (Array.getElem?_eq_some_iff.1 g3).1
  have l3 := (Array.getElem?_eq_some_iff.1 g4).1
  refine (reader_any sg w.heap.size eb rb qb nb B k os X ok0 cs (w.alloc (.cells ca T)) (by simp) (fun j hj => (cell_of_row _ _ _ _ _ _ (heap_alloc_new w (.cells ca T))).trans (hca j hj)) hos ((hb.cell (p := ⟨eb, 0, none⟩) heb).trans he) (by simp; omega) (rdSt_below hS hB hb) hk hX (by simp; omega) h1 h2 h3 hr hq hn
    (by rintro (e | e | e) <;> omega) f2).mono ?_
  rintro e w' ⟨rfl, q1, q2⟩
  exact ⟨rfl, q1, (only_below hb).trans q2⟩

theorem rest_len (X : List Nat) : ∀ j, (rest X j).length ≤ X.length
  | 0 => Nat.le_refl _
  | j + 1 => by
    have := rest_len X j
    simp only [rest, List.length_drop]
    omega
theorem three_not {rb qb nb k : Nat} (h1 : k ≠ rb) (h2 : k ≠ qb) (h3 : k ≠ nb) : ¬ ThreeS rb qb nb k := by rintro (e | e | e) <;> omega

set_option maxRecDepth 100000 in
set_option maxHeartbeats 2000000 in
theorem erd_sync (nb e1 e2 rb qb B : Nat) (X : List Nat) (ok0 : Bool) (cs : Array Value) (w : World) (hS : RdSt w B rb qb nb X ok0 cs) (hs0 : cs[0]? = some (.bool true)) (hsz : cs.size = 14) (he : w.cell? ⟨e1, 0, none⟩ = some (.func (.func 23) #[] #[])) (heb : e1 < w.heap.size)
    (hX : X.length ≤ 1048576) (hB : B ≤ w.heap.size) (h1 : rb ≠ qb) (h2 : rb ≠ nb) (h3 : qb ≠ nb) (hr : B ≤ rb) (hq : B ≤ qb) (hn : B ≤ nb) (f2 : ¬ ThreeS rb qb nb e1) :
    Calls Try.prog 13 #[.pointer (some ⟨nb, 0, none⟩), .func (.func 22) #[] #[.pointer (some ⟨e1, 0, none⟩), .pointer (some ⟨rb, 0, none⟩), .pointer (some ⟨qb, 0, none⟩)], .func (.func 22) #[] #[.pointer (some ⟨e2, 0, none⟩), .pointer (some ⟨rb, 0, none⟩), .pointer (some ⟨qb, 0, none⟩)]] w
      (RetRdr w B rb qb nb 3 false X ok0 cs (fun j => 11 + j)) := by
  have k0 : w.cell? ⟨nb, 0, none⟩ = some (.bool true) := (cell_of_row _ _ 0 _ _ _ hS.2.2).trans hs0
  have HW := Lib.hid (reader_new false e1 rb qb nb B 3 (fun j => 11 + j) X ok0 cs w.drew #[.pointer (some ⟨nb, 11, none⟩), .pointer (some ⟨nb, 12, none⟩), .pointer (some ⟨nb, 13, none⟩)] 43
    (by intro j hj; match j, hj with | 0, _ => rfl | 1, _ => rfl | 2, _ => rfl) (by intro j hj; rw [hsz]; show 11 + j < 14; omega) he heb (rdSt_below hS hB (Below.refl _ _).drew) (by omega) hX hB h1 h2 h3 hr hq hn f2)
  clear hS he hs0 hsz
  go_enter Try.func13, Try.ntmps13
  go_wp2_with fail
  go_region_law
    (first
      | (go_simp
         go_at_call 22
         refine HW.out.mono ?_
         rintro e w2 ⟨rfl, q1, q2⟩
         have HQ := Lib.hid (And.intro q1 q2)
         clear q1 q2))
  all_goals
    go_wp2
    refine bodyPost_ret (results_none rfl _ _ _) rfl ?_
    exact ⟨rfl, HQ.out.1, (only_drew (S := ThreeS rb qb nb)).trans HQ.out.2⟩

/-- What eachField leaves behind a fix. -/
noncomputable def fixY (X : List Nat) : List Nat := (rest (rest (rest (rest (rest X 1) 3) 1) 4) 1)
noncomputable def fixK (X : List Nat) (ok0 : Bool) : Bool := (((((ok0 && okR X 1) && okR (rest X 1) 3) && okR (rest (rest X 1) 3) 1) && okR (rest (rest (rest X 1) 3) 1) 4) && okR (rest (rest (rest (rest X 1) 3) 1) 4) 1)
noncomputable def fixC (X : List Nat) (cs : Array Value) : Array Value := (setsN (setsN (setsN (setsN (setsN cs (fun j => 1 + j) (fun i => rv false (rest X i)) 1) (fun j => 2 + j) (fun i => rv true (rest (rest X 1) i)) 3) (fun j => 5 + j) (fun i => rv false (rest (rest (rest X 1) 3) i)) 1) (fun j => 6 + j) (fun i => rv true (rest (rest (rest (rest X 1) 3) 1) i)) 4) (fun j => 10 + j) (fun i => rv false (rest (rest (rest (rest (rest X 1) 3) 1) 4) i)) 1)
def RetErf (w : World) (B rb qb nb : Nat) (X : List Nat) (ok0 : Bool) (cs : Array Value) (e : Ending) (w' : World) : Prop :=
  e = .returned (.tuple #[]) ∧ RdSt w' B rb qb nb (fixY X) (fixK X ok0) (fixC X cs) ∧ Only (ThreeS rb qb nb) w w'

set_option maxRecDepth 100000 in
set_option maxHeartbeats 4000000 in
theorem erd_fix (nb e1 e2 rb qb B : Nat) (X : List Nat) (ok0 : Bool) (cs : Array Value) (w : World) (hS : RdSt w B rb qb nb X ok0 cs) (hs0 : cs[0]? = some (.bool false)) (hsz : cs.size = 14) (he1 : w.cell? ⟨e1, 0, none⟩ = some (.func (.func 23) #[] #[])) (heb1 : e1 < w.heap.size)
    (he2 : w.cell? ⟨e2, 0, none⟩ = some (.func (.func 24) #[] #[])) (heb2 : e2 < w.heap.size)
    (hX : X.length ≤ 1048576) (hB : B ≤ w.heap.size) (h1 : rb ≠ qb) (h2 : rb ≠ nb) (h3 : qb ≠ nb) (hr : B ≤ rb) (hq : B ≤ qb) (hn : B ≤ nb) (f1 : ¬ ThreeS rb qb nb e1) (f2 : ¬ ThreeS rb qb nb e2) :
    Calls Try.prog 13 #[.pointer (some ⟨nb, 0, none⟩), .func (.func 22) #[] #[.pointer (some ⟨e1, 0, none⟩), .pointer (some ⟨rb, 0, none⟩), .pointer (some ⟨qb, 0, none⟩)], .func (.func 22) #[] #[.pointer (some ⟨e2, 0, none⟩), .pointer (some ⟨rb, 0, none⟩), .pointer (some ⟨qb, 0, none⟩)]] w
      (RetErf w B rb qb nb X ok0 cs) := by
  have k0 : w.cell? ⟨nb, 0, none⟩ = some (.bool false) := (cell_of_row _ _ 0 _ _ _ hS.2.2).trans hs0
  have HG := Lib.hid (And.intro he1 he2)
  have HS0 := Lib.hid hS
  have HO0 := Lib.hid (Only.refl (ThreeS rb qb nb) w)
  clear hS hs0 he1 he2
  have hel0 : e1 < w.heap.size := Nat.lt_of_lt_of_le heb1 HO0.out.size
  have hev0 : w.cell? ⟨e1, 0, none⟩ = _ := (HO0.out.cell (p := ⟨e1, 0, none⟩) heb1 f1).trans HG.out.1
  have hB0 : B ≤ w.heap.size := Nat.le_trans hB HO0.out.size
  have HW0 := Lib.hid (reader_new false e1 rb qb nb B 1 (fun j => 1 + j) X ok0 cs w #[.pointer (some ⟨nb, 1, none⟩)] 43 (by intro j hj; match j, hj with | 0, _ => rfl) (by intro j hj; rw [show (cs).size = 14 from by exact hsz]; show 1 + j < 14; omega) hev0 hel0 (rdSt_below HS0.out hB0 (Below.refl _ _)) (by omega) hX hB0 h1 h2 h3 hr hq hn f1)
  clear hel0 hev0 hB0
  go_enter Try.func13, Try.ntmps13
  go_wp2_with fail
  refine HW0.out.mono ?_
  rintro e w1 ⟨rfl, q1, q2⟩
  have HS1 := Lib.hid q1
  have HO1 := Lib.hid (HO0.out.trans q2)
  clear q1 q2
  clear k0
  have HLN1 := Lib.hid (Nat.le_trans (rest_len X 1) hX)
  have hel1 : e2 < w1.heap.size := Nat.lt_of_lt_of_le heb2 HO1.out.size
  have hev1 : w1.cell? ⟨e2, 0, none⟩ = _ := (HO1.out.cell (p := ⟨e2, 0, none⟩) heb2 f2).trans HG.out.2
  have hB1 : B ≤ w1.heap.size := Nat.le_trans hB HO1.out.size
  have HW1 := Lib.hid (reader_new true e2 rb qb nb B 3 (fun j => 2 + j) (rest X 1) (ok0 && okR X 1) (setsN cs (fun j => 1 + j) (fun i => rv false (rest X i)) 1) w1.drew #[.pointer (some ⟨nb, 2, none⟩), .pointer (some ⟨nb, 3, none⟩), .pointer (some ⟨nb, 4, none⟩)] 43 (by intro j hj; match j, hj with | 0, _ => rfl | 1, _ => rfl | 2, _ => rfl) (by intro j hj; rw [show ((setsN cs (fun j => 1 + j) (fun i => rv false (rest X i)) 1)).size = 14 from by rw [setsN_size]; exact hsz]; show 2 + j < 14; omega) hev1 hel1 (rdSt_below HS1.out hB1 (Below.refl _ _).drew) (by omega) HLN1.out hB1 h1 h2 h3 hr hq hn f2)
  clear hel1 hev1 hB1
  go_wp2_with fail
  go_region_law
    (first
      | (go_simp
         go_at_call 22
         refine HW1.out.mono ?_
         rintro e w2 ⟨rfl, q1, q2⟩
         have HS2 := Lib.hid q1
         have HO2 := Lib.hid (HO1.out.trans ((only_drew (S := ThreeS rb qb nb)).trans q2))
         clear q1 q2))
  have HLN2 := Lib.hid (Nat.le_trans (rest_len (rest X 1) 3) HLN1.out)
  have hel2 : e1 < w2.heap.size := Nat.lt_of_lt_of_le heb1 HO2.out.size
  have hev2 : w2.cell? ⟨e1, 0, none⟩ = _ := (HO2.out.cell (p := ⟨e1, 0, none⟩) heb1 f1).trans HG.out.1
  have hB2 : B ≤ w2.heap.size := Nat.le_trans hB HO2.out.size
  have HW2 := Lib.hid (reader_new false e1 rb qb nb B 1 (fun j => 5 + j) (rest (rest X 1) 3) ((ok0 && okR X 1) && okR (rest X 1) 3) (setsN (setsN cs (fun j => 1 + j) (fun i => rv false (rest X i)) 1) (fun j => 2 + j) (fun i => rv true (rest (rest X 1) i)) 3) w2 #[.pointer (some ⟨nb, 5, none⟩)] 43 (by intro j hj; match j, hj with | 0, _ => rfl) (by intro j hj; rw [show ((setsN (setsN cs (fun j => 1 + j) (fun i => rv false (rest X i)) 1) (fun j => 2 + j) (fun i => rv true (rest (rest X 1) i)) 3)).size = 14 from by rw [setsN_size, setsN_size]; exact hsz]; show 5 + j < 14; omega) hev2 hel2 (rdSt_below HS2.out hB2 (Below.refl _ _)) (by omega) HLN2.out hB2 h1 h2 h3 hr hq hn f1)
  clear hel2 hev2 hB2
  go_wp2_with fail
  refine HW2.out.mono ?_
  rintro e w3 ⟨rfl, q1, q2⟩
  have HS3 := Lib.hid q1
  have HO3 := Lib.hid (HO2.out.trans q2)
  clear q1 q2
  have HLN3 := Lib.hid (Nat.le_trans (rest_len (rest (rest X 1) 3) 1) HLN2.out)
  have hel3 : e2 < w3.heap.size := Nat.lt_of_lt_of_le heb2 HO3.out.size
  have hev3 : w3.cell? ⟨e2, 0, none⟩ = _ := (HO3.out.cell (p := ⟨e2, 0, none⟩) heb2 f2).trans HG.out.2
  have hB3 : B ≤ w3.heap.size := Nat.le_trans hB HO3.out.size
  have HW3 := Lib.hid (reader_new true e2 rb qb nb B 4 (fun j => 6 + j) (rest (rest (rest X 1) 3) 1) (((ok0 && okR X 1) && okR (rest X 1) 3) && okR (rest (rest X 1) 3) 1) (setsN (setsN (setsN cs (fun j => 1 + j) (fun i => rv false (rest X i)) 1) (fun j => 2 + j) (fun i => rv true (rest (rest X 1) i)) 3) (fun j => 5 + j) (fun i => rv false (rest (rest (rest X 1) 3) i)) 1) w3.drew #[.pointer (some ⟨nb, 6, none⟩), .pointer (some ⟨nb, 7, none⟩), .pointer (some ⟨nb, 8, none⟩), .pointer (some ⟨nb, 9, none⟩)] 43 (by intro j hj; match j, hj with | 0, _ => rfl | 1, _ => rfl | 2, _ => rfl | 3, _ => rfl) (by intro j hj; rw [show ((setsN (setsN (setsN cs (fun j => 1 + j) (fun i => rv false (rest X i)) 1) (fun j => 2 + j) (fun i => rv true (rest (rest X 1) i)) 3) (fun j => 5 + j) (fun i => rv false (rest (rest (rest X 1) 3) i)) 1)).size = 14 from by rw [setsN_size, setsN_size, setsN_size]; exact hsz]; show 6 + j < 14; omega) hev3 hel3 (rdSt_below HS3.out hB3 (Below.refl _ _).drew) (by omega) HLN3.out hB3 h1 h2 h3 hr hq hn f2)
  clear hel3 hev3 hB3
  go_wp2_with fail
  go_region_law
    (first
      | (go_simp
         go_at_call 22
         refine HW3.out.mono ?_
         rintro e w4 ⟨rfl, q1, q2⟩
         have HS4 := Lib.hid q1
         have HO4 := Lib.hid (HO3.out.trans ((only_drew (S := ThreeS rb qb nb)).trans q2))
         clear q1 q2))
  have HLN4 := Lib.hid (Nat.le_trans (rest_len (rest (rest (rest X 1) 3) 1) 4) HLN3.out)
  have hel4 : e1 < w4.heap.size := Nat.lt_of_lt_of_le heb1 HO4.out.size
  have hev4 : w4.cell? ⟨e1, 0, none⟩ = _ := (HO4.out.cell (p := ⟨e1, 0, none⟩) heb1 f1).trans HG.out.1
  have hB4 : B ≤ w4.heap.size := Nat.le_trans hB HO4.out.size
  have HW4 := Lib.hid (reader_new false e1 rb qb nb B 1 (fun j => 10 + j) (rest (rest (rest (rest X 1) 3) 1) 4) ((((ok0 && okR X 1) && okR (rest X 1) 3) && okR (rest (rest X 1) 3) 1) && okR (rest (rest (rest X 1) 3) 1) 4) (setsN (setsN (setsN (setsN cs (fun j => 1 + j) (fun i => rv false (rest X i)) 1) (fun j => 2 + j) (fun i => rv true (rest (rest X 1) i)) 3) (fun j => 5 + j) (fun i => rv false (rest (rest (rest X 1) 3) i)) 1) (fun j => 6 + j) (fun i => rv true (rest (rest (rest (rest X 1) 3) 1) i)) 4) w4 #[.pointer (some ⟨nb, 10, none⟩)] 43 (by intro j hj; match j, hj with | 0, _ => rfl) (by intro j hj; rw [show ((setsN (setsN (setsN (setsN cs (fun j => 1 + j) (fun i => rv false (rest X i)) 1) (fun j => 2 + j) (fun i => rv true (rest (rest X 1) i)) 3) (fun j => 5 + j) (fun i => rv false (rest (rest (rest X 1) 3) i)) 1) (fun j => 6 + j) (fun i => rv true (rest (rest (rest (rest X 1) 3) 1) i)) 4)).size = 14 from by rw [setsN_size, setsN_size, setsN_size, setsN_size]; exact hsz]; show 10 + j < 14; omega) hev4 hel4 (rdSt_below HS4.out hB4 (Below.refl _ _)) (by omega) HLN4.out hB4 h1 h2 h3 hr hq hn f1)
  clear hel4 hev4 hB4
  go_wp2_with fail
  refine HW4.out.mono ?_
  rintro e w5 ⟨rfl, q1, q2⟩
  have HS5 := Lib.hid q1
  have HO5 := Lib.hid (HO4.out.trans q2)
  clear q1 q2
  go_wp2
  go_end0
  exact ⟨rfl, HS5.out, HO5.out⟩
end Go.Proofs.Ytfalhfgnobjfgaa
