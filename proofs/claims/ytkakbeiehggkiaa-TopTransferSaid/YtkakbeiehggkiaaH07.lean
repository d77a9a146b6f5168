/-
  The receiver's methods: Take, GiveUp, NewReceiver, Next, Held.
  A frame that came in, opened.
  Lists that came in, opened: of frames (with what the numbers are), of slices of bytes.
  What the statement LinkOnce keeps.
-/
import Derived.Test.YtkakbeiehggkiaaH06
import Derived.Test.YtkakbeiehggkiaaH03
import Derived.Deep.Slices
namespace Go.Proofs.Ytkakbeiehggkiaa
open Go.RowKit Go.Maps
attribute [local go_sem ↓] Go.wp_at_zero Go.wp_at_succ

instance (st sq : Int) (n : Nat) : Decidable (okF st sq n) := by unfold okF; infer_instance
def takeE (st win nx : Int) (F : Hf) (fst fsq : Int) (n : Nat) : Int := if okF fst fsq n then (if fst = st then holdE win nx F fsq else 25) else 20
def giveE (win nx : Int) (F : Hf) (sq : Int) : Int := if 0 ≤ sq ∧ sq ≤ 4294967295 then holdE win nx F sq else 2

theorem retDl_from {w w1 : World} {g mb N : Nat} {st win nx : Int} {F : Hf} {mk : Value → Value} {e : Ending} {w' : World} (hb : Below w.heap.size w w1) (h : RetDl w1 g mb N st win nx F mk e w') : RetDl w g mb N st win nx F mk e w' := by
  obtain ⟨v, m, N', q0, q1, q2, q3, q4, q5, q6, q7⟩ := h
  exact ⟨v, m, N', q0, q1, q2, q3, q4, q5, dls_base q6 hb.size, (only_below hb).trans q7⟩

set_option maxRecDepth 100000 in
set_option maxHeartbeats 1000000 in
theorem take_any (g mb N : Nat) (st win nx fst sq : Int) (F : Hf) (X : List Nat) (A : Option Addr) (n c B : Nat) (w : World) (h : Rcv w g mb N st win nx F) (hF : InW F nx win) (hN : N ≤ 1048576) (hnx : 0 ≤ nx ∧ nx ≤ 4294967296) (hw : 1 ≤ win ∧ win ≤ 64)
    (hx : RB w B (.slice A n c) X) (hB : B ≤ w.heap.size) (ce : Int) (hce : takeE st win nx F fst sq n = ce) :
    Calls Try.prog 13 #[.pointer (some ⟨g, 0, none⟩), .agg #[.int .i64 fst, .int .i64 sq, .slice A n c]] w (RetHold w g mb (N + 1) st win nx (putH F sq X false) ce) := by
  obtain ⟨W0, HW0, hw0, HG, z0⟩ := F0ex w fst sq (.slice A n c)
  obtain ⟨k0, k1, k2, kf⟩ := fr_blk HG.out (Below.refl _ _)
  have hR0 := rcv_below h hw0
  obtain ⟨c0, c1, c2, c3, cf⟩ := rcv_cells hR0
  have HXL := Lib.hid hx.1.len
  have HR0 := Lib.hid hR0
  have HF := Lib.hid hF
  have HX := Lib.hid (And.intro (hx.belowM hw0 hB) hB)
  have HNL := Lib.hid (none_live g win W0 c1 (by omega))
  clear hx hR0 hF h cf
  unfold takeE at hce
  by_cases hok : okF fst sq n
  · rw [if_pos hok] at hce
    have HOK := Lib.hid hok
    have HV := Lib.hid (validFrame_yes fst sq A n c hok W0)
    clear hok
    by_cases hs : fst = st
    · subst hs
      rw [if_pos rfl] at hce
      have HC := Lib.hid hce
      clear hce
      go_enter Try.func13, Try.ntmps13
      go_wp2_with fail
      rw [← HW0.out]
      refine HNL.out.mono ?_
      rintro e w1 ⟨rfl, rfl⟩
      go_wp2_with fail
      refine HV.out.mono ?_
      rintro e w1 ⟨rfl, b1⟩
      have hR1 := rcv_below HR0.out b1
      obtain ⟨c0', c1', c2', c3', cf'⟩ := rcv_cells hR1
      obtain ⟨k0', k1', k2', kf'⟩ := fr_blk HG.out b1
      have hb1 := hw0.trans (b1.mono hw0.size)
      have HH := Lib.hid (hold_any g mb N fst win nx sq F X false A n c B w1.drew (show Rcv w1.drew g mb N fst win nx F from rcv_only (S := fun _ => False) hR1 only_drew (fun _ _ _ _ h => h) (fun h => h) (fun h => h)) HF.out hN hnx hw ⟨HOK.out.2.2.1, HOK.out.2.2.2.1⟩
        (by have := HX.out.1.belowM b1 (by omega); exact ⟨this.1.drew, this.2⟩) (Nat.le_trans HX.out.2 hb1.size) (by have := HOK.out.2.2.2.2; have := HXL.out; omega) ce HC.out)
      have HB1 := Lib.hid hb1
      clear hR1 cf' hb1 c0 c1 c2 c3 k0 k1 k2 b1 kf
      go_wp2_with fail
      go_region
      go_wp2_with fail
      refine HH.out.mono ?_
      rintro e w2 (⟨q0, rfl, q1⟩ | ⟨q0, q1⟩)
      · have HQ := Lib.hid (And.intro q0 q1)
        clear q0 q1
        go_wp2
        go_ret2
        exact .inl ⟨HQ.out.1, rfl, HB1.out.drew.trans (HQ.out.2.mono HB1.out.size)⟩
      · obtain ⟨v5, m, N', rfl, q1, q2, q3, q4, q5, q6, q7⟩ := q1
        have HQ := Lib.hid (And.intro q1 (And.intro q2 (And.intro q3 (And.intro q4 (And.intro q5 (And.intro q6 (And.intro q7 q0)))))))
        clear q0 q1 q2 q3 q4 q5 q6 q7
        go_wp2
        go_ret2
        exact .inr ⟨HQ.out.2.2.2.2.2.2.2, retDl_from HB1.out.drew ⟨v5, m, N', rfl, HQ.out.1, HQ.out.2.1, HQ.out.2.2.1, HQ.out.2.2.2.1, HQ.out.2.2.2.2.1, HQ.out.2.2.2.2.2.1, HQ.out.2.2.2.2.2.2.1⟩⟩
    · rw [if_neg hs] at hce
      subst hce
      have hd : (fst != st) = true := by simpa using hs
      go_enter Try.func13, Try.ntmps13
      go_wp2_with fail
      rw [← HW0.out]
      refine HNL.out.mono ?_
      rintro e w1 ⟨rfl, rfl⟩
      go_wp2_with fail
      refine HV.out.mono ?_
      rintro e w1 ⟨rfl, b1⟩
      have hR1 := rcv_below HR0.out b1
      obtain ⟨c0', c1', c2', c3', cf'⟩ := rcv_cells hR1
      obtain ⟨k0', k1', k2', kf'⟩ := fr_blk HG.out b1
      have hb1 := hw0.trans (b1.mono hw0.size)
      have HB1 := Lib.hid hb1
      clear hR1 cf' hb1 c0 c1 c2 c3 k0 k1 k2 b1 kf
      go_wp2_with fail
      go_region
      go_wp2
      go_ret2
      exact .inl ⟨by omega, rfl, HB1.out.drew⟩
  · rw [if_neg hok] at hce
    subst hce
    have HV := Lib.hid (validFrame_no fst sq A n c hok W0)
    clear hok
    go_enter Try.func13, Try.ntmps13
    go_wp2_with fail
    rw [← HW0.out]
    refine HNL.out.mono ?_
    rintro e w1 ⟨rfl, rfl⟩
    go_wp2_with fail
    refine HV.out.mono ?_
    rintro e w1 ⟨rfl, b1⟩
    have HB1 := Lib.hid (hw0.trans (b1.mono hw0.size))
    clear b1
    go_wp2
    go_ret2
    exact .inl ⟨by omega, rfl, HB1.out⟩

set_option maxRecDepth 100000 in
set_option maxHeartbeats 1000000 in
theorem giveUp_any (g mb N : Nat) (st win nx sq : Int) (F : Hf) (w : World) (h : Rcv w g mb N st win nx F) (hF : InW F nx win) (hN : N ≤ 1048576) (hnx : 0 ≤ nx ∧ nx ≤ 4294967296) (hw : 1 ≤ win ∧ win ≤ 64)
    (ce : Int) (hce : giveE win nx F sq = ce) :
    Calls Try.prog 15 #[.pointer (some ⟨g, 0, none⟩), .int .i64 sq] w (RetHold w g mb (N + 1) st win nx (putH F sq [] true) ce) := by
  obtain ⟨c0, c1, c2, c3, cf⟩ := rcv_cells h
  have HR0 := Lib.hid h
  have HF := Lib.hid hF
  have HNL := Lib.hid (none_live g win w c1 (by omega))
  clear hF h cf c0 c1 c2 c3
  unfold giveE at hce
  by_cases h1 : 0 ≤ sq ∧ sq ≤ 4294967295
  · rw [if_pos h1] at hce
    have HH := Lib.hid (hold_any g mb N st win nx sq F [] true none 0 0 0 w HR0.out HF.out hN hnx hw h1 rb_nil (Nat.zero_le _) (by simp) ce hce)
    obtain ⟨h2, h3⟩ := h1
    clear hce
    go_enter Try.func15, Try.ntmps15
    go_wp2_with (first | (go_at_call 54; refine HNL.out.mono ?_; rintro e w1 ⟨rfl, rfl⟩) | (go_at_call 53; go_in))
    refine HH.out.mono ?_
    rintro e w2 (⟨q0, rfl, q1⟩ | ⟨q0, q1⟩)
    · have HQ := Lib.hid (And.intro q0 q1)
      clear q0 q1
      go_wp2
      go_ret2
      exact .inl ⟨HQ.out.1, rfl, HQ.out.2⟩
    · obtain ⟨v5, m, N', rfl, q1, q2, q3, q4, q5, q6, q7⟩ := q1
      have HQ := Lib.hid (And.intro q1 (And.intro q2 (And.intro q3 (And.intro q4 (And.intro q5 (And.intro q6 (And.intro q7 q0)))))))
      clear q0 q1 q2 q3 q4 q5 q6 q7
      go_wp2
      go_ret2
      exact .inr ⟨HQ.out.2.2.2.2.2.2.2, v5, m, N', rfl, HQ.out.1, HQ.out.2.1, HQ.out.2.2.1, HQ.out.2.2.2.1, HQ.out.2.2.2.2.1, HQ.out.2.2.2.2.2.1, HQ.out.2.2.2.2.2.2.1⟩
  · rw [if_neg h1] at hce
    subst hce
    clear HF HR0
    by_cases h2 : 0 ≤ sq
    · have h3 : ¬ sq ≤ 4294967295 := fun h => h1 ⟨h2, h⟩
      have d3 : decide (sq ≤ 4294967295) = false := by simpa using h3
      clear h1
      go_enter Try.func15, Try.ntmps15
      go_wp2_with (first | (go_at_call 54; refine HNL.out.mono ?_; rintro e w1 ⟨rfl, rfl⟩) | (go_at_call 53; go_in))
      go_ret2
      exact .inl ⟨by omega, rfl, Below.refl _ _⟩
    · have d3 : decide (0 ≤ sq) = false := by simpa using h2
      clear h1
      go_enter Try.func15, Try.ntmps15
      go_wp2_with (first | (go_at_call 54; refine HNL.out.mono ?_; rintro e w1 ⟨rfl, rfl⟩) | (go_at_call 53; go_in))
      go_ret2
      exact .inl ⟨by omega, rfl, Below.refl _ _⟩

set_option maxRecDepth 100000 in
theorem next_any (g mb N : Nat) (st win nx : Int) (F : Hf) (w : World) (h : Rcv w g mb N st win nx F) (hw : 1 ≤ win) :
    Calls Try.prog 17 #[.pointer (some ⟨g, 0, none⟩)] w fun e w' => e = .returned (.int .i64 nx) ∧ w = w' := by
  obtain ⟨c0, c1, c2, c3, cf⟩ := rcv_cells h
  have HNL := Lib.hid (none_live g win w c1 (by omega))
  clear h cf
  go_enter Try.func17, Try.ntmps17
  go_wp2_with fail
  refine HNL.out.mono ?_
  rintro e w1 ⟨rfl, rfl⟩
  go_wp2
  go_ret
  exact ⟨rfl, rfl⟩

def okR (st win nx : Int) : Prop := (0 ≤ st ∧ st ≤ 255) ∧ (1 ≤ win ∧ win ≤ 64) ∧ 0 ≤ nx ∧ nx ≤ 4294967295
def RetNew (w : World) (st win nx : Int) (e : Ending) (w' : World) : Prop :=
  ∃ g mb, e = .returned (.tuple #[.pointer (some ⟨g, 0, none⟩), .int .i64 0]) ∧ Rcv w' g mb 0 st win nx (fun _ => none) ∧ w.heap.size ≤ g ∧ w.heap.size ≤ mb ∧ Below w.heap.size w w'
set_option maxRecDepth 100000 in
set_option maxHeartbeats 1000000 in
theorem new_yes (st win nx : Int) (w : World) (h : okR st win nx) : Calls Try.prog 11 #[.int .i64 st, .int .i64 win, .int .i64 nx] w (RetNew w st win nx) := by
  obtain ⟨⟨h1, h2⟩, ⟨h3, h4⟩, h5, h6⟩ := h
  have hmm := @run_makeMap Try.prog
  go_enter Try.func11, Try.ntmps11
  go_wp2
  go_ret2
  refine ⟨_, _, rfl, ⟨heap_alloc2_new w _ _, _, ((mapF_made w Try.prog 3).only (S := fun _ => False) (only_alloc _) (fun h => h)), fun k => rfl⟩, by simp, Nat.le_refl _, ((Below.refl _ _).alloc (Nat.le_refl _) _).alloc (by simp) _⟩

set_option maxRecDepth 100000 in
set_option maxHeartbeats 1000000 in
theorem new_no (st win nx : Int) (w : World) (h : ¬ okR st win nx) : Calls Try.prog 11 #[.int .i64 st, .int .i64 win, .int .i64 nx] w (fun e w' => e = .returned (.tuple #[.pointer none, .int .i64 2]) ∧ w = w') := by
  unfold okR at h
  by_cases h1 : 0 ≤ st
  · by_cases h2 : st ≤ 255
    · by_cases h3 : 1 ≤ win
      · by_cases h4 : win ≤ 64
        · by_cases h5 : 0 ≤ nx
          · have h6 : ¬ nx ≤ 4294967295 := by omega
            have d : decide (nx ≤ 4294967295) = false := by simpa using h6
            clear h
            go_enter Try.func11, Try.ntmps11
            go_wp2
            go_ret2
            exact ⟨rfl, rfl⟩
          · have d : decide (0 ≤ nx) = false := by simpa using h5
            clear h
            go_enter Try.func11, Try.ntmps11
            go_wp2
            go_ret2
            exact ⟨rfl, rfl⟩
        · have d : decide (win ≤ 64) = false := by simpa using h4
          clear h
          go_enter Try.func11, Try.ntmps11
          go_wp2
          go_ret2
          exact ⟨rfl, rfl⟩
      · have d : decide (1 ≤ win) = false := by simpa using h3
        clear h
        go_enter Try.func11, Try.ntmps11
        go_wp2
        go_ret2
        exact ⟨rfl, rfl⟩
    · have d : decide (st ≤ 255) = false := by simpa using h2
      clear h
      go_enter Try.func11, Try.ntmps11
      go_wp2
      go_ret2
      exact ⟨rfl, rfl⟩
  · have d : decide (0 ≤ st) = false := by simpa using h1
    clear h
    go_enter Try.func11, Try.ntmps11
    go_wp2
    go_ret2
    exact ⟨rfl, rfl⟩
end Go.Proofs.Ytkakbeiehggkiaa

namespace Go.Proofs.Ytkakbeiehggkiaa
open Go.RowKit Go.WideShapes Go.ChangeShapes Go.Joins

set_option maxRecDepth 100000 in
theorem cellsFr : Try.prog.cellsOf 35 = 3 := by kernel_rfl

set_option maxRecDepth 100000 in
theorem open_bytesRB_cell {H : Type} {enc : TypeId × Value → H} {W : World} {base fuel : Nat} {v : Value} {x : DataW H × List MemPlace}
    (hf : DataW.trod enc Try.prog W base (fun _ => true) true fuel 33 [v] = some x) :
    ∃ A n c L, v = .slice A n c ∧ AllB L ∧ RB W W.heap.size (.slice A n c) L := by
  have hform : ∃ A n c, v = .slice A n c := by
    rcases open_ints Try.underlying33 Try.underlying5 cellsB hf with ⟨hcs, hx⟩ | ⟨a, len', cap', zs, hcs, _⟩
    · simp only [List.cons.injEq, and_true] at hcs
      exact ⟨_, _, _, hcs⟩
    · simp only [List.cons.injEq, and_true] at hcs
      exact ⟨_, _, _, hcs⟩
  obtain ⟨A, n, c, rfl⟩ := hform
  obtain ⟨L, h1, h2⟩ := open_bytesRB_cs hf
  exact ⟨A, n, c, L, rfl, h1, h2⟩

set_option maxRecDepth 100000 in
theorem open_frame {H : Type} {enc : TypeId × Value → H} {W : World} {b : Nat} {v : Value} {d : DataW H} {ps : List MemPlace}
    (hok : Value.okWide Try.prog W .any b 35 v) (h : DataW.Trod enc Try.prog W 0 (fun _ => true) true 35 v d ps) :
    ∃ st sq A n c L, v = .agg #[.int .i64 st, .int .i64 sq, .slice A n c] ∧ AllB L ∧ RB W W.heap.size (.slice A n c) L := by
  obtain ⟨c0, c1, c2, y0, y1, y3, m, rfl, rfl, rfl, hy0, hy1, hy3⟩ := open_agg3 Try.underlying35 (by kernel_rfl) cellsFr hok h
  obtain ⟨st, e0, rfl, wst⟩ := DataW.trod_int Try.underlying3 hy0
  obtain ⟨sq, e1, rfl, wsq⟩ := DataW.trod_int Try.underlying3 hy1
  simp at e0 e1
  subst e0 e1
  obtain ⟨A0, n0, c0, X0, rfl, hB0, hx0⟩ := open_bytesRB_cell hy3
  exact ⟨st, sq, A0, n0, c0, X0, rfl, hB0, hx0⟩
end Go.Proofs.Ytkakbeiehggkiaa

namespace Go.Proofs.Ytkakbeiehggkiaa
open Go.RowKit Go.WideShapes Go.ChangeShapes Go.Joins

def FrIW (w : World) (A : Option Addr) (i : Nat) : Prop :=
  ∃ b o st sq A' n' c' X, A = some ⟨b, o, none⟩ ∧ b < w.heap.size ∧ w.cell? ⟨b, o + i * 3, none⟩ = some (.int .i64 st) ∧ w.cell? ⟨b, o + i * 3 + 1, none⟩ = some (.int .i64 sq) ∧ w.cell? ⟨b, o + i * 3 + 2, none⟩ = some (.slice A' n' c') ∧
    (Lit.int .i64 st).wf = true ∧ (Lit.int .i64 sq).wf = true ∧ AllB X ∧ RB w w.heap.size (.slice A' n' c') X

set_option maxRecDepth 100000 in
theorem open_framesW {H : Type} {enc : TypeId × Value → H} {W : World} {b : Nat} {v : Value} {d : DataW H} {ps : List MemPlace}
    (hok : Value.okWide Try.prog W .any b 63 v) (h : DataW.Trod enc Try.prog W 0 (fun _ => true) true 63 v d ps) :
    ∃ A n c, v = .slice A n c ∧ ∀ i, i < n → FrIW W A i := by
  obtain ⟨a0, n, c, rfl⟩ := WideShapes.okWide_slice Try.underlying63 hok
  obtain ⟨fuel, hf0⟩ := h
  have hf : DataW.trod enc Try.prog W 0 (fun _ => true) true fuel 63 [.slice a0 n c] = some (d, ps) := by simpa [Value.cells] using hf0
  refine ⟨a0, n, c, rfl, ?_⟩
  rcases Go.Deep.open_slice Try.underlying63 hf with ⟨hcs, _⟩ | ⟨a, len, cap, m, k, D, Pl, hcs, hb, hl, hm, hmm, hx, hel⟩
  · simp only [List.cons.injEq, and_true] at hcs
    injection hcs with e1 e2 e3
    subst e2
    exact fun i hi => absurd hi (by omega)
  · simp only [List.cons.injEq, and_true] at hcs
    injection hcs with e1 e2 e3
    subst e1 e2 e3
    intro i hi
    have hsp : a.spot = none := by
      obtain ⟨cs0, h1, _⟩ := hel 0 (by rw [hmm]; split <;> omega)
      rw [cellsFr] at h1
      obtain ⟨_, hlen, hcell⟩ := World.cells?_some h1
      have h0 := hcell 0 (by omega)
      rw [List.getElem?_eq_getElem (by omega)] at h0
      simpa [Addr.add] using World.cell?_spot h0
    obtain ⟨cs', h1, h2⟩ := hel i (by rw [hmm]; split <;> omega)
    rw [cellsFr] at h1
    obtain ⟨_, hlen, hcell⟩ := World.cells?_some h1
    have ci : Try.prog.cellsOf 3 = 1 := by kernel_rfl
    have cB : Try.prog.cellsOf 33 = 1 := by kernel_rfl
    obtain ⟨y0, y1, y2, k', hx', _, g0, g1, g2⟩ := Go.Deep.trod_struct3 Try.underlying35 h2
    match cs', hlen with
    | [u0, u1, u2], _ =>
      simp only [ci, cB, List.drop_zero, List.drop_succ_cons, List.take_succ_cons, List.take_zero] at g0 g1 g2
      obtain ⟨st, e0, _, wst⟩ := DataW.trod_int Try.underlying3 g0
      obtain ⟨sq, e1, _, wsq⟩ := DataW.trod_int Try.underlying3 g1
      simp at e0 e1
      subst e0 e1
      obtain ⟨A', n', c', X, rfl, hXB, hX⟩ := open_bytesRB_cell g2
      have p0 := hcell 0 (by omega)
      have p1 := hcell 1 (by omega)
      have p2 := hcell 2 (by omega)
      rw [Go.Deep.add_add] at p0 p1 p2
      simp only [List.getElem?_cons_zero, List.getElem?_cons_succ, Nat.add_zero] at p0 p1 p2
      obtain ⟨bb, off, spot⟩ := a
      simp only at hsp
      subst hsp
      rw [Go.WideShapes.add_plain] at p0 p1 p2
      exact ⟨bb, off, st, sq, A', n', c', X, rfl, World.block_lt_of_cell? _ _ p0, p0, by rw [Nat.add_assoc]; exact p1, by rw [Nat.add_assoc]; exact p2, wst, wsq, hXB, hX⟩

/-- Element i of a list of slices of bytes at A. -/
def ByIn (w : World) (A : Option Addr) (i : Nat) : Prop :=
  ∃ b o A' n' c' X, A = some ⟨b, o, none⟩ ∧ b < w.heap.size ∧ w.cell? ⟨b, o + i, none⟩ = some (.slice A' n' c') ∧ AllB X ∧ RB w w.heap.size (.slice A' n' c') X
set_option maxRecDepth 100000 in
theorem open_bodies {H : Type} {enc : TypeId × Value → H} {W : World} {b : Nat} {v : Value} {d : DataW H} {ps : List MemPlace}
    (hok : Value.okWide Try.prog W .any b 74 v) (h : DataW.Trod enc Try.prog W 0 (fun _ => true) true 74 v d ps) :
    ∃ A n c, v = .slice A n c ∧ n ≤ maxLen ∧ ∀ i, i < n → ByIn W A i := by
  obtain ⟨a0, n, c, rfl⟩ := WideShapes.okWide_slice Try.underlying74 hok
  obtain ⟨fuel, hf0⟩ := h
  have hf : DataW.trod enc Try.prog W 0 (fun _ => true) true fuel 74 [.slice a0 n c] = some (d, ps) := by simpa [Value.cells] using hf0
  have cB : Try.prog.cellsOf 33 = 1 := by kernel_rfl
  rcases Go.Deep.open_slice1 Try.underlying74 cB hf with ⟨hcs, _⟩ | ⟨a, len, cap, m, k, V, D, Pl, hcs, hb, hl, hm, hmm, hx, hel⟩
  · simp only [List.cons.injEq, and_true] at hcs
    injection hcs with e1 e2 e3
    subst e2
    exact ⟨a0, 0, c, rfl, Nat.zero_le _, fun i hi => absurd hi (by omega)⟩
  · simp only [List.cons.injEq, and_true] at hcs
    injection hcs with e1 e2 e3
    subst e1 e2 e3
    refine ⟨_, _, _, rfl, Nat.le_trans hl hm, ?_⟩
    intro i hi
    have hsp : a.spot = none := by
      obtain ⟨h0, _⟩ := hel 0 (by rw [hmm]; split <;> omega)
      simpa [Addr.add] using World.cell?_spot h0
    obtain ⟨h1, h2⟩ := hel i (by rw [hmm]; split <;> omega)
    obtain ⟨A', n', c', X, e, hXB, hX⟩ := open_bytesRB_cell h2
    rw [e] at h1
    obtain ⟨bb, off, spot⟩ := a
    simp only at hsp
    subst hsp
    rw [Go.WideShapes.add_plain] at h1
    exact ⟨bb, off, A', n', c', X, rfl, World.block_lt_of_cell? _ _ h1, h1, hXB, hX⟩
end Go.Proofs.Ytkakbeiehggkiaa

namespace Go.Proofs.Ytkakbeiehggkiaa
open Go.RowKit Go.Maps

theorem takeE_zero {st win nx fst sq : Int} {F : Hf} {n : Nat} (h : takeE st win nx F fst sq n = 0) : okF fst sq n ∧ fst = st ∧ nx ≤ sq ∧ F sq = none ∧ sq < nx + win := by
  unfold takeE at h
  by_cases h1 : okF fst sq n
  · rw [if_pos h1] at h
    by_cases h2 : fst = st
    · rw [if_pos h2] at h
      unfold holdE at h
      by_cases h3 : sq < nx
      · rw [if_pos h3] at h; omega
      · rw [if_neg h3] at h
        by_cases h4 : F sq ≠ none
        · rw [if_pos h4] at h; omega
        · rw [if_neg h4] at h
          by_cases h5 : nx + win ≤ sq
          · rw [if_pos h5] at h; omega
          · exact ⟨h1, h2, by omega, by simpa using h4, by omega⟩
    · rw [if_neg h2] at h; omega
  · rw [if_neg h1] at h; omega

def OnceF (F : Hf) (f : Int → Option Value) (nx win : Int) : Prop :=
  (∀ k x, F k = some x → nx < k ∧ k < nx + win ∧ k ≤ 4294967295 ∧ x.2 = false) ∧ ∀ k, nx ≤ k → f k = (F k).map (fun x => .string (strB x.1))
theorem OnceF.inW {F : Hf} {f : Int → Option Value} {nx win : Int} (h : OnceF F f nx win) : InW F nx win := fun k x hk => by
  have := h.1 k x hk
  omega
theorem once_none {F : Hf} {f : Int → Option Value} {nx win : Int} (h : OnceF F f nx win) : f nx = none := by
  rw [h.2 nx (by omega)]
  cases e : F nx with
  | none => rfl
  | some x => have := (h.1 nx x e).1; omega
theorem once_ok {F : Hf} {f : Int → Option Value} {nx win sq : Int} {X : List Nat} {m : Nat} (h : OnceF F f nx win) (h1 : nx ≤ sq) (h2 : sq < nx + win) (h3 : sq ≤ 4294967295) (hnx : nx ≤ 4294967296)
    (hm : ∀ i : Nat, i < m → putH F sq X false (nx + i) ≠ none) (hz : putH F sq X false (nx + m) = none) :
    (∀ i : Nat, i < m → ∃ Y, putH F sq X false (nx + i) = some (Y, false) ∧ (if nx + i = sq then some (Value.string (strB X)) else f (nx + i)) = some (.string (strB Y))) ∧
    OnceF (cutF (putH F sq X false) (nx + m)) (fun z => if z = sq then some (.string (strB X)) else f z) (nx + m) win ∧ nx + m ≤ 4294967296 := by
  have hb : ∀ k x, putH F sq X false k = some x → nx ≤ k ∧ k < nx + win ∧ k ≤ 4294967295 ∧ x.2 = false := by
    intro k x hk
    unfold putH at hk
    by_cases e : k = sq
    · subst e
      rw [if_pos rfl] at hk
      injection hk with hk
      subst hk
      exact ⟨h1, h2, h3, rfl⟩
    · rw [if_neg e] at hk
      have := h.1 k x hk
      exact ⟨by omega, this.2.1, this.2.2.1, this.2.2.2⟩
  have hf : ∀ k, nx ≤ k → (if k = sq then some (Value.string (strB X)) else f k) = (putH F sq X false k).map (fun x => .string (strB x.1)) := by
    intro k hk
    unfold putH
    by_cases e : k = sq
    · rw [if_pos e, if_pos e]; rfl
    · rw [if_neg e, if_neg e, h.2 k hk]
  refine ⟨fun i hi => ?_, ⟨fun k x hk => ?_, fun k hk => ?_⟩, ?_⟩
  · obtain ⟨y, hy⟩ := Option.ne_none_iff_exists'.1 (hm i hi)
    obtain ⟨Y, l⟩ := y
    have hl := (hb _ _ hy).2.2.2
    simp only at hl
    subst hl
    refine ⟨Y, hy, ?_⟩
    rw [hf (nx + i) (by omega), hy]
    rfl
  · unfold cutF at hk
    by_cases e : k < nx + m
    · rw [if_pos e] at hk; cases hk
    · rw [if_neg e] at hk
      have h4 := hb k x hk
      have : k ≠ nx + m := fun e2 => by rw [e2, hz] at hk; cases hk
      exact ⟨by omega, by omega, h4.2.2.1, h4.2.2.2⟩
  · show (if k = sq then some (Value.string (strB X)) else f k) = _
    rw [hf k (by omega)]
    unfold cutF
    rw [if_neg (by omega)]
  · by_cases e : m = 0
    · subst e; omega
    · obtain ⟨y, hy⟩ := Option.ne_none_iff_exists'.1 (hm (m - 1) (by omega))
      have := (hb _ _ hy).2.2.1
      omega

/-- The cells of a list of deliveries. -/
theorem dls_cells {w : World} {base : Nat} {v : Value} {Ds : List Dl} (h : DlS w base v Ds) : ∃ A c, v = .slice A Ds.length c ∧ Ds.length ≤ c ∧
    ∀ i (hi : i < Ds.length), ∃ g A' n' c', A = some ⟨g, 0, none⟩ ∧ g < w.heap.size ∧ w.cell? ⟨g, i * 3, none⟩ = some (.int .i64 (Ds[i]'hi).1) ∧ w.cell? ⟨g, i * 3 + 1, none⟩ = some (.slice A' n' c') ∧
      w.cell? ⟨g, i * 3 + 2, none⟩ = some (.bool (Ds[i]'hi).2.2) ∧ RB w w.heap.size (.slice A' n' c') (Ds[i]'hi).2.1 := by
  obtain ⟨vs, h1, ho, h3⟩ := h
  obtain ⟨hl, ⟨rfl, h0⟩ | ⟨g, cap, cur, rfl, _, hblk, hle, _, _, ht⟩⟩ := id ho
  · exact ⟨none, 0, by rw [h0], by omega, fun i hi => by omega⟩
  · refine ⟨some ⟨g, 0, none⟩, cap, rfl, hle, fun i hi => ?_⟩
    obtain ⟨c1, c2, c3⟩ := dlC_get Ds vs i hi h1
    have hn := bd_rb (h3 i hi (by omega))
    obtain ⟨A', c', e⟩ := hn.form
    rw [e] at c2
    rw [e] at hn
    exact ⟨g, A', _, c', rfl, (Array.getElem?_eq_some_iff.1 hblk).1, (ho.cellAt (i * 3) (by omega)).trans c1, (ho.cellAt (i * 3 + 1) (by omega)).trans c2, (ho.cellAt (i * 3 + 2) (by omega)).trans c3, hn⟩
/-- Such a list is kept where a map is written. -/
theorem dls_turned {w w' : World} {base b : Nat} {v : Value} {Ds : List Dl} (h : DlS w base v Ds) (ht : w.mapTurned w' b) : DlS w' base v Ds := by
  obtain ⟨es, c, es', c', hb, _⟩ := id ht
  refine dls_only (S := fun k => k = b) h (only_turned ht rfl) (fun k cs fr hk e => ?_) (fun k hk e => ?_)
  · subst e; rw [hb] at hk; cases hk
  · subst e
    obtain ⟨vs, _, ho, _⟩ := h
    obtain ⟨_, _, cs, hc⟩ := own_block ho hk
    rw [hb] at hc; cases hc
theorem rcv_turned {w w' : World} {g mb N b : Nat} {st win nx : Int} {F : Hf} (h : Rcv w g mb N st win nx F) (ht : w.mapTurned w' b) (h1 : g ≠ b) (h2 : mb ≠ b) : Rcv w' g mb N st win nx F := by
  obtain ⟨es, c, es', c', hb, _⟩ := id ht
  refine rcv_only (S := fun k => k = b) h (only_turned ht rfl) (fun k cs fr hk e => ?_) h1 h2
  subst e; rw [hb] at hk; cases hk
end Go.Proofs.Ytkakbeiehggkiaa
