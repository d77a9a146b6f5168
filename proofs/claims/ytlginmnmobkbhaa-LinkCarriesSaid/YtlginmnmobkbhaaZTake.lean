/-
  The receiver's methods: Take, GiveUp, NewReceiver, Next, Held.
-/
import Derived.Test.YtlginmnmobkbhaaZHold
import Derived.Test.YtlginmnmobkbhaaZValid
namespace Go.Proofs.Ytlginmnmobkbhaa
open Go.RowKit Go.Maps
attribute [local go_sem ↓] Go.wp_at_zero Go.wp_at_succ

instance (st sq : Int) (n : Nat) : Decidable (okF st sq n) := by unfold okF; infer_instance
def takeE (st win nx : Int) (F : Hf) (fst fsq : Int) (n : Nat) : Int := if okF fst fsq n then (if fst = st then holdE win nx F fsq else 25) else 20
def giveE (win nx : Int) (F : Hf) (sq : Int) : Int := if 0 ≤ sq ∧ sq ≤ 4294967295 then holdE win nx F sq else 2

theorem retDl_from {w w1 : World} {g mb N : Nat} {st win nx : Int} {F : Hf} {mk : Value → Value} {e : Ending} {w' : World} (hb : Below w.heap.size w w1) (h : RetDl w1 g mb N st win nx F mk e w') : RetDl w g mb N st win nx F mk e w' := by
  obtain ⟨v, m, N', q0, q1, q2, q3, q4, q5, q6, q7⟩ := h
  exact ⟨v, m, N', q0, q1, q2, q3, q4, q5, dls_base q6 hb.size, (only_below hb).trans q7⟩

set_option maxRecDepth 100000 in
set_option maxHeartbeats 1000000 in
theorem take_any (g mb N : Nat) (st win nx fst sq : Int) (F : Hf) (X : List Nat) (A : Option Addr) (n c B : Nat) (w : World) (h : Rcv w g mb N st win nx F) (hF : InW F nx win) (hN : N ≤ 1048576) (hnx : 0 ≤ nx ∧ nx ≤ 4294967296) (hw : 1 ≤ win ∧ win ≤ 64)
    (hx : RB w B (.slice A n c) X) (hB : B ≤ w.heap.size) (ce : Int) (hce : takeE st win nx F fst sq n = ce) :
    Calls Try.prog 13 #[.pointer (some ⟨g, 0, none⟩), .agg #[.int .i64 fst, .int .i64 sq, .slice A n c]] w (RetHold w g mb (N + 1) st win nx (putH F sq X false) ce) := by
  obtain ⟨W0, HW0, hw0, HG, z0⟩ := F0ex w fst sq (.slice A n c)
  obtain ⟨k0, k1, k2, kf⟩ := fr_blk HG.out (Below.refl _ _)
  have hR0 := rcv_below h hw0
  obtain ⟨c0, c1, c2, c3, cf⟩ := rcv_cells hR0
  have HXL := Lib.hid hx.1.len
  have HR0 := Lib.hid hR0
  have HF := Lib.hid hF
  have HX := Lib.hid (And.intro (hx.belowM hw0 hB) hB)
  have HNL := Lib.hid (none_live g win W0 c1 (by omega))
  clear hx hR0 hF h cf
  unfold takeE at hce
  by_cases hok : okF fst sq n
  · rw [if_pos hok] at hce
    have HOK := Lib.hid hok
    have HV := Lib.hid (validFrame_yes fst sq A n c hok W0)
    clear hok
    by_cases hs : fst = st
    · subst hs
      rw [if_pos rfl] at hce
      have HC := Lib.hid hce
      clear hce
      go_enter Try.func13, Try.ntmps13
      go_wp2_with fail
      rw [← HW0.out]
      refine HNL.out.mono ?_
      rintro e w1 ⟨rfl, rfl⟩
      go_wp2_with fail
      refine HV.out.mono ?_
      rintro e w1 ⟨rfl, b1⟩
      have hR1 := rcv_below HR0.out b1
      obtain ⟨c0', c1', c2', c3', cf'⟩ := rcv_cells hR1
      obtain ⟨k0', k1', k2', kf'⟩ := fr_blk HG.out b1
      have hb1 := hw0.trans (b1.mono hw0.size)
      have HH := Lib.hid (hold_any g mb N fst win nx sq F X false A n c B w1.drew (show Rcv w1.drew g mb N fst win nx F from rcv_only (S := fun _ => False) hR1 only_drew (fun _ _ _ _ h => h) (fun h => h) (fun h => h)) HF.out hN hnx hw ⟨HOK.out.2.2.1, HOK.out.2.2.2.1⟩
        (by have := HX.out.1.belowM b1 (by omega); exact ⟨this.1.drew, this.2⟩) (Nat.le_trans HX.out.2 hb1.size) (by have := HOK.out.2.2.2.2; have := HXL.out; omega) ce HC.out)
      have HB1 := Lib.hid hb1
      clear hR1 cf' hb1 c0 c1 c2 c3 k0 k1 k2 b1 kf
      go_wp2_with fail
      go_region
      go_wp2_with fail
      refine HH.out.mono ?_
      rintro e w2 (⟨q0, rfl, q1⟩ | ⟨q0, q1⟩)
      · have HQ := Lib.hid (And.intro q0 q1)
        clear q0 q1
        go_wp2
        go_ret2
        exact .inl ⟨HQ.out.1, rfl, HB1.out.drew.trans (HQ.out.2.mono HB1.out.size)⟩
      · obtain ⟨v5, m, N', rfl, q1, q2, q3, q4, q5, q6, q7⟩ := q1
        have HQ := Lib.hid (And.intro q1 (And.intro q2 (And.intro q3 (And.intro q4 (And.intro q5 (And.intro q6 (And.intro q7 q0)))))))
        clear q0 q1 q2 q3 q4 q5 q6 q7
        go_wp2
        go_ret2
        exact .inr ⟨HQ.out.2.2.2.2.2.2.2, retDl_from HB1.out.drew ⟨v5, m, N', rfl, HQ.out.1, HQ.out.2.1, HQ.out.2.2.1, HQ.out.2.2.2.1, HQ.out.2.2.2.2.1, HQ.out.2.2.2.2.2.1, HQ.out.2.2.2.2.2.2.1⟩⟩
    · rw [if_neg hs] at hce
      subst hce
      have hd : (fst != st) = true := by simpa using hs
      go_enter Try.func13, Try.ntmps13
      go_wp2_with fail
      rw [← HW0.out]
      refine HNL.out.mono ?_
      rintro e w1 ⟨rfl, rfl⟩
      go_wp2_with fail
      refine HV.out.mono ?_
      rintro e w1 ⟨rfl, b1⟩
      have hR1 := rcv_below HR0.out b1
      obtain ⟨c0', c1', c2', c3', cf'⟩ := rcv_cells hR1
      obtain ⟨k0', k1', k2', kf'⟩ := fr_blk HG.out b1
      have hb1 := hw0.trans (b1.mono hw0.size)
      have HB1 := Lib.hid hb1
      clear hR1 cf' hb1 c0 c1 c2 c3 k0 k1 k2 b1 kf
      go_wp2_with fail
      go_region
      go_wp2
      go_ret2
      exact .inl ⟨by omega, rfl, HB1.out.drew⟩
  · rw [if_neg hok] at hce
    subst hce
    have HV := Lib.hid (validFrame_no fst sq A n c hok W0)
    clear hok
    go_enter Try.func13, Try.ntmps13
    go_wp2_with fail
    rw [← HW0.out]
    refine HNL.out.mono ?_
    rintro e w1 ⟨rfl, rfl⟩
    go_wp2_with fail
    refine HV.out.mono ?_
    rintro e w1 ⟨rfl, b1⟩
    have HB1 := Lib.hid (hw0.trans (b1.mono hw0.size))
    clear b1
    go_wp2
    go_ret2
    exact .inl ⟨by omega, rfl, HB1.out⟩

set_option maxRecDepth 100000 in
set_option maxHeartbeats 1000000 in
theorem giveUp_any (g mb N : Nat) (st win nx sq : Int) (F : Hf) (w : World) (h : Rcv w g mb N st win nx F) (hF : InW F nx win) (hN : N ≤ 1048576) (hnx : 0 ≤ nx ∧ nx ≤ 4294967296) (hw : 1 ≤ win ∧ win ≤ 64)
    (ce : Int) (hce : giveE win nx F sq = ce) :
    Calls Try.prog 15 #[.pointer (some ⟨g, 0, none⟩), .int .i64 sq] w (RetHold w g mb (N + 1) st win nx (putH F sq [] true) ce) := by
  obtain ⟨c0, c1, c2, c3, cf⟩ := rcv_cells h
  have HR0 := Lib.hid h
  have HF := Lib.hid hF
  have HNL := Lib.hid (none_live g win w c1 (by omega))
  clear hF h cf c0 c1 c2 c3
  unfold giveE at hce
  by_cases h1 : 0 ≤ sq ∧ sq ≤ 4294967295
  · rw [if_pos h1] at hce
    have HH := Lib.hid (hold_any g mb N st win nx sq F [] true none 0 0 0 w HR0.out HF.out hN hnx hw h1 rb_nil (Nat.zero_le _) (by simp) ce hce)
    obtain ⟨h2, h3⟩ := h1
    clear hce
    go_enter Try.func15, Try.ntmps15
    go_wp2_with (first | (go_at_call 54; refine HNL.out.mono ?_; rintro e w1 ⟨rfl, rfl⟩) | (go_at_call 53; go_in))
    refine HH.out.mono ?_
    rintro e w2 (⟨q0, rfl, q1⟩ | ⟨q0, q1⟩)
    · have HQ := Lib.hid (And.intro q0 q1)
      clear q0 q1
      go_wp2
      go_ret2
      exact .inl ⟨HQ.out.1, rfl, HQ.out.2⟩
    · obtain ⟨v5, m, N', rfl, q1, q2, q3, q4, q5, q6, q7⟩ := q1
      have HQ := Lib.hid (And.intro q1 (And.intro q2 (And.intro q3 (And.intro q4 (And.intro q5 (And.intro q6 (And.intro q7 q0)))))))
      clear q0 q1 q2 q3 q4 q5 q6 q7
      go_wp2
      go_ret2
      exact .inr ⟨HQ.out.2.2.2.2.2.2.2, v5, m, N', rfl, HQ.out.1, HQ.out.2.1, HQ.out.2.2.1, HQ.out.2.2.2.1, HQ.out.2.2.2.2.1, HQ.out.2.2.2.2.2.1, HQ.out.2.2.2.2.2.2.1⟩
  · rw [if_neg h1] at hce
    subst hce
    clear HF HR0
    by_cases h2 : 0 ≤ sq
    · have h3 : ¬ sq ≤ 4294967295 := fun h => h1 ⟨h2, h⟩
      have d3 : decide (sq ≤ 4294967295) = false := by simpa using h3
      clear h1
      go_enter Try.func15, Try.ntmps15
      go_wp2_with (first | (go_at_call 54; refine HNL.out.mono ?_; rintro e w1 ⟨rfl, rfl⟩) | (go_at_call 53; go_in))
      go_ret2
      exact .inl ⟨by omega, rfl, Below.refl _ _⟩
    · have d3 : decide (0 ≤ sq) = false := by simpa using h2
      clear h1
      go_enter Try.func15, Try.ntmps15
      go_wp2_with (first | (go_at_call 54; refine HNL.out.mono ?_; rintro e w1 ⟨rfl, rfl⟩) | (go_at_call 53; go_in))
      go_ret2
      exact .inl ⟨by omega, rfl, Below.refl _ _⟩

set_option maxRecDepth 100000 in
theorem next_any (g mb N : Nat) (st win nx : Int) (F : Hf) (w : World) (h : Rcv w g mb N st win nx F) (hw : 1 ≤ win) :
    Calls Try.prog 17 #[.pointer (some ⟨g, 0, none⟩)] w fun e w' => e = .returned (.int .i64 nx) ∧ w = w' := by
  obtain ⟨c0, c1, c2, c3, cf⟩ := rcv_cells h
  have HNL := Lib.hid (none_live g win w c1 (by omega))
  clear h cf
  go_enter Try.func17, Try.ntmps17
  go_wp2_with fail
  refine HNL.out.mono ?_
  rintro e w1 ⟨rfl, rfl⟩
  go_wp2
  go_ret
  exact ⟨rfl, rfl⟩

def okR (st win nx : Int) : Prop := (0 ≤ st ∧ st ≤ 255) ∧ (1 ≤ win ∧ win ≤ 64) ∧ 0 ≤ nx ∧ nx ≤ 4294967295
def RetNew (w : World) (st win nx : Int) (e : Ending) (w' : World) : Prop :=
  ∃ g mb, e = .returned (.tuple #[.pointer (some ⟨g, 0, none⟩), .int .i64 0]) ∧ Rcv w' g mb 0 st win nx (fun _ => none) ∧ w.heap.size ≤ g ∧ w.heap.size ≤ mb ∧ Below w.heap.size w w'
set_option maxRecDepth 100000 in
set_option maxHeartbeats 1000000 in
theorem new_yes (st win nx : Int) (w : World) (h : okR st win nx) : Calls Try.prog 11 #[.int .i64 st, .int .i64 win, .int .i64 nx] w (RetNew w st win nx) := by
  obtain ⟨⟨h1, h2⟩, ⟨h3, h4⟩, h5, h6⟩ := h
  have hmm := @run_makeMap Try.prog
  go_enter Try.func11, Try.ntmps11
  go_wp2
  go_ret2
  refine ⟨_, _, rfl, ⟨heap_alloc2_new w _ _, _, ((mapF_made w Try.prog 3).only (S := fun _ => False) (only_alloc _) (fun h => h)), fun k => rfl⟩, by simp, Nat.le_refl _, ((Below.refl _ _).alloc (Nat.le_refl _) _).alloc (by simp) _⟩

set_option maxRecDepth 100000 in
set_option maxHeartbeats 1000000 in
theorem new_no (st win nx : Int) (w : World) (h : ¬ okR st win nx) : Calls Try.prog 11 #[.int .i64 st, .int .i64 win, .int .i64 nx] w (fun e w' => e = .returned (.tuple #[.pointer none, .int .i64 2]) ∧ w = w') := by
  unfold okR at h
  by_cases h1 : 0 ≤ st
  · by_cases h2 : st ≤ 255
    · by_cases h3 : 1 ≤ win
      · by_cases h4 : win ≤ 64
        · by_cases h5 : 0 ≤ nx
          · have h6 : ¬ nx ≤ 4294967295 := by omega
            have d : decide (nx ≤ 4294967295) = false := by simpa using h6
            clear h
            go_enter Try.func11, Try.ntmps11
            go_wp2
            go_ret2
            exact ⟨rfl, rfl⟩
          · have d : decide (0 ≤ nx) = false := by simpa using h5
            clear h
            go_enter Try.func11, Try.ntmps11
            go_wp2
            go_ret2
            exact ⟨rfl, rfl⟩
        · have d : decide (win ≤ 64) = false := by simpa using h4
          clear h
          go_enter Try.func11, Try.ntmps11
          go_wp2
          go_ret2
          exact ⟨rfl, rfl⟩
      · have d : decide (1 ≤ win) = false := by simpa using h3
        clear h
        go_enter Try.func11, Try.ntmps11
        go_wp2
        go_ret2
        exact ⟨rfl, rfl⟩
    · have d : decide (st ≤ 255) = false := by simpa using h2
      clear h
      go_enter Try.func11, Try.ntmps11
      go_wp2
      go_ret2
      exact ⟨rfl, rfl⟩
  · have d : decide (0 ≤ st) = false := by simpa using h1
    clear h
    go_enter Try.func11, Try.ntmps11
    go_wp2
    go_ret2
    exact ⟨rfl, rfl⟩
end Go.Proofs.Ytlginmnmobkbhaa
