/-
  Base, Runs, Echoes of any samples and any detector; Time of an echo that Echoes found.
-/
import Derived.Test.YtkcagifljelfoaaVFirst
import Derived.Test.YtkcagifljelfoaaVCut
import Derived.Test.YtkcagifljelfoaaVRunr
import Derived.Test.YtkcagifljelfoaaVDet
import Derived.Laws.Cover2
namespace Go.Proofs.Ytkcagifljelfoaa
open Go.RowKit Go.WideShapes Go.ChangeShapes Go.Joins

def baseV (zs : List Int) : Int := if zs ≠ [] ∧ okZ zs then med zs else 0
def baseE (zs : List Int) : Int := if zs ≠ [] ∧ okZ zs then 0 else 2
theorem base_any (zs : List Int) (A : Option Addr) (n c : Nat) (w : World) (hx : IW w w.heap.size (.slice A n c) zs) :
    Calls Try.prog 28 #[.slice A n c] w (RetBase w (baseV zs) (baseE zs)) := by
  unfold baseV baseE
  by_cases h : zs ≠ [] ∧ okZ zs
  · rw [if_pos h, if_pos h]
    exact base_ok zs A n c w hx h.1 h.2
  · rw [if_neg h, if_neg h]
    refine (base_bad zs A n c _ w hx (by by_cases h1 : zs = []; exact .inl h1; exact .inr fun h2 => h ⟨h1, h2⟩)).mono ?_
    rintro e w' ⟨rfl, rfl⟩
    exact ⟨rfl, Below.refl _ _⟩
theorem refBase_any (zs : List Int) (A : Option Addr) (n c B : Nat) (w : World) (hx : IW w B (.slice A n c) zs) :
    Calls Try.prog 33 #[.slice A n c] w (RetBase w (baseV zs) (baseE zs)) := by
  unfold baseV baseE
  by_cases h : zs ≠ [] ∧ okZ zs
  · rw [if_pos h, if_pos h]
    refine (refBase_ok zs A n c B w hx h.1 h.2).mono ?_
    rintro e w' ⟨rfl, rfl⟩
    exact ⟨rfl, Below.refl _ _⟩
  · rw [if_neg h, if_neg h]
    refine (refBase_bad zs A n c B w hx (by by_cases h1 : zs = []; exact .inl h1; exact .inr fun h2 => h ⟨h1, h2⟩)).mono ?_
    rintro e w' ⟨rfl, rfl⟩
    exact ⟨rfl, Below.refl _ _⟩

def runsR (zs : List Int) (level : Int) : List Rn := if okZ zs then runsK zs level zs.length else []
def runsE (zs : List Int) : Int := if okZ zs then 0 else 2
def RetRn (w : World) (R : List Rn) (c : Int) (e : Ending) (w' : World) : Prop :=
  ∃ v, e = .returned (.tuple #[v, .int .i64 c]) ∧ SR rnE 2 w' v R ∧ Below w.heap.size w w'
theorem sr_nil (w : World) : SR rnE 2 w (.slice none 0 0) ([] : List Rn) := ⟨none, 0, rfl, Nat.le_refl _, by simp [maxLen], fun h => absurd h (by simp)⟩
theorem SL.sr {α : Type} {enc : α → List Int} {k : Nat} {e : TypeId} {w : World} {base : Nat} {v : Value} {R : List α} (hk : ∀ a, (enc a).length = k) (h : SL enc k e w base v R) : SR enc k w v R := by
  obtain ⟨A, c, rfl, hA, hc⟩ := h.slice
  rcases Nat.eq_zero_or_pos R.length with h0 | h0
  · exact ⟨A, c, rfl, hc.1, hc.2, fun h => absurd h (by omega)⟩
  · obtain ⟨g, rfl, h1, h2⟩ := hA h0
    have := SL.reads hk h (Nat.le_refl _) h2 hc
    rwa [List.take_length] at this
theorem runs_any (zs : List Int) (level : Int) (A : Option Addr) (n c B : Nat) (w : World) (hx : IW w B (.slice A n c) zs) (hB : B ≤ w.heap.size) :
    Calls Try.prog 31 #[.slice A n c, .int .i64 level] w (RetRn w (runsR zs level) (runsE zs)) := by
  unfold runsR runsE
  by_cases h : okZ zs
  · rw [if_pos h, if_pos h]
    refine (runs_ok zs level A n c B w hx hB h).mono ?_
    rintro e w' ⟨v, rfl, hS, hb⟩
    exact ⟨v, rfl, SL.sr rnE_len hS, hb⟩
  · rw [if_neg h, if_neg h]
    have hV := validSamples_any zs A n c B w hx
    rw [decide_eq_false h] at hV
    unfold RetSame at hV
    clear hx
    go_enter Try.func31, Try.ntmps31
    go_wp2_with (go_at_call 36; refine hV.mono ?_; rintro e w' ⟨rfl, rfl⟩)
    go_ret2
    exact ⟨_, rfl, sr_nil _, Below.refl _ _⟩
theorem refRuns_any (zs : List Int) (level : Int) (A : Option Addr) (n c B : Nat) (w : World) (hx : IW w B (.slice A n c) zs) (hB : B ≤ w.heap.size) :
    Calls Try.prog 34 #[.slice A n c, .int .i64 level] w (RetRn w (runsR zs level) (runsE zs)) := by
  unfold runsR runsE
  by_cases h : okZ zs
  · rw [if_pos h, if_pos h]
    refine (refRuns_ok zs level A n c B w hx hB h).mono ?_
    rintro e w' ⟨v, rfl, hS, hb⟩
    exact ⟨v, rfl, SL.sr rnE_len hS, hb⟩
  · rw [if_neg h, if_neg h]
    have hV := refSamples_any zs A n c B w hx
    rw [decide_eq_false h] at hV
    unfold RetSame at hV
    clear hx
    go_enter Try.func34, Try.ntmps34
    go_wp2_with (go_at_call 41; refine hV.mono ?_; rintro e w' ⟨rfl, rfl⟩)
    go_ret2
    exact ⟨_, rfl, sr_nil _, Below.refl _ _⟩

set_option maxRecDepth 100000 in
set_option maxHeartbeats 1000000 in
theorem echoes_none (lv dp st dl : Int) (hd : okD ⟨lv, dp, st, dl⟩) (A : Option Addr) (c : Nat) (w : World) :
    Calls Try.prog 17 #[.slice A 0 c, .agg #[.int .i64 lv, .int .i64 dp, .int .i64 st, .int .i64 dl]] w (RetEch w [] 0) := by
  obtain ⟨W0, hW0⟩ : ∃ W0, W0 = w.alloc (.cells #[.int .i64 lv, .int .i64 dp, .int .i64 st, .int .i64 dl] 42) := ⟨_, rfl⟩
  have hb0 : Below w.heap.size w W0 := by rw [hW0]; exact (Below.refl _ w).alloc (Nat.le_refl _) _
  have hVD := validDet_yes lv dp st dl hd W0
  have HW := Lib.hid (And.intro hW0 hb0)
  clear hW0 hb0 hd
  go_enter Try.func17, Try.ntmps17
  go_wp2_with (go_at_call 19; rw [← HW.out.1]; refine hVD.mono ?_; rintro en w1 ⟨rfl, hb1⟩; have HB := Lib.hid hb1; clear hb1)
  go_ret2
  exact ⟨_, rfl, ⟨none, 0, rfl, Nat.le_refl _, by simp [maxLen], fun h => absurd h (by simp)⟩, HW.out.2.trans (HB.out.mono HW.out.2.size)⟩
def echG (zs : List Int) (d : De) : List Eo := if zs = [] then [] else echF zs d
theorem echoes_any (zs : List Int) (hok : okZ zs) (lv dp st dl : Int) (hd : okD ⟨lv, dp, st, dl⟩) (A : Option Addr) (n c : Nat) (w : World) (hx : IW w w.heap.size (.slice A n c) zs) :
    Calls Try.prog 17 #[.slice A n c, .agg #[.int .i64 lv, .int .i64 dp, .int .i64 st, .int .i64 dl]] w (RetEch w (echG zs ⟨lv, dp, st, dl⟩) 0) := by
  unfold echG
  by_cases h : zs = []
  · rw [if_pos h]
    have hl := hx.len
    rw [h] at hl
    simp at hl
    subst hl
    exact echoes_none lv dp st dl hd A c w
  · rw [if_neg h]
    exact echoes_ok zs hok h lv dp st dl hd A n c w hx
theorem echG_good {zs : List Int} {d : De} (hd : 1 ≤ d.dp) : ∀ e ∈ echG zs d, goodE zs zs.length e := by
  intro e he
  unfold echG at he
  split at he
  · simp at he
  · exact echF_good hd e he
/-- What Time says of a good echo. -/
def TimeOut (zs : List Int) (fr to i : Nat) (lv : Int) (lo hi cc : Int) : Prop :=
  fr ≤ i ∧ i < to ∧ lv ≤ ith zs i ∧ (∀ j, fr ≤ j → j < i → ith zs j < lv) ∧
  ((cc = 32) ∨ (cc = 0 ∧ 0 < i ∧ ith zs (i - 1) < lv ∧ lo = 256 * (((i - 1 : Nat) : Int) * (ith zs i - ith zs (i - 1)) + (lv - ith zs (i - 1)) - 1) / (ith zs i - ith zs (i - 1)) ∧ hi = -(-(256 * (((i - 1 : Nat) : Int) * (ith zs i - ith zs (i - 1)) + (lv - ith zs (i - 1)))) / (ith zs i - ith zs (i - 1)))))
theorem time_good (zs : List Int) (hok : okZ zs) (fr to pk : Nat) (lv tp : Int) (n : Nat) (hg : goodE zs n ⟨fr, to, pk, lv, tp⟩) (A : Option Addr) (c : Nat) (w : World) (hx : IW w w.heap.size (.slice A n c) zs) :
    ∃ i lo hi cc, TimeOut zs fr to i lv lo hi cc ∧ Calls Try.prog 22 #[.slice A n c, .agg #[.int .i64 (fr : Int), .int .i64 (to : Int), .int .i64 (pk : Int), .int .i64 lv, .int .i64 tp]] w (RetSE w lo hi cc) := by
  obtain ⟨g1, g2, g3, g4, g5⟩ := hg
  simp only at g1 g2 g3 g4
  have e : fr + (pk - fr) = pk := by omega
  obtain ⟨i, i1, i2, i3, i4⟩ := first_high (zs := zs) (lv := lv) (fr := fr) (pk - fr) (by rw [e]; exact g4)
  have i5 : i < to := by omega
  rcases Nat.eq_zero_or_pos i with h0 | h0
  · exact ⟨i, 0, 0, 32, ⟨i1, i5, i3, i4, .inl rfl⟩, time_cut0 zs hok fr to i (pk : Int) lv tp A n c w hx (by omega) g3 i1 i5 h0 i4 i3⟩
  · by_cases h1 : lv ≤ ith zs (i - 1)
    · exact ⟨i, 0, 0, 32, ⟨i1, i5, i3, i4, .inl rfl⟩, time_cut1 zs hok fr to i (pk : Int) lv tp A n c w hx (by omega) g3 i1 i5 h0 i4 i3 h1⟩
    · exact ⟨i, _, _, 0, ⟨i1, i5, i3, i4, .inr ⟨rfl, h0, by omega, rfl, rfl⟩⟩, time_raw zs hok fr to i (pk : Int) lv tp A n c w hx (by omega) g3 i1 i5 h0 i4 i3 (by omega)⟩

theorem cellsDet : Try.prog.cellsOf 42 = 4 := by kernel_rfl
set_option maxRecDepth 100000 in
theorem open_detector {H : Type} {enc : TypeId × Value → H} {W : World} {b : Nat} {v : Value} {d : DataW H} {ps : List MemPlace}
    (hok : Value.okWide Try.prog W .any b 42 v) (h : DataW.Trod enc Try.prog W 0 (fun _ => true) true 42 v d ps) :
    ∃ lv dp st dl, v = .agg #[.int .i64 lv, .int .i64 dp, .int .i64 st, .int .i64 dl] := by
  obtain ⟨c0, c1, c2, c3, y0, y1, y2, y3, m, rfl, rfl, rfl, hy0, hy1, hy2, hy3⟩ := open_agg4 Try.underlying42 (by kernel_rfl) cellsDet hok h
  obtain ⟨lv, e0, rfl, _⟩ := DataW.trod_int Try.underlying3 hy0
  obtain ⟨dp, e1, rfl, _⟩ := DataW.trod_int Try.underlying3 hy1
  obtain ⟨st, e2, rfl, _⟩ := DataW.trod_int Try.underlying3 hy2
  obtain ⟨dl, e3, rfl, _⟩ := DataW.trod_int Try.underlying3 hy3
  simp at e0 e1 e2 e3
  subst e0 e1 e2 e3
  exact ⟨lv, dp, st, dl, rfl⟩

set_option maxRecDepth 100000 in
set_option maxHeartbeats 1000000 in
theorem refDet_yes (lv dp st dl : Int) (h : okD ⟨lv, dp, st, dl⟩) (w : World) :
    Calls Try.prog 20 #[.agg #[.int .i64 lv, .int .i64 dp, .int .i64 st, .int .i64 dl]] w (RetB w true) := by
  obtain ⟨a1, a2, a3, a4, a5, a6, a7, a8⟩ := h
  simp only at a1 a2 a3 a4 a5 a6 a7 a8
  go_enter Try.func20, Try.ntmps20
  go_wp2
  go_ret
  refine ⟨by simp [*], ?_⟩
  exact (Below.refl _ w).alloc (Nat.le_refl _) _

set_option maxRecDepth 100000 in
set_option maxHeartbeats 4000000 in
theorem refDet_no (lv dp st dl : Int) (h : ¬ okD ⟨lv, dp, st, dl⟩) (w : World) :
    Calls Try.prog 20 #[.agg #[.int .i64 lv, .int .i64 dp, .int .i64 st, .int .i64 dl]] w (RetB w false) := by
  unfold okD at h
  simp only at h
  by_cases a1 : 1 ≤ lv
  · by_cases a2 : lv ≤ 1023
    · by_cases a3 : 1 ≤ dp
      · by_cases a4 : dp ≤ 1023
        · by_cases a5 : 1 ≤ st
          · by_cases a6 : st ≤ 10000
            · by_cases a7 : -1048576 ≤ dl
              · have a8 : ¬ dl ≤ 1048576 := by omega
                clear h
                go_enter Try.func20, Try.ntmps20
                go_wp2
                go_ret
                exact fine_no_end (by simp [*])
              · clear h
                go_enter Try.func20, Try.ntmps20
                go_wp2
                go_ret
                exact fine_no_end (by simp [*])
            · clear h
              go_enter Try.func20, Try.ntmps20
              go_wp2
              go_ret
              exact fine_no_end (by simp [*])
          · clear h
            go_enter Try.func20, Try.ntmps20
            go_wp2
            go_ret
            exact fine_no_end (by simp [*])
        · clear h
          go_enter Try.func20, Try.ntmps20
          go_wp2
          go_ret
          exact fine_no_end (by simp [*])
      · clear h
        go_enter Try.func20, Try.ntmps20
        go_wp2
        go_ret
        exact fine_no_end (by simp [*])
    · clear h
      go_enter Try.func20, Try.ntmps20
      go_wp2
      go_ret
      exact fine_no_end (by simp [*])
  · clear h
    go_enter Try.func20, Try.ntmps20
    go_wp2
    go_ret
    exact fine_no_end (by simp [*])

set_option maxRecDepth 100000 in
set_option maxHeartbeats 4000000 in
theorem validDet_no (lv dp st dl : Int) (h : ¬ okD ⟨lv, dp, st, dl⟩) (w : World) :
    Calls Try.prog 19 #[.agg #[.int .i64 lv, .int .i64 dp, .int .i64 st, .int .i64 dl]] w (RetB w false) := by
  unfold okD at h
  simp only at h
  by_cases a1 : 1 ≤ lv
  · by_cases a2 : lv ≤ 1023
    · by_cases a3 : 1 ≤ dp
      · by_cases a4 : dp ≤ 1023
        · by_cases a5 : 1 ≤ st
          · by_cases a6 : st ≤ 10000
            · by_cases a7 : -1048576 ≤ dl
              · have a8 : ¬ dl ≤ 1048576 := by omega
                clear h
                go_enter Try.func19, Try.ntmps19
                go_wp2
                go_ret
                exact fine_no_end (by simp [*])
              · clear h
                go_enter Try.func19, Try.ntmps19
                go_wp2
                go_ret
                exact fine_no_end (by simp [*])
            · clear h
              go_enter Try.func19, Try.ntmps19
              go_wp2
              go_ret
              exact fine_no_end (by simp [*])
          · clear h
            go_enter Try.func19, Try.ntmps19
            go_wp2
            go_ret
            exact fine_no_end (by simp [*])
        · clear h
          go_enter Try.func19, Try.ntmps19
          go_wp2
          go_ret
          exact fine_no_end (by simp [*])
      · clear h
        go_enter Try.func19, Try.ntmps19
        go_wp2
        go_ret
        exact fine_no_end (by simp [*])
    · clear h
      go_enter Try.func19, Try.ntmps19
      go_wp2
      go_ret
      exact fine_no_end (by simp [*])
  · clear h
    go_enter Try.func19, Try.ntmps19
    go_wp2
    go_ret
    exact fine_no_end (by simp [*])

theorem validDet_any (lv dp st dl : Int) (w : World) :
    Calls Try.prog 19 #[.agg #[.int .i64 lv, .int .i64 dp, .int .i64 st, .int .i64 dl]] w (RetB w (decide (okD ⟨lv, dp, st, dl⟩))) := by
  by_cases h : okD ⟨lv, dp, st, dl⟩
  · rw [decide_eq_true h]; exact validDet_yes lv dp st dl h w
  · rw [decide_eq_false h]; exact validDet_no lv dp st dl h w
theorem refDet_any (lv dp st dl : Int) (w : World) :
    Calls Try.prog 20 #[.agg #[.int .i64 lv, .int .i64 dp, .int .i64 st, .int .i64 dl]] w (RetB w (decide (okD ⟨lv, dp, st, dl⟩))) := by
  by_cases h : okD ⟨lv, dp, st, dl⟩
  · rw [decide_eq_true h]; exact refDet_yes lv dp st dl h w
  · rw [decide_eq_false h]; exact refDet_no lv dp st dl h w

def echE (zs : List Int) (d : De) : Int := if okD d then (if zs = [] ∨ okZ zs then 0 else 2) else 31
def echA (zs : List Int) (d : De) : List Eo := if okD d ∧ okZ zs then echG zs d else []
theorem okZ_nil : okZ [] := ⟨by simp, fun x h => by simp at h⟩
theorem sr_nilE (w : World) : SR eoE 5 w (.slice none 0 0) ([] : List Eo) := ⟨none, 0, rfl, Nat.le_refl _, by simp [maxLen], fun h => absurd h (by simp)⟩

set_option maxRecDepth 100000 in
set_option maxHeartbeats 1000000 in
theorem echoes_baddet (lv dp st dl : Int) (hd : ¬ okD ⟨lv, dp, st, dl⟩) (A : Option Addr) (n c : Nat) (w : World) :
    Calls Try.prog 17 #[.slice A n c, .agg #[.int .i64 lv, .int .i64 dp, .int .i64 st, .int .i64 dl]] w (RetEch w [] 31) := by
  obtain ⟨W0, hW0⟩ : ∃ W0, W0 = w.alloc (.cells #[.int .i64 lv, .int .i64 dp, .int .i64 st, .int .i64 dl] 42) := ⟨_, rfl⟩
  have hb0 : Below w.heap.size w W0 := by rw [hW0]; exact (Below.refl _ w).alloc (Nat.le_refl _) _
  have hVD := validDet_no lv dp st dl hd W0
  have HW := Lib.hid (And.intro hW0 hb0)
  clear hW0 hb0 hd
  go_enter Try.func17, Try.ntmps17
  go_wp2_with (go_at_call 19; rw [← HW.out.1]; refine hVD.mono ?_; rintro en w1 ⟨rfl, hb1⟩; have HB := Lib.hid hb1; clear hb1)
  go_ret2
  exact ⟨_, rfl, sr_nilE _, HW.out.2.trans (HB.out.mono HW.out.2.size)⟩

set_option maxRecDepth 100000 in
set_option maxHeartbeats 1000000 in
theorem echoes_bad (zs : List Int) (hok : ¬ okZ zs) (lv dp st dl : Int) (hd : okD ⟨lv, dp, st, dl⟩) (A : Option Addr) (n c : Nat) (w : World) (hx : IW w w.heap.size (.slice A n c) zs) :
    Calls Try.prog 17 #[.slice A n c, .agg #[.int .i64 lv, .int .i64 dp, .int .i64 st, .int .i64 dl]] w (RetEch w [] 2) := by
  have hl := hx.len
  have hn0 : 0 < n := by
    rcases Nat.eq_zero_or_pos n with h | h
    · subst h
      exact absurd (by rw [List.eq_nil_of_length_eq_zero hl.symm]; exact okZ_nil) hok
    · exact h
  obtain ⟨W0, hW0⟩ : ∃ W0, W0 = w.alloc (.cells #[.int .i64 lv, .int .i64 dp, .int .i64 st, .int .i64 dl] 42) := ⟨_, rfl⟩
  have hb0 : Below w.heap.size w W0 := by rw [hW0]; exact (Below.refl _ w).alloc (Nat.le_refl _) _
  have hVD := validDet_yes lv dp st dl hd W0
  have HW := Lib.hid (And.intro hW0 (And.intro hb0 (And.intro hx hok)))
  clear hW0 hb0 hd hx hok hl
  go_enter Try.func17, Try.ntmps17
  go_wp2_with (go_at_call 19; rw [← HW.out.1]; refine hVD.mono ?_; rintro en w1 ⟨rfl, hb1⟩; have HB := Lib.hid hb1; clear hb1)
  have hb1 := HW.out.2.1.trans (HB.out.mono HW.out.2.1.size)
  refine (base_bad zs A n c _ w1 (HW.out.2.2.1.below hb1) (.inr HW.out.2.2.2)).mono ?_
  rintro en w2 ⟨rfl, rfl⟩
  go_wp2
  go_ret2
  exact ⟨_, rfl, sr_nilE _, hb1⟩

theorem echoes_all (zs : List Int) (lv dp st dl : Int) (A : Option Addr) (n c : Nat) (w : World) (hx : IW w w.heap.size (.slice A n c) zs) :
    Calls Try.prog 17 #[.slice A n c, .agg #[.int .i64 lv, .int .i64 dp, .int .i64 st, .int .i64 dl]] w (RetEch w (echA zs ⟨lv, dp, st, dl⟩) (echE zs ⟨lv, dp, st, dl⟩)) := by
  unfold echA echE
  by_cases hd : okD ⟨lv, dp, st, dl⟩
  · by_cases hz : okZ zs
    · rw [if_pos hd, if_pos ⟨hd, hz⟩, if_pos (.inr hz)]
      exact echoes_any zs hz lv dp st dl hd A n c w hx
    · have hne : ¬ (zs = [] ∨ okZ zs) := fun h => h.elim (fun h => hz (by rw [h]; exact okZ_nil)) hz
      rw [if_pos hd, if_neg (fun h => hz h.2), if_neg hne]
      exact echoes_bad zs hz lv dp st dl hd A n c w hx
  · rw [if_neg hd, if_neg (fun h => hd h.1)]
    exact echoes_baddet lv dp st dl hd A n c w
end Go.Proofs.Ytkcagifljelfoaa
