/-
  The document's Runs.
-/
import Derived.Test.YtkcagifljelfoaaVRuns
import Derived.Test.YtkcagifljelfoaaVRefb
namespace Go.Proofs.Ytkcagifljelfoaa
open Go.RowKit

/-- A run that has begun goes on while the samples are high. -/
theorem runsK_run {zs : List Int} {level : Int} {i : Nat} (hs : level ≤ ith zs i) (hb : i = 0 ∨ ith zs (i - 1) < level) : ∀ d, (∀ j, i ≤ j → j < i + 1 + d → level ≤ ith zs j) → runsK zs level (i + 1 + d) = runsK zs level i ++ [(i, i + 1 + d)]
  | 0, _ => runsK_new hs hb
  | d + 1, h => by
    have ih := runsK_run hs hb d (fun j h1 h2 => h j h1 (by omega))
    have hp : i + 1 + d - 1 = i + d := by omega
    exact runsK_on (k := i + 1 + d) (h (i + 1 + d) (by omega) (by omega)) (by omega) (by rw [hp]; exact h (i + d) (by omega) (by omega)) ih
/-- What is behind a run changes nothing ahead. -/
theorem runsK_keeps {zs : List Int} {level : Int} {k : Nat} (hk : ith zs k < level) : ∀ d, ∃ T, runsK zs level (k + 1 + d) = runsK zs level k ++ T ∧ (level ≤ ith zs (k + d) → T ≠ [])
  | 0 => ⟨[], by rw [Nat.add_zero, runsK_low hk]; simp, fun h => by simp at h; omega⟩
  | d + 1 => by
    obtain ⟨T, hT, hT2⟩ := runsK_keeps hk d
    have e : k + 1 + (d + 1) = k + 1 + d + 1 := by omega
    have e2 : k + (d + 1) = k + 1 + d := by omega
    rw [e, e2]
    by_cases h1 : ith zs (k + 1 + d) < level
    · exact ⟨T, by rw [runsK_low h1, hT], fun h => by omega⟩
    · by_cases h2 : level ≤ ith zs (k + 1 + d - 1)
      · have h3 : k + 1 + d - 1 = k + d := by omega
        have hne := hT2 (by rw [← h3]; exact h2)
        obtain ⟨R, f, hR⟩ := runsK_last (zs := zs) (level := level) (k := k + 1 + d) (by omega) h2
        rcases list_end' T with h4 | ⟨T0, p, h4⟩
        · exact absurd h4 hne
        · rw [hT, h4, ← List.append_assoc] at hR
          have h5 := List.append_inj' hR rfl
          have hp : p = (f, k + 1 + d) := by simpa using h5.2
          refine ⟨T0 ++ [(f, k + 1 + d + 1)], ?_, by simp⟩
          rw [runsK_on (by omega) (by omega) h2 (by rw [hT, h4, ← List.append_assoc, hp]), List.append_assoc]
      · exact ⟨T ++ [(k + 1 + d, k + 1 + d + 1)], by rw [runsK_new (by omega) (by omega), hT, List.append_assoc], by simp⟩
where
  list_end' (R : List Rn) : R = [] ∨ ∃ R0 p, R = R0 ++ [p] := by
    rcases List.eq_nil_or_concat R with h | ⟨R0, p, h⟩
    · exact .inl h
    · exact .inr ⟨R0, p, by simpa using h⟩
/-- A run begins at i and ends at k, which is the end or a low sample: it is the next of all runs. -/
theorem runs_next {zs : List Int} {level : Int} {i k n : Nat} (hi : i < k) (hk : k ≤ n) (hb : i = 0 ∨ ith zs (i - 1) < level) (hall : ∀ j, i ≤ j → j < k → level ≤ ith zs j) (hend : k = n ∨ ith zs k < level) :
    ∃ T, runsK zs level n = runsK zs level i ++ [(i, k)] ++ T := by
  have h1 := runsK_run (zs := zs) (level := level) (hall i (Nat.le_refl _) hi) hb (k - i - 1) (fun j h1 h2 => hall j h1 (by omega))
  have e : i + 1 + (k - i - 1) = k := by omega
  rw [e] at h1
  rcases Nat.lt_or_ge k n with h2 | h2
  · have h3 : ith zs k < level := hend.resolve_left (by omega)
    obtain ⟨T, hT, _⟩ := runsK_keeps h3 (n - k - 1)
    have e2 : k + 1 + (n - k - 1) = n := by omega
    rw [e2] at hT
    exact ⟨T, by rw [hT, h1]⟩
  · obtain rfl : k = n := by omega
    exact ⟨[], by rw [h1]; simp⟩

/-- How many runs begin among the first i. -/
def cntR (zs : List Int) (level : Int) (i : Nat) : Nat := (runsK zs level i).length
theorem cntR_low {zs : List Int} {level : Int} {i : Nat} (h : ith zs i < level ∨ (0 < i ∧ level ≤ ith zs (i - 1))) : cntR zs level (i + 1) = cntR zs level i := by
  unfold cntR
  by_cases h1 : ith zs i < level
  · rw [runsK_low h1]
  · obtain ⟨h2, h3⟩ := h.resolve_left h1
    obtain ⟨R, f, hR⟩ := runsK_last h2 h3
    rw [runsK_on (by omega) h2 h3 hR, hR]
    simp
theorem cntR_new {zs : List Int} {level : Int} {i : Nat} (h : level ≤ ith zs i) (h1 : i = 0 ∨ ith zs (i - 1) < level) : cntR zs level (i + 1) = cntR zs level i + 1 := by
  unfold cntR
  rw [runsK_new h h1]
  simp
theorem take_next {zs : List Int} {level : Int} {i k n : Nat} {T : List Rn} (h : runsK zs level n = runsK zs level i ++ [(i, k)] ++ T) : (runsK zs level n).take (cntR zs level i + 1) = (runsK zs level n).take (cntR zs level i) ++ [(i, k)] := by
  unfold cntR
  rw [h]
  have e : (runsK zs level i).length + 1 = (runsK zs level i ++ [(i, k)]).length := by simp
  rw [e, List.take_left', List.append_assoc, List.take_left']
  · rfl
  · rfl

def RefRunsRel (zs : List Int) (level : Int) (n : Nat) (w : World) (rv iv : Value) (wr : World) : Prop :=
  ∃ i : Nat, iv = .int .i64 (i : Int) ∧ i ≤ n ∧ Hid (SL rnE 2 71 wr w.heap.size rv ((runsK zs level n).take (cntR zs level i))) ∧ Below w.heap.size w wr

set_option maxRecDepth 100000 in
set_option maxHeartbeats 4000000 in
theorem refRuns_ok (zs : List Int) (level : Int) (A : Option Addr) (n c B : Nat) (w : World) (hx : IW w B (.slice A n c) zs) (hB : B ≤ w.heap.size) (hok : okZ zs) :
    Calls Try.prog 34 #[.slice A n c, .int .i64 level] w (RetRuns w (runsK zs level zs.length)) := by
  obtain ⟨i0, hi0, hz0, hz1, hz2⟩ := info_parts infoR
  have hl := Lib.hid hx.len
  have hV := refSamples_any zs A n c B w hx
  rw [decide_eq_true hok] at hV
  unfold RetSame at hV
  have h256 : n ≤ 256 := by have := hok.1; have := hl.out; omega
  have HX := Lib.hid (And.intro hx hok)
  clear hx hok
  go_enter Try.func34, Try.ntmps34
  go_wp2_with (go_at_call 41; refine hV.mono ?_; rintro e w' ⟨rfl, rfl⟩)
  clear hV
  go_loopw [6, 7] (fun rv iv wr => RefRunsRel zs level n w' rv iv wr) (fun _ iv _ => n - (intOf iv).toNat)
  case atStart => exact ⟨0, rfl, Nat.zero_le _, Lib.hid (by simp [cntR, runsK]; exact SL.nil_ _ _ _ _ _), Below.refl _ _⟩
  case round =>
    obtain ⟨i, rfl, hin, hR, hbw⟩ := hrel
    by_cases hlt : i < n
    · obtain ⟨b, o, rfl, hb, hc⟩ := HX.out.1.at_ (by omega)
      have hbB : b < w'.heap.size := by omega
      have hck := (hbw.cell (p := ⟨b, o + i, none⟩) hbB).trans (hc i hlt)
      have hbs := hbw.size
      have HB := Lib.hid hbw
      have HC := Lib.hid hc
      by_cases h1 : ith zs i < level
      · have hcn := Lib.hid (cntR_low (zs := zs) (level := level) (i := i) (Or.inl h1))
        clear hc hbw
        go_wp2
        go_roundw
        case rel => exact ⟨i + 1, by simp, by omega, Lib.hid (by rw [hcn.out]; exact hR.out), HB.out⟩
        case measure => simp [intOf]; omega
      · have hs1 : level ≤ ith zs i := by omega
        have HS1 := Lib.hid hs1
        have HSL := Lib.hid hR.out
        have hown : wr.ownsRow w'.heap.size 71 2 u6 ((runsK zs level n).take (cntR zs level i)).length (ints (((runsK zs level n).take (cntR zs level i)).flatMap rnE)) := hR.out
        have hlen0 := runsK_len zs level n
        have hlen1 : ((runsK zs level n).take (cntR zs level i)).length ≤ n := by rw [List.length_take]; omega
        obtain ⟨L, hL⟩ : ∃ L, ((runsK zs level n).take (cntR zs level i)).length = L := ⟨_, rfl⟩
        obtain ⟨F, hF⟩ : ∃ F, ints (((runsK zs level n).take (cntR zs level i)).flatMap rnE) = F := ⟨_, rfl⟩
        rw [hL, hF] at hown
        rw [hL] at hlen1
        have HLF := Lib.hid (And.intro hL hF)
        clear hL hF hlen0
        rcases Nat.eq_zero_or_pos i with h0 | h0
        · subst h0
          have hck0 : wr.cell? ⟨b, o, none⟩ = some (.int .i64 (ith zs 0)) := by simpa using hck
          clear hc hbw hR hck
          go_wp2
          go_loopw [8] (fun kv wr2 => ∃ k : Nat, kv = .int .i64 (k : Int) ∧ 0 ≤ k ∧ k ≤ n ∧ Hid (∀ j, 0 ≤ j → j < k → level ≤ ith zs j) ∧ wr2 = wr) (fun kv _ => n - (intOf kv).toNat)
          case atStart => exact ⟨0, by simp, by omega, by omega, Lib.hid (fun j h1 h2 => by omega), rfl⟩
          case round =>
            obtain ⟨k, rfl, hik, hkn, hall, rfl⟩ := hrel
            have hck2 := fun h : k < n => (HB.out.cell (p := ⟨b, o + k, none⟩) hbB).trans (HC.out k h)
            by_cases hg : k < n ∧ level ≤ ith zs k
            · obtain ⟨hg1, hg2⟩ := hg
              have hck3 := hck2 hg1
              clear hck2
              go_wp2
              go_roundw
              case rel =>
                refine ⟨k + 1, by simp, by omega, by omega, Lib.hid (fun j h1 h2 => ?_), by first | rfl | trivial⟩
                by_cases e : j = k
                · subst e; exact hg2
                · exact hall.out j h1 (by omega)
              case measure => simp [intOf]; omega
            · have hend : k = n ∨ ith zs k < level := by omega
              have hik2 : 0 < k := by
                rcases Nat.lt_or_ge 0 k with h | h
                · exact h
                · exfalso
                  have : k = 0 := by omega
                  subst this
                  omega
              obtain ⟨T, hT⟩ := runs_next (n := n) hik2 hkn (Or.inl rfl) hall.out hend
              have hnx := take_next hT
              have hcn := cntR_new (zs := zs) (level := level) (i := 0) HS1.out (Or.inl rfl)
              have HN := Lib.hid (And.intro hnx hcn)
              have TC := Lib.hid (two_cells wr 71 0 (k : Int))
              clear hT hnx hcn hall
              have fin : ∀ (v' : Value) (w1 : World), w1.ownsRow w'.heap.size 71 2 v' (L + 1) (F ++ [.int .i64 0, .int .i64 (k : Int)]) → (wr.alloc (.cells #[.int .i64 0, .int .i64 (k : Int)] 71)).grownBy w1 u6.ownBlock →
                  Hid (SL rnE 2 71 w1 w'.heap.size v' ((runsK zs level n).take (cntR zs level (0 + 1))) ∧ Below w'.heap.size w' w1) := fun v' w1 ho hg' => by
                have := SL.grows (a := ((0, k) : Rn)) HSL.out HB.out (Nat.le_refl _) (Nat.le_refl _) _ HLF.out (by simp [ints, rnE]) ho hg'
                rw [HN.out.2, HN.out.1]
                exact Lib.hid this
              rcases Nat.lt_or_ge k n with h | h
              · have hck3 := hck2 h
                have hg2 : ¬ level ≤ ith zs k := by omega
                clear hck2
                go_wp2_with (at_builtin
                             refine wpList_append_own_at _ rfl (.tmp 52) (.tmp 56) _ rfl w'.heap.size 71 i0 _ 2 16 Try.underlying65 hi0 hz0 hz1 hz2 rfl (by decide) _ L _ rfl (hown.alloc _) ⟨wr.heap.size, 0, none⟩ 1 1 [.int .i64 0, .int .i64 (k : Int)] rfl rfl TC.out (by intro u hu; simp at hu; rcases hu with rfl | rfl <;> rfl) (by unfold maxLen; omega) (by omega) (by simp; omega) ?_)
                intro v' w1 ho hg' _ _
                have HG := fin v' w1 ho hg'
                clear ho hg' hown fin
                go_wp2
                go_roundw
                case rel => exact ⟨0 + 1, by simp, by omega, Lib.hid HG.out.1, HG.out.2⟩
                case measure => simp [intOf]; omega
              · obtain rfl : k = n := by omega
                clear hck2
                go_wp2_with (at_builtin
                             refine wpList_append_own_at _ rfl (.tmp 52) (.tmp 56) _ rfl w'.heap.size 71 i0 _ 2 16 Try.underlying65 hi0 hz0 hz1 hz2 rfl (by decide) _ L _ rfl (hown.alloc _) ⟨wr.heap.size, 0, none⟩ 1 1 [.int .i64 0, .int .i64 (k : Int)] rfl rfl TC.out (by intro u hu; simp at hu; rcases hu with rfl | rfl <;> rfl) (by unfold maxLen; omega) (by omega) (by simp; omega) ?_)
                intro v' w1 ho hg' _ _
                have HG := fin v' w1 ho hg'
                clear ho hg' hown fin
                go_wp2
                go_roundw
                case rel => exact ⟨0 + 1, by simp, by omega, Lib.hid HG.out.1, HG.out.2⟩
                case measure => simp [intOf]; omega
        · have hcp := (hbw.cell (p := ⟨b, o + (i - 1), none⟩) hbB).trans (hc (i - 1) (by omega))
          by_cases h3 : level ≤ ith zs (i - 1)
          · have hcn := Lib.hid (cntR_low (zs := zs) (level := level) (i := i) (Or.inr ⟨h0, h3⟩))
            clear hc hbw
            go_wp2
            go_roundw
            case rel => exact ⟨i + 1, by simp, by omega, Lib.hid (by rw [hcn.out]; exact hR.out), HB.out⟩
            case measure => simp [intOf]; omega
          · have h4 : ith zs (i - 1) < level := by omega
            clear hc hbw hR
            go_wp2
            go_loopw [8] (fun kv wr2 => ∃ k : Nat, kv = .int .i64 (k : Int) ∧ i ≤ k ∧ k ≤ n ∧ Hid (∀ j, i ≤ j → j < k → level ≤ ith zs j) ∧ wr2 = wr) (fun kv _ => n - (intOf kv).toNat)
            case atStart => exact ⟨i, by simp, by omega, by omega, Lib.hid (fun j h1 h2 => by omega), rfl⟩
            case round =>
              obtain ⟨k, rfl, hik, hkn, hall, rfl⟩ := hrel
              have hck2 := fun h : k < n => (HB.out.cell (p := ⟨b, o + k, none⟩) hbB).trans (HC.out k h)
              by_cases hg : k < n ∧ level ≤ ith zs k
              · obtain ⟨hg1, hg2⟩ := hg
                have hck3 := hck2 hg1
                clear hck2
                go_wp2
                go_roundw
                case rel =>
                  refine ⟨k + 1, by simp, by omega, by omega, Lib.hid (fun j h1 h2 => ?_), by first | rfl | trivial⟩
                  by_cases e : j = k
                  · subst e; exact hg2
                  · exact hall.out j h1 (by omega)
                case measure => simp [intOf]; omega
              · have hend : k = n ∨ ith zs k < level := by omega
                have hik2 : i < k := by
                  rcases Nat.lt_or_ge i k with h | h
                  · exact h
                  · exfalso
                    have : k = i := by omega
                    subst this
                    omega
                obtain ⟨T, hT⟩ := runs_next (n := n) hik2 hkn (Or.inr h4) hall.out hend
                have hnx := take_next hT
                have hcn := cntR_new (zs := zs) (level := level) (i := i) HS1.out (Or.inr h4)
                have HN := Lib.hid (And.intro hnx hcn)
                have TC := Lib.hid (two_cells wr 71 (i : Int) (k : Int))
                clear hT hnx hcn hall
                have fin : ∀ (v' : Value) (w1 : World), w1.ownsRow w'.heap.size 71 2 v' (L + 1) (F ++ [.int .i64 (i : Int), .int .i64 (k : Int)]) → (wr.alloc (.cells #[.int .i64 (i : Int), .int .i64 (k : Int)] 71)).grownBy w1 u6.ownBlock →
                    Hid (SL rnE 2 71 w1 w'.heap.size v' ((runsK zs level n).take (cntR zs level (i + 1))) ∧ Below w'.heap.size w' w1) := fun v' w1 ho hg' => by
                  have := SL.grows (a := ((i, k) : Rn)) HSL.out HB.out (Nat.le_refl _) (Nat.le_refl _) _ HLF.out (by simp [ints, rnE]) ho hg'
                  rw [HN.out.2, HN.out.1]
                  exact Lib.hid this
                rcases Nat.lt_or_ge k n with h | h
                · have hck3 := hck2 h
                  have hg2 : ¬ level ≤ ith zs k := by omega
                  clear hck2
                  go_wp2_with (at_builtin
                               refine wpList_append_own_at _ rfl (.tmp 52) (.tmp 56) _ rfl w'.heap.size 71 i0 _ 2 16 Try.underlying65 hi0 hz0 hz1 hz2 rfl (by decide) _ L _ rfl (hown.alloc _) ⟨wr.heap.size, 0, none⟩ 1 1 [.int .i64 (i : Int), .int .i64 (k : Int)] rfl rfl TC.out (by intro u hu; simp at hu; rcases hu with rfl | rfl <;> rfl) (by unfold maxLen; omega) (by omega) (by simp; omega) ?_)
                  intro v' w1 ho hg' _ _
                  have HG := fin v' w1 ho hg'
                  clear ho hg' hown fin
                  go_wp2
                  go_roundw
                  case rel => exact ⟨i + 1, by simp, by omega, Lib.hid HG.out.1, HG.out.2⟩
                  case measure => simp [intOf]; omega
                · obtain rfl : k = n := by omega
                  clear hck2
                  go_wp2_with (at_builtin
                               refine wpList_append_own_at _ rfl (.tmp 52) (.tmp 56) _ rfl w'.heap.size 71 i0 _ 2 16 Try.underlying65 hi0 hz0 hz1 hz2 rfl (by decide) _ L _ rfl (hown.alloc _) ⟨wr.heap.size, 0, none⟩ 1 1 [.int .i64 (i : Int), .int .i64 (k : Int)] rfl rfl TC.out (by intro u hu; simp at hu; rcases hu with rfl | rfl <;> rfl) (by unfold maxLen; omega) (by omega) (by simp; omega) ?_)
                  intro v' w1 ho hg' _ _
                  have HG := fin v' w1 ho hg'
                  clear ho hg' hown fin
                  go_wp2
                  go_roundw
                  case rel => exact ⟨i + 1, by simp, by omega, Lib.hid HG.out.1, HG.out.2⟩
                  case measure => simp [intOf]; omega
    · obtain rfl : i = n := by omega
      have hall : (runsK zs level i).take (cntR zs level i) = runsK zs level i := List.take_of_length_le (Nat.le_refl _)
      have hS := hR.out
      rw [hall] at hS
      rw [hl.out] at hS
      clear hR
      go_wp2
      go_ret2
      exact ⟨u6, rfl, hS, hbw⟩
end Go.Proofs.Ytkcagifljelfoaa
