/-
  Runs.
-/
import Derived.Test.YtndgpgciccgapaaVRow
namespace Go.Proofs.Ytndgpgciccgapaa
open Go.RowKit

abbrev Rn := Nat × Nat
def rnE (r : Rn) : List Int := [(r.1 : Int), (r.2 : Int)]
theorem rnE_len (r : Rn) : (rnE r).length = 2 := rfl
/-- The runs among the first samples. -/
def runsK (zs : List Int) (level : Int) : Nat → List Rn
  | 0 => []
  | k + 1 =>
    if ith zs k < level then runsK zs level k
    else if 0 < k ∧ level ≤ ith zs (k - 1) then (runsK zs level k).dropLast ++ [(((runsK zs level k).getLast?.getD (0, 0)).1, k + 1)]
    else runsK zs level k ++ [(k, k + 1)]
theorem runsK_len (zs : List Int) (level : Int) : ∀ k, (runsK zs level k).length ≤ k
  | 0 => by simp [runsK]
  | k + 1 => by
    have := runsK_len zs level k
    rw [runsK]
    split
    · omega
    · split
      · simp; omega
      · simp; omega
theorem runsK_last {zs : List Int} {level : Int} : ∀ {k : Nat}, 0 < k → level ≤ ith zs (k - 1) → ∃ R f, runsK zs level k = R ++ [(f, k)]
  | 0, h, _ => absurd h (by omega)
  | k + 1, _, h => by
    simp only [Nat.add_sub_cancel] at h
    rw [runsK, if_neg (by omega)]
    split
    · exact ⟨_, _, rfl⟩
    · exact ⟨_, _, rfl⟩
theorem runsK_low {zs : List Int} {level : Int} {k : Nat} (h : ith zs k < level) : runsK zs level (k + 1) = runsK zs level k := by rw [runsK, if_pos h]
theorem runsK_on {zs : List Int} {level : Int} {k f : Nat} {R : List Rn} (h : level ≤ ith zs k) (h0 : 0 < k) (h1 : level ≤ ith zs (k - 1)) (hR : runsK zs level k = R ++ [(f, k)]) : runsK zs level (k + 1) = R ++ [(f, k + 1)] := by
  rw [runsK, if_neg (by omega), if_pos ⟨h0, h1⟩, hR]
  simp
theorem runsK_new {zs : List Int} {level : Int} {k : Nat} (h : level ≤ ith zs k) (h1 : k = 0 ∨ ith zs (k - 1) < level) : runsK zs level (k + 1) = runsK zs level k ++ [(k, k + 1)] := by
  rw [runsK, if_neg (by omega), if_neg (by omega)]

theorem infoR : (Try.prog.info? 155).map (fun i => (i.zero, i.size, i.bytes)) = some (some (.agg #[.int .i64 0, .int .i64 0]), 2, 16) := by kernel_rfl

theorem SL_set {w : World} {base g c k f t : Nat} {R : List Rn} (h : SL rnE 2 155 w base (.slice (some ⟨g, 0, none⟩) (R.length + 1) c) (R ++ [(f, k)])) :
    SL rnE 2 155 (w.setCell ⟨g, R.length * 2 + 1, none⟩ (.int .i64 (t : Int))) base (.slice (some ⟨g, 0, none⟩) (R.length + 1) c) (R ++ [(f, t)]) := by
  have h' : w.ownsRow base 155 2 (.slice (some ⟨g, 0, none⟩) (R.length + 1) c) (R.length + 1) (ints ((R ++ [(f, k)]).flatMap rnE)) := by
    have e1 : (R ++ [(f, k)]).length = R.length + 1 := by simp
    have h0 := h
    unfold SL at h0
    rw [e1] at h0
    exact h0
  have h2 := (World.ownsRow.stored h' (R.length * 2 + 1) (.int .i64 (t : Int))).1
  have hl := fm_len rnE_len R
  have e2 : (ints ((R ++ [(f, k)]).flatMap rnE)).set (R.length * 2 + 1) (.int .i64 (t : Int)) = ints ((R ++ [(f, t)]).flatMap rnE) := by
    rw [List.flatMap_append, List.flatMap_append, ints_append, ints_append, List.set_append_right _ _ (by rw [ints_len]; omega)]
    rw [ints_len, hl]
    have : R.length * 2 + 1 - R.length * 2 = 1 := by omega
    rw [this]
    rfl
  rw [e2] at h2
  unfold SL
  have e3 : (R ++ [(f, t)]).length = R.length + 1 := by simp
  rw [e3]
  exact h2

def RetRuns (w : World) (R : List Rn) (e : Ending) (w' : World) : Prop :=
  ∃ v, e = .returned (.tuple #[v, .int .i64 0]) ∧ SL rnE 2 155 w' w.heap.size v R ∧ Below w.heap.size w w'

def RunsRel (zs : List Int) (level : Int) (w : World) (rv iv : Value) (wr : World) : Prop :=
  ∃ k : Nat, iv = .int .i64 (k : Int) ∧ k ≤ zs.length ∧ Hid (SL rnE 2 155 wr w.heap.size rv (runsK zs level k)) ∧ Below w.heap.size w wr

set_option maxRecDepth 100000 in
set_option maxHeartbeats 2000000 in
theorem runs_ok (zs : List Int) (level : Int) (A : Option Addr) (n c B : Nat) (w : World) (hx : IW w B (.slice A n c) zs) (hB : B ≤ w.heap.size) (hok : okZ zs) :
    Calls Try.prog 94 #[.slice A n c, .int .i64 level] w (RetRuns w (runsK zs level zs.length)) := by
  obtain ⟨i0, hi0, hz0, hz1, hz2⟩ := info_parts infoR
  have hl := Lib.hid hx.len
  have hV := validSamples_any zs A n c B w hx
  rw [decide_eq_true hok] at hV
  unfold RetSame at hV
  have h256 : n ≤ 256 := by have := hok.1; have := hl.out; omega
  have hcap := hx.cap
  unfold maxLen at hcap
  have HX := Lib.hid (And.intro hx hok)
  clear hx hok
  go_enter Try.func94, Try.ntmps94
  go_wp2_with (go_at_call 76; refine hV.mono ?_; rintro e w' ⟨rfl, rfl⟩)
  clear hV
  go_loopw [6, 14] (fun rv iv wr => RunsRel zs level w' rv iv wr) (fun _ iv _ => n - (intOf iv).toNat)
  case atStart => exact ⟨0, rfl, Nat.zero_le _, Lib.hid (SL.nil_ _ _ _ _ _), Below.refl _ _⟩
  case round =>
    obtain ⟨k, rfl, hkz, hR, hbw⟩ := hrel
    have hkn : k ≤ n := by rw [hl.out]; exact hkz
    by_cases hlt : k < n
    · obtain ⟨b, o, rfl, hb, hc⟩ := HX.out.1.at_ (by omega)
      have hbB : b < w'.heap.size := by omega
      have hck := (hbw.cell (p := ⟨b, o + k, none⟩) hbB).trans (hc k hlt)
      have hlen := runsK_len zs level k
      have hbs := hbw.size
      by_cases h1 : ith zs k < level
      · have HC := Lib.hid (And.intro hc hbw)
        clear hc hbw
        go_wp2
        go_roundw
        case rel =>
          exact ⟨k + 1, by simp, by have := hl.out; omega, Lib.hid (by rw [runsK_low h1]; exact hR.out), HC.out.2⟩
        case measure => simp [intOf]; omega
      · have h1' : level ≤ ith zs k := by omega
        by_cases h2 : 0 < k ∧ level ≤ ith zs (k - 1)
        · obtain ⟨h3, h4⟩ := h2
          obtain ⟨R, f, hRf⟩ := runsK_last h3 h4
          have hcp := (hbw.cell (p := ⟨b, o + (k - 1), none⟩) hbB).trans (hc (k - 1) (by omega))
          have HRf := Lib.hid (And.intro hRf (runsK_on h1' h3 h4 hRf))
          have hS := hR.out
          rw [hRf] at hS hlen
          simp only [List.length_append, List.length_cons, List.length_nil] at hlen
          rcases hS.form with ⟨_, h0⟩ | ⟨g, cg, rfl, hg1, hg2, hg3, hg4⟩
          · simp at h0
          · have e1 : (R ++ [(f, k)]).length = R.length + 1 := by simp
            rw [e1] at hg3 hS ⊢
            have hst := SL_set (t := k + 1) hS
            have hcell : wr.cell? ⟨g, R.length * 2 + 1, none⟩ = some (.int .i64 (k : Int)) := by
              have := hS.cell rnE_len (i := R.length) (j := 1) (by simp) (by omega)
              simpa [ints, rnE] using this
            have hfz : wr.frozen? ⟨g, R.length * 2 + 1, none⟩ = false := hS.frozen _
            have hbw' : Below w'.heap.size w' (wr.setCell ⟨g, R.length * 2 + 1, none⟩ (.int .i64 ((k + 1 : Nat) : Int))) := hbw.setCell (p := ⟨g, R.length * 2 + 1, none⟩) hg1 _
            have HC := Lib.hid (And.intro hst hbw')
            clear hS hRf hst hbw' hc hbw e1
            go_wp2
            go_roundw
            case rel =>
              refine ⟨k + 1, by simp, by have := hl.out; omega, Lib.hid ?_, ?_⟩
              · rw [HRf.out.2]
                simpa using HC.out.1
              · simpa using HC.out.2
            case measure => simp [intOf]; omega
        · have h3 : k = 0 ∨ ith zs (k - 1) < level := by omega
          have HN := Lib.hid (runsK_new h1' h3)
          have hS := hR.out
          have TC := Lib.hid (two_cells wr 155 (k : Int) ((k : Int) + 1))
          have HC := Lib.hid (And.intro hS hbw)
          have hown : wr.ownsRow w'.heap.size 155 2 u6 (runsK zs level k).length (ints ((runsK zs level k).flatMap rnE)) := hS
          have hcp := fun h : 0 < k => (hbw.cell (p := ⟨b, o + (k - 1), none⟩) hbB).trans (hc (k - 1) (by omega))
          obtain ⟨L, hL⟩ : ∃ L, (runsK zs level k).length = L := ⟨_, rfl⟩
          obtain ⟨F, hF⟩ : ∃ F, ints ((runsK zs level k).flatMap rnE) = F := ⟨_, rfl⟩
          rw [hL, hF] at hown
          have HLF := Lib.hid (And.intro hL hF)
          rw [hL] at hlen
          clear hL hF hS hc hbw h2 hR
          rcases Nat.eq_zero_or_pos k with h0 | h0
          · subst h0
            clear hcp
            have hck0 : wr.cell? ⟨b, o, none⟩ = some (.int .i64 (ith zs 0)) := by simpa using hck
            have TC0 := Lib.hid (two_cells wr 155 0 1)
            clear hck TC
            go_wp2_with (at_builtin
                         refine wpList_append_own_at _ rfl (.tmp 19) (.tmp 24) _ rfl w'.heap.size 155 i0 _ 2 16 Try.underlying149 hi0 hz0 hz1 hz2 rfl (by decide) _ L _ rfl (hown.alloc _) ⟨wr.heap.size, 0, none⟩ 1 1 [.int .i64 0, .int .i64 1] rfl rfl TC0.out (by intro u hu; simp at hu; rcases hu with rfl | rfl <;> rfl) (by unfold maxLen; omega) (by omega) (by simp; omega) ?_)
            intro v' w1 ho hg _ _
            have HG := Lib.hid (SL.grows (a := (0, 1)) HC.out.1 HC.out.2 (Nat.le_refl _) (Nat.le_refl _) _ HLF.out (by simp [ints, rnE]) ho hg)
            clear ho hg hown
            go_wp2
            go_roundw
            case rel => exact ⟨1, by simp, by have := hl.out; omega, Lib.hid (by rw [HN.out]; exact HG.out.1), HG.out.2⟩
            case measure => simp [intOf]; omega
          · have hcp' := hcp h0
            have h4 : ith zs (k - 1) < level := by omega
            clear hcp
            go_wp2_with (at_builtin
                         refine wpList_append_own_at _ rfl (.tmp 19) (.tmp 24) _ rfl w'.heap.size 155 i0 _ 2 16 Try.underlying149 hi0 hz0 hz1 hz2 rfl (by decide) _ L _ rfl (hown.alloc _) ⟨wr.heap.size, 0, none⟩ 1 1 [.int .i64 (k : Int), .int .i64 ((k : Int) + 1)] rfl rfl TC.out (by intro u hu; simp at hu; rcases hu with rfl | rfl <;> rfl) (by unfold maxLen; omega) (by omega) (by simp; omega) ?_)
            intro v' w1 ho hg _ _
            have HG := Lib.hid (SL.grows (a := (k, k + 1)) HC.out.1 HC.out.2 (Nat.le_refl _) (Nat.le_refl _) _ HLF.out (by simp [ints, rnE]) ho hg)
            clear ho hg hown
            go_wp2
            go_roundw
            case rel => exact ⟨k + 1, by simp, by have := hl.out; omega, Lib.hid (by rw [HN.out]; exact HG.out.1), HG.out.2⟩
            case measure => simp [intOf]; omega
    · obtain rfl : k = n := by omega
      go_wp2
      go_ret2
      refine ⟨u6, rfl, ?_, hbw⟩
      have := hR.out
      rw [hl.out] at this
      exact this
end Go.Proofs.Ytndgpgciccgapaa
