/-
  The document's with.
-/
import Derived.Test.YtlginmnmobkbhaaCDoc
namespace Go.Proofs.Ytlginmnmobkbhaa
open Go.RowKit

def wk (ps : List (Value × List Nat)) (q : Value × List Nat) (i k : Nat) : List (Value × List Nat) := if k ≤ i then ps.take k else ps.take i ++ q :: (ps.take k).drop i
theorem wk_len (ps : List (Value × List Nat)) (q : Value × List Nat) (i k : Nat) : (wk ps q i k).length ≤ ps.length + 1 := by
  unfold wk
  split
  · rw [List.length_take]; omega
  · simp only [List.length_append, List.length_take, List.length_cons, List.length_drop]; omega
theorem wk_eq (ps : List (Value × List Nat)) (q : Value × List Nat) (i : Nat) (hi : i < ps.length) : wk ps q i i ++ [q] ++ [ps[i]'hi] = wk ps q i (i + 1) := by
  unfold wk
  have hl : (ps.take i).length = i := by rw [List.length_take]; omega
  rw [if_pos (Nat.le_refl _), if_neg (by omega), List.take_succ_eq_append_getElem hi, List.drop_append_of_le_length (by omega), List.drop_of_length_le (by omega)]
  simp
theorem wk_ne (ps : List (Value × List Nat)) (q : Value × List Nat) (i k : Nat) (hk : k < ps.length) (h : ¬ k = i) : wk ps q i k ++ [ps[k]'hk] = wk ps q i (k + 1) := by
  unfold wk
  have hl : (ps.take k).length = k := by rw [List.length_take]; omega
  rcases Nat.lt_or_gt_of_ne h with h1 | h1
  · rw [if_pos (by omega), if_pos (by omega), List.take_succ_eq_append_getElem hk]
  · rw [if_neg (by omega), if_neg (by omega), List.take_succ_eq_append_getElem hk, List.drop_append_of_le_length (by omega)]
    simp

def WiR (w : World) (eb : Nat) (ps : List (Value × List Nat)) (q : Value × List Nat) (i : Nat) (ov iv : Value) (wr : World) : Prop :=
  ∃ k : Nat, k ≤ ps.length ∧ iv = .int .i64 (k : Int) ∧ Hid (Dcs wr w.heap.size eb ov (wk ps q i k) ∧ Below w.heap.size w wr)

set_option maxRecDepth 100000 in
set_option maxHeartbeats 1000000 in
theorem with_any {w : World} {lb eb : Nat} {v : Value} {ps : List (Value × List Nat)} (h : Dcs w lb eb v ps) (hn : ps.length ≤ 900) (i : Nat) (z : Int) (hz : z = (i : Int)) (hi : i ≤ ps.length) (Ax : Option Addr) (cx : Nat) (Y : List Nat) (hq : El w eb (.slice Ax Y.length cx, Y)) :
    Calls Try.prog 81 #[v, .int .i64 z, .slice Ax Y.length cx] w (RetDc w eb (ps.take i ++ (.slice Ax Y.length cx, Y) :: ps.drop i)) := by
  subst hz
  obtain ⟨A, c, e⟩ := dcs_form h
  subst e
  have H := Lib.hid h
  have HX := Lib.hid hq
  obtain ⟨q, hqe⟩ : ∃ q, q = (Value.slice Ax Y.length cx, Y) := ⟨_, rfl⟩
  have HQ := Lib.hid hqe
  rw [← hqe]
  clear h hq hqe
  go_enter Try.func81, Try.ntmps81
  go_wp2
  go_loopw [7, 11] (fun ov iv wr => WiR w eb ps q i ov iv wr) (fun _ iv _ => ps.length - (intOf1 iv).toNat)
  case atStart => exact ⟨0, Nat.zero_le _, rfl, Lib.hid ⟨by unfold wk; rw [if_pos (Nat.zero_le _)]; exact dcs_nil _ _ _, Below.refl _ _⟩⟩
  case round =>
    obtain ⟨k, hk, rfl, HP⟩ := hrel
    by_cases hlt : k < ps.length
    · obtain ⟨g, cc, e, hgl, hcell⟩ := dcs_at H.out k hlt
      injection e with e1 e2 e3
      subst e1
      subst e3
      have hc1 : wr.cell? ⟨g, k, none⟩ = some (ps[k]'hlt).1 := (HP.out.2.cell (p := ⟨g, k, none⟩) hgl).trans hcell
      have i1 : (k : Int) < (ps.length : Int) := by omega
      have hel := H.out.els _ (List.getElem_mem hlt)
      obtain ⟨_, hrb⟩ := rb_of_owns hel.1
      obtain ⟨A', c', hf⟩ := hrb.form
      obtain ⟨X, hX⟩ : ∃ X, X = (ps[k]'hlt).2 := ⟨_, rfl⟩
      rw [← hX] at hf
      rw [hf] at hc1
      have hpe : ps[k]'hlt = (.slice A' X.length c', X) := by rw [← hf, hX]
      have hpw : El wr eb (.slice A' X.length c', X) := by rw [← hpe]; exact hel.only (only_below (S := fun _ => False) HP.out.2) (fun _ _ h => h)
      have hbs := HP.out.2.size
      have HE := Lib.hid (And.intro hpe hpw)
      have hwl := wk_len ps q i k
      clear hel hrb hf hX hpe hpw
      by_cases hki : k = i
      · subst hki
        have hqw : El wr eb (.slice Ax Y.length cx, Y) := HX.out.only (only_below (S := fun _ => False) HP.out.2) (fun _ _ h => h)
        have HW := Lib.hid hqw
        clear hqw
        go_wp2_with (first
          | (at_builtin
             refine wpList_append_dc rfl (.tmp 17) (.tmp 19) rfl w.heap.size eb _ _ rfl HP.out.1 (.slice Ax Y.length cx, Y) HW.out rfl (by omega) hbs ?_
             intro v5 w5 hd5 hO5
             have hb5 := dcs_only HP.out.1 hO5 HP.out.2 hbs
             have hc5 : w5.cell? ⟨g, k, none⟩ = some (.slice A' X.length c') := (hb5.cell (p := ⟨g, k, none⟩) hgl).trans (by rw [hcell, HE.out.1])
             have hbs5 := hb5.size
             have hpw5 : El w5 eb (.slice A' X.length c', X) := by rw [← HE.out.1]; exact (H.out.els _ (List.getElem_mem hlt)).only (only_below (S := fun _ => False) hb5) (fun _ _ h => h)
             have H5 := Lib.hid (And.intro hd5 (And.intro hb5 hpw5))
             clear hd5 hO5 hb5 hpw5)
          | (at_builtin
             refine wpList_append_dc rfl (.tmp 21) (.tmp 26) rfl w.heap.size eb _ _ rfl H5.out.1 (.slice A' X.length c', X) H5.out.2.2 rfl (by rw [List.length_append]; simp only [List.length_cons, List.length_nil]; omega) hbs5 ?_
             intro v6 w6 hd hO
             have hb6 := dcs_only H5.out.1 hO H5.out.2.1 hbs5
             have H6 := Lib.hid (And.intro hd hb6)
             clear hd hO hb6))
        exact ⟨⟨k + 1, by omega, by go_num, Lib.hid ⟨by rw [← wk_eq ps q k hlt, HE.out.1, HQ.out]; rw [HQ.out] at H6; exact H6.out.1, H6.out.2⟩⟩, by simp [intOf1]; omega⟩
      · have i2 : ¬ (k : Int) = (i : Int) := by omega
        go_wp2_with (at_builtin
                     refine wpList_append_dc rfl (.tmp 21) (.tmp 26) rfl w.heap.size eb _ _ rfl HP.out.1 (.slice A' X.length c', X) HE.out.2 rfl (by omega) hbs ?_
                     intro v6 w6 hd hO
                     have hb6 := dcs_only HP.out.1 hO HP.out.2 hbs
                     have H6 := Lib.hid (And.intro hd hb6)
                     clear hd hO hb6)
        exact ⟨⟨k + 1, by omega, by go_num, Lib.hid ⟨by rw [← wk_ne ps q i k hlt hki, HE.out.1]; exact H6.out.1, H6.out.2⟩⟩, by simp [intOf1]; omega⟩
    · obtain rfl : k = ps.length := by omega
      by_cases hil : i = ps.length
      · subst hil
        have hqw : El wr eb (.slice Ax Y.length cx, Y) := HX.out.only (only_below (S := fun _ => False) HP.out.2) (fun _ _ h => h)
        have HW := Lib.hid hqw
        have hbs := HP.out.2.size
        have hwl := wk_len ps q ps.length ps.length
        clear hqw
        go_wp2_with (at_builtin
                     refine wpList_append_dc rfl (.tmp 33) (.tmp 35) rfl w.heap.size eb _ _ rfl HP.out.1 (.slice Ax Y.length cx, Y) HW.out rfl (by omega) hbs ?_
                     intro v6 w6 hd hO
                     have hb6 := dcs_only HP.out.1 hO HP.out.2 hbs
                     have H6 := Lib.hid (And.intro hd hb6)
                     clear hd hO hb6)
        go_ret
        refine ⟨_, rfl, ?_, H6.out.2⟩
        have e1 : wk ps q ps.length ps.length = ps.take ps.length := by unfold wk; rw [if_pos (Nat.le_refl _)]
        rw [List.drop_length, HQ.out]
        have := H6.out.1
        rw [e1] at this
        exact this
      · have i2 : ¬ (i : Int) = (ps.length : Int) := by omega
        have e1 : wk ps q i ps.length = ps.take i ++ q :: ps.drop i := by unfold wk; rw [if_neg (by omega), List.take_length]
        have HP2 := HP.out
        rw [e1] at HP2
        have HP3 := Lib.hid HP2
        clear e1 HP2
        go_wp2
        go_ret
        exact ⟨_, rfl, HP3.out.1, HP3.out.2⟩
end Go.Proofs.Ytlginmnmobkbhaa
