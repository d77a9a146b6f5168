/-
  The program's damage: all of it.
-/
import Derived.Test.YtlginmnmobkbhaaCDmg4
namespace Go.Proofs.Ytlginmnmobkbhaa
open Go.RowKit

set_option maxRecDepth 100000 in
set_option maxHeartbeats 1000000 in
theorem damage_other {w : World} {base : Nat} {v : Value} {ps : List (Value × List Nat)} (h : Chs w base v ps) (hb : base ≤ w.heap.size) (i : Nat) (hi : i < ps.length) (k n : Int) (h1 : k ≠ 1) (h2 : k ≠ 2) (h3 : k ≠ 3) (h4 : k ≠ 4) (h5 : k ≠ 5) :
    Calls Try.prog 67 #[v, .agg #[.int .i64 k, .int .i64 (i : Int), .int .i64 n]] w (RetChs w base ps) := by
  obtain ⟨g, c, hv⟩ := chs_form h
  subst hv
  have hb0 : Below w.heap.size w (w.alloc (.cells #[.int .i64 k, .int .i64 (i : Int), .int .i64 n] 106)) := (Below.refl _ _).alloc (Nat.le_refl _) _
  have h0 := chs_below h hb0
  have hcell := chs_at h0 i hi
  have H0 := Lib.hid (And.intro h0 hb0)
  have i1 : (i : Int) < (ps.length : Int) := by omega
  have q1 : (k == 1) = false := by simpa using h1
  have q2 : (k == 2) = false := by simpa using h2
  have q3 : (k == 3) = false := by simpa using h3
  have q4 : (k == 4) = false := by simpa using h4
  have q5 : (k == 5) = false := by simpa using h5
  clear h0 hb0 h
  go_enter Try.func67, Try.ntmps67
  go_wp2
  go_ret
  exact ⟨_, rfl, H0.out.1, H0.out.2.mono hb⟩

set_option maxRecDepth 100000 in
set_option maxHeartbeats 1000000 in
theorem damage_noflip {w : World} {base : Nat} {v : Value} {ps : List (Value × List Nat)} (h : Chs w base v ps) (hb : base ≤ w.heap.size) (i : Nat) (hi : i < ps.length) (n : Int) (hn63 : n ≤ 9223372036854775807) (hno : n < 0 ∨ ((ps[i]'hi).2.length : Int) ≤ n / 8) :
    Calls Try.prog 67 #[v, .agg #[.int .i64 4, .int .i64 (i : Int), .int .i64 n]] w (RetChs w base ps) := by
  obtain ⟨g, c, hv⟩ := chs_form h
  subst hv
  have hb0 : Below w.heap.size w (w.alloc (.cells #[.int .i64 4, .int .i64 (i : Int), .int .i64 n] 106)) := (Below.refl _ _).alloc (Nat.le_refl _) _
  have h0 := chs_below h hb0
  have hcell := chs_at h0 i hi
  have hel := h0.els _ (List.getElem_mem hi)
  obtain ⟨_, hrb⟩ := rb_of_owns hel.1
  obtain ⟨A, cp, hform⟩ := hrb.form
  obtain ⟨X, hX⟩ : ∃ X, X = (ps[i]'hi).2 := ⟨_, rfl⟩
  rw [← hX] at hform hno
  rw [hform] at hcell
  have H0 := Lib.hid (And.intro h0 hb0)
  have i1 : (i : Int) < (ps.length : Int) := by omega
  clear h0 hb0 h hrb hel hform hX
  rcases Int.lt_or_le n 0 with hn | hn
  · have i2 : ¬ (0 : Int) ≤ n := by omega
    clear hno
    go_enter Try.func67, Try.ntmps67
    go_wp2
    go_ret
    exact ⟨_, rfl, H0.out.1, H0.out.2.mono hb⟩
  · have i2 : n.tdiv 8 = n / 8 := Int.tdiv_eq_ediv_of_nonneg hn
    have i4 : (X.length : Int) ≤ n / 8 := by omega
    have i5 : wrap64 (n / 8) = n / 8 := by unfold wrap64; omega
    clear hno
    go_enter Try.func67, Try.ntmps67
    go_wp2
    go_ret
    exact ⟨_, rfl, H0.out.1, H0.out.2.mono hb⟩

theorem map_erase : ∀ (ps : List (Value × List Nat)) (i : Nat), (ps.map Prod.snd).eraseIdx i = (ps.eraseIdx i).map Prod.snd
  | [], _ => by simp
  | a :: l, 0 => by simp
  | a :: l, i + 1 => by simp [map_erase l i]
/-- What a fault makes of datagrams, where At is an index. -/
def dmg (k : Int) (i : Nat) (n : Int) (L : List (List Nat)) : List (List Nat) :=
  let X := L.getD i []
  let M := L.eraseIdx i
  if k = 1 then M
  else if k = 2 then L.take (i + 1) ++ X :: L.drop (i + 1)
  else if k = 3 then M.take (wi n M.length) ++ X :: M.drop (wi n M.length)
  else if k = 4 then (if n < 0 ∨ (X.length : Int) ≤ n / 8 then L else L.set i (X.set (n.toNat / 8) (flB (X.getD (n.toNat / 8) 0) n.toNat)))
  else if k = 5 then L.set i (X.take (wi n X.length))
  else L

def RetDm (w : World) (base : Nat) (Ls : List (List Nat)) (e : Ending) (w' : World) : Prop := ∃ qs, qs.map Prod.snd = Ls ∧ RetChs w base qs e w'

theorem damage_any {w : World} {base : Nat} {v : Value} {ps : List (Value × List Nat)} (h : Chs w base v ps) (hb : base ≤ w.heap.size) (hn2 : ps.length ≤ 1000) (k at' n : Int) (hn63 : n ≤ 9223372036854775807) (i : Nat) (hat : at' = (i : Int)) (hi : i < ps.length) :
    Calls Try.prog 67 #[v, .agg #[.int .i64 k, .int .i64 at', .int .i64 n]] w (RetDm w base (dmg k i n (ps.map Prod.snd))) := by
  subst hat
  have hX : (ps.map Prod.snd).getD i [] = (ps[i]'hi).2 := by simp [List.getD, hi]
  have hM : (ps.map Prod.snd).eraseIdx i = (ps.eraseIdx i).map Prod.snd := map_erase _ _
  unfold dmg
  simp only [hX, hM, List.length_map]
  by_cases h1 : k = 1
  · subst h1
    exact (damage_drop h hb hn2 i hi n).mono fun _ _ r => ⟨_, by simp, r⟩
  rw [if_neg h1]
  by_cases h2 : k = 2
  · subst h2
    rw [if_pos rfl]
    exact (damage_double h hb hn2 i hi n).mono fun _ _ ⟨u, r⟩ => ⟨_, by simp [List.map_take, List.map_drop], r⟩
  rw [if_neg h2]
  by_cases h3 : k = 3
  · subst h3
    rw [if_pos rfl]
    exact (damage_move h hb hn2 i hi n rfl).mono fun _ _ r => ⟨_, by rw [List.map_append, List.map_cons, List.map_take, List.map_drop], r⟩
  rw [if_neg h3]
  by_cases h4 : k = 4
  · subst h4
    rw [if_pos rfl]
    by_cases h5 : n < 0 ∨ ((ps[i]'hi).2.length : Int) ≤ n / 8
    · rw [if_pos h5]
      exact (damage_noflip h hb i hi n hn63 h5).mono fun _ _ r => ⟨_, rfl, r⟩
    · rw [if_neg h5]
      obtain ⟨m, rfl⟩ : ∃ m : Nat, n = (m : Int) := ⟨n.toNat, by omega⟩
      have hm : m / 8 < (ps[i]'hi).2.length := by omega
      have hx : (ps[i]'hi).2[m / 8]? = some ((ps[i]'hi).2.getD (m / 8) 0) := by simp [List.getD, hm]
      refine (damage_flip h hb i hi m _ hx).mono fun _ _ r => ⟨_, ?_, r⟩
      rw [List.map_set]
      rfl
  rw [if_neg h4]
  by_cases h5 : k = 5
  · subst h5
    rw [if_pos rfl]
    exact (damage_cut h hb i hi n).mono fun _ _ ⟨u, r⟩ => ⟨_, by rw [List.map_set], r⟩
  rw [if_neg h5]
  exact (damage_other h hb i hi k n h1 h2 h3 h4 h5).mono fun _ _ r => ⟨_, rfl, r⟩
end Go.Proofs.Ytlginmnmobkbhaa
