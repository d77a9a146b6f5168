/-
  Stores into a block, one cell behind the other; slices.Delete of one element of a list of slices of bytes.
-/
import Derived.Test.YtlginmnmobkbhaaZRcv
import Derived.Lib.SliceRun
import Derived.Deep.RegionLaw
namespace Go.Proofs.Ytlginmnmobkbhaa
open Go.RowKit

/-- Cells laid over others from o on. -/
def layA (cs : Array Value) (o : Nat) : List Value → Array Value
  | [] => cs
  | v :: vs => layA (cs.setIfInBounds o v) (o + 1) vs
theorem layA_size : ∀ (vs : List Value) (cs : Array Value) (o : Nat), (layA cs o vs).size = cs.size
  | [], _, _ => rfl
  | v :: vs, cs, o => by simp [layA, layA_size vs]
theorem layA_get : ∀ (vs : List Value) (cs : Array Value) (o k : Nat), o + vs.length ≤ cs.size → (layA cs o vs)[k]? = if o ≤ k ∧ k < o + vs.length then vs[k - o]? else cs[k]?
  | [], cs, o, k, _ => by
    have : ¬ (o ≤ k ∧ k < o + ([] : List Value).length) := by rw [List.length_nil]; omega
    rw [if_neg this]
    rfl
  | v :: vs, cs, o, k, h => by
    simp only [List.length_cons] at h
    show (layA (cs.setIfInBounds o v) (o + 1) vs)[k]? = _
    rw [layA_get vs (cs.setIfInBounds o v) (o + 1) k (by simp; omega)]
    by_cases h1 : o + 1 ≤ k ∧ k < o + 1 + vs.length
    · rw [if_pos h1, if_pos (by rw [List.length_cons]; omega)]
      have e : k - o = (k - (o + 1)) + 1 := by omega
      rw [e, List.getElem?_cons_succ]
    · rw [if_neg h1]
      by_cases h2 : k = o
      · have h3 : o < cs.size := by omega
        rw [h2, if_pos (by rw [List.length_cons]; omega), Nat.sub_self, List.getElem?_cons_zero, Array.getElem?_setIfInBounds_self_of_lt h3]
      · rw [if_neg (by rw [List.length_cons]; omega)]
        rw [Array.getElem?_setIfInBounds_ne (fun e => h2 e.symm)]
theorem heap_setCells_same (g : Nat) (T : TypeId) : ∀ (vs : List Value) (w : World) (cs : Array Value) (o : Nat), w.heap[g]? = some (.cells cs T (0, 0)) → (w.setCells g o vs).heap[g]? = some (.cells (layA cs o vs) T (0, 0))
  | [], w, cs, o, h => h
  | v :: vs, w, cs, o, h => by
    show ((w.setCell ⟨g, o, none⟩ v).setCells g (o + 1) vs).heap[g]? = _
    exact heap_setCells_same g T vs _ _ _ (heap_setCell_same w g o cs T v h)
theorem only_setCells (g : Nat) : ∀ (vs : List Value) (w : World) (o : Nat), Only (fun k => k = g) w (w.setCells g o vs)
  | [], w, o => Only.refl _ _
  | v :: vs, w, o => (only_set (S := fun k => k = g) (p := ⟨g, o, none⟩) v rfl).trans (only_setCells g vs _ _)

theorem infoL : (Try.prog.info? 33).map (fun i => (i.zero, i.size, i.bytes)) = some (some (.slice none 0 0), 1, 24) := by kernel_rfl
theorem zeroL (w : World) : (zeroValue 33).run Try.prog w = .ok (.slice none 0 0) w := by kernel_rfl

/-- A block that holds a list of slices: n of them, room for c. -/
def RetDelete (w : World) (g n c i : Nat) (cur : Array Value) (e : Ending) (w' : World) : Prop :=
  e = .returned (.slice (some ⟨g, 0, none⟩) (n - 1) c) ∧ ∃ cur', w'.heap[g]? = some (.cells cur' 33 (0, 0)) ∧ cur'.size = c ∧ (∀ j, j < i → cur'[j]? = cur[j]?) ∧ (∀ j, i ≤ j → j < n - 1 → cur'[j]? = cur[j + 1]?) ∧ Only (fun k => k = g) w w'

set_option maxRecDepth 100000 in
set_option maxHeartbeats 2000000 in
theorem delete_one (g n c i : Nat) (cur : Array Value) (w : World) (hg : w.heap[g]? = some (.cells cur 33 (0, 0))) (hs : cur.size = c) (hn : n ≤ c) (hc : c ≤ maxLen) (hi : i < n) (h1 : ∀ j v, j < n → cur[j]? = some v → v.oneCell' = true) :
    Calls Try.prog 77 #[.slice (some ⟨g, 0, none⟩) n c, .int .i64 (i : Int), .int .i64 ((i : Int) + 1)] w (RetDelete w g n c i cur) := by
  obtain ⟨i0, hi0, hz0, hz1, hz2⟩ := info_parts infoL
  have hcell : ∀ j, j < c → ∃ v, w.cell? ⟨g, j, none⟩ = some v ∧ cur[j]? = some v := fun j hj => by
    refine ⟨cur[j]'(by omega), ?_, by simp [hs, hj]⟩
    rw [cell_of_row _ g j _ _ _ hg]
    simp [hs, hj]
  have hfr : ∀ j, w.frozen? ⟨g, j, none⟩ = false := fun j => by simp [World.frozen?, hg]
  obtain ⟨news, hnews⟩ : ∃ news, news = (cur.toList.take n).drop (i + 1) := ⟨_, rfl⟩
  have hlen : news.length = n - (i + 1) := by rw [hnews]; simp; omega
  have hget : ∀ t, t < n - (i + 1) → news[t]? = cur[i + 1 + t]? := by
    intro t ht
    rw [hnews, List.getElem?_drop, List.getElem?_take]
    rw [if_pos (by omega), Array.getElem?_toList]
  have h2 : ∀ u ∈ news, u.oneCell' = true := by
    intro u hu
    obtain ⟨t, ht, e⟩ := List.mem_iff_getElem.1 hu
    have h3 := hget t (by omega)
    rw [List.getElem?_eq_getElem ht, e] at h3
    exact h1 (i + 1 + t) u (by omega) h3.symm
  obtain ⟨AD, hAD⟩ : ∃ AD : Addr, (if c = i + 1 then (some ⟨g, 0, none⟩ : Option Addr) else some ⟨g, i + 1, none⟩) = some AD := by
    by_cases h : c = i + 1
    · exact ⟨⟨g, 0, none⟩, by rw [if_pos h]⟩
    · exact ⟨⟨g, i + 1, none⟩, by rw [if_neg h]⟩
  have hsrc : ∀ t u, news[t]? = some u → w.drew.cell? (AD.add t) = some u := by
    intro t u hu
    have ht : t < n - (i + 1) := by rw [← hlen]; exact (List.getElem?_eq_some_iff.1 hu).1
    rw [hget t ht] at hu
    have e : AD = ⟨g, i + 1, none⟩ := by
      rw [if_neg (by omega)] at hAD
      injection hAD with hAD
      exact hAD.symm
    rw [e, Addr.add_lit]
    exact (cell_of_row _ g (i + 1 + t) _ _ _ hg).trans hu
  obtain ⟨W1, hW1⟩ : ∃ W1, W1 = w.drew.setCells g (0 + i * 1) news := ⟨_, rfl⟩
  have hH1 : W1.heap[g]? = some (.cells (layA cur i news) 33 (0, 0)) := by
    rw [hW1, Nat.mul_one, Nat.zero_add]
    exact heap_setCells_same g _ news w.drew cur i hg
  have hO1 : Only (fun k => k = g) w W1 := by rw [hW1]; exact only_drew.trans (only_setCells g news _ _)
  have hcl : ∀ ty, (Builtin.clear_ #[74] ty #[.slice (some ⟨g, n - 1, none⟩) 1 (c - (n - 1))]).run Try.prog W1 = .ok (.tuple #[]) (W1.setCells g (n - 1) (List.replicate 1 (.slice none 0 0))) := fun ty =>
    Lib.run_clear_slice W1 _ _ ty _ Try.underlying74 zeroL rfl rfl g (n - 1) 1 _ (by omega) (fun t ht => by
      rw [cell_of_row _ g _ _ _ _ hH1, Array.getElem?_eq_getElem (by rw [layA_size]; omega)]
      rfl) (fun t ht => by simp [World.frozen?, hH1])
  have HF := Lib.hid (And.intro hH1 hO1)
  have HW := Lib.hid hW1
  have HN := Lib.hid (And.intro hlen hget)
  have HS := Lib.hid hsrc
  have H2 := Lib.hid h2
  have hsp : Hid (∀ j, j < news.length → (w.drew.cell? ⟨g, 0 + i * 1 + j, none⟩).isSome = true ∧ w.drew.frozen? ⟨g, 0 + i * 1 + j, none⟩ = false) := by
    intro t ht
    rw [hlen] at ht
    obtain ⟨v, e, _⟩ := hcell (i + t) (by omega)
    rw [Nat.mul_one, Nat.zero_add]
    exact ⟨by show (w.cell? _).isSome = true; rw [e]; rfl, hfr _⟩
  have hnl : Hid (news.length = (n - (i + 1)) * 1) := by rw [Nat.mul_one]; exact hlen
  have hic : i ≤ c := by omega
  have hjc : i + 1 ≤ c := by omega
  have e1 : ¬ ((i : Int) = (i : Int) + 1) := by omega
  have e2 : ((i : Int) + 1).toNat = i + 1 := by omega
  have e3 : (0 : Int) ≤ (i : Int) + 1 := by omega
  have e4 : (i : Int) + 1 ≤ (n : Int) := by omega
  have e5 : (i : Int) ≤ (i : Int) + 1 := by omega
  have e6 : i + (n - (i + 1)) = n - 1 := by omega
  have e7 : n - (n - 1) = 1 := by omega
  have e8 : n - 1 ≤ c := by omega
  have e9 : ¬ c = n - 1 := by omega
  unfold maxLen at hc
  clear hW1 hH1 hO1 hsrc h2 hlen hget hnews hcell hfr
  go_enter Try.func77, Try.ntmps77
  go_wp2_with fail
  go_region_law (refine step_append_room rfl (.tmp 22) (.tmp 25) 74 rfl 33 i0 1 Try.underlying74 hi0 hz1 g 0 i c (by simp [Act.eval, Act.put]) AD (n - (i + 1)) (c - (i + 1)) news (by simp [Act.eval, Act.put]) hnl.out HS.out H2.out (by omega) hsp.out ?_; rw [← HW.out])
  all_goals
    go_wp2
    go_ret
    refine ⟨rfl, _, heap_setCells_same g _ _ _ _ _ HF.out.1, by rw [layA_size, layA_size]; exact hs, fun j hj => ?_, fun j hj hj2 => ?_, HF.out.2.trans (only_setCells g _ _ _)⟩
    · rw [layA_get _ _ _ _ (by rw [layA_size]; simp; omega), if_neg (by omega), layA_get _ _ _ _ (by rw [HN.out.1]; omega), if_neg (by omega)]
    · rw [layA_get _ _ _ _ (by rw [layA_size]; simp; omega), if_neg (by omega), layA_get _ _ _ _ (by rw [HN.out.1]; omega), if_pos (by rw [HN.out.1]; omega), HN.out.2 _ (by omega)]
      congr 1
      omega
end Go.Proofs.Ytlginmnmobkbhaa
