/-
  slices.Insert of one element into a list of slices of bytes: ahead of another one, where there is room.
-/
import Derived.Test.YtlginmnmobkbhaaCIns
namespace Go.Proofs.Ytlginmnmobkbhaa
open Go.RowKit

theorem underT : Try.prog.underlying 74 = some (.slice 33) := by kernel_rfl

set_option maxRecDepth 100000 in
set_option maxHeartbeats 4000000 in
theorem insert_room (g n c i vb : Nat) (x : Value) (cur : Array Value) (w : World) (hg : w.heap[g]? = some (.cells cur 33 (0, 0))) (hs : cur.size = c) (hi : i < n) (hn : n + 1 ≤ c) (hc : c ≤ maxLen)
    (hv : w.heap[vb]? = some (.cells #[x] 33 (0, 0))) (hvg : vb ≠ g) (hx : x.oneCell' = true) (h1 : ∀ j v, j < n → cur[j]? = some v → v.oneCell' = true) :
    Calls Try.prog 78 #[.slice (some ⟨g, 0, none⟩) n c, .int .i64 (i : Int), .slice (some ⟨vb, 0, none⟩) 1 1] w (RetInsert w g n i cur x) := by
  have hc63 : c ≤ 9223372036854775807 := by unfold maxLen at hc; exact hc
  obtain ⟨cs, hcse⟩ : ∃ cs, cs = (cur.toList.take n).drop i := ⟨_, rfl⟩
  have hlen : cs.length = n - i := by rw [hcse]; simp; omega
  have hget : ∀ t, t < n - i → cs[t]? = cur[i + t]? := by
    intro t ht
    rw [hcse, List.getElem?_drop, List.getElem?_take, if_pos (by omega), Array.getElem?_toList]
  have h1c : ∀ u ∈ cs, u.oneCell' = true := by
    intro u hu
    obtain ⟨t, ht, e⟩ := List.mem_iff_getElem.1 hu
    have h3 := hget t (by omega)
    rw [List.getElem?_eq_getElem ht, e] at h3
    exact h1 (i + t) u (by omega) h3.symm
  have hfz : ∀ j, w.frozen? ⟨g, j, none⟩ = false := fun j => by simp [World.frozen?, hg]
  have hsp : ∀ j, j < c → (w.cell? ⟨g, j, none⟩).isSome = true := fun j hj => by
    rw [cell_of_row _ g j _ _ _ hg, Array.getElem?_eq_getElem (by omega)]
    rfl
  have hcs : ∀ j v, cs[j]? = some v → w.cell? ⟨g, i + j, none⟩ = some v := fun j v h => by
    have ht : j < n - i := by rw [← hlen]; exact (List.getElem?_eq_some_iff.1 h).1
    rw [cell_of_row _ g _ _ _ _ hg, ← hget j ht]
    exact h
  have hsz : (Try.prog.info? 33).map (·.size) = some 1 := sizeL
  have hov : ∀ lb cb, (callFunc 87 #[.slice (some ⟨vb, 0, none⟩) 1 1, .slice (some ⟨g, i + 1, none⟩) lb cb]).run Try.prog w = .ok (.value (.bool false)) w := fun lb cb => by
    rw [run_callFunc_extern Try.func87 (by kernel_rfl) (by kernel_rfl) (by kernel_rfl) (e := Extern.SlicesOverlaps.overlaps #[74, 74] #[4]) (by kernel_rfl),
      Lib.run_overlaps_apart w 74 4 33 underT 1 (fun w => by kernel_rfl) ⟨vb, 0, none⟩ ⟨g, i + 1, none⟩ 1 1 lb cb hvg 33 33 1 c (by simp [World.shape?, hv]) (by simp [World.shape?, hg, hs]) (by omega) (by simp [World.frozen?, hv]) (by simp [World.frozen?, hv])]
    rfl
  have hcp1 : ∀ ty dc sc, (Builtin.copy_ #[74, 74] ty #[.slice (some ⟨g, i + 1, none⟩) (n + 1 - (i + 1)) dc, .slice (some ⟨g, i, none⟩) (n + 1 - i) sc]).run Try.prog w.drew = .ok (goInt cs.length) (w.drew.setCells g (i + 1) cs) := fun ty dc sc =>
    run_copy_cells w.drew _ _ ty 33 g (i + 1) (n + 1 - (i + 1)) dc ⟨g, i, none⟩ (n + 1 - i) sc cs underT hsz (by rw [hlen]; simp only [Nat.min_def]; split <;> omega)
      (fun j v hj => by rw [Addr.add_lit]; exact hcs j v hj) (fun j hj => hsp _ (by omega)) (fun j hj => hfz _) h1c
  obtain ⟨W1, hW1⟩ : ∃ W1, W1 = w.drew.setCells g (i + 1) cs := ⟨_, rfl⟩
  have hH1 : W1.heap[g]? = some (.cells (layA cur (i + 1) cs) 33 (0, 0)) := by
    rw [hW1]
    exact heap_setCells_same g _ cs w.drew cur _ hg
  have hO1 : Only (fun k => k = g) w W1 := by rw [hW1]; exact only_drew.trans (only_setCells g cs _ _)
  have hvc : W1.cell? ⟨vb, 0, none⟩ = some x := by
    have hl : vb < w.heap.size := (Array.getElem?_eq_some_iff.1 hv).1
    rw [cell_of_row _ vb 0 _ _ _ ((hO1.block vb hl hvg).trans hv)]
    rfl
  have hcp2 : ∀ (W : World), (∀ x, W.cell? x = W1.cell? x) → (∀ x, W.frozen? x = W1.frozen? x) → ∀ ty dc, (Builtin.copy_ #[74, 74] ty #[.slice (some ⟨g, i, none⟩) (n + 1 - i) dc, .slice (some ⟨vb, 0, none⟩) 1 1]).run Try.prog W = .ok (goInt [x].length) (W.setCells g i [x]) := fun W hWc hWf ty dc =>
    run_copy_cells W _ _ ty 33 g i (n + 1 - i) dc ⟨vb, 0, none⟩ 1 1 [x] underT hsz (by simp only [List.length_cons, List.length_nil, Nat.min_def]; split <;> omega)
      (fun j v hj => by
        have hj0 : j = 0 := by
          have := (List.getElem?_eq_some_iff.1 hj).1
          simp at this
          exact this
        subst hj0
        simp at hj
        subst hj
        rw [Addr.add_lit, hWc]
        exact hvc)
      (fun j hj => by
        simp at hj
        rw [hWc, cell_of_row _ g _ _ _ _ hH1, Array.getElem?_eq_getElem (by rw [layA_size]; omega)]
        rfl) (fun j hj => by rw [hWf]; simp [World.frozen?, hH1]) (by intro u hu; simp at hu; subst hu; exact hx)
  rw [← hW1] at hcp1
  have HP : ∀ (W : World), W.heap = W1.heap → Only (fun k => k = g) w W → RetInsert w g n i cur x (.returned (.slice (some ⟨g, 0, none⟩) (n + 1) c)) (W.setCells g i [x]) := by
    intro W hWh hWo
    refine ⟨g, c, _, rfl, heap_setCells_same g _ _ _ _ _ (by rw [hWh]; exact hH1), by rw [layA_size, layA_size]; exact hs, hn, hc, fun j hj => ?_, ?_, fun j hj hj2 => ?_, .inl rfl, hWo.trans (only_setCells g _ _ _)⟩
    · rw [layA_get _ _ _ _ (by rw [layA_size]; simp; omega), if_neg (by omega), layA_get _ _ _ _ (by omega), if_neg (by omega)]
    · rw [layA_get _ _ _ _ (by rw [layA_size]; simp; omega), if_pos (by simp), Nat.sub_self]
      rfl
    · rw [layA_get _ _ _ _ (by rw [layA_size]; simp; omega), if_neg (by simp; omega), layA_get _ _ _ _ (by omega), if_pos (by omega), hget _ (by omega)]
      congr 1
      omega
  have HPh := Lib.hid HP
  have HOh := Lib.hid hO1
  clear HP hW1 hH1 hvc hcs hsp hfz h1c hget hlen hcse hO1
  have hz2 : ¬ ((i : Int) = (n : Int)) := by omega
  have hin : i ≤ n := by omega
  have hw1 : IntKind.i64.wrap ((i : Int) + 1) = (i : Int) + 1 := by rw [IntKind.wrap_i64]; omega
  have hw2 : IntKind.i64.wrap ((n : Int) + 1) = (n : Int) + 1 := by rw [IntKind.wrap_i64]; omega
  have htn : ((i : Int) + 1).toNat = i + 1 := by omega
  have htn2 : ((n : Int) + 1).toNat = n + 1 := by omega
  have hb1 : (0 : Int) ≤ (i : Int) + 1 := by omega
  have hb2 : ¬ (c = i + 1) := by omega
  have hb3 : (i : Int) ≤ (n : Int) + 1 := by omega
  have hb4 : ¬ (c = i) := by omega
  have hb5 : (0 : Int) ≤ (n : Int) + 1 := by omega
  have hb6 : ¬ ((c : Int) < (n : Int) + 1) := by omega
  have hb7 : (n : Int) + 1 ≤ (c : Int) := by omega
  go_enter Try.func78, Try.ntmps78
  go_wp2_with (simp only [hov])
  go_region_law (refine step_copy_k rfl _ _ 74 74 rfl (.slice (some ⟨g, i + 1, none⟩) (n + 1 - (i + 1)) (c - (i + 1))) (.slice (some ⟨g, i, none⟩) (n + 1 - i) (c - i)) (by simp [Act.eval, Act.put]) (by simp [Act.eval, Act.put]) (hcp1 _ _ _) ?_)
  all_goals
    go_wp2_with (at_builtin; refine wpList_copy_k rfl _ _ 74 74 rfl _ _ rfl rfl (hcp2 _ (fun _ => rfl) (fun _ => rfl) _ _) ?_)
    go_ret
    exact HPh.out _ rfl HOh.out
end Go.Proofs.Ytlginmnmobkbhaa
