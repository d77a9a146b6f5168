/-
  slices.Insert of one element into a list of slices of bytes.
  slices.Insert of one element into a list of slices of bytes: ahead of another one, where there is room.
  slices.Insert of one element into a list of slices of bytes: ahead of another one, where there is no room.
-/
import Derived.Test.YtkakbeiehggkiaaH21
import Derived.Lib.Overlaps
import Derived.Lib.AppendZeros
import Derived.Lib.AppendZerosOnto
import Derived.Laws.Externs
import Derived.Laws.IdiomCopy
import Derived.Laws.NewBlocks
namespace Go.Proofs.Ytkakbeiehggkiaa
open Go.RowKit

theorem wpList_copy_k {w : World} {ops : Array Oper} {rest : List Oper} {o : Oper} {a : Act} {Q : Exit → Act → World → Prop} (hgd : o.guard = none) (d s : Operand) (t t' : TypeId)
    (ho : o.op = .call { callee := .builtin .copy, args := #[d, s], argTypes := #[t, t'] }) (v u : Value) (hd : a.eval d = v) (hs : a.eval s = u) {v' : Value} {w' : World}
    (hr : (Builtin.copy_ #[t, t'] o.type #[v, u]).run Try.prog w = .ok v' w') (h : wpList Try.prog ops Q rest (a.put o.dst v') w') : wpList Try.prog ops Q (o :: rest) a w := by
  refine wpList_plain hgd fun K hK => ?_
  unfold Oper.wp
  simp [execOp, ho, resolve, invoke, builtin, hd, hs, hr, Result.andThen]
  exact hK _ _ h
theorem step_copy_k {ops : Array Oper} {o : Oper} {a : Act} {w : World} {K : Act → World → Prop} {Q : Exit → Act → World → Prop} {E : Prop} (hg : o.guard = none) (d x : Operand) (dT sT : TypeId)
    (hop : o.op = Op.call { callee := Callee.builtin Builtin.copy, args := #[d, x], argTypes := #[dT, sT] }) (v u : Value) (hd : a.eval d = v) (hx : a.eval x = u) {v' : Value} {w' : World}
    (hr : (Builtin.copy_ #[dT, sT] o.type #[v, u]).run Try.prog w = .ok v' w') (hK : K (a.put o.dst v') w') : if Region.wanted o (yielded ops a.tmps) = true then Oper.wp Try.prog o a w K Q else E := by
  have hw : Region.wanted o (yielded ops a.tmps) = true := by simp [Region.wanted, hg]
  rw [if_pos hw]
  unfold Oper.wp
  simp [execOp, hop, resolve, invoke, builtin, hd, hx, hr, Result.andThen]
  exact hK

def RetInsert (w : World) (g n i : Nat) (cur : Array Value) (x : Value) (e : Ending) (w' : World) : Prop :=
  ∃ g' c' cur', e = .returned (.slice (some ⟨g', 0, none⟩) (n + 1) c') ∧ w'.heap[g']? = some (.cells cur' 33 (0, 0)) ∧ cur'.size = c' ∧ n + 1 ≤ c' ∧ c' ≤ maxLen ∧
    (∀ j, j < i → cur'[j]? = cur[j]?) ∧ cur'[i]? = some x ∧ (∀ j, i < j → j ≤ n → cur'[j]? = cur[j - 1]?) ∧ (g' = g ∨ w.heap.size ≤ g') ∧ Only (fun k => k = g) w w'

theorem sizeL : (Try.prog.info? 33).map (·.size) = some 1 := by kernel_rfl

set_option maxRecDepth 100000 in
set_option maxHeartbeats 2000000 in
theorem insert_end (g n c vb : Nat) (x : Value) (cur : Array Value) (w : World) (hg : w.heap[g]? = some (.cells cur 33 (0, 0))) (hs : cur.size = c) (hn : n ≤ c) (hc : c ≤ maxLen) (hn2 : n ≤ 1000)
    (hv : w.cell? ⟨vb, 0, none⟩ = some x) (hx : x.oneCell' = true) :
    Calls Try.prog 78 #[.slice (some ⟨g, 0, none⟩) n c, .int .i64 (n : Int), .slice (some ⟨vb, 0, none⟩) 1 1] w (RetInsert w g n n cur x) := by
  obtain ⟨i0, hi0, hz0, hz1, hz2⟩ := info_parts infoL
  have hgl := (Array.getElem?_eq_some_iff.1 hg).1
  have hown : w.ownsRow 0 33 1 (.slice (some ⟨g, 0, none⟩) n c) n (cur.toList.take n) :=
    ⟨by simp; omega, .inr ⟨g, c, cur, rfl, Nat.zero_le _, hg, hn, hc, by omega, by rw [Nat.mul_one]⟩⟩
  have HO := Lib.hid (And.intro hown hv)
  have HC := Lib.hid (And.intro hs hc)
  have e1 : ((n : Int) == (n : Int)) = true := by simp
  have e2 : n ≤ c := hn
  clear hown hv hg hs hc
  go_enter Try.func78, Try.ntmps78
  go_wp2_with (at_builtin
               refine wpList_append_own_at _ rfl (.tmp 23) (.tmp 24) _ rfl 0 33 i0 _ 1 24 Try.underlying74 hi0 hz0 hz1 hz2 rfl (by decide) _ n _ rfl HO.out.1 ⟨vb, 0, none⟩ 1 1 [x] rfl rfl (fun j u hj => by
                 have hj0 : j = 0 := by
                   have := (List.getElem?_eq_some_iff.1 hj).1
                   simp at this
                   exact this
                 subst hj0
                 simp at hj
                 subst hj
                 exact HO.out.2) (by intro u hu; simp at hu; subst hu; exact hx) (by unfold maxLen; omega) (by omega) (by omega) ?_)
  all_goals
    intro v' w' ho hg1 _ hr
    obtain ⟨hcn, ho⟩ := ho
    rcases ho with ⟨_, h0⟩ | ⟨g', c', cur', rfl, _, hh, hn1, hc1, hsz, htk⟩
    · exfalso
      omega
    go_wp2
    go_ret
    rw [Nat.mul_one] at hsz htk
    have hl := HC.out.1
    have hT : (cur.toList.take n).length = n := by rw [List.length_take, Array.length_toList]; omega
    have hge : ∀ j, j < n + 1 → cur'[j]? = (cur.toList.take n ++ [x])[j]? := fun j hj => by
      rw [← htk, List.getElem?_take, if_pos hj, Array.getElem?_toList]
    refine ⟨g', c', cur', rfl, hh, hsz, hn1, hc1, fun j hj => ?_, ?_, fun j hj hj2 => absurd hj (by omega), ?_, only_grown hg1 (fun k e => by injection e with e; exact e.symm)⟩
    · rw [hge j (by omega), List.getElem?_append_left (by omega), List.getElem?_take, if_pos hj, Array.getElem?_toList]
    · rw [hge n (by omega), List.getElem?_append_right (by omega), hT, Nat.sub_self]
      rfl
    · rcases hr with hr | hr
      · injection hr with hr
        exact .inl hr
      · injection hr with hr
        exact .inr (Nat.le_of_eq hr.symm)
end Go.Proofs.Ytkakbeiehggkiaa

namespace Go.Proofs.Ytkakbeiehggkiaa
open Go.RowKit

theorem underT : Try.prog.underlying 74 = some (.slice 33) := by kernel_rfl

set_option maxRecDepth 100000 in
set_option maxHeartbeats 4000000 in
theorem insert_room (g n c i vb : Nat) (x : Value) (cur : Array Value) (w : World) (hg : w.heap[g]? = some (.cells cur 33 (0, 0))) (hs : cur.size = c) (hi : i < n) (hn : n + 1 ≤ c) (hc : c ≤ maxLen)
    (hv : w.heap[vb]? = some (.cells #[x] 33 (0, 0))) (hvg : vb ≠ g) (hx : x.oneCell' = true) (h1 : ∀ j v, j < n → cur[j]? = some v → v.oneCell' = true) :
    Calls Try.prog 78 #[.slice (some ⟨g, 0, none⟩) n c, .int .i64 (i : Int), .slice (some ⟨vb, 0, none⟩) 1 1] w (RetInsert w g n i cur x) := by
  have hc63 : c ≤ 9223372036854775807 := by unfold maxLen at hc; exact hc
  obtain ⟨cs, hcse⟩ : ∃ cs, cs = (cur.toList.take n).drop i := ⟨_, rfl⟩
  have hlen : cs.length = n - i := by rw [hcse]; simp; omega
  have hget : ∀ t, t < n - i → cs[t]? = cur[i + t]? := by
    intro t ht
    rw [hcse, List.getElem?_drop, List.getElem?_take, if_pos (by omega), Array.getElem?_toList]
  have h1c : ∀ u ∈ cs, u.oneCell' = true := by
    intro u hu
    obtain ⟨t, ht, e⟩ := List.mem_iff_getElem.1 hu
    have h3 := hget t (by omega)
    rw [List.getElem?_eq_getElem ht, e] at h3
    exact h1 (i + t) u (by omega) h3.symm
  have hfz : ∀ j, w.frozen? ⟨g, j, none⟩ = false := fun j => by simp [World.frozen?, hg]
  have hsp : ∀ j, j < c → (w.cell? ⟨g, j, none⟩).isSome = true := fun j hj => by
    rw [cell_of_row _ g j _ _ _ hg, Array.getElem?_eq_getElem (by omega)]
    rfl
  have hcs : ∀ j v, cs[j]? = some v → w.cell? ⟨g, i + j, none⟩ = some v := fun j v h => by
    have ht : j < n - i := by rw [← hlen]; exact (List.getElem?_eq_some_iff.1 h).1
    rw [cell_of_row _ g _ _ _ _ hg, ← hget j ht]
    exact h
  have hsz : (Try.prog.info? 33).map (·.size) = some 1 := sizeL
  have hov : ∀ lb cb, (callFunc 87 #[.slice (some ⟨vb, 0, none⟩) 1 1, .slice (some ⟨g, i + 1, none⟩) lb cb]).run Try.prog w = .ok (.value (.bool false)) w := fun lb cb => by
    rw [run_callFunc_extern Try.func87 (by kernel_rfl) (by kernel_rfl) (by kernel_rfl) (e := Extern.SlicesOverlaps.overlaps #[74, 74] #[4]) (by kernel_rfl),
      Lib.run_overlaps_apart w 74 4 33 underT 1 (fun w => by kernel_rfl) ⟨vb, 0, none⟩ ⟨g, i + 1, none⟩ 1 1 lb cb hvg 33 33 1 c (by simp [World.shape?, hv]) (by simp [World.shape?, hg, hs]) (by omega) (by simp [World.frozen?, hv]) (by simp [World.frozen?, hv])]
    rfl
  have hcp1 : ∀ ty dc sc, (Builtin.copy_ #[74, 74] ty #[.slice (some ⟨g, i + 1, none⟩) (n + 1 - (i + 1)) dc, .slice (some ⟨g, i, none⟩) (n + 1 - i) sc]).run Try.prog w.drew = .ok (goInt cs.length) (w.drew.setCells g (i + 1) cs) := fun ty dc sc =>
    run_copy_cells w.drew _ _ ty 33 g (i + 1) (n + 1 - (i + 1)) dc ⟨g, i, none⟩ (n + 1 - i) sc cs underT hsz (by rw [hlen]; simp only [Nat.min_def]; split <;> omega)
      (fun j v hj => by rw [Addr.add_lit]; exact hcs j v hj) (fun j hj => hsp _ (by omega)) (fun j hj => hfz _) h1c
  obtain ⟨W1, hW1⟩ : ∃ W1, W1 = w.drew.setCells g (i + 1) cs := ⟨_, rfl⟩
  have hH1 : W1.heap[g]? = some (.cells (layA cur (i + 1) cs) 33 (0, 0)) := by
    rw [hW1]
    exact heap_setCells_same g _ cs w.drew cur _ hg
  have hO1 : Only (fun k => k = g) w W1 := by rw [hW1]; exact only_drew.trans (only_setCells g cs _ _)
  have hvc : W1.cell? ⟨vb, 0, none⟩ = some x := by
    have hl : vb < w.heap.size := (Array.getElem?_eq_some_iff.1 hv).1
    rw [cell_of_row _ vb 0 _ _ _ ((hO1.block vb hl hvg).trans hv)]
    rfl
  have hcp2 : ∀ (W : World), (∀ x, W.cell? x = W1.cell? x) → (∀ x, W.frozen? x = W1.frozen? x) → ∀ ty dc, (Builtin.copy_ #[74, 74] ty #[.slice (some ⟨g, i, none⟩) (n + 1 - i) dc, .slice (some ⟨vb, 0, none⟩) 1 1]).run Try.prog W = .ok (goInt [x].length) (W.setCells g i [x]) := fun W hWc hWf ty dc =>
    run_copy_cells W _ _ ty 33 g i (n + 1 - i) dc ⟨vb, 0, none⟩ 1 1 [x] underT hsz (by simp only [List.length_cons, List.length_nil, Nat.min_def]; split <;> omega)
      (fun j v hj => by
        have hj0 : j = 0 := by
          have := (List.getElem?_eq_some_iff.1 hj).1
          simp at this
          exact this
        subst hj0
        simp at hj
        subst hj
        rw [Addr.add_lit, hWc]
        exact hvc)
      (fun j hj => by
        simp at hj
        rw [hWc, cell_of_row _ g _ _ _ _ hH1, Array.getElem?_eq_getElem (by rw [layA_size]; omega)]
        rfl) (fun j hj => by rw [hWf]; simp [World.frozen?, hH1]) (by intro u hu; simp at hu; subst hu; exact hx)
  rw [← hW1] at hcp1
  have HP : ∀ (W : World), W.heap = W1.heap → Only (fun k => k = g) w W → RetInsert w g n i cur x (.returned (.slice (some ⟨g, 0, none⟩) (n + 1) c)) (W.setCells g i [x]) := by
    intro W hWh hWo
    refine ⟨g, c, _, rfl, heap_setCells_same g _ _ _ _ _ (by rw [hWh]; exact hH1), by rw [layA_size, layA_size]; exact hs, hn, hc, fun j hj => ?_, ?_, fun j hj hj2 => ?_, .inl rfl, hWo.trans (only_setCells g _ _ _)⟩
    · rw [layA_get _ _ _ _ (by rw [layA_size]; simp; omega), if_neg (by omega), layA_get _ _ _ _ (by omega), if_neg (by omega)]
    · rw [layA_get _ _ _ _ (by rw [layA_size]; simp; omega), if_pos (by simp), Nat.sub_self]
      rfl
    · rw [layA_get _ _ _ _ (by rw [layA_size]; simp; omega), if_neg (by simp; omega), layA_get _ _ _ _ (by omega), if_pos (by omega), hget _ (by omega)]
      congr 1
      omega
  have HPh := Lib.hid HP
  have HOh := Lib.hid hO1
  clear HP hW1 hH1 hvc hcs hsp hfz h1c hget hlen hcse hO1
  have hz2 : ¬ ((i : Int) = (n : Int)) := by omega
  have hin : i ≤ n := by omega
  have hw1 : IntKind.i64.wrap ((i : Int) + 1) = (i : Int) + 1 := by rw [IntKind.wrap_i64]; omega
  have hw2 : IntKind.i64.wrap ((n : Int) + 1) = (n : Int) + 1 := by rw [IntKind.wrap_i64]; omega
  have htn : ((i : Int) + 1).toNat = i + 1 := by omega
  have htn2 : ((n : Int) + 1).toNat = n + 1 := by omega
  have hb1 : (0 : Int) ≤ (i : Int) + 1 := by omega
  have hb2 : ¬ (c = i + 1) := by omega
  have hb3 : (i : Int) ≤ (n : Int) + 1 := by omega
  have hb4 : ¬ (c = i) := by omega
  have hb5 : (0 : Int) ≤ (n : Int) + 1 := by omega
  have hb6 : ¬ ((c : Int) < (n : Int) + 1) := by omega
  have hb7 : (n : Int) + 1 ≤ (c : Int) := by omega
  go_enter Try.func78, Try.ntmps78
  go_wp2_with (simp only [hov])
  go_region_law (refine step_copy_k rfl _ _ 74 74 rfl (.slice (some ⟨g, i + 1, none⟩) (n + 1 - (i + 1)) (c - (i + 1))) (.slice (some ⟨g, i, none⟩) (n + 1 - i) (c - i)) (by simp [Act.eval, Act.put]) (by simp [Act.eval, Act.put]) (hcp1 _ _ _) ?_)
  all_goals
    go_wp2_with (at_builtin; refine wpList_copy_k rfl _ _ 74 74 rfl _ _ rfl rfl (hcp2 _ (fun _ => rfl) (fun _ => rfl) _ _) ?_)
    go_ret
    exact HPh.out _ rfl HOh.out
end Go.Proofs.Ytkakbeiehggkiaa

namespace Go.Proofs.Ytkakbeiehggkiaa
open Go.RowKit

set_option maxRecDepth 100000 in
set_option maxHeartbeats 4000000 in
theorem insert_grow (g n i vb : Nat) (x : Value) (cur : Array Value) (w : World) (hg : w.heap[g]? = some (.cells cur 33 (0, 0))) (hs : cur.size = n) (hi : i < n) (hn2 : n ≤ 1000)
    (hv : w.heap[vb]? = some (.cells #[x] 33 (0, 0))) (hvg : vb ≠ g) (hx : x.oneCell' = true) (h1 : ∀ j v, j < n → cur[j]? = some v → v.oneCell' = true) :
    Calls Try.prog 78 #[.slice (some ⟨g, 0, none⟩) n n, .int .i64 (i : Int), .slice (some ⟨vb, 0, none⟩) 1 1] w (RetInsert w g n i cur x) := by
  obtain ⟨i0, hi0, hz0, hz1, hz2⟩ := info_parts infoL
  have hgl : g < w.heap.size := (Array.getElem?_eq_some_iff.1 hg).1
  have hvl : vb < w.heap.size := (Array.getElem?_eq_some_iff.1 hv).1
  have hsz : (Try.prog.info? 33).map (·.size) = some 1 := sizeL
  obtain ⟨cs, hcse⟩ : ∃ cs, cs = cur.toList := ⟨_, rfl⟩
  have hlen : cs.length = n := by rw [hcse]; simp; exact hs
  have hget : ∀ t, cs[t]? = cur[t]? := fun t => by rw [hcse, Array.getElem?_toList]
  have hcs : ∀ j v, cs[j]? = some v → w.cell? ⟨g, j, none⟩ = some v := fun j v h => by
    rw [cell_of_row _ g _ _ _ _ hg, ← hget j]
    exact h
  have h1c : ∀ u ∈ cs, u.oneCell' = true := by
    intro u hu
    obtain ⟨t, ht, e⟩ := List.mem_iff_getElem.1 hu
    have h3 := hget t
    rw [List.getElem?_eq_getElem ht, e] at h3
    exact h1 t u (by omega) h3.symm
  have hold : (Builtin.firstCells i0.size i (.slice (some ⟨g, 0, none⟩) i n)).run Try.prog w.drew = .ok (cs.take i).toArray w.drew := by
    rw [hz1]
    exact run_firstCells_some w.drew 1 i ⟨g, 0, none⟩ i n (cs.take i) (by rw [List.length_take]; omega) (fun j v hj => by
      rw [Addr.add_lit, Nat.zero_add]
      rw [List.getElem?_take] at hj
      split at hj
      · exact hcs j v hj
      · cases hj)
  have hkk : (n : Int) + 1 - (i : Int) = ((n + 1 - i : Nat) : Int) := by omega
  have hik : i + (n + 1 - i) = n + 1 := by omega
  have hrz : ∀ ty, (Builtin.append_ #[74, 3] ty #[.slice (some ⟨g, 0, none⟩) i n, .int .i64 ((n : Int) + 1 - (i : Int))]).run Try.prog w =
      .ok (.slice (some ⟨w.heap.size, 0, none⟩) (n + 1) (grownCap w (n + 1) n 33)) (w.drew.alloc (.cells ((cs.take i).toArray ++ Builtin.zeroCells (Value.slice none 0 0).cells (n + 1 - i) ++ Builtin.zeroCells (Value.slice none 0 0).cells (grownCap w (n + 1) n 33 - (n + 1))) 33)) := fun ty => by
    have h := Lib.run_append_grow_zeros w 74 3 ty 33 i0 _ .i64 .i64 underT (by kernel_rfl) hi0 hz0 (some ⟨g, 0, none⟩) i n (cs.take i) hold (n + 1 - i) (by omega) (by omega) (by omega) (by omega) (by rw [hz2]; omega) (by rw [hz2, hik]; exact growslice_fits (by omega) (by omega))
    rw [hik] at h
    rw [hkk]
    exact h
  have hGn : n + 1 ≤ grownCap w (n + 1) n 33 := grownCap_ge w _ _ _
  have hG63 : grownCap w (n + 1) n 33 ≤ maxLen := grownCap_le_maxLen w (n + 1) n 33 (by unfold maxLen; omega)
  obtain ⟨G, hG⟩ : ∃ G, G = grownCap w (n + 1) n 33 := ⟨_, rfl⟩
  rw [← hG] at hrz hGn hG63
  obtain ⟨ROW, hROW⟩ : ∃ ROW : Array Value, ROW = (cs.take i).toArray ++ Builtin.zeroCells (Value.slice none 0 0).cells (n + 1 - i) ++ Builtin.zeroCells (Value.slice none 0 0).cells (G - (n + 1)) := ⟨_, rfl⟩
  have hRs : ROW.size = G := by
    rw [hROW]
    simp [Builtin.zeroCells, Value.cells]
    omega
  have hRg : ∀ j, j < i → ROW[j]? = cur[j]? := fun j hj => by
    rw [hROW, Array.append_assoc, Array.getElem?_append_left (by simp; omega)]
    simp [hj, hget]
  rw [← hROW] at hrz
  obtain ⟨W1, hW1⟩ : ∃ W1, W1 = w.drew.alloc (.cells ROW 33) := ⟨_, rfl⟩
  rw [← hW1] at hrz
  have hH1 : W1.heap[w.heap.size]? = some (.cells ROW 33 (0, 0)) := by rw [hW1]; exact Array.getElem?_push_size
  have hO1 : Only (fun _ => False) w W1 := by rw [hW1]; exact only_drew.trans (only_alloc _)
  have hgc : W1.heap[g]? = some (.cells cur 33 (0, 0)) := (hO1.block g hgl (fun h => h)).trans hg
  have hvc : W1.heap[vb]? = some (.cells #[x] 33 (0, 0)) := (hO1.block vb hvl (fun h => h)).trans hv
  have hcpA : ∀ (W : World), (∀ x, W.cell? x = W1.cell? x) → (∀ x, W.frozen? x = W1.frozen? x) → ∀ ty dc, (Builtin.copy_ #[74, 74] ty #[.slice (some ⟨w.heap.size, i, none⟩) (n + 1 - i) dc, .slice (some ⟨vb, 0, none⟩) 1 1]).run Try.prog W = .ok (goInt [x].length) (W.setCells w.heap.size i [x]) := fun W hWc hWf ty dc =>
    run_copy_cells W _ _ ty 33 w.heap.size i (n + 1 - i) dc ⟨vb, 0, none⟩ 1 1 [x] underT hsz (by simp only [List.length_cons, List.length_nil, Nat.min_def]; split <;> omega)
      (fun j v hj => by
        have hj0 : j = 0 := by
          have := (List.getElem?_eq_some_iff.1 hj).1
          simp at this
          exact this
        subst hj0
        simp at hj
        subst hj
        rw [Addr.add_lit, hWc, cell_of_row _ vb _ _ _ _ hvc]
        rfl)
      (fun j hj => by
        simp at hj
        rw [hWc, cell_of_row _ w.heap.size _ _ _ _ hH1, Array.getElem?_eq_getElem (by omega)]
        rfl) (fun j hj => by rw [hWf]; simp [World.frozen?, hH1]) (by intro u hu; simp at hu; subst hu; exact hx)
  have hdl : (cs.drop i).length = n - i := by rw [List.length_drop, hlen]
  obtain ⟨W2, hW2⟩ : ∃ W2, W2 = W1.setCells w.heap.size i [x] := ⟨_, rfl⟩
  have hH2 : W2.heap[w.heap.size]? = some (.cells (layA ROW i [x]) 33 (0, 0)) := by
    rw [hW2]
    exact heap_setCells_same _ _ [x] W1 ROW _ hH1
  have hO2 : Only (fun k => k = w.heap.size) w W2 := by rw [hW2]; exact (hO1.mono (fun k _ h => absurd h (fun h => h))).trans (only_setCells w.heap.size [x] _ _)
  have hgc2 : W2.heap[g]? = some (.cells cur 33 (0, 0)) := (hO2.block g hgl (by omega)).trans hg
  have hcpB : ∀ (W : World), (∀ x, W.cell? x = W2.cell? x) → (∀ x, W.frozen? x = W2.frozen? x) → ∀ ty dc sc, (Builtin.copy_ #[74, 74] ty #[.slice (some ⟨w.heap.size, i + 1, none⟩) (n + 1 - (i + 1)) dc, .slice (some ⟨g, i, none⟩) (n - i) sc]).run Try.prog W = .ok (goInt (cs.drop i).length) (W.setCells w.heap.size (i + 1) (cs.drop i)) := fun W hWc hWf ty dc sc =>
    run_copy_cells W _ _ ty 33 w.heap.size (i + 1) (n + 1 - (i + 1)) dc ⟨g, i, none⟩ (n - i) sc (cs.drop i) underT hsz (by rw [hdl]; simp only [Nat.min_def]; split <;> omega)
      (fun j v hj => by
        rw [Addr.add_lit, hWc, cell_of_row _ g _ _ _ _ hgc2, ← hget]
        rwa [List.getElem?_drop] at hj)
      (fun j hj => by
        rw [hWc, cell_of_row _ w.heap.size _ _ _ _ hH2, Array.getElem?_eq_getElem (by rw [layA_size]; omega)]
        rfl) (fun j hj => by rw [hWf]; simp [World.frozen?, hH2]) (fun v hv => h1c v (List.mem_of_mem_drop hv))
  have HP : ∀ (W : World), W.heap = W2.heap → Only (fun k => k = w.heap.size) w W → RetInsert w g n i cur x (.returned (.slice (some ⟨w.heap.size, 0, none⟩) (n + 1) G)) (W.setCells w.heap.size (i + 1) (cs.drop i)) := by
    intro W hWh hWo
    have hOe : Only (fun k => k = w.heap.size) w (W.setCells w.heap.size (i + 1) (cs.drop i)) := hWo.trans (only_setCells w.heap.size _ _ _)
    refine ⟨w.heap.size, G, _, rfl, heap_setCells_same _ _ _ _ _ _ (by rw [hWh]; exact hH2), by rw [layA_size, layA_size]; exact hRs, hGn, hG63, fun j hj => ?_, ?_, fun j hj hj2 => ?_, .inr (Nat.le_refl _), ⟨hOe.os, hOe.tape, hOe.output, hOe.size, fun k hk _ => hOe.block k hk (by omega)⟩⟩
    · rw [layA_get _ _ _ _ (by rw [layA_size]; omega), if_neg (by omega), layA_get _ _ _ _ (by simp; omega), if_neg (by omega), hRg j hj]
    · rw [layA_get _ _ _ _ (by rw [layA_size]; omega), if_neg (by omega), layA_get _ _ _ _ (by simp; omega), if_pos (by simp), Nat.sub_self]
      rfl
    · rw [layA_get _ _ _ _ (by rw [layA_size]; omega), if_pos (by omega), List.getElem?_drop, hget]
      congr 1
      omega
  have hcpB' := hcpB (W1.setCells w.heap.size i [x]).drew (fun y => by rw [hW2]; rfl) (fun y => by rw [hW2]; rfl)
  have HP' := HP (W1.setCells w.heap.size i [x]).drew (by rw [hW2]; rfl) (by rw [← hW2]; exact hO2.trans only_drew)
  have HPh := Lib.hid HP'
  clear hcpB HP HP' hW2 hH2 hgc2 hO2 hW1 hH1 hO1 hgc hvc hcs h1c hget hlen hcse hG hROW hRs hRg hold hkk hik hdl
  have hz3 : ¬ ((i : Int) = (n : Int)) := by omega
  have hin : i ≤ n := by omega
  have hw1 : IntKind.i64.wrap ((i : Int) + 1) = (i : Int) + 1 := by rw [IntKind.wrap_i64]; omega
  have hw2 : IntKind.i64.wrap ((n : Int) + 1) = (n : Int) + 1 := by rw [IntKind.wrap_i64]; omega
  have htn : ((i : Int) + 1).toNat = i + 1 := by omega
  have hb1 : (0 : Int) ≤ (i : Int) + 1 := by omega
  have hb2 : ¬ (G = i + 1) := by omega
  have hb3 : (i : Int) ≤ (n : Int) + 1 := by omega
  have hb4 : ¬ (G = i) := by omega
  have hb5 : ¬ (n = i) := by omega
  have hb6 : (n : Int) < (n : Int) + 1 := by omega
  have hG2 : G ≤ 9223372036854775807 := hG63
  go_enter Try.func78, Try.ntmps78
  go_wp2_with (first
    | (at_builtin; refine Lib.wpList_append_run _ rfl _ _ _ _ rfl _ _ rfl rfl _ _ (hrz _) ?_)
    | (at_builtin; refine wpList_copy_k rfl _ _ 74 74 rfl _ _ rfl rfl (hcpA _ (fun _ => rfl) (fun _ => rfl) _ _) ?_))
  go_region_law (refine step_copy_k rfl _ _ 74 74 rfl (.slice (some ⟨w.heap.size, i + 1, none⟩) (n + 1 - (i + 1)) (G - (i + 1))) (.slice (some ⟨g, i, none⟩) (n - i) (n - i)) (by simp [Act.eval, Act.put]) (by simp [Act.eval, Act.put]) (hcpB' _ _ _) ?_)
  all_goals
    go_wp2
    go_ret
    exact HPh.out
end Go.Proofs.Ytkakbeiehggkiaa
