/-
  slices.Insert of one element into a list of slices of bytes.
-/
import Derived.Test.YtlginmnmobkbhaaCRow
import Derived.Lib.Overlaps
import Derived.Lib.AppendZeros
import Derived.Lib.AppendZerosOnto
import Derived.Laws.Externs
import Derived.Laws.IdiomCopy
namespace Go.Proofs.Ytlginmnmobkbhaa
open Go.RowKit

theorem wpList_copy_k {w : World} {ops : Array Oper} {rest : List Oper} {o : Oper} {a : Act} {Q : Exit → Act → World → Prop} (hgd : o.guard = none) (d s : Operand) (t t' : TypeId)
    (ho : o.op = .call { callee := .builtin .copy, args := #[d, s], argTypes := #[t, t'] }) (v u : Value) (hd : a.eval d = v) (hs : a.eval s = u) {v' : Value} {w' : World}
    (hr : (Builtin.copy_ #[t, t'] o.type #[v, u]).run Try.prog w = .ok v' w') (h : wpList Try.prog ops Q rest (a.put o.dst v') w') : wpList Try.prog ops Q (o :: rest) a w := by
  refine wpList_plain hgd fun K hK => ?_
  unfold Oper.wp
  simp [execOp, ho, resolve, invoke, builtin, hd, hs, hr, Result.andThen]
  exact hK _ _ h
theorem step_copy_k {ops : Array Oper} {o : Oper} {a : Act} {w : World} {K : Act → World → Prop} {Q : Exit → Act → World → Prop} {E : Prop} (hg : o.guard = none) (d x : Operand) (dT sT : TypeId)
    (hop : o.op = Op.call { callee := Callee.builtin Builtin.copy, args := #[d, x], argTypes := #[dT, sT] }) (v u : Value) (hd : a.eval d = v) (hx : a.eval x = u) {v' : Value} {w' : World}
    (hr : (Builtin.copy_ #[dT, sT] o.type #[v, u]).run Try.prog w = .ok v' w') (hK : K (a.put o.dst v') w') : if Region.wanted o (yielded ops a.tmps) = true then Oper.wp Try.prog o a w K Q else E := by
  have hw : Region.wanted o (yielded ops a.tmps) = true := by simp [Region.wanted, hg]
  rw [if_pos hw]
  unfold Oper.wp
  simp [execOp, hop, resolve, invoke, builtin, hd, hx, hr, Result.andThen]
  exact hK

def RetInsert (w : World) (g n i : Nat) (cur : Array Value) (x : Value) (e : Ending) (w' : World) : Prop :=
  ∃ g' c' cur', e = .returned (.slice (some ⟨g', 0, none⟩) (n + 1) c') ∧ w'.heap[g']? = some (.cells cur' 33 (0, 0)) ∧ cur'.size = c' ∧ n + 1 ≤ c' ∧ c' ≤ maxLen ∧
    (∀ j, j < i → cur'[j]? = cur[j]?) ∧ cur'[i]? = some x ∧ (∀ j, i < j → j ≤ n → cur'[j]? = cur[j - 1]?) ∧ (g' = g ∨ w.heap.size ≤ g') ∧ Only (fun k => k = g) w w'

theorem sizeL : (Try.prog.info? 33).map (·.size) = some 1 := by kernel_rfl

set_option maxRecDepth 100000 in
set_option maxHeartbeats 2000000 in
theorem insert_end (g n c vb : Nat) (x : Value) (cur : Array Value) (w : World) (hg : w.heap[g]? = some (.cells cur 33 (0, 0))) (hs : cur.size = c) (hn : n ≤ c) (hc : c ≤ maxLen) (hn2 : n ≤ 1000)
    (hv : w.cell? ⟨vb, 0, none⟩ = some x) (hx : x.oneCell' = true) :
    Calls Try.prog 78 #[.slice (some ⟨g, 0, none⟩) n c, .int .i64 (n : Int), .slice (some ⟨vb, 0, none⟩) 1 1] w (RetInsert w g n n cur x) := by
  obtain ⟨i0, hi0, hz0, hz1, hz2⟩ := info_parts infoL
  have hgl := (Array.getElem?_eq_some_iff.1 hg).1
  have hown : w.ownsRow 0 33 1 (.slice (some ⟨g, 0, none⟩) n c) n (cur.toList.take n) :=
    ⟨by simp; omega, .inr ⟨g, c, cur, rfl, Nat.zero_le _, hg, hn, hc, by omega, by rw [Nat.mul_one]⟩⟩
  have HO := Lib.hid (And.intro hown hv)
  have HC := Lib.hid (And.intro hs hc)
  have e1 : ((n : Int) == (n : Int)) = true := by simp
  have e2 : n ≤ c := hn
  clear hown hv hg hs hc
  go_enter Try.func78, Try.ntmps78
  go_wp2_with (at_builtin
               refine wpList_append_own_at _ rfl (.tmp 23) (.tmp 24) _ rfl 0 33 i0 _ 1 24 Try.underlying74 hi0 hz0 hz1 hz2 rfl (by decide) _ n _ rfl HO.out.1 ⟨vb, 0, none⟩ 1 1 [x] rfl rfl (fun j u hj => by
                 have hj0 : j = 0 := by
                   have := (List.getElem?_eq_some_iff.1 hj).1
                   simp at this
                   exact this
                 subst hj0
                 simp at hj
                 subst hj
                 exact HO.out.2) (by intro u hu; simp at hu; subst hu; exact hx) (by unfold maxLen; omega) (by omega) (by omega) ?_)
  all_goals
    intro v' w' ho hg1 _ hr
    obtain ⟨hcn, ho⟩ := ho
    rcases ho with ⟨_, h0⟩ | ⟨g', c', cur', rfl, _, hh, hn1, hc1, hsz, htk⟩
    · exfalso
      omega
    go_wp2
    go_ret
    rw [Nat.mul_one] at hsz htk
    have hl := HC.out.1
    have hT : (cur.toList.take n).length = n := by rw [List.length_take, Array.length_toList]; omega
    have hge : ∀ j, j < n + 1 → cur'[j]? = (cur.toList.take n ++ [x])[j]? := fun j hj => by
      rw [← htk, List.getElem?_take, if_pos hj, Array.getElem?_toList]
    refine ⟨g', c', cur', rfl, hh, hsz, hn1, hc1, fun j hj => ?_, ?_, fun j hj hj2 => absurd hj (by omega), ?_, only_grown hg1 (fun k e => by injection e with e; exact e.symm)⟩
    · rw [hge j (by omega), List.getElem?_append_left (by omega), List.getElem?_take, if_pos hj, Array.getElem?_toList]
    · rw [hge n (by omega), List.getElem?_append_right (by omega), hT, Nat.sub_self]
      rfl
    · rcases hr with hr | hr
      · injection hr with hr
        exact .inl hr
      · injection hr with hr
        exact .inr (Nat.le_of_eq hr.symm)
end Go.Proofs.Ytlginmnmobkbhaa
