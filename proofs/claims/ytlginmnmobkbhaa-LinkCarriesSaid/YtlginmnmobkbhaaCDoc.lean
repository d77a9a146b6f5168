/-
  The document's list of datagrams: without and with.
-/
import Derived.Test.YtlginmnmobkbhaaCDmg5
import Derived.Test.YtlginmnmobkbhaaZJoin
import Derived.Test.YtlginmnmobkbhaaVInt
import Derived.Maps.AppendAt
namespace Go.Proofs.Ytlginmnmobkbhaa
open Go.RowKit

/-- A list of slices of bytes of the call's own (nil too). -/
structure Dcs (w : World) (lb eb : Nat) (v : Value) (ps : List (Value × List Nat)) : Prop where
  own : w.ownsRow lb 33 1 v ps.length (ps.map Prod.fst)
  els : ∀ p ∈ ps, El w eb p
theorem dcs_nil (w : World) (lb eb : Nat) : Dcs w lb eb (.slice none 0 0) [] := ⟨World.ownsRow_nil _ _ _ _, fun p hp => by simp at hp⟩
theorem dcs_below {w w' : World} {lb eb : Nat} {v : Value} {ps : List (Value × List Nat)} (h : Dcs w lb eb v ps) (hb : Below w.heap.size w w') : Dcs w' lb eb v ps :=
  ⟨(only_below (S := fun _ => False) hb).own h.own (fun _ _ h => h), fun p hp => (h.els p hp).only (only_below (S := fun _ => False) hb) (fun _ _ h => h)⟩
theorem dcs_form {w : World} {lb eb : Nat} {v : Value} {ps : List (Value × List Nat)} (h : Dcs w lb eb v ps) : ∃ A c, v = .slice A ps.length c := by
  obtain ⟨_, ⟨e, h0⟩ | ⟨g, c, cur, e, _⟩⟩ := h.own
  · exact ⟨none, 0, by rw [e, h0]⟩
  · exact ⟨_, _, e⟩
theorem dcs_at {w : World} {lb eb : Nat} {v : Value} {ps : List (Value × List Nat)} (h : Dcs w lb eb v ps) (k : Nat) (hk : k < ps.length) : ∃ g c, v = .slice (some ⟨g, 0, none⟩) ps.length c ∧ g < w.heap.size ∧ w.cell? ⟨g, k, none⟩ = some (ps[k]'hk).1 := by
  obtain ⟨_, ⟨e, h0⟩ | ⟨g, c, cur, e, hb, hg, hn, hc, hs, ht⟩⟩ := h.own
  · omega
  · refine ⟨g, c, e, (Array.getElem?_eq_some_iff.1 hg).1, ?_⟩
    rw [cell_of_row _ _ _ _ _ _ hg]
    have : (cur.toList.take (ps.length * 1))[k]? = (ps.map Prod.fst)[k]? := by rw [ht]
    rw [List.getElem?_take, if_pos (by omega), Array.getElem?_toList] at this
    rw [this]
    simp [hk]
/-- A row of slices is no datagram's. -/
theorem el_row {w : World} {lb eb n : Nat} {v : Value} {xs : List Value} (h : w.ownsRow lb 33 1 v n xs) {p : Value × List Nat} (hp : El w eb p) : ∀ k, p.1.ownBlock = some k → ¬ v.ownBlock = some k := by
  intro k hk hv
  obtain ⟨_, _, cs, hc⟩ := own_block h hv
  exact el_not hp hc k hk rfl

theorem wpList_append_dc {W : World} {ops : Array Oper} {rest : List Oper} {o : Oper} {a : Act} {Q : Exit → Act → World → Prop} (hgd : o.guard = none) (s x : Operand)
    (ho : o.op = .call { callee := .builtin .append, args := #[s, x], argTypes := #[74, 74] })
    (lb eb : Nat) (v : Value) (ps : List (Value × List Nat)) (hs : a.eval s = v) (hv : Dcs W lb eb v ps) (p : Value × List Nat) (hp : El W eb p) (hx : a.eval x = .slice (some ⟨W.heap.size, 0, none⟩) 1 1) (hn : ps.length ≤ 1000) (hbase : lb ≤ W.heap.size)
    (h : ∀ v' w', Dcs w' lb eb v' (ps ++ [p]) → Only (fun k => v.ownBlock = some k) W w' → wpList Try.prog ops Q rest (a.put o.dst v') w') : wpList Try.prog ops Q (o :: rest) a (W.alloc (.cells #[p.1] 33)) := by
  obtain ⟨i0, hi0, hz0, hz1, hz2⟩ := info_parts infoL
  have hb4 : Below W.heap.size W (W.alloc (.cells #[p.1] 33)) := (Below.refl _ _).alloc (Nat.le_refl _) _
  have hv4 := dcs_below hv hb4
  refine wpList_append_own_at _ hgd s x _ ho lb 33 i0 _ 1 24 Try.underlying74 hi0 hz0 hz1 hz2 rfl (by decide) v ps.length _ hs hv4.own ⟨W.heap.size, 0, none⟩ 1 1 [p.1] hx rfl (fun j u hj => ?_) (by intro u hu; simp at hu; subst hu; exact el_one hp) (by unfold maxLen; omega) (by omega) (Nat.le_trans hbase hb4.size) ?_
  · have hj0 : j = 0 := by
      have := (List.getElem?_eq_some_iff.1 hj).1
      simp at this
      exact this
    subst hj0
    have hu : p.1 = u := by simpa using hj
    subst hu
    exact cell_of_row _ _ _ _ _ _ (heap_alloc_new W _)
  · intro v6 w6 ho6 hg _ _
    have hO : Only (fun k => v.ownBlock = some k) W w6 := (only_below hb4).trans (only_grown hg (fun k e => e))
    refine h v6 w6 ⟨?_, fun q hq => ?_⟩ hO
    · rw [List.length_append, List.map_append]
      exact ho6
    · rcases List.mem_append.1 hq with hq | hq
      · exact (hv.els q hq).only hO (fun k hk => el_row hv.own (hv.els q hq) k hk)
      · simp at hq
        subst hq
        exact hp.only hO (fun k hk => el_row hv.own hp k hk)
theorem dcs_only {w0 w w' : World} {lb eb : Nat} {v : Value} {ps : List (Value × List Nat)} (hD : Dcs w lb eb v ps) (hO : Only (fun k => v.ownBlock = some k) w w') (hb : Below lb w0 w) (hs : lb ≤ w.heap.size) : Below lb w0 w' :=
  hb.trans (hO.below hs (fun k hk => (own_block hD.own hk).1))

def RetDc (w : World) (eb : Nat) (qs : List (Value × List Nat)) (e : Ending) (w' : World) : Prop := ∃ v', e = .returned v' ∧ Dcs w' w.heap.size eb v' qs ∧ Below w.heap.size w w'

def WoR (w : World) (eb : Nat) (ps : List (Value × List Nat)) (i : Nat) (ov iv : Value) (wr : World) : Prop :=
  ∃ k : Nat, k ≤ ps.length ∧ iv = .int .i64 (k : Int) ∧ Hid (Dcs wr w.heap.size eb ov ((ps.take k).eraseIdx i) ∧ Below w.heap.size w wr)

theorem erase_step (ps : List (Value × List Nat)) (i k : Nat) (hk : k < ps.length) : (ps.take (k + 1)).eraseIdx i = if k = i then (ps.take k).eraseIdx i else (ps.take k).eraseIdx i ++ [ps[k]'hk] := by
  have hl : (ps.take k).length = k := by rw [List.length_take]; omega
  rw [List.take_succ_eq_append_getElem hk]
  by_cases h : k = i
  · subst h
    rw [if_pos rfl, List.eraseIdx_append_of_length_le (by omega), hl, Nat.sub_self]
    show ps.take k ++ [] = _
    rw [List.append_nil, List.eraseIdx_of_length_le (by omega)]
  · rw [if_neg h]
    rcases Nat.lt_or_gt_of_ne h with h1 | h1
    · rw [List.eraseIdx_of_length_le (by rw [List.length_append]; simp only [List.length_cons, List.length_nil]; omega), List.eraseIdx_of_length_le (by omega)]
    · rw [List.eraseIdx_append_of_lt_length (by omega)]

set_option maxRecDepth 100000 in
set_option maxHeartbeats 1000000 in
theorem without_any {w : World} {lb eb : Nat} {v : Value} {ps : List (Value × List Nat)} (h : Dcs w lb eb v ps) (hn : ps.length ≤ 1000) (i : Nat) :
    Calls Try.prog 80 #[v, .int .i64 (i : Int)] w (RetDc w eb (ps.eraseIdx i)) := by
  obtain ⟨A, c, e⟩ := dcs_form h
  subst e
  have H := Lib.hid h
  clear h
  go_enter Try.func80, Try.ntmps80
  go_wp2
  go_loopw [5, 9] (fun ov iv wr => WoR w eb ps i ov iv wr) (fun _ iv _ => ps.length - (intOf1 iv).toNat)
  case atStart => exact ⟨0, Nat.zero_le _, rfl, Lib.hid ⟨by simpa using dcs_nil _ _ _, Below.refl _ _⟩⟩
  case round =>
    obtain ⟨k, hk, rfl, HP⟩ := hrel
    by_cases hlt : k < ps.length
    · obtain ⟨g, cc, e, hgl, hcell⟩ := dcs_at H.out k hlt
      injection e with e1 e2 e3
      subst e1
      subst e3
      have hc1 : wr.cell? ⟨g, k, none⟩ = some (ps[k]'hlt).1 := (HP.out.2.cell (p := ⟨g, k, none⟩) hgl).trans hcell
      have i1 : (k : Int) < (ps.length : Int) := by omega
      by_cases hki : k = i
      · subst hki
        go_wp2
        exact ⟨⟨k + 1, by omega, by go_num, Lib.hid ⟨by rw [erase_step ps k k hlt, if_pos rfl]; exact HP.out.1, HP.out.2⟩⟩, by simp [intOf1]; omega⟩
      · have i2 : ¬ (k : Int) = (i : Int) := by omega
        have hel := H.out.els _ (List.getElem_mem hlt)
        obtain ⟨_, hrb⟩ := rb_of_owns hel.1
        obtain ⟨A', c', hf⟩ := hrb.form
        obtain ⟨X, hX⟩ : ∃ X, X = (ps[k]'hlt).2 := ⟨_, rfl⟩
        rw [← hX] at hf
        rw [hf] at hc1
        have hpe : ps[k]'hlt = (.slice A' X.length c', X) := by rw [← hf, hX]
        have hpw : El wr eb (.slice A' X.length c', X) := by rw [← hpe]; exact hel.only (only_below (S := fun _ => False) HP.out.2) (fun _ _ h => h)
        have hbs := HP.out.2.size
        have hel2 : ((ps.take k).eraseIdx i).length ≤ 1000 := by
          have h1 := List.length_eraseIdx_le (ps.take k) i
          rw [List.length_take] at h1
          omega
        have HE := Lib.hid (And.intro hpe (And.intro hpw hel2))
        clear hel hrb hf hX hpe hpw hel2
        go_wp2_with (at_builtin
                     refine wpList_append_dc rfl (.tmp 15) (.tmp 20) rfl w.heap.size eb _ _ rfl HP.out.1 (.slice A' X.length c', X) HE.out.2.1 rfl HE.out.2.2 hbs ?_
                     intro v6 w6 hd hO
                     have hb6 := dcs_only HP.out.1 hO HP.out.2 hbs
                     have H6 := Lib.hid (And.intro hd hb6)
                     clear hd hO hb6)
        exact ⟨⟨k + 1, by omega, by go_num, Lib.hid ⟨by rw [erase_step ps i k hlt, if_neg hki, HE.out.1]; exact H6.out.1, H6.out.2⟩⟩, by simp [intOf1]; omega⟩
    · obtain rfl : k = ps.length := by omega
      have HP2 := HP.out
      rw [List.take_length] at HP2
      have HP3 := Lib.hid HP2
      clear HP2
      go_wp2
      go_ret
      exact ⟨_, rfl, HP3.out.1, HP3.out.2⟩
end Go.Proofs.Ytlginmnmobkbhaa
