/-
  The document's list of datagrams: without and with.
  The document's with.
  The document's fault: out of range; drop; none.
  The document's fault: a datagram is doubled.
-/
import Derived.Test.YtkakbeiehggkiaaH24
import Derived.Test.YtkakbeiehggkiaaH12
import Derived.Test.YtkakbeiehggkiaaH08
import Derived.Maps.AppendAt
namespace Go.Proofs.Ytkakbeiehggkiaa
open Go.RowKit

/-- A list of slices of bytes of the call's own (nil too). -/
structure Dcs (w : World) (lb eb : Nat) (v : Value) (ps : List (Value × List Nat)) : Prop where
  own : w.ownsRow lb 33 1 v ps.length (ps.map Prod.fst)
  els : ∀ p ∈ ps, El w eb p
theorem dcs_nil (w : World) (lb eb : Nat) : Dcs w lb eb (.slice none 0 0) [] := ⟨World.ownsRow_nil _ _ _ _, fun p hp => by simp at hp⟩
theorem dcs_below {w w' : World} {lb eb : Nat} {v : Value} {ps : List (Value × List Nat)} (h : Dcs w lb eb v ps) (hb : Below w.heap.size w w') : Dcs w' lb eb v ps :=
  ⟨(only_below (S := fun _ => False) hb).own h.own (fun _ _ h => h), fun p hp => (h.els p hp).only (only_below (S := fun _ => False) hb) (fun _ _ h => h)⟩
theorem dcs_form {w : World} {lb eb : Nat} {v : Value} {ps : List (Value × List Nat)} (h : Dcs w lb eb v ps) : ∃ A c, v = .slice A ps.length c := by
  obtain ⟨_, ⟨e, h0⟩ | ⟨g, c, cur, e, _⟩⟩ := h.own
  · exact ⟨none, 0, by rw [e, h0]⟩
  · exact ⟨_, _, e⟩
theorem dcs_at {w : World} {lb eb : Nat} {v : Value} {ps : List (Value × List Nat)} (h : Dcs w lb eb v ps) (k : Nat) (hk : k < ps.length) : ∃ g c, v = .slice (some ⟨g, 0, none⟩) ps.length c ∧ g < w.heap.size ∧ w.cell? ⟨g, k, none⟩ = some (ps[k]'hk).1 := by
  obtain ⟨_, ⟨e, h0⟩ | ⟨g, c, cur, e, hb, hg, hn, hc, hs, ht⟩⟩ := h.own
  · omega
  · refine ⟨g, c, e, (Array.getElem?_eq_some_iff.1 hg).1, ?_⟩
    rw [cell_of_row _ _ _ _ _ _ hg]
    have : (cur.toList.take (ps.length * 1))[k]? = (ps.map Prod.fst)[k]? := by rw [ht]
    rw [List.getElem?_take, if_pos (by omega), Array.getElem?_toList] at this
    rw [this]
    simp [hk]
/-- A row of slices is no datagram's. -/
theorem el_row {w : World} {lb eb n : Nat} {v : Value} {xs : List Value} (h : w.ownsRow lb 33 1 v n xs) {p : Value × List Nat} (hp : El w eb p) : ∀ k, p.1.ownBlock = some k → ¬ v.ownBlock = some k := by
  intro k hk hv
  obtain ⟨_, _, cs, hc⟩ := own_block h hv
  exact el_not hp hc k hk rfl

theorem wpList_append_dc {W : World} {ops : Array Oper} {rest : List Oper} {o : Oper} {a : Act} {Q : Exit → Act → World → Prop} (hgd : o.guard = none) (s x : Operand)
    (ho : o.op = .call { callee := .builtin .append, args := #[s, x], argTypes := #[74, 74] })
    (lb eb : Nat) (v : Value) (ps : List (Value × List Nat)) (hs : a.eval s = v) (hv : Dcs W lb eb v ps) (p : Value × List Nat) (hp : El W eb p) (hx : a.eval x = .slice (some ⟨W.heap.size, 0, none⟩) 1 1) (hn : ps.length ≤ 1000) (hbase : lb ≤ W.heap.size)
    (h : ∀ v' w', Dcs w' lb eb v' (ps ++ [p]) → Only (fun k => v.ownBlock = some k) W w' → wpList Try.prog ops Q rest (a.put o.dst v') w') : wpList Try.prog ops Q (o :: rest) a (W.alloc (.cells #[p.1] 33)) := by
  obtain ⟨i0, hi0, hz0, hz1, hz2⟩ := info_parts infoL
  have hb4 : Below W.heap.size W (W.alloc (.cells #[p.1] 33)) := (Below.refl _ _).alloc (Nat.le_refl _) _
  have hv4 := dcs_below hv hb4
  refine wpList_append_own_at _ hgd s x _ ho lb 33 i0 _ 1 24 Try.underlying74 hi0 hz0 hz1 hz2 rfl (by decide) v ps.length _ hs hv4.own ⟨W.heap.size, 0, none⟩ 1 1 [p.1] hx rfl (fun j u hj => ?_) (by intro u hu; simp at hu; subst hu; exact el_one hp) (by unfold maxLen; omega) (by omega) (Nat.le_trans hbase hb4.size) ?_
  · have hj0 : j = 0 := by
      have := (List.getElem?_eq_some_iff.1 hj).1
      simp at this
      exact this
    subst hj0
    have hu : p.1 = u := by simpa using hj
    subst hu
    exact cell_of_row _ _ _ _ _ _ (heap_alloc_new W _)
  · intro v6 w6 ho6 hg _ _
    have hO : Only (fun k => v.ownBlock = some k) W w6 := (only_below hb4).trans (only_grown hg (fun k e => e))
    refine h v6 w6 ⟨?_, fun q hq => ?_⟩ hO
    · rw [List.length_append, List.map_append]
      exact ho6
    · rcases List.mem_append.1 hq with hq | hq
      · exact (hv.els q hq).only hO (fun k hk => el_row hv.own (hv.els q hq) k hk)
      · simp at hq
        subst hq
        exact hp.only hO (fun k hk => el_row hv.own hp k hk)
theorem dcs_only {w0 w w' : World} {lb eb : Nat} {v : Value} {ps : List (Value × List Nat)} (hD : Dcs w lb eb v ps) (hO : Only (fun k => v.ownBlock = some k) w w') (hb : Below lb w0 w) (hs : lb ≤ w.heap.size) : Below lb w0 w' :=
  hb.trans (hO.below hs (fun k hk => (own_block hD.own hk).1))

def RetDc (w : World) (eb : Nat) (qs : List (Value × List Nat)) (e : Ending) (w' : World) : Prop := ∃ v', e = .returned v' ∧ Dcs w' w.heap.size eb v' qs ∧ Below w.heap.size w w'

def WoR (w : World) (eb : Nat) (ps : List (Value × List Nat)) (i : Nat) (ov iv : Value) (wr : World) : Prop :=
  ∃ k : Nat, k ≤ ps.length ∧ iv = .int .i64 (k : Int) ∧ Hid (Dcs wr w.heap.size eb ov ((ps.take k).eraseIdx i) ∧ Below w.heap.size w wr)

theorem erase_step (ps : List (Value × List Nat)) (i k : Nat) (hk : k < ps.length) : (ps.take (k + 1)).eraseIdx i = if k = i then (ps.take k).eraseIdx i else (ps.take k).eraseIdx i ++ [ps[k]'hk] := by
  have hl : (ps.take k).length = k := by rw [List.length_take]; omega
  rw [List.take_succ_eq_append_getElem hk]
  by_cases h : k = i
  · subst h
    rw [if_pos rfl, List.eraseIdx_append_of_length_le (by omega), hl, Nat.sub_self]
    show ps.take k ++ [] = _
    rw [List.append_nil, List.eraseIdx_of_length_le (by omega)]
  · rw [if_neg h]
    rcases Nat.lt_or_gt_of_ne h with h1 | h1
    · rw [List.eraseIdx_of_length_le (by rw [List.length_append]; simp only [List.length_cons, List.length_nil]; omega), List.eraseIdx_of_length_le (by omega)]
    · rw [List.eraseIdx_append_of_lt_length (by omega)]

set_option maxRecDepth 100000 in
set_option maxHeartbeats 1000000 in
theorem without_any {w : World} {lb eb : Nat} {v : Value} {ps : List (Value × List Nat)} (h : Dcs w lb eb v ps) (hn : ps.length ≤ 1000) (i : Nat) :
    Calls Try.prog 80 #[v, .int .i64 (i : Int)] w (RetDc w eb (ps.eraseIdx i)) := by
  obtain ⟨A, c, e⟩ := dcs_form h
  subst e
  have H := Lib.hid h
  clear h
  go_enter Try.func80, Try.ntmps80
  go_wp2
  go_loopw [5, 9] (fun ov iv wr => WoR w eb ps i ov iv wr) (fun _ iv _ => ps.length - (intOf1 iv).toNat)
  case atStart => exact ⟨0, Nat.zero_le _, rfl, Lib.hid ⟨by simpa using dcs_nil _ _ _, Below.refl _ _⟩⟩
  case round =>
    obtain ⟨k, hk, rfl, HP⟩ := hrel
    by_cases hlt : k < ps.length
    · obtain ⟨g, cc, e, hgl, hcell⟩ := dcs_at H.out k hlt
      injection e with e1 e2 e3
      subst e1
      subst e3
      have hc1 : wr.cell? ⟨g, k, none⟩ = some (ps[k]'hlt).1 := (HP.out.2.cell (p := ⟨g, k, none⟩) hgl).trans hcell
      have i1 : (k : Int) < (ps.length : Int) := by omega
      by_cases hki : k = i
      · subst hki
        go_wp2
        exact ⟨⟨k + 1, by omega, by go_num, Lib.hid ⟨by rw [erase_step ps k k hlt, if_pos rfl]; exact HP.out.1, HP.out.2⟩⟩, by simp [intOf1]; omega⟩
      · have i2 : ¬ (k : Int) = (i : Int) := by omega
        have hel := H.out.els _ (List.getElem_mem hlt)
        obtain ⟨_, hrb⟩ := rb_of_owns hel.1
        obtain ⟨A', c', hf⟩ := hrb.form
        obtain ⟨X, hX⟩ : ∃ X, X = (ps[k]'hlt).2 := ⟨_, rfl⟩
        rw [← hX] at hf
        rw [hf] at hc1
        have hpe : ps[k]'hlt = (.slice A' X.length c', X) := by rw [← hf, hX]
        have hpw : El wr eb (.slice A' X.length c', X) := by rw [← hpe]; exact hel.only (only_below (S := fun _ => False) HP.out.2) (fun _ _ h => h)
        have hbs := HP.out.2.size
        have hel2 : ((ps.take k).eraseIdx i).length ≤ 1000 := by
          have h1 := List.length_eraseIdx_le (ps.take k) i
          rw [List.length_take] at h1
          omega
        have HE := Lib.hid (And.intro hpe (And.intro hpw hel2))
        clear hel hrb hf hX hpe hpw hel2
        go_wp2_with (at_builtin
                     refine wpList_append_dc rfl (.tmp 15) (.tmp 20) rfl w.heap.size eb _ _ rfl HP.out.1 (.slice A' X.length c', X) HE.out.2.1 rfl HE.out.2.2 hbs ?_
                     intro v6 w6 hd hO
                     have hb6 := dcs_only HP.out.1 hO HP.out.2 hbs
                     have H6 := Lib.hid (And.intro hd hb6)
                     clear hd hO hb6)
        exact ⟨⟨k + 1, by omega, by go_num, Lib.hid ⟨by rw [erase_step ps i k hlt, if_neg hki, HE.out.1]; exact H6.out.1, H6.out.2⟩⟩, by simp [intOf1]; omega⟩
    · obtain rfl : k = ps.length := by omega
      have HP2 := HP.out
      rw [List.take_length] at HP2
      have HP3 := Lib.hid HP2
      clear HP2
      go_wp2
      go_ret
      exact ⟨_, rfl, HP3.out.1, HP3.out.2⟩
end Go.Proofs.Ytkakbeiehggkiaa

namespace Go.Proofs.Ytkakbeiehggkiaa
open Go.RowKit

def wk (ps : List (Value × List Nat)) (q : Value × List Nat) (i k : Nat) : List (Value × List Nat) := if k ≤ i then ps.take k else ps.take i ++ q :: (ps.take k).drop i
theorem wk_len (ps : List (Value × List Nat)) (q : Value × List Nat) (i k : Nat) : (wk ps q i k).length ≤ ps.length + 1 := by
  unfold wk
  split
  · rw [List.length_take]; omega
  · simp only [List.length_append, List.length_take, List.length_cons, List.length_drop]; omega
theorem wk_eq (ps : List (Value × List Nat)) (q : Value × List Nat) (i : Nat) (hi : i < ps.length) : wk ps q i i ++ [q] ++ [ps[i]'hi] = wk ps q i (i + 1) := by
  unfold wk
  have hl : (ps.take i).length = i := by rw [List.length_take]; omega
  rw [if_pos (Nat.le_refl _), if_neg (by omega), List.take_succ_eq_append_getElem hi, List.drop_append_of_le_length (by omega), List.drop_of_length_le (by omega)]
  simp
theorem wk_ne (ps : List (Value × List Nat)) (q : Value × List Nat) (i k : Nat) (hk : k < ps.length) (h : ¬ k = i) : wk ps q i k ++ [ps[k]'hk] = wk ps q i (k + 1) := by
  unfold wk
  have hl : (ps.take k).length = k := by rw [List.length_take]; omega
  rcases Nat.lt_or_gt_of_ne h with h1 | h1
  · rw [if_pos (by omega), if_pos (by omega), List.take_succ_eq_append_getElem hk]
  · rw [if_neg (by omega), if_neg (by omega), List.take_succ_eq_append_getElem hk, List.drop_append_of_le_length (by omega)]
    simp

def WiR (w : World) (eb : Nat) (ps : List (Value × List Nat)) (q : Value × List Nat) (i : Nat) (ov iv : Value) (wr : World) : Prop :=
  ∃ k : Nat, k ≤ ps.length ∧ iv = .int .i64 (k : Int) ∧ Hid (Dcs wr w.heap.size eb ov (wk ps q i k) ∧ Below w.heap.size w wr)

set_option maxRecDepth 100000 in
set_option maxHeartbeats 1000000 in
theorem with_any {w : World} {lb eb : Nat} {v : Value} {ps : List (Value × List Nat)} (h : Dcs w lb eb v ps) (hn : ps.length ≤ 900) (i : Nat) (z : Int) (hz : z = (i : Int)) (hi : i ≤ ps.length) (Ax : Option Addr) (cx : Nat) (Y : List Nat) (hq : El w eb (.slice Ax Y.length cx, Y)) :
    Calls Try.prog 81 #[v, .int .i64 z, .slice Ax Y.length cx] w (RetDc w eb (ps.take i ++ (.slice Ax Y.length cx, Y) :: ps.drop i)) := by
  subst hz
  obtain ⟨A, c, e⟩ := dcs_form h
  subst e
  have H := Lib.hid h
  have HX := Lib.hid hq
  obtain ⟨q, hqe⟩ : ∃ q, q = (Value.slice Ax Y.length cx, Y) := ⟨_, rfl⟩
  have HQ := Lib.hid hqe
  rw [← hqe]
  clear h hq hqe
  go_enter Try.func81, Try.ntmps81
  go_wp2
  go_loopw [7, 11] (fun ov iv wr => WiR w eb ps q i ov iv wr) (fun _ iv _ => ps.length - (intOf1 iv).toNat)
  case atStart => exact ⟨0, Nat.zero_le _, rfl, Lib.hid ⟨by unfold wk; rw [if_pos (Nat.zero_le _)]; exact dcs_nil _ _ _, Below.refl _ _⟩⟩
  case round =>
    obtain ⟨k, hk, rfl, HP⟩ := hrel
    by_cases hlt : k < ps.length
    · obtain ⟨g, cc, e, hgl, hcell⟩ := dcs_at H.out k hlt
      injection e with e1 e2 e3
      subst e1
      subst e3
      have hc1 : wr.cell? ⟨g, k, none⟩ = some (ps[k]'hlt).1 := (HP.out.2.cell (p := ⟨g, k, none⟩) hgl).trans hcell
      have i1 : (k : Int) < (ps.length : Int) := by omega
      have hel := H.out.els _ (List.getElem_mem hlt)
      obtain ⟨_, hrb⟩ := rb_of_owns hel.1
      obtain ⟨A', c', hf⟩ := hrb.form
      obtain ⟨X, hX⟩ : ∃ X, X = (ps[k]'hlt).2 := ⟨_, rfl⟩
      rw [← hX] at hf
      rw [hf] at hc1
      have hpe : ps[k]'hlt = (.slice A' X.length c', X) := by rw [← hf, hX]
      have hpw : El wr eb (.slice A' X.length c', X) := by rw [← hpe]; exact hel.only (only_below (S := fun _ => False) HP.out.2) (fun _ _ h => h)
      have hbs := HP.out.2.size
      have HE := Lib.hid (And.intro hpe hpw)
      have hwl := wk_len ps q i k
      clear hel hrb hf hX hpe hpw
      by_cases hki : k = i
      · subst hki
        have hqw : El wr eb (.slice Ax Y.length cx, Y) := HX.out.only (only_below (S := fun _ => False) HP.out.2) (fun _ _ h => h)
        have HW := Lib.hid hqw
        clear hqw
        go_wp2_with (first
          | (at_builtin
             refine wpList_append_dc rfl (.tmp 17) (.tmp 19) rfl w.heap.size eb _ _ rfl HP.out.1 (.slice Ax Y.length cx, Y) HW.out rfl (by omega) hbs ?_
             intro v5 w5 hd5 hO5
             have hb5 := dcs_only HP.out.1 hO5 HP.out.2 hbs
             have hc5 : w5.cell? ⟨g, k, none⟩ = some (.slice A' X.length c') := (hb5.cell (p := ⟨g, k, none⟩) hgl).trans (by rw [hcell, HE.out.1])
             have hbs5 := hb5.size
             have hpw5 : El w5 eb (.slice A' X.length c', X) := by rw [← HE.out.1]; exact (H.out.els _ (List.getElem_mem hlt)).only (only_below (S := fun _ => False) hb5) (fun _ _ h => h)
             have H5 := Lib.hid (And.intro hd5 (And.intro hb5 hpw5))
             clear hd5 hO5 hb5 hpw5)
          | (at_builtin
             refine wpList_append_dc rfl (.tmp 21) (.tmp 26) rfl w.heap.size eb _ _ rfl H5.out.1 (.slice A' X.length c', X) H5.out.2.2 rfl (by rw [List.length_append]; simp only [List.length_cons, List.length_nil]; omega) hbs5 ?_
             intro v6 w6 hd hO
             have hb6 := dcs_only H5.out.1 hO H5.out.2.1 hbs5
             have H6 := Lib.hid (And.intro hd hb6)
             clear hd hO hb6))
        exact ⟨⟨k + 1, by omega, by go_num, Lib.hid ⟨by rw [← wk_eq ps q k hlt, HE.out.1, HQ.out]; rw [HQ.out] at H6; exact H6.out.1, H6.out.2⟩⟩, by simp [intOf1]; omega⟩
      · have i2 : ¬ (k : Int) = (i : Int) := by omega
        go_wp2_with (at_builtin
                     refine wpList_append_dc rfl (.tmp 21) (.tmp 26) rfl w.heap.size eb _ _ rfl HP.out.1 (.slice A' X.length c', X) HE.out.2 rfl (by omega) hbs ?_
                     intro v6 w6 hd hO
                     have hb6 := dcs_only HP.out.1 hO HP.out.2 hbs
                     have H6 := Lib.hid (And.intro hd hb6)
                     clear hd hO hb6)
        exact ⟨⟨k + 1, by omega, by go_num, Lib.hid ⟨by rw [← wk_ne ps q i k hlt hki, HE.out.1]; exact H6.out.1, H6.out.2⟩⟩, by simp [intOf1]; omega⟩
    · obtain rfl : k = ps.length := by omega
      by_cases hil : i = ps.length
      · subst hil
        have hqw : El wr eb (.slice Ax Y.length cx, Y) := HX.out.only (only_below (S := fun _ => False) HP.out.2) (fun _ _ h => h)
        have HW := Lib.hid hqw
        have hbs := HP.out.2.size
        have hwl := wk_len ps q ps.length ps.length
        clear hqw
        go_wp2_with (at_builtin
                     refine wpList_append_dc rfl (.tmp 33) (.tmp 35) rfl w.heap.size eb _ _ rfl HP.out.1 (.slice Ax Y.length cx, Y) HW.out rfl (by omega) hbs ?_
                     intro v6 w6 hd hO
                     have hb6 := dcs_only HP.out.1 hO HP.out.2 hbs
                     have H6 := Lib.hid (And.intro hd hb6)
                     clear hd hO hb6)
        go_ret
        refine ⟨_, rfl, ?_, H6.out.2⟩
        have e1 : wk ps q ps.length ps.length = ps.take ps.length := by unfold wk; rw [if_pos (Nat.le_refl _)]
        rw [List.drop_length, HQ.out]
        have := H6.out.1
        rw [e1] at this
        exact this
      · have i2 : ¬ (i : Int) = (ps.length : Int) := by omega
        have e1 : wk ps q i ps.length = ps.take i ++ q :: ps.drop i := by unfold wk; rw [if_neg (by omega), List.take_length]
        have HP2 := HP.out
        rw [e1] at HP2
        have HP3 := Lib.hid HP2
        clear e1 HP2
        go_wp2
        go_ret
        exact ⟨_, rfl, HP3.out.1, HP3.out.2⟩
end Go.Proofs.Ytkakbeiehggkiaa

namespace Go.Proofs.Ytkakbeiehggkiaa
open Go.RowKit

theorem dcs_lb {w : World} {lb lb' eb : Nat} {v : Value} {ps : List (Value × List Nat)} (h : Dcs w lb eb v ps) (hb : lb' ≤ lb) : Dcs w lb' eb v ps := by
  obtain ⟨⟨h1, h2⟩, h3⟩ := h
  refine ⟨⟨h1, ?_⟩, h3⟩
  rcases h2 with h2 | ⟨g, cap, cur, rfl, hg, r⟩
  · exact .inl h2
  · exact .inr ⟨g, cap, cur, rfl, Nat.le_trans hb hg, r⟩
def RetFd (w : World) (base : Nat) (Ls : List (List Nat)) (e : Ending) (w' : World) : Prop := ∃ qs v', qs.map Prod.snd = Ls ∧ e = .returned v' ∧ Dcs w' base base v' qs ∧ Below base w w'

set_option maxRecDepth 100000 in
set_option maxHeartbeats 1000000 in
theorem fault_out {w : World} {base : Nat} {v : Value} {ps : List (Value × List Nat)} (h : Dcs w base base v ps) (hb : base ≤ w.heap.size) (k fa n : Int) (ho : fa < 0 ∨ (ps.length : Int) ≤ fa) :
    Calls Try.prog 68 #[v, .agg #[.int .i64 k, .int .i64 fa, .int .i64 n]] w (RetFd w base (ps.map Prod.snd)) := by
  obtain ⟨A, c, e⟩ := dcs_form h
  subst e
  have hb0 : Below w.heap.size w (w.alloc (.cells #[.int .i64 k, .int .i64 fa, .int .i64 n] 106)) := (Below.refl _ _).alloc (Nat.le_refl _) _
  have h0 := dcs_below h hb0
  have H0 := Lib.hid (And.intro h0 hb0)
  clear h0 hb0 h
  rcases Int.lt_or_le fa 0 with hneg | hpos
  · clear ho
    go_enter Try.func68, Try.ntmps68
    go_wp2
    go_ret
    exact ⟨ps, _, rfl, rfl, H0.out.1, H0.out.2.mono hb⟩
  · have h2 : (ps.length : Int) ≤ fa := by omega
    have h3 : ¬ fa < 0 := by omega
    clear ho
    go_enter Try.func68, Try.ntmps68
    go_wp2
    go_ret
    exact ⟨ps, _, rfl, rfl, H0.out.1, H0.out.2.mono hb⟩

set_option maxRecDepth 100000 in
set_option maxHeartbeats 1000000 in
theorem fault_drop {w : World} {base : Nat} {v : Value} {ps : List (Value × List Nat)} (h : Dcs w base base v ps) (hb : base ≤ w.heap.size) (hn2 : ps.length ≤ 900) (i : Nat) (hi : i < ps.length) (n : Int) :
    Calls Try.prog 68 #[v, .agg #[.int .i64 1, .int .i64 (i : Int), .int .i64 n]] w (RetFd w base ((ps.eraseIdx i).map Prod.snd)) := by
  have hb0 : Below w.heap.size w (w.alloc (.cells #[.int .i64 1, .int .i64 (i : Int), .int .i64 n] 106)) := (Below.refl _ _).alloc (Nat.le_refl _) _
  have h0 := dcs_below h hb0
  obtain ⟨g, c, e, hgl, hcell⟩ := dcs_at h0 i hi
  subst e
  have H0 := Lib.hid (And.intro h0 hb0)
  have i1 : (i : Int) < (ps.length : Int) := by omega
  have i2 : ¬ (i : Int) < 0 := by omega
  clear h0 hb0 h
  go_enter Try.func68, Try.ntmps68
  go_wp2_with (go_at_call 80
               refine (without_any H0.out.1 (by omega) i).mono ?_
               rintro e w1 ⟨v1, rfl, hd1, hb1⟩
               have H1 := Lib.hid (And.intro hd1 hb1)
               clear hd1 hb1)
  go_ret
  exact ⟨_, _, rfl, rfl, dcs_lb H1.out.1 (Nat.le_trans hb H0.out.2.size), (H0.out.2.mono hb).trans (H1.out.2.mono (Nat.le_trans hb H0.out.2.size))⟩

set_option maxRecDepth 100000 in
set_option maxHeartbeats 1000000 in
theorem fault_other {w : World} {base : Nat} {v : Value} {ps : List (Value × List Nat)} (h : Dcs w base base v ps) (hb : base ≤ w.heap.size) (i : Nat) (hi : i < ps.length) (k n : Int) (h1 : k ≠ 1) (h2 : k ≠ 2) (h3 : k ≠ 3) (h4 : k ≠ 4) (h5 : k ≠ 5) :
    Calls Try.prog 68 #[v, .agg #[.int .i64 k, .int .i64 (i : Int), .int .i64 n]] w (RetFd w base (ps.map Prod.snd)) := by
  have hb0 : Below w.heap.size w (w.alloc (.cells #[.int .i64 k, .int .i64 (i : Int), .int .i64 n] 106)) := (Below.refl _ _).alloc (Nat.le_refl _) _
  have h0 := dcs_below h hb0
  obtain ⟨g, c, e, hgl, hcell⟩ := dcs_at h0 i hi
  subst e
  have H0 := Lib.hid (And.intro h0 hb0)
  have i1 : (i : Int) < (ps.length : Int) := by omega
  have i2 : ¬ (i : Int) < 0 := by omega
  have q1 : (k == 1) = false := by simpa using h1
  have q2 : (k == 2) = false := by simpa using h2
  have q3 : (k == 3) = false := by simpa using h3
  have q4 : (k == 4) = false := by simpa using h4
  have q5 : (k == 5) = false := by simpa using h5
  clear h0 hb0 h
  go_enter Try.func68, Try.ntmps68
  go_wp2
  go_ret
  exact ⟨ps, _, rfl, rfl, H0.out.1, H0.out.2.mono hb⟩
end Go.Proofs.Ytkakbeiehggkiaa

namespace Go.Proofs.Ytkakbeiehggkiaa
open Go.RowKit

/-- joined of one. -/
theorem joined_1 {W : World} {A : Option Addr} {c : Nat} {X : List Nat} (hr : RB W W.heap.size (.slice A X.length c) X) (hl : X.length ≤ 1048576) :
    Calls Try.prog 59 #[.slice (some ⟨W.heap.size, 0, none⟩) 1 1] (W.alloc (.cells #[.slice A X.length c] 33)) (RetOwn (W.alloc (.cells #[.slice A X.length c] 33)) X) := by
  have h := joined_any 1 W.heap.size W.heap.size 1 (fun _ => .slice A X.length c) (fun _ => X) (W.alloc (.cells #[.slice A X.length c] 33)) (fun j hj => by
      have : j = 0 := by omega
      subst this
      exact cell_of_row _ _ _ _ _ _ (heap_alloc_new W _)) (fun j _ => hr.belowM ((Below.refl _ _).alloc (Nat.le_refl _) _) (Nat.le_refl _)) (by simp) (by simp) (by omega) (Nat.le_refl _) (by simp [flat]; omega)
  have e : flat (fun _ => X) 1 = X := by simp [flat]
  rw [e] at h
  exact h

theorem joined_bel {W w2 : World} {o : Obj} (b2 : Below (W.drew.alloc o).heap.size (W.drew.alloc o) w2) : Below W.heap.size W w2 := by
  have h1 : Below W.heap.size W (W.drew.alloc o) := (Below.refl W.heap.size W).drew.alloc (Nat.le_refl _) o
  exact h1.trans (b2.mono h1.size)
theorem joined_el {W w2 : World} {o : Obj} {base c2 : Nat} {A2 : Option Addr} {X : List Nat} (hb : base ≤ W.heap.size) (o2 : w2.ownsRow (W.drew.alloc o).heap.size 5 1 (.slice A2 X.length c2) X.length (bys X)) (hX : X.length ≤ 1048576) (hB : AllB X) : El w2 base (.slice A2 X.length c2, X) := by
  have h1 : Below W.heap.size W (W.drew.alloc o) := (Below.refl W.heap.size W).drew.alloc (Nat.le_refl _) o
  exact ⟨owns_base o2 (Nat.le_trans hb h1.size), hB, hX⟩

set_option maxRecDepth 100000 in
set_option maxHeartbeats 1000000 in
theorem fault_double {w : World} {base : Nat} {v : Value} {ps : List (Value × List Nat)} (h : Dcs w base base v ps) (hb : base ≤ w.heap.size) (hn2 : ps.length ≤ 900) (i : Nat) (hi : i < ps.length) (n : Int) :
    Calls Try.prog 68 #[v, .agg #[.int .i64 2, .int .i64 (i : Int), .int .i64 n]] w (RetFd w base ((ps.take (i + 1)).map Prod.snd ++ (ps[i]'hi).2 :: (ps.drop (i + 1)).map Prod.snd)) := by
  obtain ⟨W0, hW0⟩ : ∃ W0, W0 = w.alloc (.cells #[.int .i64 2, .int .i64 (i : Int), .int .i64 n] 106) := ⟨_, rfl⟩
  have hb0 : Below w.heap.size w W0 := by rw [hW0]; exact (Below.refl _ _).alloc (Nat.le_refl _) _
  have z0 : w.heap.size < W0.heap.size := by rw [hW0]; simp
  have hG : W0.heap[w.heap.size]? = some (.cells #[.int .i64 2, .int .i64 (i : Int), .int .i64 n] 106 (0, 0)) := by rw [hW0]; exact heap_alloc_new w _
  have h0 := dcs_below h hb0
  obtain ⟨g, c, e, hgl, hcell⟩ := dcs_at h0 i hi
  subst e
  have hel := h0.els _ (List.getElem_mem hi)
  obtain ⟨_, hrb⟩ := rb_of_owns hel.1
  obtain ⟨A, cp, hform⟩ := hrb.form
  obtain ⟨X, hX⟩ : ∃ X, X = (ps[i]'hi).2 := ⟨_, rfl⟩
  rw [← hX] at hform hrb ⊢
  rw [hform] at hcell hrb
  have hcellA := hcell
  rw [hW0] at hcellA
  have hX2 : X.length ≤ 1048576 ∧ AllB X := by rw [hX]; exact ⟨hel.2.2, hel.2.1⟩
  obtain ⟨k0, k1, k2, kf⟩ := fr_blk hG (Below.refl _ _)
  have HG := Lib.hid hG
  have HW := Lib.hid hW0
  have HR := Lib.hid (And.intro (show RB W0.drew W0.drew.heap.size (.slice A X.length cp) X from ⟨hrb.1.drew, hrb.2⟩) hX2)
  have H0 := Lib.hid (And.intro h0 hb0)
  have i1 : (i : Int) < (ps.length : Int) := by omega
  have i2 : ¬ (i : Int) < 0 := by omega
  have i3 : IntKind.i64.wrap ((i : Int) + 1) = (i : Int) + 1 := by rw [IntKind.wrap_i64]; omega
  clear h0 hb0 h hG hel hrb hform hX hX2
  go_enter Try.func68, Try.ntmps68
  clear hW0
  go_wp2_with fail
  rw [← HW.out]
  go_region_held3 (fun w' => w'.cell? ⟨w.heap.size, 1, none⟩ = some (.int .i64 (i : Int)))
    (first | exact k1 | exact j1 | exact q1 | go_keep)
    (first
      | (go_at_call 59
         refine (joined_1 HR.out.1 HR.out.2.1).mono ?_
         rintro e w2 ⟨v2, rfl, o2, b2⟩
         obtain ⟨A2, c2, e2⟩ := (rb_of_owns o2).2.form
         subst e2
         have b3 : Below W0.heap.size W0 w2 := joined_bel b2
         have e3 := joined_el (base := base) (Nat.le_trans hb H0.out.2.size) o2 HR.out.2.1 HR.out.2.2
         obtain ⟨j0, j1, j2, jf⟩ := fr_blk HG.out b3
         have HJ := Lib.hid (And.intro o2 (And.intro b3 (And.intro (dcs_below H0.out.1 b3) e3))))
      | (go_at_call 81
         refine (with_any HJ.out.2.2.1 (by omega) (i + 1) ((i : Int) + 1) (by omega) hi A2 c2 X HJ.out.2.2.2).mono ?_
         rintro e w3 ⟨v3, rfl, hd3, hb3⟩
         have q1 : w3.cell? ⟨w.heap.size, 1, none⟩ = some (.int .i64 (i : Int)) := (hb3.cell (p := ⟨w.heap.size, 1, none⟩) (Nat.lt_of_lt_of_le z0 HJ.out.2.1.size)).trans j1
         have HT := Lib.hid (And.intro hd3 hb3)
         clear hd3 hb3))
  go_wp2
  go_ret
  exact ⟨_, _, by rw [List.map_append, List.map_cons], rfl, dcs_lb HT.out.1 (Nat.le_trans (Nat.le_trans hb H0.out.2.size) HJ.out.2.1.size), (H0.out.2.mono hb).trans ((HJ.out.2.1.mono (Nat.le_trans hb H0.out.2.size)).trans (HT.out.2.mono (Nat.le_trans (Nat.le_trans hb H0.out.2.size) HJ.out.2.1.size)))⟩
end Go.Proofs.Ytkakbeiehggkiaa
