/-
  The receiver's methods: none, deliver.
-/
import Derived.Test.YtkakbeiehggkiaaH04
import Derived.Deep.RegionHeld3
import Derived.Deep.DrawnRows
import Derived.StillTailTactics
namespace Go.Proofs.Ytkakbeiehggkiaa
open Go.RowKit
attribute [local go_sem ↓] Go.wp_at_zero Go.wp_at_succ

theorem uI : Try.prog.underlying 3 = some (.int .i64) := Try.underlying3
theorem uM : Try.prog.underlying 87 = some (.map 3 85) := Try.underlying87
theorem zeroD (w : World) : (zeroValue 85).run Try.prog w = .ok (.agg #[.int .i64 0, .slice none 0 0, .bool false]) w := by kernel_rfl

/-- The cells of a receiver. -/
theorem rcv_cells {w : World} {g mb N : Nat} {st win nx : Int} {F : Hf} (h : Rcv w g mb N st win nx F) :
    w.cell? ⟨g, 0, none⟩ = some (.int .i64 st) ∧ w.cell? ⟨g, 1, none⟩ = some (.int .i64 win) ∧ w.cell? ⟨g, 2, none⟩ = some (.int .i64 nx) ∧ w.cell? ⟨g, 3, none⟩ = some (.map (some mb)) ∧ ∀ i, w.frozen? ⟨g, i, none⟩ = false :=
  ⟨cell_of_row _ _ _ _ _ _ h.1, cell_of_row _ _ _ _ _ _ h.1, cell_of_row _ _ _ _ _ _ h.1, cell_of_row _ _ _ _ _ _ h.1, fun i => by simp [World.frozen?, h.1]⟩

set_option maxRecDepth 100000 in
theorem none_live (g : Nat) (win : Int) (w : World) (hc : w.cell? ⟨g, 1, none⟩ = some (.int .i64 win)) (h0 : win ≠ 0) :
    Calls Try.prog 54 #[.pointer (some ⟨g, 0, none⟩)] w fun e w' => e = .returned (.bool false) ∧ w = w' := by
  have hd : (win == 0) = false := by simpa using h0
  go_enter Try.func54, Try.ntmps54
  go_wp2
  go_ret
  exact ⟨by simp [hd], rfl⟩

/-- Nothing below nx, nothing from nx + win on. -/
def InW (F : Hf) (nx win : Int) : Prop := ∀ k x, F k = some x → nx ≤ k ∧ k < nx + win
def RetDl (w : World) (g mb N : Nat) (st win nx : Int) (F : Hf) (mk : Value → Value) (e : Ending) (w' : World) : Prop :=
  ∃ v m N', e = .returned (mk v) ∧ (∀ i : Nat, i < m → F (nx + i) ≠ none) ∧ F (nx + m) = none ∧ (m : Int) ≤ win ∧ N' + m = N ∧ Rcv w' g mb N' st win (nx + m) (cutF F (nx + m)) ∧
    DlS w' w.heap.size v (dsOf F nx m) ∧ Only (fun k => k = g ∨ k = mb) w w'

def DlvRel (w : World) (g mb N : Nat) (st win nx : Int) (F : Hf) (ov : Value) (wr : World) : Prop :=
  ∃ (j N' : Nat), (∀ i : Nat, i < j → F (nx + i) ≠ none) ∧ (j : Int) ≤ win ∧ N' + j = N ∧ Rcv wr g mb N' st win (nx + j) (cutF F (nx + j)) ∧ DlS wr w.heap.size ov (dsOf F nx j) ∧ Only (fun k => k = g ∨ k = mb) w wr

theorem rcv_below {w w' : World} {g mb N : Nat} {st win nx : Int} {F : Hf} (h : Rcv w g mb N st win nx F) (hb : Below w.heap.size w w') : Rcv w' g mb N st win nx F :=
  rcv_only (S := fun _ => False) h (only_below hb) (fun _ _ _ _ h => h) (fun h => h) (fun h => h)
theorem dls_below {w w' : World} {base : Nat} {v : Value} {Ds : List Dl} (h : DlS w base v Ds) (hb : Below w.heap.size w w') : DlS w' base v Ds :=
  dls_only (S := fun _ => False) h (only_below hb) (fun _ _ _ _ h => h) (fun _ _ h => h)
theorem Bd.below {w w' : World} {v : Value} {X : List Nat} (h : Bd w v X) (hb : Below w.heap.size w w') : Bd w' v X := h.only (S := fun _ => False) (only_below hb) (fun _ _ _ _ h => h)
theorem cells3 {w : World} {g : Nat} {T : TypeId} {a b c : Value} (h : w.heap[g]? = some (.cells #[a, b, c] T (0, 0))) : ∀ j u, [a, b, c][j]? = some u → w.cell? ((⟨g, 0, none⟩ : Addr).add j) = some u := by
  intro j u hj
  rw [add_none, Nat.zero_add, cell_of_row _ _ _ _ _ _ h]
  match j, hj with
  | 0, hj => simpa using hj
  | 1, hj => simpa using hj
  | 2, hj => simpa using hj
  | j + 3, hj => simp at hj
theorem infoD : (Try.prog.info? 85).map (fun i => (i.zero, i.size, i.bytes)) = some (some (.agg #[.int .i64 0, .slice none 0 0, .bool false]), 3, 40) := by kernel_rfl
/-- The end: nothing more is held at the turn. -/
theorem dlv_end {w wr w' : World} {g mb N N' j : Nat} {st win nx : Int} {F : Hf} {ov : Value} (hj : ∀ i : Nat, i < j → F (nx + i) ≠ none) (hjw : (j : Int) ≤ win) (hN : N' + j = N) (hR : Rcv wr g mb N' st win (nx + j) (cutF F (nx + j)))
    (hD : DlS wr w.heap.size ov (dsOf F nx j)) (hO : Only (fun k => k = g ∨ k = mb) w wr) (h0 : F (nx + j) = none) (hb : Below wr.heap.size wr w') : RetDl w g mb N st win nx F id (.returned ov) w' :=
  ⟨ov, j, N', rfl, hj, h0, hjw, hN, rcv_below hR hb, dls_below hD hb, hO.trans (only_below hb)⟩
theorem dlv_step {F : Hf} {nx x : Int} {j : Nat} {y : List Nat × Bool} (hx : x = nx + j) (hF : F x = some y) : dsOf F nx (j + 1) = dsOf F nx j ++ [(x, y.1, y.2)] := by
  simp only [dsOf]
  rw [← hx, hF]
  rfl

/-- An append to a list of deliveries leaves a receiver as it is. -/
theorem row_not_rcv {w : World} {base e s n g mb N : Nat} {st win nx : Int} {F : Hf} {v : Value} {xs : List Value} (h : w.ownsRow base e s v n xs) (he : e ≠ 89) (hR : Rcv w g mb N st win nx F) : ¬ v.ownBlock = some g ∧ ¬ v.ownBlock = some mb := by
  constructor
  · intro hk
    obtain ⟨_, _, cs, hc⟩ := own_block h hk
    rw [hR.1] at hc
    injection hc with hc
    injection hc with _ hc
    exact he hc.symm
  · intro hk
    obtain ⟨_, _, cs, hc⟩ := own_block h hk
    obtain ⟨_, f, hm, _⟩ := hR
    obtain ⟨es, c, hb⟩ := hm.block
    rw [hb] at hc
    cases hc
/-- The receiver behind the append, the strike and the step. -/
theorem dlv_next {w wr w1 w6 w7 : World} {g mb M j N : Nat} {st win nx x : Int} {F : Hf} {f : Int → Option Value} {X : List Nat} {l : Bool} {ov v6 u : Value} {vs : List Value} (hx : x = nx + j) (hFx : F x = some (X, l))
    (hj : ∀ i : Nat, i < j → F (nx + i) ≠ none) (hjw : (j : Int) < win) (hN : M + 1 + j = N) (hR : Rcv wr g mb (M + 1) st win x (cutF F x)) (hf : FH wr f (cutF F x)) (hO : Only (fun k => k = g ∨ k = mb) w wr) (hg0 : g < w.heap.size)
    (h1 : vs.length = (dsOf F nx j).length) (h2 : wr.ownsRow w.heap.size 85 3 ov (dsOf F nx j).length (dlC (dsOf F nx j) vs)) (h3 : ∀ i (h : i < (dsOf F nx j).length) (h' : i < vs.length), Bd wr (vs[i]'h') ((dsOf F nx j)[i]'h).2.1)
    (hb : Below wr.heap.size wr w1) (ho : w6.ownsRow w.heap.size 85 3 v6 (j + 1) (dlC (dsOf F nx j) vs ++ [.int .i64 x, u, .bool l])) (hg : w1.grownBy w6 ov.ownBlock) (hu : Bd wr u X)
    (hR6 : w6.heap[g]? = some (.cells #[.int .i64 st, .int .i64 win, .int .i64 x, .map (some mb)] 89 (0, 0)))
    (hM7 : MapF Try.prog 3 w7 mb M (fun z => if z = x then none else f z)) (ht : w6.mapTurned w7 mb) :
    DlvRel w g mb N st win nx F v6 (w7.setCell ⟨g, 2, none⟩ (.int .i64 (x + 1))) := by
  obtain ⟨n1, n2⟩ := row_not_rcv h2 (by decide) hR
  have hO1 : Only (fun _ => False) wr w1 := only_below hb
  have hNF : NoB wr (fun _ => False) := fun _ _ _ _ h => h
  have h2' := hO1.own h2 (fun _ _ h => h)
  have hD6 := dls_append (w := w1) h1 h2' (fun i hi hi' => (h3 i hi hi').only hO1 hNF) (by rw [dsOf_len] at *; exact ho) hg (hu.only hO1 hNF)
  rw [← dlv_step hx hFx] at hD6
  have hO6 : Only (fun k => ov.ownBlock = some k) wr w6 := (hO1.mono (fun _ _ h => h.elim)).trans (only_grown hg (fun k e => e))
  have hN1 := nob_row h2 types_apart2
  have hf6 := hf.only hO6 hN1
  have hgm : g ≠ mb := (rcv_apart hR).1
  have hO7 : Only (fun k => k = mb) w6 w7 := only_turned ht rfl
  have hN7 : NoB w6 (fun k => k = mb) := fun k cs fr hk e => by
    subst e
    obtain ⟨es, c, es', c', hb', _⟩ := ht
    rw [hb'] at hk
    cases hk
  have hf7 := hf6.only hO7 hN7
  have hR7 : w7.heap[g]? = _ := (hO7.block g (Array.getElem?_eq_some_iff.1 hR6).1 hgm).trans hR6
  have hO8 : Only (fun k => k = g) w7 (w7.setCell ⟨g, 2, none⟩ (.int .i64 (x + 1))) := only_set _ rfl
  have hN8 : NoB w7 (fun k => k = g) := fun k cs fr hk e => by
    subst e
    rw [hR7] at hk
    injection hk with hk
    injection hk with _ hk
    exact absurd hk (by decide)
  have hg6 : ∀ k, v6.ownBlock = some k → k ≠ g ∧ k ≠ mb := fun k hk => by
    obtain ⟨_, _, cs, hc⟩ := own_block ho hk
    refine ⟨fun e => ?_, fun e => ?_⟩
    · subst e
      rw [hR6] at hc
      injection hc with hc
      injection hc with _ hc
      exact absurd hc (by decide)
    · subst e
      obtain ⟨es, c, es', c', hb', _⟩ := ht
      rw [hb'] at hc
      cases hc
  have hD7 := dls_only hD6 hO7 hN7 (fun k hk => (hg6 k hk).2)
  have hD8 := dls_only hD7 hO8 hN8 (fun k hk => (hg6 k hk).1)
  refine ⟨j + 1, M, fun i hi => ?_, by omega, by omega, ?_, hD8, ?_⟩
  · by_cases e : i < j
    · exact hj i e
    · have e2 : i = j := by omega
      subst e2
      rw [← hx, hFx]
      simp
  · have e1 : nx + ((j + 1 : Nat) : Int) = x + 1 := by rw [hx]; push_cast; omega
    rw [e1]
    refine ⟨?_, _, hM7.only hO8 (fun e => hgm e.symm), ?_⟩
    · rw [heap_setCell_same w7 g 2 _ _ _ hR7]
      rfl
    · have := (hf7.only hO8 hN8).del (k := x)
      exact this.congr (fun k => cutF_step F x k)
  · have hO6' : Only (fun k => k = g ∨ k = mb) w w6 := by
      have hz : Only (fun k => k = g ∨ k = mb) w w6 := by
        refine ⟨hO6.os.trans hO.os, hO6.tape.trans hO.tape, hO6.output.trans hO.output, Nat.le_trans hO.size hO6.size, fun k hk hn => ?_⟩
        refine (hO6.block k (Nat.lt_of_lt_of_le hk hO.size) (fun e => ?_)).trans (hO.block k hk hn)
        have := (own_block h2 e).1
        omega
      exact hz
    exact (hO6'.trans (hO7.mono (fun k _ e => .inr e))).trans (hO8.mono (fun k _ e => .inl e))

set_option maxRecDepth 100000 in
set_option maxHeartbeats 1000000 in
theorem deliver_any (g mb N : Nat) (st win nx : Int) (F : Hf) (w : World) (h : Rcv w g mb N st win nx F) (hF : InW F nx win) (hnx : 0 ≤ nx ∧ nx ≤ 4294967296) (hw : 1 ≤ win ∧ win ≤ 64) :
    Calls Try.prog 75 #[.pointer (some ⟨g, 0, none⟩)] w (RetDl w g mb N st win nx F id) := by
  have h0 : DlvRel w g mb N st win nx F (.slice none 0 0) w := by
    refine ⟨0, N, fun i hi => by omega, by omega, rfl, ?_, dls_nil _ _, Only.refl _ _⟩
    have e : cutF F (nx + ((0 : Nat) : Int)) = F := funext fun k => by
      rw [show nx + ((0 : Nat) : Int) = nx by simp]
      exact cutF_zero (fun k hk => by
        cases e : F k with
        | none => rfl
        | some x => have := (hF k x e).1; omega) k
    rw [e]
    simpa using h
  have H0 := Lib.hid h0
  have HF := Lib.hid hF
  have hg0 := (rcv_apart h).2.1
  clear h0 hF h
  go_enter Try.func75, Try.ntmps75
  go_wp2
  go_loopw [3] (fun ov wr => DlvRel w g mb N st win nx F ov wr) (fun _ wr => (nx + win + 1 - intOf1 ((wr.cell? ⟨g, 2, none⟩).getD (.bool false))).toNat)
  case atStart => exact H0.out
  case round =>
    obtain ⟨j, N', hj, hjw, hN, hR, hD, hO⟩ := hrel
    obtain ⟨c0, c1, c2, c3, cf⟩ := rcv_cells hR
    obtain ⟨x, hx⟩ : ∃ x, x = nx + (j : Int) := ⟨_, rfl⟩
    rw [← hx] at hR c2
    obtain ⟨hR1, f, hM, hH⟩ := hR
    have hwx : (Lit.int .i64 x).wf = true := wfI (by omega) (by omega)
    cases hFx : F x with
    | none =>
      have e1 : f x = none := hH.none_ (by unfold cutF; rw [if_neg (by omega)]; exact hFx)
      have hl := fun (w' : World) (hm : MapF Try.prog 3 w' mb N' f) => hm.look uI uM (zeroD w') hwx
      rw [e1] at hl
      simp only [Option.getD_none, Option.isSome_none] at hl
      have HL := Lib.hid hl
      have r0 := HL.out wr.drew (hM.same rfl)
      have r1 := fun o => HL.out (wr.alloc o).drew (hM.same (Below.heap_alloc _ _ _ hM.lt))
      have hgl : g < wr.heap.size := World.block_lt_of_cell? _ _ c2
      have d2 : ∀ o, (wr.alloc o).cell? ⟨g, 2, none⟩ = some (.int .i64 x) := fun o => (World.cell?_alloc_lt wr o ⟨g, 2, none⟩ hgl).trans c2
      have d3 : ∀ o, (wr.alloc o).cell? ⟨g, 3, none⟩ = some (.map (some mb)) := fun o => (World.cell?_alloc_lt wr o ⟨g, 3, none⟩ hgl).trans c3
      have HH := Lib.hid (And.intro hR1 (And.intro hH (And.intro hD hO)))
      have HX := Lib.hid hx
      have HFX := Lib.hid hFx
      have HM := Lib.hid hM
      have HJ := Lib.hid (And.intro hj (And.intro hjw hN))
      clear hl hR1 hH hD hO hx hFx hM hj hjw hN hwx e1 HF H0 cf
      go_wp2
      go_region
      go_wp2
      go_ret
      have e := HX.out
      refine dlv_end HJ.out.1 HJ.out.2.1 HJ.out.2.2 (by rw [← e]; exact ⟨HH.out.1, f, HM.out, HH.out.2.1⟩) HH.out.2.2.1 HH.out.2.2.2 (by rw [← e]; exact HFX.out) ?_
      exact ((Below.refl _ _).alloc (Nat.le_refl _) _).drew
    | some y =>
      obtain ⟨v, e1, hv⟩ := hH.some_ (k := x) (x := y) (by unfold cutF; rw [if_neg (by omega)]; exact hFx)
      have hbx := HF.out x y hFx
      obtain ⟨X, l⟩ := y
      obtain ⟨A', c', hv'⟩ := (bd_rb hv).form
      simp only at hv' hv e1
      subst hv'
      obtain ⟨M, hNM⟩ : ∃ M, N' = M + 1 := hM.pos uI e1
      subst hNM
      have hl := fun (w' : World) (hm : MapF Try.prog 3 w' mb (M + 1) f) => hm.look uI uM (zeroD w') hwx
      rw [e1] at hl
      simp only [Option.getD_some, Option.isSome_some] at hl
      have HL := Lib.hid hl
      have r0 := HL.out wr.drew (hM.same rfl)
      have r1 := fun o => HL.out (wr.alloc o).drew (hM.same (Below.heap_alloc _ _ _ hM.lt))
      have hgl : g < wr.heap.size := World.block_lt_of_cell? _ _ c2
      have d2 : ∀ o, (wr.alloc o).cell? ⟨g, 2, none⟩ = some (.int .i64 x) := fun o => (World.cell?_alloc_lt wr o ⟨g, 2, none⟩ hgl).trans c2
      have d3 : ∀ o, (wr.alloc o).cell? ⟨g, 3, none⟩ = some (.map (some mb)) := fun o => (World.cell?_alloc_lt wr o ⟨g, 3, none⟩ hgl).trans c3
      have HH := Lib.hid (And.intro hR1 (And.intro hH (And.intro hD hO)))
      have HX := Lib.hid hx
      have HFX := Lib.hid hFx
      have HM := Lib.hid hM
      have HE := Lib.hid e1
      have HV := Lib.hid hv
      have HJ := Lib.hid (And.intro hj (And.intro hjw hN))
      have HW := Lib.hid hwx
      have HC := Lib.hid c2
      clear hl hR1 hH hD hO hx hFx hM hj hjw hwx e1 H0 cf hv hN
      go_wp2
      go_region
      obtain ⟨vs, hv1, hv2, hv3⟩ := HH.out.2.2.1
      have hb1 : Below wr.heap.size wr ((wr.alloc (.cells #[.int .i64 x, .slice A' X.length c', .bool l] 85)).alloc (.cells #[.int .i64 x, .slice A' X.length c', .bool l] 85)).drew :=
        (((Below.refl _ _).alloc (Nat.le_refl _) _).alloc (by simp) _).drew
      have hO1 : Only (fun _ => False) wr ((wr.alloc (.cells #[.int .i64 x, .slice A' X.length c', .bool l] 85)).alloc (.cells #[.int .i64 x, .slice A' X.length c', .bool l] 85)).drew := only_below hb1
      have hOw := hO1.own hv2 (fun _ _ h => h)
      rw [dsOf_len] at hOw
      have hTC := cells3 (w := ((wr.alloc (.cells #[.int .i64 x, .slice A' X.length c', .bool l] 85)).alloc (.cells #[.int .i64 x, .slice A' X.length c', .bool l] 85)).drew) (g := wr.heap.size + 1) (heap_alloc2_new wr _ _)
      have HO1 := Lib.hid (And.intro hb1 (And.intro hO1 (And.intro hv1 (And.intro hv2 hv3))))
      have HOw := Lib.hid hOw
      have HTC := Lib.hid hTC
      have hsw := HH.out.2.2.2.size
      have hjb : j ≤ 64 := by have := HJ.out.2.1; omega
      clear hb1 hO1 hOw hTC hv1 hv2 hv3
      obtain ⟨i0, hi0, hz0, hz1, hz2⟩ := info_parts infoD
      go_wp2_with (at_builtin
                   refine wpList_append_own_at _ rfl (.tmp 21) (.tmp 23) _ rfl w.heap.size 85 i0 _ 3 40 Try.underlying38 hi0 hz0 hz1 hz2 rfl (by decide) _ j _ rfl HOw.out ⟨wr.heap.size + 1, 0, none⟩ 1 1 [.int .i64 x, .slice A' X.length c', .bool l] rfl rfl HTC.out (by intro u hu; simp at hu; rcases hu with rfl | rfl | rfl <;> rfl) (by unfold maxLen; omega) (by omega) (by simp; omega) ?_)
      intro v6 w6 ho hg _ hr
      obtain ⟨n1, n2⟩ := row_not_rcv HO1.out.2.2.2.1 (by decide) (show Rcv wr g mb (M + 1) st win x (cutF F x) from ⟨HH.out.1, f, HM.out, HH.out.2.1⟩)
      have hO6 : Only (fun k => u3.ownBlock = some k) wr w6 := (HO1.out.2.1.mono (fun _ _ h => h.elim)).trans (only_grown hg (fun k e => e))
      have hR6 := (hO6.block g hgl n1).trans HH.out.1
      have hM6 := HM.out.only hO6 n2
      have k2 : w6.cell? ⟨g, 2, none⟩ = some (.int .i64 x) := cell_of_row _ _ _ _ _ _ hR6
      have k3 : w6.cell? ⟨g, 3, none⟩ = some (.map (some mb)) := cell_of_row _ _ _ _ _ _ hR6
      have HR6 := Lib.hid (And.intro hR6 (And.intro hM6 (And.intro ho hg)))
      clear hR6 hM6 ho hg hr hO6 n1 n2 c0 c1 c2 c3 r0 r1 d2 d3 hgl hsw hi0 hz0 hz1 hz2
      go_wp2
      go_still_tail 8, (by kernel_rfl)
      change wpList _ _ _ _ _ w6.drew
      go_wp2_with (at_delete
                   refine wpList_drop_raw rfl (.tmp 28) (.tmp 32) rfl uI uM rfl (HR6.out.2.1.same rfl) x rfl HW.out (.agg #[.int .i64 x, .slice A' X.length c', .bool l]) HE.out ?_)
      intro w7 hM7 ht
      have HC2 := Lib.hid HC.out
      have hgm := (rcv_apart (show Rcv wr g mb (M + 1) st win x (cutF F x) from ⟨HH.out.1, f, HM.out, HH.out.2.1⟩)).1
      have hR7 := (mapTurned_other ht hgm).trans HR6.out.1
      have k2' : w7.cell? ⟨g, 2, none⟩ = some (.int .i64 x) := cell_of_row _ _ _ _ _ _ hR7
      have f2' : w7.frozen? ⟨g, 2, none⟩ = false := by simp [World.frozen?, hR7]
      have HM7 := Lib.hid (And.intro hM7 ht)
      clear hgm hR7 hM7 ht k2 k3
      go_wp2
      go_roundw
      case rel => 
        have hjw : (j : Int) < win := by have := HX.out; omega
        exact dlv_next HX.out HFX.out HJ.out.1 hjw HJ.out.2.2 ⟨HH.out.1, f, HM.out, HH.out.2.1⟩ HH.out.2.1 HH.out.2.2.2 hg0 HO1.out.2.2.1 HO1.out.2.2.2.1 HO1.out.2.2.2.2 HO1.out.1 (w6 := w6.drew) HR6.out.2.2.1 ⟨HR6.out.2.2.2.os, HR6.out.2.2.2.tape, HR6.out.2.2.2.output, HR6.out.2.2.2.size, HR6.out.2.2.2.block⟩ HV.out HR6.out.1 HM7.out.1 HM7.out.2
      case measure =>
        have e2 : (w7.setCell ⟨g, 2, none⟩ (.int .i64 (x + 1))).cell? ⟨g, 2, none⟩ = some (.int .i64 (x + 1)) := World.cell?_setCell_same _ _ _ k2'
        rw [HC2.out, e2]
        simp [intOf1]
        omega
end Go.Proofs.Ytkakbeiehggkiaa
