/-
  The receiver's hold.
  Which frames are valid: the program's, the document's.
-/
import Derived.Test.YtkakbeiehggkiaaH05
import Derived.Test.YtkakbeiehggkiaaH04
import Derived.BigQuiet
namespace Go.Proofs.Ytkakbeiehggkiaa
open Go.RowKit
attribute [local go_sem ↓] Go.wp_at_zero Go.wp_at_succ

set_option maxRecDepth 100000 in
theorem clone_any (X : List Nat) (v : Value) (B : Nat) (w : World) (hx : RB w B v X) (hB : B ≤ w.heap.size) (h64 : X.length ≤ 1048576) :
    Calls Try.prog 60 #[v] w (RetOwn w X) := by
  obtain ⟨A, c, rfl⟩ := hx.form
  cases A with
  | some a => exact clone_some X a _ c B w hx hB h64
  | none =>
    obtain ⟨h1, h2⟩ := hx.2 _ _ rfl
    have hX : X = [] := List.eq_nil_of_length_eq_zero h1
    subst hX
    subst h2
    have hnil := Lib.run_eql_slice_nil (P := Try.prog) w 33 5 none 0 0 0 0 Try.underlying33
    simp only [Option.isNone_none] at hnil
    clear hx hB h64
    go_enter Try.func60, Try.ntmps60
    go_wp2
    go_ret
    exact ⟨_, rfl, World.ownsRow_nil _ _ _ _, Below.refl _ _⟩

theorem D0ex (w : World) (sq : Int) (v : Value) (l : Bool) : ∃ W0, Hid (W0 = w.alloc (.cells #[.int .i64 sq, v, .bool l] 85)) ∧ Below w.heap.size w W0 ∧
    Hid (W0.heap[w.heap.size]? = some (.cells #[.int .i64 sq, v, .bool l] 85 (0, 0))) ∧ w.heap.size < W0.heap.size :=
  ⟨_, rfl, (Below.refl _ _).alloc (Nat.le_refl _) _, heap_alloc_new w _, by simp⟩

def RetErr (w : World) (c : Int) (e : Ending) (w' : World) : Prop := e = .returned (.tuple #[.slice none 0 0, .int .i64 c]) ∧ Below w.heap.size w w'
/-- What hold answers. -/
def holdE (win nx : Int) (F : Hf) (sq : Int) : Int := if sq < nx then 26 else if F sq ≠ none then 27 else if nx + win ≤ sq then 28 else 0
def RetHold (w : World) (g mb N : Nat) (st win nx : Int) (F : Hf) (ce : Int) (e : Ending) (w' : World) : Prop :=
  (ce ≠ 0 ∧ RetErr w ce e w') ∨ (ce = 0 ∧ RetDl w g mb N st win nx F (fun v => .tuple #[v, .int .i64 0]) e w')
def putH (F : Hf) (sq : Int) (X : List Nat) (l : Bool) : Hf := fun x => if x = sq then some (X, l) else F x

/-- The receiver behind the store into the box and the map. -/
theorem hold_put {w W0 w2 w4 : World} {g mb N : Nat} {st win nx sq : Int} {F : Hf} {f : Int → Option Value} {X : List Nat} {l : Bool} {u v2 : Value} (hw0 : Below w.heap.size w W0) (z0 : w.heap.size < W0.heap.size) (hg0 : g < w.heap.size) (hm0 : mb < w.heap.size)
    (hR0 : Rcv W0 g mb N st win nx F) (hf : FH W0 f F) (hb2 : Below W0.heap.size W0 w2) (hG2 : w2.heap[w.heap.size]? = some (.cells #[.int .i64 sq, u, .bool l] 85 (0, 0))) (ho : w2.ownsRow W0.heap.size 5 1 v2 X.length (bys X))
    (hM4 : MapF Try.prog 3 w4 mb (N + 1) (fun z => if z = sq then some (.agg #[.int .i64 sq, v2, .bool l]) else f z)) (ht : (w2.setCell ⟨w.heap.size, 1, none⟩ v2).drew.mapTurned w4 mb) :
    Rcv w4 g mb (N + 1) st win nx (putH F sq X l) ∧ Only (fun k => k = g ∨ k = mb) w w4 := by
  have hR2 := rcv_below hR0 hb2
  have hf2 := hf.only (S := fun _ => False) (only_below hb2) (fun _ _ _ _ h => h)
  have hB2 : Bd w2 v2 X := bd_owns ho
  have hO3 : Only (fun k => k = w.heap.size) w2 (w2.setCell ⟨w.heap.size, 1, none⟩ v2).drew := (only_set (S := fun k => k = w.heap.size) _ rfl).trans only_drew
  have hN3 : NoB w2 (fun k => k = w.heap.size) := fun k cs fr hk e => by
    subst e
    rw [hG2] at hk
    injection hk with hk
    injection hk with _ hk
    exact absurd hk (by decide)
  have hR3 := rcv_only hR2 hO3 hN3 (by omega) (by omega)
  have hf3 := hf2.only hO3 hN3
  have hB3 := hB2.only hO3 hN3
  have hO4 : Only (fun k => k = mb) (w2.setCell ⟨w.heap.size, 1, none⟩ v2).drew w4 := only_turned ht rfl
  have hN4 : NoB (w2.setCell ⟨w.heap.size, 1, none⟩ v2).drew (fun k => k = mb) := fun k cs fr hk e => rcv_nob hR3 k cs fr hk (.inr e)
  have hgm := (rcv_apart hR3).1
  refine ⟨⟨(hO4.block g (rcv_apart hR3).2.1 hgm).trans hR3.1, _, hM4, (hf3.only hO4 hN4).put (hB3.only hO4 hN4)⟩, ?_⟩
  have hA : Only (fun k => k = g ∨ k = mb) w (w2.setCell ⟨w.heap.size, 1, none⟩ v2).drew := by
    have hb : Below w.heap.size w (w2.setCell ⟨w.heap.size, 1, none⟩ v2).drew := ((hw0.trans (hb2.mono hw0.size)).setCell (Nat.le_refl _) _).drew
    exact only_below hb
  exact hA.trans (hO4.mono (fun _ _ e => .inr e))

set_option maxRecDepth 100000 in
set_option maxHeartbeats 1000000 in
theorem hold_any (g mb N : Nat) (st win nx sq : Int) (F : Hf) (X : List Nat) (l : Bool) (A : Option Addr) (n c B : Nat) (w : World) (h : Rcv w g mb N st win nx F) (hF : InW F nx win) (hN : N ≤ 1048576) (hnx : 0 ≤ nx ∧ nx ≤ 4294967296) (hw : 1 ≤ win ∧ win ≤ 64)
    (hsq : 0 ≤ sq ∧ sq ≤ 4294967295) (hx : RB w B (.slice A n c) X) (hB : B ≤ w.heap.size) (hX : X.length ≤ 1048576) (ce : Int) (hce : holdE win nx F sq = ce) :
    Calls Try.prog 56 #[.pointer (some ⟨g, 0, none⟩), .agg #[.int .i64 sq, .slice A n c, .bool l]] w (RetHold w g mb (N + 1) st win nx (putH F sq X l) ce) := by
  have hwx : (Lit.int .i64 sq).wf = true := wfI (by omega) (by omega)
  obtain ⟨W0, HW0, hw0, HG, z0⟩ := D0ex w sq (.slice A n c) l
  obtain ⟨k0, k1, k2, kf⟩ := fr_blk HG.out (Below.refl _ _)
  have hR0 := rcv_below h hw0
  have hap := rcv_apart h
  obtain ⟨c0, c1, c2, c3, cf⟩ := rcv_cells hR0
  have HR0 := Lib.hid hR0
  have HF := Lib.hid hF
  have HX := Lib.hid (And.intro hx (And.intro hB hX))
  clear hx hR0 hB hX hF h
  obtain ⟨hR1, f, hM, hH⟩ := id HR0.out
  have HM := Lib.hid (And.intro hM hH)
  clear hR1 hM hH cf
  unfold holdE at hce
  by_cases h1 : sq < nx
  · rw [if_pos h1] at hce
    subst hce
    go_enter Try.func56, Try.ntmps56
    go_wp2_with fail
    rw [← HW0.out]
    go_region
    go_wp2
    go_ret2
    exact .inl ⟨by omega, rfl, hw0.drew⟩
  · rw [if_neg h1] at hce
    go_enter Try.func56, Try.ntmps56
    go_wp2_with fail
    rw [← HW0.out]
    go_region
    have hgl : g < W0.heap.size := World.block_lt_of_cell? _ _ c2
    have d2 : ∀ o, (W0.alloc o).cell? ⟨g, 2, none⟩ = some (.int .i64 nx) := fun o => (World.cell?_alloc_lt W0 o ⟨g, 2, none⟩ hgl).trans c2
    have d1 : ∀ o, (W0.alloc o).cell? ⟨g, 1, none⟩ = some (.int .i64 win) := fun o => (World.cell?_alloc_lt W0 o ⟨g, 1, none⟩ hgl).trans c1
    have d3 : ∀ o, (W0.alloc o).cell? ⟨g, 3, none⟩ = some (.map (some mb)) := fun o => (World.cell?_alloc_lt W0 o ⟨g, 3, none⟩ hgl).trans c3
    have d0 : ∀ o, (W0.alloc o).cell? ⟨w.heap.size, 0, none⟩ = some (.int .i64 sq) := fun o => (World.cell?_alloc_lt W0 o ⟨w.heap.size, 0, none⟩ z0).trans k0
    have hl := fun (w' : World) (hm : MapF Try.prog 3 w' mb N f) => hm.look uI uM (zeroD w') hwx
    have HWX := Lib.hid hwx
    clear hwx
    by_cases h2 : F sq ≠ none
    · rw [if_pos h2] at hce
      subst hce
      obtain ⟨y, hy⟩ := Option.ne_none_iff_exists'.1 h2
      obtain ⟨v', e1, hv⟩ := HM.out.2.some_ hy
      obtain ⟨A', c', hv'⟩ := (bd_rb hv).form
      subst hv'
      rw [e1] at hl
      simp only [Option.getD_some, Option.isSome_some] at hl
      have HL := Lib.hid hl
      have r0 := HL.out W0.drew.drew (HM.out.1.same rfl)
      have r1 := fun o => HL.out (W0.alloc o).drew.drew (HM.out.1.same (Below.heap_alloc _ _ _ HM.out.1.lt))
      clear hl h2 hy e1 hv
      go_wp2_with fail
      go_region
      go_wp2
      go_ret2
      exact .inl ⟨by omega, rfl, (hw0.alloc (Nat.le_of_lt z0) _).drew.drew⟩
    · rw [if_neg h2] at hce
      have h2' : F sq = none := by simpa using h2
      have e1 := HM.out.2.none_ h2'
      rw [e1] at hl
      simp only [Option.getD_none, Option.isSome_none] at hl
      have HL := Lib.hid hl
      have r0 := HL.out W0.drew.drew (HM.out.1.same rfl)
      have r1 := fun o => HL.out (W0.alloc o).drew.drew (HM.out.1.same (Below.heap_alloc _ _ _ HM.out.1.lt))
      have HF2 := Lib.hid h2'
      have HE1 := Lib.hid e1
      have hw1 : IntKind.i64.wrap (nx + win) = nx + win := by rw [IntKind.wrap_i64]; omega
      clear hl h2 h2' e1
      by_cases h3 : nx + win ≤ sq
      · rw [if_pos h3] at hce
        subst hce
        go_wp2_with fail
        go_region
        go_wp2_with fail
        go_region
        go_wp2
        go_ret2
        exact .inl ⟨by omega, rfl, (hw0.alloc (Nat.le_of_lt z0) _).drew.drew.drew⟩
      · rw [if_neg h3] at hce
        subst hce
        go_wp2_with fail
        go_region
        go_wp2_with fail
        go_region
        have hb1 : Below W0.heap.size W0 (W0.alloc (.cells #[.int .i64 0, .slice none 0 0, .bool false] 85)) := (Below.refl _ _).alloc (Nat.le_refl _) _
        have hxW : RB (W0.alloc (.cells #[.int .i64 0, .slice none 0 0, .bool false] 85)) B (.slice A n c) X := (HX.out.1.belowM hw0 HX.out.2.1).alloc (Nat.le_trans HX.out.2.1 hw0.size) _
        have HB1 := Lib.hid (And.intro hb1 hxW)
        have hBs : B ≤ W0.heap.size := Nat.le_trans HX.out.2.1 hw0.size
        clear hb1 hxW r0 r1 d0 d1 d2 d3
        go_wp2_with fail
        refine (clone_any X (.slice A n c) B _ (by exact ⟨HB1.out.2.1.drew, HB1.out.2.2⟩) (by simp; omega) HX.out.2.2).mono ?_
        rintro e w2 ⟨v2, rfl, o2, b2⟩
        have hb2 : Below W0.heap.size W0 w2 := HB1.out.1.drew.drew.drew.trans (b2.mono (by simp))
        have o2' : w2.ownsRow W0.heap.size 5 1 v2 X.length (bys X) := owns_base o2 (by simp)
        obtain ⟨A2, c2', hv2⟩ := (rb_of_owns o2').2.form
        subst hv2
        have hG2 := (hb2.block w.heap.size z0).trans HG.out
        obtain ⟨k0', k1', k2', kf'⟩ := fr_blk hG2 (Below.refl _ _)
        have hR2 := rcv_below HR0.out hb2
        obtain ⟨c0', c1', c2'', c3', cf'⟩ := rcv_cells hR2
        have H2 := Lib.hid (And.intro hb2 (And.intro o2' (And.intro hG2 hR2)))
        have f1' := kf' 1
        have hgw : g ≠ w.heap.size := by omega
        clear b2 o2 hb2 o2' hG2 hR2 kf' cf' k0 k1 k2 kf c0 c1 c2 c3
        go_wp2_with fail
        obtain ⟨w3, hw3⟩ : ∃ w3, w3 = w2.setCell ⟨w.heap.size, 1, none⟩ (.slice A2 X.length c2') := ⟨_, rfl⟩
        rw [← hw3]
        have hG3 : w3.heap[w.heap.size]? = some (.cells #[.int .i64 sq, .slice A2 X.length c2', .bool l] 85 (0, 0)) := by
          rw [hw3, heap_setCell_same w2 w.heap.size 1 _ _ _ H2.out.2.2.1]
          rfl
        obtain ⟨k0, k1, k2, kf⟩ := fr_blk hG3 (Below.refl _ _)
        have c3 : w3.cell? ⟨g, 3, none⟩ = some (.map (some mb)) := by
          rw [hw3]
          exact (World.cell?_setCell_far w2 ⟨w.heap.size, 1, none⟩ ⟨g, 3, none⟩ _ (fun e => hgw e.symm)).trans c3'
        have hM3 : MapF Try.prog 3 w3 mb N f := by
          rw [hw3]
          exact (HM.out.1.only (S := fun _ => False) (only_below H2.out.1) (fun h => h)).only (only_set (S := fun k => k = w.heap.size) _ rfl) (by omega)
        have H3 := Lib.hid (And.intro hM3 hw3)
        clear hG3 hM3 hw3 kf k0' k1' k2' c0' c1' c2'' c3' f1'
        go_still_tail 7, (by kernel_rfl)
        change wpList _ _ _ _ _ w3.drew
        go_wp2_with (at_mapUpdate
                     refine wpList_put_raw rfl (.tmp 45) (.tmp 47) (.tmp 48) rfl uI uM rfl (H3.out.1.same rfl) (by unfold maxLen; omega) sq rfl HWX.out HE1.out (.agg #[.int .i64 sq, .slice A2 X.length c2', .bool l]) rfl ?_)
        intro w4 hM4 ht
        have hP := hold_put (sq := sq) (l := l) hw0 z0 hap.2.1 hap.2.2 HR0.out HM.out.2 H2.out.1 H2.out.2.2.1 H2.out.2.1 hM4 (by rw [← H3.out.2]; exact ht)
        have hIW : InW (putH F sq X l) nx win := by
          intro k x hk
          unfold putH at hk
          by_cases e : k = sq
          · subst e; omega
          · rw [if_neg e] at hk
            exact HF.out k x hk
        have HP := Lib.hid hP
        have HD := Lib.hid (deliver_any g mb (N + 1) st win nx (putH F sq X l) w4 hP.1 hIW hnx hw)
        clear hP hIW hM4 ht
        go_wp2_with fail
        refine HD.out.mono ?_
        rintro e w5 ⟨v5, m, N', rfl, q1, q2, q3, q4, q5, q6, q7⟩
        have HQ := Lib.hid (And.intro q1 (And.intro q2 (And.intro q3 (And.intro q4 (And.intro q5 (And.intro q6 q7))))))
        clear q1 q2 q3 q4 q5 q6 q7
        go_wp2
        go_ret2
        exact .inr ⟨rfl, v5, m, N', rfl, HQ.out.1, HQ.out.2.1, HQ.out.2.2.1, HQ.out.2.2.2.1, HQ.out.2.2.2.2.1, dls_base HQ.out.2.2.2.2.2.1 HP.out.2.size, HP.out.2.trans HQ.out.2.2.2.2.2.2⟩
end Go.Proofs.Ytkakbeiehggkiaa

namespace Go.Proofs.Ytkakbeiehggkiaa
open Go.RowKit

def okF (st sq : Int) (n : Nat) : Prop := 0 ≤ st ∧ st ≤ 255 ∧ 0 ≤ sq ∧ sq ≤ 4294967295 ∧ n ≤ 1024

set_option maxRecDepth 100000 in
set_option maxHeartbeats 400000 in
theorem validFrame_yes (st sq : Int) (A : Option Addr) (n c : Nat) (h : okF st sq n) (w : World) :
    Calls Try.prog 55 #[.agg #[.int .i64 st, .int .i64 sq, .slice A n c]] w (RetB w true) := by
  obtain ⟨h1, h2, h3, h4, h5⟩ := h
  have h5i : (n : Int) ≤ 1024 := by omega
  go_enter Try.func55, Try.ntmps55
  go_wp2
  go_ret
  exact ⟨by simp [*], (Below.refl _ _).alloc (Nat.le_refl _) _⟩

theorem F0ex (w : World) (st sq : Int) (v : Value) : ∃ W0, Hid (W0 = w.alloc (.cells #[.int .i64 st, .int .i64 sq, v] 35)) ∧ Below w.heap.size w W0 ∧
    Hid (W0.heap[w.heap.size]? = some (.cells #[.int .i64 st, .int .i64 sq, v] 35 (0, 0))) ∧ w.heap.size < W0.heap.size :=
  ⟨_, rfl, (Below.refl _ _).alloc (Nat.le_refl _) _, heap_alloc_new w _, by simp⟩

set_option maxRecDepth 100000 in
set_option maxHeartbeats 1000000 in
theorem validFrame_no (st sq : Int) (A : Option Addr) (n c : Nat) (h : ¬ okF st sq n) (w : World) :
    Calls Try.prog 55 #[.agg #[.int .i64 st, .int .i64 sq, .slice A n c]] w (RetB w false) := by
  unfold okF at h
  by_cases h1 : 0 ≤ st
  · by_cases h2 : st ≤ 255
    · by_cases h3 : 0 ≤ sq
      · by_cases h4 : sq ≤ 4294967295
        · have h5 : ¬ (n : Int) ≤ 1024 := by omega
          have d5 : decide ((n : Int) ≤ 1024) = false := by simpa using h5
          clear h
          go_enter Try.func55, Try.ntmps55
          go_wp2
          go_ret
          exact ⟨by simp <;> omega, (Below.refl _ _).alloc (Nat.le_refl _) _⟩
        · have d5 : decide (sq ≤ 4294967295) = false := by simpa using h4
          clear h
          go_enter Try.func55, Try.ntmps55
          go_wp2
          go_ret
          exact ⟨by simp <;> omega, (Below.refl _ _).alloc (Nat.le_refl _) _⟩
      · have d5 : decide (0 ≤ sq) = false := by simpa using h3
        clear h
        go_enter Try.func55, Try.ntmps55
        go_wp2
        go_ret
        exact ⟨by simp <;> omega, (Below.refl _ _).alloc (Nat.le_refl _) _⟩
    · have d5 : decide (st ≤ 255) = false := by simpa using h2
      clear h
      go_enter Try.func55, Try.ntmps55
      go_wp2
      go_ret
      exact ⟨by simp <;> omega, (Below.refl _ _).alloc (Nat.le_refl _) _⟩
  · have d5 : decide (0 ≤ st) = false := by simpa using h1
    clear h
    go_enter Try.func55, Try.ntmps55
    go_wp2
    go_ret
    exact ⟨by simp <;> omega, (Below.refl _ _).alloc (Nat.le_refl _) _⟩

set_option maxRecDepth 100000 in
set_option maxHeartbeats 400000 in
theorem refValidP (b : Bool) (st sq : Int) (A : Option Addr) (n c : Nat) (h : if b = true then okF st sq n else ¬ okF st sq n) (w : World) :
    Calls Try.prog 57 #[.agg #[.int .i64 st, .int .i64 sq, .slice A n c]] w (RetB w b) := by
  cases b with
  | true =>
    rw [if_pos rfl] at h
    obtain ⟨h1, h2, h3, h4, h5⟩ := h
    have h5i : (n : Int) ≤ 1024 := by omega
    go_enter Try.func57, Try.ntmps57
    go_wp2
    go_ret
    exact ⟨by simp [*], (Below.refl _ _).alloc (Nat.le_refl _) _⟩
  | false =>
    rw [if_neg (by simp)] at h
    unfold okF at h
    by_cases h1 : 0 ≤ st
    · by_cases h2 : st ≤ 255
      · by_cases h3 : 0 ≤ sq
        · by_cases h4 : sq ≤ 4294967295
          · have h5 : ¬ (n : Int) ≤ 1024 := by omega
            have d5 : decide ((n : Int) ≤ 1024) = false := by simpa using h5
            clear h
            go_enter Try.func57, Try.ntmps57
            go_wp2
            go_ret
            exact ⟨by simp <;> omega, (Below.refl _ _).alloc (Nat.le_refl _) _⟩
          · have d5 : decide (sq ≤ 4294967295) = false := by simpa using h4
            clear h
            go_enter Try.func57, Try.ntmps57
            go_wp2
            go_ret
            exact ⟨by simp <;> omega, (Below.refl _ _).alloc (Nat.le_refl _) _⟩
        · have d5 : decide (0 ≤ sq) = false := by simpa using h3
          clear h
          go_enter Try.func57, Try.ntmps57
          go_wp2
          go_ret
          exact ⟨by simp <;> omega, (Below.refl _ _).alloc (Nat.le_refl _) _⟩
      · have d5 : decide (st ≤ 255) = false := by simpa using h2
        clear h
        go_enter Try.func57, Try.ntmps57
        go_wp2
        go_ret
        exact ⟨by simp <;> omega, (Below.refl _ _).alloc (Nat.le_refl _) _⟩
    · have d5 : decide (0 ≤ st) = false := by simpa using h1
      clear h
      go_enter Try.func57, Try.ntmps57
      go_wp2
      go_ret
      exact ⟨by simp <;> omega, (Below.refl _ _).alloc (Nat.le_refl _) _⟩

end Go.Proofs.Ytkakbeiehggkiaa
