/-
  A record's numbers read one behind the other: the program's reader.
-/
import Derived.Test.YtfalhfgnobjfgaaTRec
namespace Go.Proofs.Ytfalhfgnobjfgaa
open Go.RowKit Go.Maps

/-- What is read at the beginning of bytes. -/
noncomputable def sL (L : List Nat) : Nat := Classical.choose (lead_ex L)
theorem sL_lead (L : List Nat) : Lead L (sL L) := Classical.choose_spec (lead_ex L)
noncomputable def rv (sg : Bool) (L : List Nat) : Int := if sg = true then half (rdN L (sL L)) else ((rdN L (sL L) : Nat) : Int)
noncomputable def rk (L : List Nat) : Nat := rdS L (sL L)
noncomputable def re (L : List Nat) : Nat := rdE L (sL L)
theorem rk_le (L : List Nat) : rk L ≤ L.length := by
  unfold rk
  by_cases h : RdOk L (sL L)
  · rw [(rd_ok h).2.1]
    have := h.2.1
    omega
  · unfold rdS
    rw [if_neg h]
    exact Nat.zero_le _
noncomputable def rest (X : List Nat) : Nat → List Nat
  | 0 => X
  | j + 1 => (rest X j).drop (rk (rest X j))
noncomputable def okR (X : List Nat) : Nat → Bool
  | 0 => true
  | j + 1 => okR X j && decide (re (rest X j) = 0)
theorem rest_add (X : List Nat) (i : Nat) : ∀ j, rest (rest X i) j = rest X (i + j)
  | 0 => rfl
  | j + 1 => by
    show (rest (rest X i) j).drop (rk (rest (rest X i) j)) = (rest X (i + j)).drop (rk (rest X (i + j)))
    rw [rest_add X i j]
theorem okR_add (X : List Nat) (i : Nat) : ∀ j, (okR X i && okR (rest X i) j) = okR X (i + j)
  | 0 => by simp [okR]
  | j + 1 => by
    show (okR X i && (okR (rest X i) j && decide (re (rest (rest X i) j) = 0))) = (okR X (i + j) && decide (re (rest X (i + j)) = 0))
    rw [← Bool.and_assoc, okR_add X i j, rest_add]

def fnD : Bool → Nat
  | true => 24
  | false => 23
def RetR (L : List Nat) (sg : Bool) (w : World) (e : Ending) (w' : World) : Prop := e = .returned (.tuple #[.int .i64 (rv sg L), .int .i64 (rk L : Nat), .int .i64 (re L : Nat)]) ∧ w = w'
theorem read_one (sg : Bool) (L : List Nat) (A : Option Addr) (n c B : Nat) (w : World) (hx : RB w B (.slice A n c) L) : Calls Try.prog (fnD sg) #[.slice A n c] w (RetR L sg w) := by
  cases sg with
  | true => exact readSigned_any L (sL L) (sL_lead L) A n c B w hx.1
  | false => exact readNumber_any L (sL L) (sL_lead L) A n c B w hx.1

theorem rb_tail2 {w : World} {B b o n c a : Nat} {L : List Nat} {AD : Option Addr} (h : RB w B (.slice (some ⟨b, o, none⟩) n c) L) (ha : a ≤ n) (hAD : (if c = a then (some ⟨b, o, none⟩ : Option Addr) else some ⟨b, o + a, none⟩) = AD) :
    ∃ o', AD = some ⟨b, o', none⟩ ∧ RB w B (.slice AD (n - a) (c - a)) (L.drop a) := by
  have hl := h.1.len
  have hc := h.1.cap
  subst hAD
  by_cases hca : c = a
  · rw [if_pos hca]
    exact ⟨o, rfl, RW.mk (by rw [List.length_drop]; omega) (by omega) (by omega) (fun h0 => absurd h0 (by omega)), nz_some⟩
  · rw [if_neg hca]
    refine ⟨o + a, rfl, RW.mk (by rw [List.length_drop]; omega) (by omega) (by omega) (fun h0 => ?_), nz_some⟩
    obtain ⟨b', o', e, hb, hcell⟩ := h.1.at_ (by omega)
    injection e with e
    injection e with e1 e2
    subst e1 e2
    refine ⟨b, o + a, rfl, hb, fun j hj => ?_⟩
    have := hcell (a + j) (by omega)
    rw [← Nat.add_assoc] at this
    rw [this]
    unfold nth
    simp

/-- What the program's reader holds: the rest, whether all went well, and the record. -/
def RdSt (w : World) (B rb qb nb : Nat) (Y : List Nat) (ok : Bool) (cs : Array Value) : Prop :=
  (∃ b o n c, w.heap[rb]? = some (.cells #[.slice (some ⟨b, o, none⟩) n c] 30 (0, 0)) ∧ RB w B (.slice (some ⟨b, o, none⟩) n c) Y) ∧ w.heap[qb]? = some (.cells #[.bool ok] 4 (0, 0)) ∧ w.heap[nb]? = some (.cells cs 29 (0, 0))
theorem rdSt_below {w w' : World} {B rb qb nb : Nat} {Y : List Nat} {ok : Bool} {cs : Array Value} (h : RdSt w B rb qb nb Y ok cs) (hB : B ≤ w.heap.size) (hb : Below w.heap.size w w') : RdSt w' B rb qb nb Y ok cs := by
  obtain ⟨⟨b, o, n, c, h1, h2⟩, h3, h4⟩ := h
  exact ⟨⟨b, o, n, c, (hb.block rb (Array.getElem?_eq_some_iff.1 h1).1).trans h1, h2.belowM hb hB⟩, (hb.block qb (Array.getElem?_eq_some_iff.1 h3).1).trans h3, (hb.block nb (Array.getElem?_eq_some_iff.1 h4).1).trans h4⟩
def setsN (cs : Array Value) (os : Nat → Nat) (vs : Nat → Int) : Nat → Array Value
  | 0 => cs
  | j + 1 => (setsN cs os vs j).set! (os j) (.int .i64 (vs j))
theorem setsN_size (cs : Array Value) (os : Nat → Nat) (vs : Nat → Int) : ∀ j, (setsN cs os vs j).size = cs.size
  | 0 => rfl
  | j + 1 => by simp [setsN, setsN_size cs os vs j]
def ThreeS (rb qb nb k : Nat) : Prop := k = rb ∨ k = qb ∨ k = nb
/-- One round of the reader. -/
theorem rd_step {w : World} {B rb qb nb b o' m cc off : Nat} {Y : List Nat} {ok ok' : Bool} {cs : Array Value} {v : Int} (h : RdSt w B rb qb nb Y ok cs) (hY : RB w B (.slice (some ⟨b, o', none⟩) m cc) (Y.drop (rk Y))) (h1 : rb ≠ qb) (h2 : rb ≠ nb) (h3 : qb ≠ nb) (hr : B ≤ rb) (hq : B ≤ qb) (hn : B ≤ nb) :
    RdSt (((w.setCell ⟨qb, 0, none⟩ (.bool ok')).setCell ⟨nb, off, none⟩ (.int .i64 v)).setCell ⟨rb, 0, none⟩ (.slice (some ⟨b, o', none⟩) m cc)) B rb qb nb (Y.drop (rk Y)) ok' (cs.set! off (.int .i64 v)) ∧
      Only (ThreeS rb qb nb) w (((w.setCell ⟨qb, 0, none⟩ (.bool ok')).setCell ⟨nb, off, none⟩ (.int .i64 v)).setCell ⟨rb, 0, none⟩ (.slice (some ⟨b, o', none⟩) m cc)) := by
  obtain ⟨⟨_, _, _, _, g1, g2⟩, g3, g4⟩ := h
  have hB : Below B w (((w.setCell ⟨qb, 0, none⟩ (.bool ok')).setCell ⟨nb, off, none⟩ (.int .i64 v)).setCell ⟨rb, 0, none⟩ (.slice (some ⟨b, o', none⟩) m cc)) := (((Below.refl _ _).setCell hq _).setCell hn _).setCell hr _
  refine ⟨⟨⟨b, o', m, cc, ?_, hY.below hB⟩, ?_, ?_⟩, ((only_set _ (.inr (.inl rfl))).trans (only_set _ (.inr (.inr rfl)))).trans (only_set _ (.inl rfl))⟩
  · have e1 : ((w.setCell ⟨qb, 0, none⟩ (.bool ok')).setCell ⟨nb, off, none⟩ (.int .i64 v)).heap[rb]? = some (.cells _ _ (0, 0)) := (heap_setCell_other _ _ rb _ h2).trans ((heap_setCell_other _ _ rb _ h1).trans g1)
    rw [heap_setCell_same _ rb 0 _ _ _ e1]
    rfl
  · rw [heap_setCell_other _ _ qb _ (Ne.symm h1), heap_setCell_other _ _ qb _ h3, heap_setCell_same _ qb 0 _ _ _ g3]
    rfl
  · have e1 : (w.setCell ⟨qb, 0, none⟩ (.bool ok')).heap[nb]? = some (.cells cs _ (0, 0)) := (heap_setCell_other _ _ nb _ (Ne.symm h3)).trans g4
    rw [heap_setCell_other _ _ nb _ (Ne.symm h2), heap_setCell_same _ nb off _ _ _ e1]
    simp

theorem okE_yes {X : List Nat} {ok0 : Bool} {j x : Nat} (h : (ok0 && okR X j) = true) (hx : x = re (rest X j)) : (ok0 && okR X (j + 1)) = ((x : Int) == 0) := by
  show (ok0 && (okR X j && decide (re (rest X j) = 0))) = _
  rw [← Bool.and_assoc, h, ← hx]
  by_cases e : x = 0
  · subst e; simp
  · have : ¬ ((x : Int) = 0) := by omega
    simp [e, this]
theorem okE_no {X : List Nat} {ok0 : Bool} {j : Nat} (h : (ok0 && okR X j) = false) : (ok0 && okR X (j + 1)) = false := by
  show (ok0 && (okR X j && decide (re (rest X j) = 0))) = _
  rw [← Bool.and_assoc, h]
  rfl
def RdLp (w : World) (B rb qb nb k : Nat) (sg : Bool) (X : List Nat) (ok0 : Bool) (cs : Array Value) (os : Nat → Nat) (iv : Value) (wr : World) : Prop :=
  ∃ j : Nat, iv = .int .i64 (j : Int) ∧ j ≤ k ∧ Hid (RdSt wr B rb qb nb (rest X j) (ok0 && okR X j) (setsN cs os (fun i => rv sg (rest X i)) j)) ∧ Only (ThreeS rb qb nb) w wr
def RetRdr (w : World) (B rb qb nb k : Nat) (sg : Bool) (X : List Nat) (ok0 : Bool) (cs : Array Value) (os : Nat → Nat) (e : Ending) (w' : World) : Prop :=
  e = .returned (.tuple #[]) ∧ RdSt w' B rb qb nb (rest X k) (ok0 && okR X k) (setsN cs os (fun i => rv sg (rest X i)) k) ∧ Only (ThreeS rb qb nb) w w'

set_option maxRecDepth 100000 in
set_option maxHeartbeats 2000000 in
theorem reader_any (sg : Bool) (fb eb rb qb nb B k : Nat) (os : Nat → Nat) (X : List Nat) (ok0 : Bool) (cs : Array Value) (w : World) (hfb : fb < w.heap.size) (hf : ∀ j, j < k → w.cell? ⟨fb, j, none⟩ = some (.pointer (some ⟨nb, os j, none⟩)))
    (hos : ∀ j, j < k → os j < cs.size) (he : w.cell? ⟨eb, 0, none⟩ = some (.func (.func (fnD sg)) #[] #[])) (heb : eb < w.heap.size) (hS : RdSt w B rb qb nb X ok0 cs) (hk : k ≤ 100) (hX : X.length ≤ 1048576) (hB : B ≤ w.heap.size)
    (h1 : rb ≠ qb) (h2 : rb ≠ nb) (h3 : qb ≠ nb) (hr : B ≤ rb) (hq : B ≤ qb) (hn : B ≤ nb) (f1 : ¬ ThreeS rb qb nb fb) (f2 : ¬ ThreeS rb qb nb eb) :
    Calls Try.prog 22 #[.slice (some ⟨fb, 0, none⟩) k k, .pointer (some ⟨eb, 0, none⟩), .pointer (some ⟨rb, 0, none⟩), .pointer (some ⟨qb, 0, none⟩)] w (RetRdr w B rb qb nb k sg X ok0 cs os) := by
  have HF := Lib.hid (And.intro hf hos)
  have HS := Lib.hid hS
  have hkm : (k : Int) ≤ 100 := by omega
  clear hf hos hS
  go_enter Try.func22, Try.ntmps22
  go_wp2
  go_loopw [12] (fun iv wr => RdLp w B rb qb nb k sg X ok0 cs os iv wr) (fun iv _ => k - (intOf1 iv).toNat)
  case atStart => exact ⟨0, rfl, Nat.zero_le _, Lib.hid (by simpa [okR, rest, setsN] using HS.out), Only.refl _ _⟩
  case round =>
    obtain ⟨j, rfl, hj, HV, hO⟩ := hrel
    by_cases hjk : j < k
    · obtain ⟨⟨b, o, n, c, g1, g2⟩, g3, g4⟩ := HV.out
      have f0 := (hO.cell (p := ⟨fb, j, none⟩) hfb f1).trans (HF.out.1 j hjk)
      have e0 := (hO.cell (p := ⟨eb, 0, none⟩) heb f2).trans he
      have r0 : wr.cell? ⟨rb, 0, none⟩ = some (.slice (some ⟨b, o, none⟩) n c) := cell_of_row _ rb 0 _ _ _ g1
      have q0 : wr.cell? ⟨qb, 0, none⟩ = some (.bool (ok0 && okR X j)) := cell_of_row _ qb 0 _ _ _ g3
      have n0 : ∃ u, wr.cell? ⟨nb, os j, none⟩ = some u := by
        have hs : os j < (setsN cs os (fun i => rv sg (rest X i)) j).size := by rw [setsN_size]; exact HF.out.2 j hjk
        refine ⟨(setsN cs os (fun i => rv sg (rest X i)) j)[os j], ?_⟩
        rw [cell_of_row _ nb (os j) _ _ _ g4]
        simp [hs]
      obtain ⟨u, n0⟩ := n0
      have rf : wr.frozen? ⟨rb, 0, none⟩ = false := by simp [World.frozen?, g1]
      have qf : wr.frozen? ⟨qb, 0, none⟩ = false := by simp [World.frozen?, g3]
      have nf : wr.frozen? ⟨nb, os j, none⟩ = false := by simp [World.frozen?, g4]
      have i1 : (0 : Int) ≤ (j : Int) := by omega
      have i2 : (j : Int) < (k : Int) := by omega
      have hln := g2.1.len
      have hcap := g2.1.cap
      have hkl := rk_le (rest X j)
      have HR := Lib.hid (read_one sg (rest X j) _ n c B wr g2)
      obtain ⟨z, hz⟩ : ∃ z, z = rv sg (rest X j) := ⟨_, rfl⟩
      obtain ⟨m, hm⟩ : ∃ m, m = rk (rest X j) := ⟨_, rfl⟩
      obtain ⟨x, hx⟩ : ∃ x, x = re (rest X j) := ⟨_, rfl⟩
      obtain ⟨AD, hAD⟩ : ∃ AD, (if c = m then (some ⟨b, o, none⟩ : Option Addr) else some ⟨b, o + m, none⟩) = AD := ⟨_, rfl⟩
      have hmn : m ≤ n := by omega
      obtain ⟨o', e', hT⟩ := rb_tail2 (a := m) g2 hmn hAD
      subst e'
      obtain ⟨okj, hokj⟩ : ∃ y, y = (ok0 && okR X j) := ⟨_, rfl⟩
      have HZ := Lib.hid (And.intro hz (And.intro hm (And.intro hx (And.intro hT hokj))))
      have hcm : m ≤ c := by omega
      unfold RetR at HR
      rw [← hz, ← hm, ← hx] at HR
      rw [← hokj] at q0
      clear g1 g2 g3 g4 hln hkl hz hm hx hT hokj
      unfold maxLen at hcap
      cases sg
      all_goals
        simp only [fnD] at e0
        go_wp2_with (first
          | (go_at_call 23; refine HR.out.mono ?_; rintro e w2 ⟨rfl, rfl⟩)
          | (go_at_call 24; refine HR.out.mono ?_; rintro e w2 ⟨rfl, rfl⟩))
      all_goals
        rename_i hok
        have hT : RB wr B (.slice (some ⟨b, o', none⟩) (n - m) (c - m)) ((rest X j).drop (rk (rest X j))) := by rw [← HZ.out.2.1]; exact HZ.out.2.2.2.1
      · have hE : (ok0 && okR X (j + 1)) = ((x : Int) == 0) := okE_yes (HZ.out.2.2.2.2.symm.trans hok) HZ.out.2.2.1
        have hst := rd_step (v := z) (off := os j) (ok' := ((x : Int) == 0)) HV.out hT h1 h2 h3 hr hq hn
        exact ⟨⟨j + 1, by go_num, by omega, Lib.hid (by rw [hE]; show RdSt _ B rb qb nb ((rest X j).drop (rk (rest X j))) _ ((setsN cs os _ j).set! (os j) (.int .i64 (rv _ (rest X j)))); rw [← HZ.out.1]; exact hst.1), hO.trans hst.2⟩, by simp [intOf1]; omega⟩
      · have hE : (ok0 && okR X (j + 1)) = false := okE_no (show (ok0 && okR X j) = false by rw [← HZ.out.2.2.2.2]; simpa using hok)
        have hst := rd_step (v := z) (off := os j) (ok' := false) HV.out hT h1 h2 h3 hr hq hn
        exact ⟨⟨j + 1, by go_num, by omega, Lib.hid (by rw [hE]; show RdSt _ B rb qb nb ((rest X j).drop (rk (rest X j))) _ ((setsN cs os _ j).set! (os j) (.int .i64 (rv _ (rest X j)))); rw [← HZ.out.1]; exact hst.1), hO.trans hst.2⟩, by simp [intOf1]; omega⟩
      · have hE : (ok0 && okR X (j + 1)) = ((x : Int) == 0) := okE_yes (HZ.out.2.2.2.2.symm.trans hok) HZ.out.2.2.1
        have hst := rd_step (v := z) (off := os j) (ok' := ((x : Int) == 0)) HV.out hT h1 h2 h3 hr hq hn
        exact ⟨⟨j + 1, by go_num, by omega, Lib.hid (by rw [hE]; show RdSt _ B rb qb nb ((rest X j).drop (rk (rest X j))) _ ((setsN cs os _ j).set! (os j) (.int .i64 (rv _ (rest X j)))); rw [← HZ.out.1]; exact hst.1), hO.trans hst.2⟩, by simp [intOf1]; omega⟩
      · have hE : (ok0 && okR X (j + 1)) = false := okE_no (show (ok0 && okR X j) = false by rw [← HZ.out.2.2.2.2]; simpa using hok)
        have hst := rd_step (v := z) (off := os j) (ok' := false) HV.out hT h1 h2 h3 hr hq hn
        exact ⟨⟨j + 1, by go_num, by omega, Lib.hid (by rw [hE]; show RdSt _ B rb qb nb ((rest X j).drop (rk (rest X j))) _ ((setsN cs os _ j).set! (os j) (.int .i64 (rv _ (rest X j)))); rw [← HZ.out.1]; exact hst.1), hO.trans hst.2⟩, by simp [intOf1]; omega⟩
    · obtain rfl : j = k := by omega
      go_wp2
      go_end0
      exact ⟨rfl, HV.out, hO⟩
end Go.Proofs.Ytfalhfgnobjfgaa
