/-
  A record's numbers: their encodings; a variable of the call's own that holds bytes.
-/
import Derived.Test.YtfalhfgnobjfgaaZEnc
import Derived.Test.YtfalhfgnobjfgaaZMap
import Derived.Test.YtfalhfgnobjfgaaKSync
import Derived.Deep.RegionLaw
import Derived.Deep.RegionHeld3
namespace Go.Proofs.Ytfalhfgnobjfgaa
open Go.RowKit Go.Maps

/-- Bytes of the call's own. -/
def Bd (w : World) (v : Value) (X : List Nat) : Prop := w.ownsRow 0 5 1 v X.length (bys X)
set_option maxRecDepth 100000 in
theorem bd_rb {w : World} {v : Value} {X : List Nat} (h : Bd w v X) : RB w w.heap.size v X := (rb_of_owns h).2
set_option maxRecDepth 100000 in
theorem bd_owns {w : World} {base n : Nat} {v : Value} {X : List Nat} (h : w.ownsRow base 5 1 v n (bys X)) : Bd w v X := by
  have hn := (rb_of_owns h).1
  subst hn
  exact owns_base h (Nat.zero_le _)
/-- The set has no block of bytes. -/
def NoB (w : World) (S : Nat → Prop) : Prop := ∀ k cs fr, w.heap[k]? = some (.cells cs 5 fr) → ¬ S k
set_option maxRecDepth 100000 in
theorem Bd.only {w w' : World} {S : Nat → Prop} {v : Value} {X : List Nat} (h : Bd w v X) (ho : Only S w w') (hS : NoB w S) : Bd w' v X :=
  ho.own h (fun k hk => by obtain ⟨_, _, cs, hc⟩ := own_block h hk; exact hS k cs _ hc)
theorem Bd.below {w w' : World} {v : Value} {X : List Nat} (h : Bd w v X) (hb : Below w.heap.size w w') : Bd w' v X :=
  h.only (S := fun _ => False) (only_below hb) (fun _ _ _ _ h => h)
theorem nob_one {w : World} {g : Nat} {cs : Array Value} {T : TypeId} {fr : Nat × Nat} (hg : w.heap[g]? = some (.cells cs T fr)) (hT : T ≠ 5) : NoB w (fun k => k = g) := fun k cs' fr' hk e => by
  subst e
  rw [hg] at hk
  injection hk with hk
  injection hk with _ hk
  exact hT hk

/-- The encoding of a number, of a signed one. -/
def nmE (sg : Bool) (z : Int) : List Nat := if sg = true then enc7 (zig z) else enc7 z.toNat
def nmOk (sg : Bool) (z : Int) : Prop := if sg = true then -2305843009213693952 ≤ z ∧ z ≤ 2305843009213693951 else 0 ≤ z ∧ z ≤ 4611686018427387903
theorem nmE_len {sg : Bool} {z : Int} (h : nmOk sg z) : (nmE sg z).length ≤ 9 := by
  cases sg with
  | true => exact enc7_len9 (zig_le h.1 h.2)
  | false => obtain ⟨h1, h2⟩ := (show 0 ≤ z ∧ z ≤ 4611686018427387903 from h); exact enc7_len9 (by omega)
def encs (sg : Bool) (zs : Nat → Int) : Nat → List Nat
  | 0 => []
  | j + 1 => encs sg zs j ++ nmE sg (zs j)
theorem encs_len {sg : Bool} {zs : Nat → Int} : ∀ (k : Nat), (∀ j, j < k → nmOk sg (zs j)) → (encs sg zs k).length ≤ 9 * k
  | 0, _ => by simp [encs]
  | k + 1, h => by
    have h1 := encs_len k (fun j hj => h j (by omega))
    have h2 := nmE_len (h k (by omega))
    simp only [encs, List.length_append]
    omega

def fnE : Bool → Nat
  | true => 15
  | false => 14
def fnR : Bool → Nat
  | true => 31
  | false => 29
theorem write_one (sg : Bool) (L : List Nat) (z : Int) (A : Option Addr) (n c B : Nat) (hn : n ≤ 1048576) (hz : nmOk sg z) (w : World) (hx : RB w B (.slice A n c) L) (hB : B ≤ w.heap.size) :
    Calls Try.prog (fnE sg) #[.slice A n c, .int .i64 z] w (RetNum w (L ++ nmE sg z)) := by
  cases sg with
  | true =>
    have h := signed_any L z A n c B hn w hx hB
    have hq : ¬ (z < -2305843009213693952 ∨ 2305843009213693951 < z) := by have := (show -2305843009213693952 ≤ z ∧ z ≤ 2305843009213693951 from hz); omega
    unfold sigC sigL at h
    rw [if_neg hq, if_neg hq] at h
    exact h
  | false =>
    have h := number_any L z A n c B hn w hx hB
    have hq : ¬ (z < 0 ∨ 4611686018427387903 < z) := by have := (show 0 ≤ z ∧ z ≤ 4611686018427387903 from hz); omega
    unfold numC numL at h
    rw [if_neg hq, if_neg hq] at h
    exact h
theorem rwrite_one (sg : Bool) (L : List Nat) (z : Int) (A : Option Addr) (n c B : Nat) (hn : n ≤ 1048576) (hz : nmOk sg z) (w : World) (hx : RB w B (.slice A n c) L) (hB : B ≤ w.heap.size) :
    Calls Try.prog (fnR sg) #[.slice A n c, .int .i64 z] w (RetNum w (L ++ nmE sg z)) := by
  cases sg with
  | true =>
    have h := refSigned_any L z A n c B hn w hx hB
    have hq : ¬ (z < -2305843009213693952 ∨ 2305843009213693951 < z) := by have := (show -2305843009213693952 ≤ z ∧ z ≤ 2305843009213693951 from hz); omega
    unfold sigC sigL at h
    rw [if_neg hq, if_neg hq] at h
    exact h
  | false =>
    have h := refNumber_any L z A n c B hn w hx hB
    have hq : ¬ (z < 0 ∨ 4611686018427387903 < z) := by have := (show 0 ≤ z ∧ z ≤ 4611686018427387903 from hz); omega
    unfold numC numL at h
    rw [if_neg hq, if_neg hq] at h
    exact h

/-- Block bb is a variable that holds bytes of the call's own. -/
def VarB (w : World) (bb : Nat) (L : List Nat) : Prop := ∃ v, w.heap[bb]? = some (.cells #[v] 30 (0, 0)) ∧ Bd w v L
theorem VarB.below {w w' : World} {bb : Nat} {L : List Nat} (h : VarB w bb L) (hb : Below w.heap.size w w') : VarB w' bb L := by
  obtain ⟨v, h1, h2⟩ := h
  exact ⟨v, (hb.block bb (Array.getElem?_eq_some_iff.1 h1).1).trans h1, h2.below hb⟩
theorem VarB.lt {w : World} {bb : Nat} {L : List Nat} (h : VarB w bb L) : bb < w.heap.size := by
  obtain ⟨v, h1, _⟩ := h
  exact (Array.getElem?_eq_some_iff.1 h1).1
/-- A store into the variable. -/
theorem varB_set {w w1 : World} {bb : Nat} {v u : Value} {X : List Nat} (h : w.heap[bb]? = some (.cells #[v] 30 (0, 0))) (hb : Below w.heap.size w w1) (hu : Bd w1 u X) : VarB (w1.setCell ⟨bb, 0, none⟩ u) bb X ∧ Only (fun k => k = bb) w (w1.setCell ⟨bb, 0, none⟩ u) := by
  have h1 := (hb.block bb (Array.getElem?_eq_some_iff.1 h).1).trans h
  have hO : Only (fun k => k = bb) w1 (w1.setCell ⟨bb, 0, none⟩ u) := only_set _ rfl
  refine ⟨⟨u, ?_, hu.only hO (nob_one h1 (by decide))⟩, (only_below hb).trans hO⟩
  rw [heap_setCell_same w1 bb 0 _ _ _ h1]
  rfl

def WrR (w : World) (bb k : Nat) (sg : Bool) (zs : Nat → Int) (L : List Nat) (iv : Value) (wr : World) : Prop :=
  ∃ j : Nat, iv = .int .i64 (j : Int) ∧ j ≤ k ∧ Hid (VarB wr bb (L ++ encs sg zs j)) ∧ Only (fun k => k = bb) w wr
def RetWr (w : World) (bb : Nat) (L : List Nat) (e : Ending) (w' : World) : Prop := e = .returned (.tuple #[]) ∧ VarB w' bb L ∧ Only (fun k => k = bb) w w'

set_option maxRecDepth 100000 in
set_option maxHeartbeats 1000000 in
theorem writer_any (sg : Bool) (fb eb bb nb k : Nat) (os : Nat → Nat) (zs : Nat → Int) (L : List Nat) (w : World) (hfb : fb < w.heap.size) (hf : ∀ j, j < k → w.cell? ⟨fb, j, none⟩ = some (.pointer (some ⟨nb, os j, none⟩)))
    (hnb : nb < w.heap.size) (hv : ∀ j, j < k → w.cell? ⟨nb, os j, none⟩ = some (.int .i64 (zs j))) (hok : ∀ j, j < k → nmOk sg (zs j)) (he : w.cell? ⟨eb, 0, none⟩ = some (.func (.func (fnE sg)) #[] #[])) (heb : eb < w.heap.size)
    (hL : VarB w bb L) (hl : L.length ≤ 1000) (hk : k ≤ 100) (h1 : fb ≠ bb) (h2 : nb ≠ bb) (h3 : eb ≠ bb) :
    Calls Try.prog 12 #[.slice (some ⟨fb, 0, none⟩) k k, .pointer (some ⟨eb, 0, none⟩), .pointer (some ⟨bb, 0, none⟩)] w (RetWr w bb (L ++ encs sg zs k)) := by
  have HF := Lib.hid (And.intro hf (And.intro hv hok))
  have HL := Lib.hid hL
  have hkm : (k : Int) ≤ 100 := by omega
  clear hf hv hok hL
  go_enter Try.func12, Try.ntmps12
  go_wp2
  go_loopw [8] (fun iv wr => WrR w bb k sg zs L iv wr) (fun iv _ => k - (intOf1 iv).toNat)
  case atStart => exact ⟨0, rfl, Nat.zero_le _, Lib.hid (by simpa [encs] using HL.out), Only.refl _ _⟩
  case round =>
    obtain ⟨j, rfl, hj, HV, hO⟩ := hrel
    by_cases hjk : j < k
    · obtain ⟨v, hb, hB⟩ := HV.out
      obtain ⟨A, c, e0⟩ := (bd_rb hB).form
      subst e0
      have f0 := (hO.cell (p := ⟨fb, j, none⟩) hfb h1).trans (HF.out.1 j hjk)
      have n0 := (hO.cell (p := ⟨nb, os j, none⟩) hnb h2).trans (HF.out.2.1 j hjk)
      have e0 := (hO.cell (p := ⟨eb, 0, none⟩) heb h3).trans he
      have b0 : wr.cell? ⟨bb, 0, none⟩ = some (.slice A (L ++ encs sg zs j).length c) := cell_of_row _ bb 0 _ _ _ hb
      have bf : wr.frozen? ⟨bb, 0, none⟩ = false := by simp [World.frozen?, hb]
      have hbl := (Array.getElem?_eq_some_iff.1 hb).1
      have hq := HF.out.2.2 j hjk
      have i1 : (0 : Int) ≤ (j : Int) := by omega
      have i2 : (j : Int) < (k : Int) := by omega
      have hlen : (L ++ encs sg zs j).length ≤ 1048576 := by
        have := encs_len (sg := sg) (zs := zs) j (fun i hi => HF.out.2.2 i (by omega))
        rw [List.length_append]
        omega
      obtain ⟨N, hN⟩ : ∃ N, N = (L ++ encs sg zs j).length := ⟨_, rfl⟩
      have HN := Lib.hid hN
      rw [← hN] at b0 hlen
      have HB := Lib.hid (And.intro hb hB)
      have HQ := Lib.hid hq
      clear hb hB hN hq
      go_wp2_with fail
      have KK := Lib.hid (fun (w' : World) (hb : Below wr.heap.size wr w') => (⟨(hb.cell (p := ⟨bb, 0, none⟩) hbl).trans b0, (hb.frozen (p := ⟨bb, 0, none⟩) hbl).trans bf⟩ : w'.cell? ⟨bb, 0, none⟩ = some (.slice A N c) ∧ w'.frozen? ⟨bb, 0, none⟩ = false))
      obtain ⟨M, hM⟩ : ∃ M, M = (L ++ encs sg zs j) ++ nmE sg (zs j) := ⟨_, rfl⟩
      have HM := Lib.hid hM
      clear hM
      cases sg
      all_goals
        simp only [fnE] at e0
        go_region_law
          (first
            | (go_simp
               first | go_at_call 14 | go_at_call 15
               refine (write_one _ (L ++ encs _ zs j) (zs j) A N c wr.heap.size hlen HQ.out _ (by have := bd_rb HB.out.2; rw [← HN.out] at this; exact ⟨this.1.drew, this.2⟩) (by exact Nat.le_refl _)).mono ?_
               rintro e w2 ⟨v2, rfl, o2, b2⟩
               rw [← HM.out] at o2
               have hb2 : Below wr.heap.size wr w2 := below_un b2
               obtain ⟨k1c, k1f⟩ := KK.out w2 hb2
               obtain ⟨A2, c2, e2⟩ := (bd_rb (bd_owns o2)).form
               subst e2
               have HS := Lib.hid (varB_set HB.out.1 hb2 (bd_owns o2))
               clear o2 b2 hb2))
      all_goals
        have HO := Lib.hid (hO.trans HS.out.2)
        have HS1 := Lib.hid HS.out.1
        clear k1c k1f
        go_wp2
        go_roundw
        case rel => exact ⟨j + 1, by go_num, by omega, (by show Hid (VarB _ bb (L ++ (encs _ zs j ++ nmE _ (zs j)))); rw [← List.append_assoc, ← HM.out]; exact HS1), HO.out⟩
        case measure => simp [intOf1]; omega
    · obtain rfl : j = k := by omega
      go_wp2
      go_end0
      exact ⟨rfl, HV.out, hO⟩
end Go.Proofs.Ytfalhfgnobjfgaa
