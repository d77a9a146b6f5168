/-
  Scan of nil; the document's.
  Stores into a block, one cell behind the other; slices.Delete of one element of a list of slices of bytes.
-/
import Derived.Test.YtkakbeiehggkiaaH20
import Derived.Test.YtkakbeiehggkiaaH04
import Derived.Lib.SliceRun
import Derived.Deep.RegionLaw
namespace Go.Proofs.Ytkakbeiehggkiaa
open Go.RowKit


set_option maxRecDepth 100000 in
set_option maxHeartbeats 1000000 in
theorem scan_none (w : World) : Calls Try.prog 83 #[.slice none 0 0] w (RetScan w []) := by
  have hE : upE [] = 21 := upE_nil rfl
  have hS : scanF (([] : List Nat).length + 1) [] = ([], 0, 0) := scanF_short hE
  have U := unpack_any [] (by intro x hx; cases hx) none 0 0 0 w rb_nil (Nat.zero_le _)
  unfold RetUpL at U
  obtain ⟨u1, u2, u3, u4, u5⟩ := up_bad hE (by omega)
  rw [u1, u2, u3, u4, u5] at U
  have HU := Lib.hid U
  have HS := Lib.hid hS
  clear U u1 u2 u3 u4 u5 hE hS
  go_enter Try.func83, Try.ntmps83
  go_wp2
  go_step3
  go_wp2
  go_step3
  go_wp2
  go_loopw [2, 3, 5] (fun fv sv av wr => fv = .slice none 0 0 ∧ sv = .int .i64 0 ∧ av = .int .i64 0 ∧ wr = w) (fun _ _ _ _ => 0)
  case atStart => exact ⟨rfl, rfl, rfl, rfl⟩
  case round =>
    obtain ⟨rfl, rfl, rfl, rfl⟩ := hrel
    go_wp2_with fail
    refine HU.out.mono ?_
    rintro e w1 ⟨v1, rfl, r1, b1⟩
    obtain ⟨A1, c1, rfl⟩ := r1.form
    go_wp2
    first | rw [Exit.noGoto_ret] | skip
    go_ret3
    unfold RetScan
    rw [HS.out]
    exact ⟨_, rfl, frs_nil _ _, b1.alloc b1.size _⟩

set_option maxRecDepth 100000 in
set_option maxHeartbeats 1000000 in
theorem refScan_none (w : World) : Calls Try.prog 74 #[.slice none 0 0] w (RetScan w []) := by
  have hE : upE [] = 21 := upE_nil rfl
  have hS : scanF (([] : List Nat).length + 1) [] = ([], 0, 0) := scanF_short hE
  have U := refUnpack_any [] (by intro x hx; cases hx) none 0 0 0 w rb_nil (Nat.zero_le _)
  unfold RetUpL at U
  obtain ⟨u1, u2, u3, u4, u5⟩ := up_bad hE (by omega)
  rw [u1, u2, u3, u4, u5] at U
  have HU := Lib.hid U
  have HS := Lib.hid hS
  clear U u1 u2 u3 u4 u5 hE hS
  go_enter Try.func74, Try.ntmps74
  go_wp2
  go_loopw [2, 3, 5] (fun fv sv av wr => fv = .slice none 0 0 ∧ sv = .int .i64 0 ∧ av = .int .i64 0 ∧ wr = w) (fun _ _ _ _ => 0)
  case atStart => exact ⟨rfl, rfl, rfl, rfl⟩
  case round =>
    obtain ⟨rfl, rfl, rfl, rfl⟩ := hrel
    go_wp2_with fail
    refine HU.out.mono ?_
    rintro e w1 ⟨v1, rfl, r1, b1⟩
    obtain ⟨A1, c1, rfl⟩ := r1.form
    go_wp2
    first | rw [Exit.noGoto_ret] | skip
    go_ret3
    unfold RetScan
    rw [HS.out]
    exact ⟨_, rfl, frs_nil _ _, b1.alloc b1.size _⟩

set_option maxRecDepth 100000 in
set_option maxHeartbeats 2000000 in
theorem refScan_some (L : List Nat) (hb : AllB L) (b o : Nat) (n c B : Nat) (h64 : n ≤ 1048576) (w : World) (hx : RB w B (.slice (some ⟨b, o, none⟩) n c) L) (hB : B ≤ w.heap.size) :
    Calls Try.prog 74 #[.slice (some ⟨b, o, none⟩) n c] w (RetScan w L) := by
  obtain ⟨i0, hi0, hz0, hz1, hz2⟩ := info_parts infoF
  have HXL := Lib.hid hx.1.len
  have hcap := hx.1.cap
  unfold maxLen at hcap
  have HB := Lib.hid (And.intro hb hx)
  clear hb hx
  go_enter Try.func74, Try.ntmps74
  go_wp2
  go_loopw [2, 3, 5] (fun fv sv av wr => ScanRel w L fv sv av wr) (fun _ _ av _ => n - (intOf1 av).toNat)
  case atStart => exact ⟨0, L.length + 1, 0, [], rfl, rfl, Nat.zero_le _, Nat.le_refl _, scanAt_start L, frs_nil _ _, Below.refl _ _⟩
  case round =>
    obtain ⟨a, fuel, sk, Fs, rfl, rfl, haL, hsk, HA, HF, hbw⟩ := hrel
    have han : a ≤ n := by rw [HXL.out]; exact haL
    obtain ⟨AD, hAD⟩ : ∃ AD, (if c = a then (some ⟨b, o, none⟩ : Option Addr) else some ⟨b, o + a, none⟩) = AD := ⟨_, rfl⟩
    have HD := Lib.hid (rb_tail (HB.out.2.belowM hbw hB) han hAD)
    obtain ⟨D, hD⟩ : ∃ D, D = L.drop a := ⟨_, rfl⟩
    have hDB : AllB D := by rw [hD]; exact fun x hx => HB.out.1 x (List.mem_of_mem_drop hx)
    have U := refUnpack_strong D hDB AD (n - a) (c - a) B wr (by rw [hD]; exact HD.out) (Nat.le_trans hB hbw.size)
    have HDD := Lib.hid (And.intro hD hDB)
    have hbd : upE D = 0 → upN D ≤ n - a ∧ 12 ≤ upN D := fun h => by
      have h1 := upE_fits h
      have h2 : D.length = n - a := by rw [hD, List.length_drop, HXL.out]
      omega
    have hbd2 : upE D ≠ 21 → a < n := fun h => by
      have h1 : D.length ≠ 0 := fun e => h (upE_nil e)
      have h2 : D.length = n - a := by rw [hD, List.length_drop, HXL.out]
      omega
    obtain ⟨st, hst⟩ : ∃ x, x = upSt D := ⟨_, rfl⟩
    obtain ⟨sq, hsq⟩ : ∃ x, x = upSq D := ⟨_, rfl⟩
    obtain ⟨X, hX⟩ : ∃ x, x = upX D := ⟨_, rfl⟩
    obtain ⟨sz, hsz⟩ : ∃ x, x = upN D := ⟨_, rfl⟩
    obtain ⟨er, her⟩ : ∃ x, x = upE D := ⟨_, rfl⟩
    have HU : Hid (Calls Try.prog 86 #[.slice AD (n - a) (c - a)] wr (RetUpS wr st sq X sz er)) := by rw [hst, hsq, hX, hsz, her]; exact U
    rw [← hsz, ← her] at hbd
    rw [← her] at hbd2
    have HE := Lib.hid (And.intro hst (And.intro hsq (And.intro hX (And.intro hsz her))))
    have HW := Lib.hid hbw
    have hbs := hbw.size
    obtain ⟨k, hk⟩ : ∃ k, n - a = k := ⟨_, rfl⟩
    obtain ⟨cd, hcd⟩ : ∃ cd, c - a = cd := ⟨_, rfl⟩
    have HU2 := Lib.hid (hk ▸ hcd ▸ HU.out : Calls Try.prog 86 #[.slice AD k cd] wr (RetUpS wr st sq X sz er))
    clear hD hDB U hst hsq hX hsz her hbw HD HU
    go_wp2_with fail
    refine HU2.out.mono ?_
    rintro e w1 ⟨v1, rfl, r1, b1, fresh⟩
    obtain ⟨A1, c1, rfl⟩ := r1.form
    obtain ⟨lx, hlx⟩ : ∃ l, l = X.length := ⟨_, rfl⟩
    rw [← hlx] at r1 fresh
    rw [← hlx]
    have hs1 := b1.size
    have FF := Lib.hid (frs_below HF.out b1)
    have HFL := Lib.hid (frs_lt HF.out)
    have f1 : Below w.heap.size w w1 := HW.out.trans (b1.mono HW.out.size)
    have R1 := Lib.hid (And.intro r1 (And.intro fresh f1))
    clear r1 b1 fresh f1 hlx HF
    have hka : (n : Int) - (a : Int) = (k : Int) := by omega
    by_cases h21 : er = 21
    · subst h21
      have hE := scanAt_end HA.out (by rw [← HDD.out.1]; exact HE.out.2.2.2.2.symm)
      rw [show L.length - a = k from by rw [← HXL.out]; exact hk] at hE
      have HEE := Lib.hid hE
      clear hE hbd hbd2
      go_wp2
      first | rw [Exit.noGoto_ret] | skip
      go_ret3
      unfold RetScan
      rw [HEE.out]
      refine ⟨_, rfl, ?_, ?_⟩
      · exact frs_below FF.out ((Below.refl _ _).alloc (Nat.le_refl _) _)
      · exact R1.out.2.2.alloc R1.out.2.2.size _
    · by_cases h0 : er = 0
      · subst h0
        obtain ⟨hz1', hz2'⟩ := hbd rfl
        have hFl : Fs.length ≤ a := HA.out.2.2.1
        obtain ⟨vs, hv1, hv2, hv3⟩ := FF.out
        have HV := Lib.hid (And.intro hv1 (And.intro hv2 hv3))
        have hg2 : ∀ (F G : Obj), Below w1.heap.size w1 ((w1.alloc F).alloc G) := fun F G => ((Below.refl _ _).alloc (Nat.le_refl _) F).alloc (by simp) G
        have TC := Lib.hid (three_cells (w1.alloc (.cells #[.int .i64 (st : Int), .int .i64 (sq : Int), .slice A1 lx c1] 35)) 35 (.int .i64 (st : Int)) (.int .i64 (sq : Int)) (.slice A1 lx c1))
        have esz : (w1.alloc (.cells #[.int .i64 (st : Int), .int .i64 (sq : Int), .slice A1 lx c1] 35)).heap.size = w1.heap.size + 1 := by simp
        rw [esz] at TC
        have hWa : IntKind.i64.wrap ((a : Int) + (sz : Int)) = ((a + sz : Nat) : Int) := by rw [IntKind.wrap_i64]; omega
        clear hv1 hv2 hv3 hbd hbd2 esz
        go_wp2_with (at_builtin
                     refine wpList_append_own_at _ rfl (.tmp 27) (.tmp 29) _ rfl w.heap.size 35 i0 _ 3 40 Try.underlying63 hi0 hz0 hz1 hz2 rfl (by decide) _ Fs.length _ rfl ((HV.out.2.1.alloc _).alloc _) ⟨w1.heap.size + 1, 0, none⟩ 1 1 [.int .i64 (st : Int), .int .i64 (sq : Int), .slice A1 lx c1] rfl rfl TC.out (by intro u hu; simp at hu; rcases hu with rfl | rfl | rfl <;> rfl) (by unfold maxLen; omega) (by omega) (by simp; omega) ?_)
        intro v' w' ho hg _ hr
        have hgA := hg2 (.cells #[.int .i64 (st : Int), .int .i64 (sq : Int), .slice A1 lx c1] 35) (.cells #[.int .i64 (st : Int), .int .i64 (sq : Int), .slice A1 lx c1] 35)
        have hFS : FrS w' w.heap.size v' (Fs ++ [(st, sq, X)]) := by
          refine frs_append HV.out.1 (fun i hi hi' => rbn_grown (HV.out.2.2 i hi hi') (grown_of_below hgA _) (Or.inl rfl)) ho hg (by simpa using hr) ⟨(R1.out.1.below hgA).more hgA.size, fun b2 o2 n2 c2 e h02 => ?_⟩
          injection e with e1 e2 e3
          subst e1
          have h1 := R1.out.2.1 b2 o2 lx c1 rfl
          intro h
          have h3 := HFL.out b2 h.symm
          omega
        have HS := Lib.hid (scanAt_ok HA.out (by rw [← HDD.out.1]; exact HE.out.2.2.2.2.symm))
        have hbw' : Below w.heap.size w w' := grown_belowB ((R1.out.2.2.alloc R1.out.2.2.size _).alloc (by have := R1.out.2.2.size; simp; omega) _) (Nat.le_refl _) hg (fun k hk => (World.ownsRow.lt HV.out.2.1 k hk).1)
        have HFS := Lib.hid (And.intro hFS hbw')
        clear ho hg hr hgA hFS hbw'
        go_wp2
        go_roundw
        case rel =>
          refine ⟨a + sz, fuel - 1, sk, Fs ++ [(st, sq, X)], by go_num, rfl, by rw [← HXL.out]; omega, by omega, ?_, HFS.out.1, HFS.out.2⟩
          show ScanAt L (a + sz) (fuel - 1) sk (Fs ++ [(st, sq, X)])
          have := HS.out
          rw [← HDD.out.1, ← HE.out.1, ← HE.out.2.1, ← HE.out.2.2.1, ← HE.out.2.2.2.1] at this
          exact this
        case measure => simp [intOf1]; omega
      · have q1 : ((er : Int) == 0) = false := by rw [beq_eq_false_iff_ne]; omega
        have q2 : ((er : Int) == 21) = false := by rw [beq_eq_false_iff_ne]; omega
        have han2 : a < n := hbd2 h21
        have HS := Lib.hid (scanAt_skip HA.out (by rw [← HDD.out.1, ← HE.out.2.2.2.2]; exact h21) (by rw [← HDD.out.1, ← HE.out.2.2.2.2]; exact h0))
        clear hbd hbd2
        go_wp2
        go_roundw
        case rel => exact ⟨a + 1, fuel - 1, sk + 1, Fs, by go_num, by go_num, by rw [← HXL.out]; omega, by omega, HS.out, frs_below FF.out ((Below.refl _ _).alloc (Nat.le_refl _) _), R1.out.2.2.alloc R1.out.2.2.size _⟩
        case measure => simp [intOf1]; omega

theorem rb_empty {w : World} {B c : Nat} {a : Addr} (hc : c ≤ maxLen) : RB w B (.slice (some a) 0 c) [] := ⟨RW.mk rfl (Nat.zero_le _) hc (fun h => absurd h (by omega)), nz_some⟩
set_option maxRecDepth 100000 in
set_option maxHeartbeats 1000000 in
theorem scan_empty (a : Addr) (c : Nat) (hc : c ≤ 9223372036854775807) (w : World) : Calls Try.prog 83 #[.slice (some a) 0 c] w (RetScan w []) := by
  have hE : upE [] = 21 := upE_nil rfl
  have hS : scanF (([] : List Nat).length + 1) [] = ([], 0, 0) := scanF_short hE
  have U : ∀ (b : Addr), Calls Try.prog 91 #[.slice (some b) 0 c] w (RetUpL w []) := fun b => unpack_any [] (by intro x hx; cases hx) (some b) 0 c 0 w (rb_empty (by unfold maxLen; omega)) (Nat.zero_le _)
  unfold RetUpL at U
  obtain ⟨u1, u2, u3, u4, u5⟩ := up_bad hE (by omega)
  rw [u1, u2, u3, u4, u5] at U
  have HU := Lib.hid U
  have HS := Lib.hid hS
  clear U u1 u2 u3 u4 u5 hE hS
  go_enter Try.func83, Try.ntmps83
  go_wp2
  go_step3
  go_wp2
  go_step3
  go_wp2
  go_loopw [2, 3, 5] (fun fv sv av wr => fv = .slice none 0 0 ∧ sv = .int .i64 0 ∧ av = .int .i64 0 ∧ wr = w) (fun _ _ _ _ => 0)
  case atStart => exact ⟨rfl, rfl, rfl, rfl⟩
  case round =>
    obtain ⟨rfl, rfl, rfl, rfl⟩ := hrel
    go_wp2_with fail
    refine (HU.out _).mono ?_
    rintro e w1 ⟨v1, rfl, r1, b1⟩
    obtain ⟨A1, c1, rfl⟩ := r1.form
    go_wp2
    first | rw [Exit.noGoto_ret] | skip
    go_ret3
    unfold RetScan
    rw [HS.out]
    exact ⟨_, rfl, frs_nil _ _, b1.alloc b1.size _⟩

set_option maxRecDepth 100000 in
set_option maxHeartbeats 1000000 in
theorem refScan_empty (a : Addr) (c : Nat) (hc : c ≤ 9223372036854775807) (w : World) : Calls Try.prog 74 #[.slice (some a) 0 c] w (RetScan w []) := by
  have hE : upE [] = 21 := upE_nil rfl
  have hS : scanF (([] : List Nat).length + 1) [] = ([], 0, 0) := scanF_short hE
  have U : ∀ (b : Addr), Calls Try.prog 86 #[.slice (some b) 0 c] w (RetUpL w []) := fun b => refUnpack_any [] (by intro x hx; cases hx) (some b) 0 c 0 w (rb_empty (by unfold maxLen; omega)) (Nat.zero_le _)
  unfold RetUpL at U
  obtain ⟨u1, u2, u3, u4, u5⟩ := up_bad hE (by omega)
  rw [u1, u2, u3, u4, u5] at U
  have HU := Lib.hid U
  have HS := Lib.hid hS
  clear U u1 u2 u3 u4 u5 hE hS
  go_enter Try.func74, Try.ntmps74
  go_wp2
  go_loopw [2, 3, 5] (fun fv sv av wr => fv = .slice none 0 0 ∧ sv = .int .i64 0 ∧ av = .int .i64 0 ∧ wr = w) (fun _ _ _ _ => 0)
  case atStart => exact ⟨rfl, rfl, rfl, rfl⟩
  case round =>
    obtain ⟨rfl, rfl, rfl, rfl⟩ := hrel
    go_wp2_with fail
    refine (HU.out _).mono ?_
    rintro e w1 ⟨v1, rfl, r1, b1⟩
    obtain ⟨A1, c1, rfl⟩ := r1.form
    go_wp2
    first | rw [Exit.noGoto_ret] | skip
    go_ret3
    unfold RetScan
    rw [HS.out]
    exact ⟨_, rfl, frs_nil _ _, b1.alloc b1.size _⟩

theorem scan_any (L : List Nat) (hb : AllB L) (A : Option Addr) (n c B : Nat) (h64 : n ≤ 1048576) (w : World) (hx : RB w B (.slice A n c) L) (hB : B ≤ w.heap.size) : Calls Try.prog 83 #[.slice A n c] w (RetScan w L) := by
  cases A with
  | none =>
    obtain ⟨rfl, rfl⟩ := hx.2 _ _ rfl
    have : L = [] := List.eq_nil_of_length_eq_zero hx.1.len.symm
    subst this
    exact scan_none w
  | some a =>
    by_cases hn : n = 0
    · subst hn
      have : L = [] := List.eq_nil_of_length_eq_zero hx.1.len.symm
      subst this
      have := hx.1.cap.2
      unfold maxLen at this
      exact scan_empty a c (by omega) w
    · obtain ⟨b, o, e, _, _⟩ := hx.1.at_ (by omega)
      injection e with e
      subst e
      exact scan_some L hb b o n c B h64 w hx hB
theorem refScan_any (L : List Nat) (hb : AllB L) (A : Option Addr) (n c B : Nat) (h64 : n ≤ 1048576) (w : World) (hx : RB w B (.slice A n c) L) (hB : B ≤ w.heap.size) : Calls Try.prog 74 #[.slice A n c] w (RetScan w L) := by
  cases A with
  | none =>
    obtain ⟨rfl, rfl⟩ := hx.2 _ _ rfl
    have : L = [] := List.eq_nil_of_length_eq_zero hx.1.len.symm
    subst this
    exact refScan_none w
  | some a =>
    by_cases hn : n = 0
    · subst hn
      have : L = [] := List.eq_nil_of_length_eq_zero hx.1.len.symm
      subst this
      have := hx.1.cap.2
      unfold maxLen at this
      exact refScan_empty a c (by omega) w
    · obtain ⟨b, o, e, _, _⟩ := hx.1.at_ (by omega)
      injection e with e
      subst e
      exact refScan_some L hb b o n c B h64 w hx hB
end Go.Proofs.Ytkakbeiehggkiaa

namespace Go.Proofs.Ytkakbeiehggkiaa
open Go.RowKit

/-- Cells laid over others from o on. -/
def layA (cs : Array Value) (o : Nat) : List Value → Array Value
  | [] => cs
  | v :: vs => layA (cs.setIfInBounds o v) (o + 1) vs
theorem layA_size : ∀ (vs : List Value) (cs : Array Value) (o : Nat), (layA cs o vs).size = cs.size
  | [], _, _ => rfl
  | v :: vs, cs, o => by simp [layA, layA_size vs]
theorem layA_get : ∀ (vs : List Value) (cs : Array Value) (o k : Nat), o + vs.length ≤ cs.size → (layA cs o vs)[k]? = if o ≤ k ∧ k < o + vs.length then vs[k - o]? else cs[k]?
  | [], cs, o, k, _ => by
    have : ¬ (o ≤ k ∧ k < o + ([] : List Value).length) := by rw [List.length_nil]; omega
    rw [if_neg this]
    rfl
  | v :: vs, cs, o, k, h => by
    simp only [List.length_cons] at h
    show (layA (cs.setIfInBounds o v) (o + 1) vs)[k]? = _
    rw [layA_get vs (cs.setIfInBounds o v) (o + 1) k (by simp; omega)]
    by_cases h1 : o + 1 ≤ k ∧ k < o + 1 + vs.length
    · rw [if_pos h1, if_pos (by rw [List.length_cons]; omega)]
      have e : k - o = (k - (o + 1)) + 1 := by omega
      rw [e, List.getElem?_cons_succ]
    · rw [if_neg h1]
      by_cases h2 : k = o
      · have h3 : o < cs.size := by omega
        rw [h2, if_pos (by rw [List.length_cons]; omega), Nat.sub_self, List.getElem?_cons_zero, Array.getElem?_setIfInBounds_self_of_lt h3]
      · rw [if_neg (by rw [List.length_cons]; omega)]
        rw [Array.getElem?_setIfInBounds_ne (fun e => h2 e.symm)]
theorem heap_setCells_same (g : Nat) (T : TypeId) : ∀ (vs : List Value) (w : World) (cs : Array Value) (o : Nat), w.heap[g]? = some (.cells cs T (0, 0)) → (w.setCells g o vs).heap[g]? = some (.cells (layA cs o vs) T (0, 0))
  | [], w, cs, o, h => h
  | v :: vs, w, cs, o, h => by
    show ((w.setCell ⟨g, o, none⟩ v).setCells g (o + 1) vs).heap[g]? = _
    exact heap_setCells_same g T vs _ _ _ (heap_setCell_same w g o cs T v h)
theorem only_setCells (g : Nat) : ∀ (vs : List Value) (w : World) (o : Nat), Only (fun k => k = g) w (w.setCells g o vs)
  | [], w, o => Only.refl _ _
  | v :: vs, w, o => (only_set (S := fun k => k = g) (p := ⟨g, o, none⟩) v rfl).trans (only_setCells g vs _ _)

theorem infoL : (Try.prog.info? 33).map (fun i => (i.zero, i.size, i.bytes)) = some (some (.slice none 0 0), 1, 24) := by kernel_rfl
theorem zeroL (w : World) : (zeroValue 33).run Try.prog w = .ok (.slice none 0 0) w := by kernel_rfl

/-- A block that holds a list of slices: n of them, room for c. -/
def RetDelete (w : World) (g n c i : Nat) (cur : Array Value) (e : Ending) (w' : World) : Prop :=
  e = .returned (.slice (some ⟨g, 0, none⟩) (n - 1) c) ∧ ∃ cur', w'.heap[g]? = some (.cells cur' 33 (0, 0)) ∧ cur'.size = c ∧ (∀ j, j < i → cur'[j]? = cur[j]?) ∧ (∀ j, i ≤ j → j < n - 1 → cur'[j]? = cur[j + 1]?) ∧ Only (fun k => k = g) w w'

set_option maxRecDepth 100000 in
set_option maxHeartbeats 2000000 in
theorem delete_one (g n c i : Nat) (cur : Array Value) (w : World) (hg : w.heap[g]? = some (.cells cur 33 (0, 0))) (hs : cur.size = c) (hn : n ≤ c) (hc : c ≤ maxLen) (hi : i < n) (h1 : ∀ j v, j < n → cur[j]? = some v → v.oneCell' = true) :
    Calls Try.prog 77 #[.slice (some ⟨g, 0, none⟩) n c, .int .i64 (i : Int), .int .i64 ((i : Int) + 1)] w (RetDelete w g n c i cur) := by
  obtain ⟨i0, hi0, hz0, hz1, hz2⟩ := info_parts infoL
  have hcell : ∀ j, j < c → ∃ v, w.cell? ⟨g, j, none⟩ = some v ∧ cur[j]? = some v := fun j hj => by
    refine ⟨cur[j]'(by omega), ?_, by simp [hs, hj]⟩
    rw [cell_of_row _ g j _ _ _ hg]
    simp [hs, hj]
  have hfr : ∀ j, w.frozen? ⟨g, j, none⟩ = false := fun j => by simp [World.frozen?, hg]
  obtain ⟨news, hnews⟩ : ∃ news, news = (cur.toList.take n).drop (i + 1) := ⟨_, rfl⟩
  have hlen : news.length = n - (i + 1) := by rw [hnews]; simp; omega
  have hget : ∀ t, t < n - (i + 1) → news[t]? = cur[i + 1 + t]? := by
    intro t ht
    rw [hnews, List.getElem?_drop, List.getElem?_take]
    rw [if_pos (by omega), Array.getElem?_toList]
  have h2 : ∀ u ∈ news, u.oneCell' = true := by
    intro u hu
    obtain ⟨t, ht, e⟩ := List.mem_iff_getElem.1 hu
    have h3 := hget t (by omega)
    rw [List.getElem?_eq_getElem ht, e] at h3
    exact h1 (i + 1 + t) u (by omega) h3.symm
  obtain ⟨AD, hAD⟩ : ∃ AD : Addr, (if c = i + 1 then (some ⟨g, 0, none⟩ : Option Addr) else some ⟨g, i + 1, none⟩) = some AD := by
    by_cases h : c = i + 1
    · exact ⟨⟨g, 0, none⟩, by rw [if_pos h]⟩
    · exact ⟨⟨g, i + 1, none⟩, by rw [if_neg h]⟩
  have hsrc : ∀ t u, news[t]? = some u → w.drew.cell? (AD.add t) = some u := by
    intro t u hu
    have ht : t < n - (i + 1) := by rw [← hlen]; exact (List.getElem?_eq_some_iff.1 hu).1
    rw [hget t ht] at hu
    have e : AD = ⟨g, i + 1, none⟩ := by
      rw [if_neg (by omega)] at hAD
      injection hAD with hAD
      exact hAD.symm
    rw [e, Addr.add_lit]
    exact (cell_of_row _ g (i + 1 + t) _ _ _ hg).trans hu
  obtain ⟨W1, hW1⟩ : ∃ W1, W1 = w.drew.setCells g (0 + i * 1) news := ⟨_, rfl⟩
  have hH1 : W1.heap[g]? = some (.cells (layA cur i news) 33 (0, 0)) := by
    rw [hW1, Nat.mul_one, Nat.zero_add]
    exact heap_setCells_same g _ news w.drew cur i hg
  have hO1 : Only (fun k => k = g) w W1 := by rw [hW1]; exact only_drew.trans (only_setCells g news _ _)
  have hcl : ∀ ty, (Builtin.clear_ #[74] ty #[.slice (some ⟨g, n - 1, none⟩) 1 (c - (n - 1))]).run Try.prog W1 = .ok (.tuple #[]) (W1.setCells g (n - 1) (List.replicate 1 (.slice none 0 0))) := fun ty =>
    Lib.run_clear_slice W1 _ _ ty _ Try.underlying74 zeroL rfl rfl g (n - 1) 1 _ (by omega) (fun t ht => by
      rw [cell_of_row _ g _ _ _ _ hH1, Array.getElem?_eq_getElem (by rw [layA_size]; omega)]
      rfl) (fun t ht => by simp [World.frozen?, hH1])
  have HF := Lib.hid (And.intro hH1 hO1)
  have HW := Lib.hid hW1
  have HN := Lib.hid (And.intro hlen hget)
  have HS := Lib.hid hsrc
  have H2 := Lib.hid h2
  have hsp : Hid (∀ j, j < news.length → (w.drew.cell? ⟨g, 0 + i * 1 + j, none⟩).isSome = true ∧ w.drew.frozen? ⟨g, 0 + i * 1 + j, none⟩ = false) := by
    intro t ht
    rw [hlen] at ht
    obtain ⟨v, e, _⟩ := hcell (i + t) (by omega)
    rw [Nat.mul_one, Nat.zero_add]
    exact ⟨by show (w.cell? _).isSome = true; rw [e]; rfl, hfr _⟩
  have hnl : Hid (news.length = (n - (i + 1)) * 1) := by rw [Nat.mul_one]; exact hlen
  have hic : i ≤ c := by omega
  have hjc : i + 1 ≤ c := by omega
  have e1 : ¬ ((i : Int) = (i : Int) + 1) := by omega
  have e2 : ((i : Int) + 1).toNat = i + 1 := by omega
  have e3 : (0 : Int) ≤ (i : Int) + 1 := by omega
  have e4 : (i : Int) + 1 ≤ (n : Int) := by omega
  have e5 : (i : Int) ≤ (i : Int) + 1 := by omega
  have e6 : i + (n - (i + 1)) = n - 1 := by omega
  have e7 : n - (n - 1) = 1 := by omega
  have e8 : n - 1 ≤ c := by omega
  have e9 : ¬ c = n - 1 := by omega
  unfold maxLen at hc
  clear hW1 hH1 hO1 hsrc h2 hlen hget hnews hcell hfr
  go_enter Try.func77, Try.ntmps77
  go_wp2_with fail
  go_region_law (refine step_append_room rfl (.tmp 22) (.tmp 25) 74 rfl 33 i0 1 Try.underlying74 hi0 hz1 g 0 i c (by simp [Act.eval, Act.put]) AD (n - (i + 1)) (c - (i + 1)) news (by simp [Act.eval, Act.put]) hnl.out HS.out H2.out (by omega) hsp.out ?_; rw [← HW.out])
  all_goals
    go_wp2
    go_ret
    refine ⟨rfl, _, heap_setCells_same g _ _ _ _ _ HF.out.1, by rw [layA_size, layA_size]; exact hs, fun j hj => ?_, fun j hj hj2 => ?_, HF.out.2.trans (only_setCells g _ _ _)⟩
    · rw [layA_get _ _ _ _ (by rw [layA_size]; simp; omega), if_neg (by omega), layA_get _ _ _ _ (by rw [HN.out.1]; omega), if_neg (by omega)]
    · rw [layA_get _ _ _ _ (by rw [layA_size]; simp; omega), if_neg (by omega), layA_get _ _ _ _ (by rw [HN.out.1]; omega), if_pos (by rw [HN.out.1]; omega), HN.out.2 _ (by omega)]
      congr 1
      omega
end Go.Proofs.Ytkakbeiehggkiaa
