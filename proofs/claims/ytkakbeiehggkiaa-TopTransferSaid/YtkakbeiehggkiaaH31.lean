/-
  A list of frames whose bytes lie in new memory; Scan, both, once more. Made by gen_scx.py.
-/
import Derived.Test.YtkakbeiehggkiaaH21
namespace Go.Proofs.Ytkakbeiehggkiaa
open Go.RowKit
set_option linter.unusedVariables false

def Fr0 (base : Nat) (u : Value) : Prop := ∀ b o n c, u = .slice (some ⟨b, o, none⟩) n c → base ≤ b
def RBx (w : World) (base : Nat) (row : Option Nat) (u : Value) (X : List Nat) : Prop := RBn w row u X ∧ Fr0 base u
/-- v is a list of frames of the call's own, which reads as Fs; the bytes lie in no block below base. -/
def FrX (w : World) (base : Nat) (v : Value) (Fs : List Fr) : Prop :=
  ∃ vs : List Value, vs.length = Fs.length ∧ w.ownsRow base 35 3 v Fs.length (frC Fs vs) ∧ ∀ i (h : i < Fs.length) (h' : i < vs.length), RBx w base v.ownBlock (vs[i]'h') (Fs[i]'h).2.2
theorem frx_frs {w : World} {base : Nat} {v : Value} {Fs : List Fr} (h : FrX w base v Fs) : FrS w base v Fs := by
  obtain ⟨vs, h1, h2, h3⟩ := h
  exact ⟨vs, h1, h2, fun i hi hi' => (h3 i hi hi').1⟩
theorem frx_nil (w : World) (base : Nat) : FrX w base (.slice none 0 0) [] := ⟨[], rfl, World.ownsRow_nil _ _ _ _, fun i h => by simp at h⟩
theorem frx_below {w w' : World} {base : Nat} {v : Value} {Fs : List Fr} (h : FrX w base v Fs) (hb : Below w.heap.size w w') : FrX w' base v Fs := by
  obtain ⟨vs, h1, h2, h3⟩ := h
  exact ⟨vs, h1, h2.kept (grown_of_below hb none) (by cases v.ownBlock <;> simp), fun i hi hi' => ⟨rbn_grown (h3 i hi hi').1 (grown_of_below hb _) (Or.inl rfl), (h3 i hi hi').2⟩⟩
theorem frx_lt {w : World} {base : Nat} {v : Value} {Fs : List Fr} (h : FrX w base v Fs) : ∀ k, v.ownBlock = some k → k < w.heap.size := frs_lt (frx_frs h)
theorem frx_append {w w' : World} {base : Nat} {v v' u : Value} {Fs : List Fr} {vs : List Value} {st sq : Nat} {X : List Nat} (h1 : vs.length = Fs.length) (h3 : ∀ i (h : i < Fs.length) (h' : i < vs.length), RBx w base v.ownBlock (vs[i]'h') (Fs[i]'h).2.2)
    (ho : w'.ownsRow base 35 3 v' (Fs.length + 1) (frC Fs vs ++ [.int .i64 (st : Int), .int .i64 (sq : Int), u])) (hg : w.grownBy w' v.ownBlock) (hr : v'.ownBlock = v.ownBlock ∨ v'.ownBlock = some w.heap.size)
    (hu : RBx w base v.ownBlock u X) : FrX w' base v' (Fs ++ [(st, sq, X)]) := by
  refine ⟨vs ++ [u], by simp [h1], ?_, fun i hi hi' => ?_⟩
  · rw [frC_append Fs vs (st, sq, X) u h1, List.length_append]
    exact ho
  · by_cases hlt : i < Fs.length
    · rw [List.getElem_append_left (by omega), List.getElem_append_left hlt]
      exact ⟨rbn_grown (h3 i hlt (by omega)).1 hg hr, (h3 i hlt (by omega)).2⟩
    · have e : i = Fs.length := by simp at hi; omega
      subst e
      have e1 : (vs ++ [u])[Fs.length]'hi' = u := by
        rw [List.getElem_append_right (by omega)]
        simp [h1]
      have e2 : (Fs ++ [(st, sq, X)])[Fs.length]'hi = (st, sq, X) := by
        rw [List.getElem_append_right (by omega)]
        simp
      rw [e1, e2]
      exact ⟨rbn_grown hu.1 hg hr, hu.2⟩

def RetScx (w : World) (L : List Nat) (e : Ending) (w' : World) : Prop :=
  ∃ v, e = .returned (.tuple #[v, .int .i64 ((scanF (L.length + 1) L).2.1 : Nat), .int .i64 ((scanF (L.length + 1) L).2.2 : Nat)]) ∧ FrX w' w.heap.size v (scanF (L.length + 1) L).1 ∧ Below w.heap.size w w'
def ScxRel (w : World) (L : List Nat) (fv sv av : Value) (wr : World) : Prop :=
  ∃ a fuel sk Fs, av = .int .i64 ((a : Nat) : Int) ∧ sv = .int .i64 ((sk : Nat) : Int) ∧ a ≤ L.length ∧ sk ≤ a ∧ Hid (ScanAt L a fuel sk Fs) ∧ Hid (FrX wr w.heap.size fv Fs) ∧ Below w.heap.size w wr
set_option maxRecDepth 100000 in
set_option maxHeartbeats 2000000 in
theorem scx_some (L : List Nat) (hb : AllB L) (b o : Nat) (n c B : Nat) (h64 : n ≤ 1048576) (w : World) (hx : RB w B (.slice (some ⟨b, o, none⟩) n c) L) (hB : B ≤ w.heap.size) :
    Calls Try.prog 83 #[.slice (some ⟨b, o, none⟩) n c] w (RetScx w L) := by
  obtain ⟨i0, hi0, hz0, hz1, hz2⟩ := info_parts infoF
  have HXL := Lib.hid hx.1.len
  have hcap := hx.1.cap
  unfold maxLen at hcap
  have HB := Lib.hid (And.intro hb hx)
  clear hb hx
  go_enter Try.func83, Try.ntmps83
  go_wp2
  go_step3
  go_wp2
  go_step3
  go_wp2
  go_loopw [2, 3, 5] (fun fv sv av wr => ScxRel w L fv sv av wr) (fun _ _ av _ => n - (intOf1 av).toNat)
  case atStart => exact ⟨0, L.length + 1, 0, [], rfl, rfl, Nat.zero_le _, Nat.le_refl _, scanAt_start L, frx_nil _ _, Below.refl _ _⟩
  case round =>
    obtain ⟨a, fuel, sk, Fs, rfl, rfl, haL, hsk, HA, HF, hbw⟩ := hrel
    have han : a ≤ n := by rw [HXL.out]; exact haL
    obtain ⟨AD, hAD⟩ : ∃ AD, (if c = a then (some ⟨b, o, none⟩ : Option Addr) else some ⟨b, o + a, none⟩) = AD := ⟨_, rfl⟩
    have HD := Lib.hid (rb_tail (HB.out.2.belowM hbw hB) han hAD)
    obtain ⟨D, hD⟩ : ∃ D, D = L.drop a := ⟨_, rfl⟩
    have hDB : AllB D := by rw [hD]; exact fun x hx => HB.out.1 x (List.mem_of_mem_drop hx)
    have U := unpack_strong D hDB AD (n - a) (c - a) B wr (by rw [hD]; exact HD.out) (Nat.le_trans hB hbw.size)
    have HDD := Lib.hid (And.intro hD hDB)
    have hbd : upE D = 0 → upN D ≤ n - a ∧ 12 ≤ upN D := fun h => by
      have h1 := upE_fits h
      have h2 : D.length = n - a := by rw [hD, List.length_drop, HXL.out]
      omega
    have hbd2 : upE D ≠ 21 → a < n := fun h => by
      have h1 : D.length ≠ 0 := fun e => h (upE_nil e)
      have h2 : D.length = n - a := by rw [hD, List.length_drop, HXL.out]
      omega
    obtain ⟨st, hst⟩ : ∃ x, x = upSt D := ⟨_, rfl⟩
    obtain ⟨sq, hsq⟩ : ∃ x, x = upSq D := ⟨_, rfl⟩
    obtain ⟨X, hX⟩ : ∃ x, x = upX D := ⟨_, rfl⟩
    obtain ⟨sz, hsz⟩ : ∃ x, x = upN D := ⟨_, rfl⟩
    obtain ⟨er, her⟩ : ∃ x, x = upE D := ⟨_, rfl⟩
    have HU : Hid (Calls Try.prog 91 #[.slice AD (n - a) (c - a)] wr (RetUpS wr st sq X sz er)) := by rw [hst, hsq, hX, hsz, her]; exact U
    rw [← hsz, ← her] at hbd
    rw [← her] at hbd2
    have HE := Lib.hid (And.intro hst (And.intro hsq (And.intro hX (And.intro hsz her))))
    have HW := Lib.hid hbw
    have hbs := hbw.size
    obtain ⟨k, hk⟩ : ∃ k, n - a = k := ⟨_, rfl⟩
    obtain ⟨cd, hcd⟩ : ∃ cd, c - a = cd := ⟨_, rfl⟩
    have HU2 := Lib.hid (hk ▸ hcd ▸ HU.out : Calls Try.prog 91 #[.slice AD k cd] wr (RetUpS wr st sq X sz er))
    clear hD hDB U hst hsq hX hsz her hbw HD HU
    go_wp2_with fail
    refine HU2.out.mono ?_
    rintro e w1 ⟨v1, rfl, r1, b1, fresh⟩
    obtain ⟨A1, c1, rfl⟩ := r1.form
    obtain ⟨lx, hlx⟩ : ∃ l, l = X.length := ⟨_, rfl⟩
    rw [← hlx] at r1 fresh
    rw [← hlx]
    have hs1 := b1.size
    have FF := Lib.hid (frx_below HF.out b1)
    have HFL := Lib.hid (frx_lt HF.out)
    have f1 : Below w.heap.size w w1 := HW.out.trans (b1.mono HW.out.size)
    have R1 := Lib.hid (And.intro r1 (And.intro fresh f1))
    clear r1 b1 fresh f1 hlx HF
    have hka : (n : Int) - (a : Int) = (k : Int) := by omega
    by_cases h21 : er = 21
    · subst h21
      have hE := scanAt_end HA.out (by rw [← HDD.out.1]; exact HE.out.2.2.2.2.symm)
      rw [show L.length - a = k from by rw [← HXL.out]; exact hk] at hE
      have HEE := Lib.hid hE
      clear hE hbd hbd2
      go_wp2
      first | rw [Exit.noGoto_ret] | skip
      go_ret3
      unfold RetScx
      rw [HEE.out]
      refine ⟨_, rfl, ?_, ?_⟩
      · exact frx_below FF.out ((Below.refl _ _).alloc (Nat.le_refl _) _)
      · exact R1.out.2.2.alloc R1.out.2.2.size _
    · by_cases h0 : er = 0
      · subst h0
        obtain ⟨hz1', hz2'⟩ := hbd rfl
        have hFl : Fs.length ≤ a := HA.out.2.2.1
        obtain ⟨vs, hv1, hv2, hv3⟩ := FF.out
        have HV := Lib.hid (And.intro hv1 (And.intro hv2 hv3))
        have hg2 : ∀ (F G : Obj), Below w1.heap.size w1 ((w1.alloc F).alloc G) := fun F G => ((Below.refl _ _).alloc (Nat.le_refl _) F).alloc (by simp) G
        have TC := Lib.hid (three_cells (w1.alloc (.cells #[.int .i64 (st : Int), .int .i64 (sq : Int), .slice A1 lx c1] 35)) 35 (.int .i64 (st : Int)) (.int .i64 (sq : Int)) (.slice A1 lx c1))
        have esz : (w1.alloc (.cells #[.int .i64 (st : Int), .int .i64 (sq : Int), .slice A1 lx c1] 35)).heap.size = w1.heap.size + 1 := by simp
        rw [esz] at TC
        have hWa : IntKind.i64.wrap ((a : Int) + (sz : Int)) = ((a + sz : Nat) : Int) := by rw [IntKind.wrap_i64]; omega
        clear hv1 hv2 hv3 hbd hbd2 esz
        go_wp2_with (at_builtin
                     refine wpList_append_own_at _ rfl (.tmp 24) (.tmp 26) _ rfl w.heap.size 35 i0 _ 3 40 Try.underlying63 hi0 hz0 hz1 hz2 rfl (by decide) _ Fs.length _ rfl ((HV.out.2.1.alloc _).alloc _) ⟨w1.heap.size + 1, 0, none⟩ 1 1 [.int .i64 (st : Int), .int .i64 (sq : Int), .slice A1 lx c1] rfl rfl TC.out (by intro u hu; simp at hu; rcases hu with rfl | rfl | rfl <;> rfl) (by unfold maxLen; omega) (by omega) (by simp; omega) ?_)
        intro v' w' ho hg _ hr
        have hgA := hg2 (.cells #[.int .i64 (st : Int), .int .i64 (sq : Int), .slice A1 lx c1] 35) (.cells #[.int .i64 (st : Int), .int .i64 (sq : Int), .slice A1 lx c1] 35)
        have hFS : FrX w' w.heap.size v' (Fs ++ [(st, sq, X)]) := by
          refine frx_append HV.out.1 (fun i hi hi' => ⟨rbn_grown (HV.out.2.2 i hi hi').1 (grown_of_below hgA _) (Or.inl rfl), (HV.out.2.2 i hi hi').2⟩) ho hg (by simpa using hr) ⟨⟨(R1.out.1.below hgA).more hgA.size, fun b2 o2 n2 c2 e h02 => ?_⟩, fun b3 o3 n3 c3 e3 => Nat.le_trans hbs (R1.out.2.1 b3 o3 n3 c3 e3)⟩
          injection e with e1 e2 e3
          subst e1
          have h1 := R1.out.2.1 b2 o2 lx c1 rfl
          intro h
          have h3 := HFL.out b2 h.symm
          omega
        have HS := Lib.hid (scanAt_ok HA.out (by rw [← HDD.out.1]; exact HE.out.2.2.2.2.symm))
        have hbw' : Below w.heap.size w w' := grown_belowB ((R1.out.2.2.alloc R1.out.2.2.size _).alloc (by have := R1.out.2.2.size; simp; omega) _) (Nat.le_refl _) hg (fun k hk => (World.ownsRow.lt HV.out.2.1 k hk).1)
        have HFS := Lib.hid (And.intro hFS hbw')
        clear ho hg hr hgA hFS hbw'
        go_wp2
        go_roundw
        case rel =>
          refine ⟨a + sz, fuel - 1, sk, Fs ++ [(st, sq, X)], by go_num, rfl, by rw [← HXL.out]; omega, by omega, ?_, HFS.out.1, HFS.out.2⟩
          show ScanAt L (a + sz) (fuel - 1) sk (Fs ++ [(st, sq, X)])
          have := HS.out
          rw [← HDD.out.1, ← HE.out.1, ← HE.out.2.1, ← HE.out.2.2.1, ← HE.out.2.2.2.1] at this
          exact this
        case measure => simp [intOf1]; omega
      · have q1 : ((er : Int) == 0) = false := by rw [beq_eq_false_iff_ne]; omega
        have q2 : ((er : Int) == 21) = false := by rw [beq_eq_false_iff_ne]; omega
        have han2 : a < n := hbd2 h21
        have HS := Lib.hid (scanAt_skip HA.out (by rw [← HDD.out.1, ← HE.out.2.2.2.2]; exact h21) (by rw [← HDD.out.1, ← HE.out.2.2.2.2]; exact h0))
        clear hbd hbd2
        go_wp2
        go_roundw
        case rel => exact ⟨a + 1, fuel - 1, sk + 1, Fs, by go_num, by go_num, by rw [← HXL.out]; omega, by omega, HS.out, frx_below FF.out ((Below.refl _ _).alloc (Nat.le_refl _) _), R1.out.2.2.alloc R1.out.2.2.size _⟩
        case measure => simp [intOf1]; omega



set_option maxRecDepth 100000 in
set_option maxHeartbeats 1000000 in
theorem scx_none (w : World) : Calls Try.prog 83 #[.slice none 0 0] w (RetScx w []) := by
  have hE : upE [] = 21 := upE_nil rfl
  have hS : scanF (([] : List Nat).length + 1) [] = ([], 0, 0) := scanF_short hE
  have U := unpack_any [] (by intro x hx; cases hx) none 0 0 0 w rb_nil (Nat.zero_le _)
  unfold RetUpL at U
  obtain ⟨u1, u2, u3, u4, u5⟩ := up_bad hE (by omega)
  rw [u1, u2, u3, u4, u5] at U
  have HU := Lib.hid U
  have HS := Lib.hid hS
  clear U u1 u2 u3 u4 u5 hE hS
  go_enter Try.func83, Try.ntmps83
  go_wp2
  go_step3
  go_wp2
  go_step3
  go_wp2
  go_loopw [2, 3, 5] (fun fv sv av wr => fv = .slice none 0 0 ∧ sv = .int .i64 0 ∧ av = .int .i64 0 ∧ wr = w) (fun _ _ _ _ => 0)
  case atStart => exact ⟨rfl, rfl, rfl, rfl⟩
  case round =>
    obtain ⟨rfl, rfl, rfl, rfl⟩ := hrel
    go_wp2_with fail
    refine HU.out.mono ?_
    rintro e w1 ⟨v1, rfl, r1, b1⟩
    obtain ⟨A1, c1, rfl⟩ := r1.form
    go_wp2
    first | rw [Exit.noGoto_ret] | skip
    go_ret3
    unfold RetScx
    rw [HS.out]
    exact ⟨_, rfl, frx_nil _ _, b1.alloc b1.size _⟩

set_option maxRecDepth 100000 in
set_option maxHeartbeats 1000000 in
theorem refScx_none (w : World) : Calls Try.prog 74 #[.slice none 0 0] w (RetScx w []) := by
  have hE : upE [] = 21 := upE_nil rfl
  have hS : scanF (([] : List Nat).length + 1) [] = ([], 0, 0) := scanF_short hE
  have U := refUnpack_any [] (by intro x hx; cases hx) none 0 0 0 w rb_nil (Nat.zero_le _)
  unfold RetUpL at U
  obtain ⟨u1, u2, u3, u4, u5⟩ := up_bad hE (by omega)
  rw [u1, u2, u3, u4, u5] at U
  have HU := Lib.hid U
  have HS := Lib.hid hS
  clear U u1 u2 u3 u4 u5 hE hS
  go_enter Try.func74, Try.ntmps74
  go_wp2
  go_loopw [2, 3, 5] (fun fv sv av wr => fv = .slice none 0 0 ∧ sv = .int .i64 0 ∧ av = .int .i64 0 ∧ wr = w) (fun _ _ _ _ => 0)
  case atStart => exact ⟨rfl, rfl, rfl, rfl⟩
  case round =>
    obtain ⟨rfl, rfl, rfl, rfl⟩ := hrel
    go_wp2_with fail
    refine HU.out.mono ?_
    rintro e w1 ⟨v1, rfl, r1, b1⟩
    obtain ⟨A1, c1, rfl⟩ := r1.form
    go_wp2
    first | rw [Exit.noGoto_ret] | skip
    go_ret3
    unfold RetScx
    rw [HS.out]
    exact ⟨_, rfl, frx_nil _ _, b1.alloc b1.size _⟩

set_option maxRecDepth 100000 in
set_option maxHeartbeats 2000000 in
theorem refScx_some (L : List Nat) (hb : AllB L) (b o : Nat) (n c B : Nat) (h64 : n ≤ 1048576) (w : World) (hx : RB w B (.slice (some ⟨b, o, none⟩) n c) L) (hB : B ≤ w.heap.size) :
    Calls Try.prog 74 #[.slice (some ⟨b, o, none⟩) n c] w (RetScx w L) := by
  obtain ⟨i0, hi0, hz0, hz1, hz2⟩ := info_parts infoF
  have HXL := Lib.hid hx.1.len
  have hcap := hx.1.cap
  unfold maxLen at hcap
  have HB := Lib.hid (And.intro hb hx)
  clear hb hx
  go_enter Try.func74, Try.ntmps74
  go_wp2
  go_loopw [2, 3, 5] (fun fv sv av wr => ScxRel w L fv sv av wr) (fun _ _ av _ => n - (intOf1 av).toNat)
  case atStart => exact ⟨0, L.length + 1, 0, [], rfl, rfl, Nat.zero_le _, Nat.le_refl _, scanAt_start L, frx_nil _ _, Below.refl _ _⟩
  case round =>
    obtain ⟨a, fuel, sk, Fs, rfl, rfl, haL, hsk, HA, HF, hbw⟩ := hrel
    have han : a ≤ n := by rw [HXL.out]; exact haL
    obtain ⟨AD, hAD⟩ : ∃ AD, (if c = a then (some ⟨b, o, none⟩ : Option Addr) else some ⟨b, o + a, none⟩) = AD := ⟨_, rfl⟩
    have HD := Lib.hid (rb_tail (HB.out.2.belowM hbw hB) han hAD)
    obtain ⟨D, hD⟩ : ∃ D, D = L.drop a := ⟨_, rfl⟩
    have hDB : AllB D := by rw [hD]; exact fun x hx => HB.out.1 x (List.mem_of_mem_drop hx)
    have U := refUnpack_strong D hDB AD (n - a) (c - a) B wr (by rw [hD]; exact HD.out) (Nat.le_trans hB hbw.size)
    have HDD := Lib.hid (And.intro hD hDB)
    have hbd : upE D = 0 → upN D ≤ n - a ∧ 12 ≤ upN D := fun h => by
      have h1 := upE_fits h
      have h2 : D.length = n - a := by rw [hD, List.length_drop, HXL.out]
      omega
    have hbd2 : upE D ≠ 21 → a < n := fun h => by
      have h1 : D.length ≠ 0 := fun e => h (upE_nil e)
      have h2 : D.length = n - a := by rw [hD, List.length_drop, HXL.out]
      omega
    obtain ⟨st, hst⟩ : ∃ x, x = upSt D := ⟨_, rfl⟩
    obtain ⟨sq, hsq⟩ : ∃ x, x = upSq D := ⟨_, rfl⟩
    obtain ⟨X, hX⟩ : ∃ x, x = upX D := ⟨_, rfl⟩
    obtain ⟨sz, hsz⟩ : ∃ x, x = upN D := ⟨_, rfl⟩
    obtain ⟨er, her⟩ : ∃ x, x = upE D := ⟨_, rfl⟩
    have HU : Hid (Calls Try.prog 86 #[.slice AD (n - a) (c - a)] wr (RetUpS wr st sq X sz er)) := by rw [hst, hsq, hX, hsz, her]; exact U
    rw [← hsz, ← her] at hbd
    rw [← her] at hbd2
    have HE := Lib.hid (And.intro hst (And.intro hsq (And.intro hX (And.intro hsz her))))
    have HW := Lib.hid hbw
    have hbs := hbw.size
    obtain ⟨k, hk⟩ : ∃ k, n - a = k := ⟨_, rfl⟩
    obtain ⟨cd, hcd⟩ : ∃ cd, c - a = cd := ⟨_, rfl⟩
    have HU2 := Lib.hid (hk ▸ hcd ▸ HU.out : Calls Try.prog 86 #[.slice AD k cd] wr (RetUpS wr st sq X sz er))
    clear hD hDB U hst hsq hX hsz her hbw HD HU
    go_wp2_with fail
    refine HU2.out.mono ?_
    rintro e w1 ⟨v1, rfl, r1, b1, fresh⟩
    obtain ⟨A1, c1, rfl⟩ := r1.form
    obtain ⟨lx, hlx⟩ : ∃ l, l = X.length := ⟨_, rfl⟩
    rw [← hlx] at r1 fresh
    rw [← hlx]
    have hs1 := b1.size
    have FF := Lib.hid (frx_below HF.out b1)
    have HFL := Lib.hid (frx_lt HF.out)
    have f1 : Below w.heap.size w w1 := HW.out.trans (b1.mono HW.out.size)
    have R1 := Lib.hid (And.intro r1 (And.intro fresh f1))
    clear r1 b1 fresh f1 hlx HF
    have hka : (n : Int) - (a : Int) = (k : Int) := by omega
    by_cases h21 : er = 21
    · subst h21
      have hE := scanAt_end HA.out (by rw [← HDD.out.1]; exact HE.out.2.2.2.2.symm)
      rw [show L.length - a = k from by rw [← HXL.out]; exact hk] at hE
      have HEE := Lib.hid hE
      clear hE hbd hbd2
      go_wp2
      first | rw [Exit.noGoto_ret] | skip
      go_ret3
      unfold RetScx
      rw [HEE.out]
      refine ⟨_, rfl, ?_, ?_⟩
      · exact frx_below FF.out ((Below.refl _ _).alloc (Nat.le_refl _) _)
      · exact R1.out.2.2.alloc R1.out.2.2.size _
    · by_cases h0 : er = 0
      · subst h0
        obtain ⟨hz1', hz2'⟩ := hbd rfl
        have hFl : Fs.length ≤ a := HA.out.2.2.1
        obtain ⟨vs, hv1, hv2, hv3⟩ := FF.out
        have HV := Lib.hid (And.intro hv1 (And.intro hv2 hv3))
        have hg2 : ∀ (F G : Obj), Below w1.heap.size w1 ((w1.alloc F).alloc G) := fun F G => ((Below.refl _ _).alloc (Nat.le_refl _) F).alloc (by simp) G
        have TC := Lib.hid (three_cells (w1.alloc (.cells #[.int .i64 (st : Int), .int .i64 (sq : Int), .slice A1 lx c1] 35)) 35 (.int .i64 (st : Int)) (.int .i64 (sq : Int)) (.slice A1 lx c1))
        have esz : (w1.alloc (.cells #[.int .i64 (st : Int), .int .i64 (sq : Int), .slice A1 lx c1] 35)).heap.size = w1.heap.size + 1 := by simp
        rw [esz] at TC
        have hWa : IntKind.i64.wrap ((a : Int) + (sz : Int)) = ((a + sz : Nat) : Int) := by rw [IntKind.wrap_i64]; omega
        clear hv1 hv2 hv3 hbd hbd2 esz
        go_wp2_with (at_builtin
                     refine wpList_append_own_at _ rfl (.tmp 27) (.tmp 29) _ rfl w.heap.size 35 i0 _ 3 40 Try.underlying63 hi0 hz0 hz1 hz2 rfl (by decide) _ Fs.length _ rfl ((HV.out.2.1.alloc _).alloc _) ⟨w1.heap.size + 1, 0, none⟩ 1 1 [.int .i64 (st : Int), .int .i64 (sq : Int), .slice A1 lx c1] rfl rfl TC.out (by intro u hu; simp at hu; rcases hu with rfl | rfl | rfl <;> rfl) (by unfold maxLen; omega) (by omega) (by simp; omega) ?_)
        intro v' w' ho hg _ hr
        have hgA := hg2 (.cells #[.int .i64 (st : Int), .int .i64 (sq : Int), .slice A1 lx c1] 35) (.cells #[.int .i64 (st : Int), .int .i64 (sq : Int), .slice A1 lx c1] 35)
        have hFS : FrX w' w.heap.size v' (Fs ++ [(st, sq, X)]) := by
          refine frx_append HV.out.1 (fun i hi hi' => ⟨rbn_grown (HV.out.2.2 i hi hi').1 (grown_of_below hgA _) (Or.inl rfl), (HV.out.2.2 i hi hi').2⟩) ho hg (by simpa using hr) ⟨⟨(R1.out.1.below hgA).more hgA.size, fun b2 o2 n2 c2 e h02 => ?_⟩, fun b3 o3 n3 c3 e3 => Nat.le_trans hbs (R1.out.2.1 b3 o3 n3 c3 e3)⟩
          injection e with e1 e2 e3
          subst e1
          have h1 := R1.out.2.1 b2 o2 lx c1 rfl
          intro h
          have h3 := HFL.out b2 h.symm
          omega
        have HS := Lib.hid (scanAt_ok HA.out (by rw [← HDD.out.1]; exact HE.out.2.2.2.2.symm))
        have hbw' : Below w.heap.size w w' := grown_belowB ((R1.out.2.2.alloc R1.out.2.2.size _).alloc (by have := R1.out.2.2.size; simp; omega) _) (Nat.le_refl _) hg (fun k hk => (World.ownsRow.lt HV.out.2.1 k hk).1)
        have HFS := Lib.hid (And.intro hFS hbw')
        clear ho hg hr hgA hFS hbw'
        go_wp2
        go_roundw
        case rel =>
          refine ⟨a + sz, fuel - 1, sk, Fs ++ [(st, sq, X)], by go_num, rfl, by rw [← HXL.out]; omega, by omega, ?_, HFS.out.1, HFS.out.2⟩
          show ScanAt L (a + sz) (fuel - 1) sk (Fs ++ [(st, sq, X)])
          have := HS.out
          rw [← HDD.out.1, ← HE.out.1, ← HE.out.2.1, ← HE.out.2.2.1, ← HE.out.2.2.2.1] at this
          exact this
        case measure => simp [intOf1]; omega
      · have q1 : ((er : Int) == 0) = false := by rw [beq_eq_false_iff_ne]; omega
        have q2 : ((er : Int) == 21) = false := by rw [beq_eq_false_iff_ne]; omega
        have han2 : a < n := hbd2 h21
        have HS := Lib.hid (scanAt_skip HA.out (by rw [← HDD.out.1, ← HE.out.2.2.2.2]; exact h21) (by rw [← HDD.out.1, ← HE.out.2.2.2.2]; exact h0))
        clear hbd hbd2
        go_wp2
        go_roundw
        case rel => exact ⟨a + 1, fuel - 1, sk + 1, Fs, by go_num, by go_num, by rw [← HXL.out]; omega, by omega, HS.out, frx_below FF.out ((Below.refl _ _).alloc (Nat.le_refl _) _), R1.out.2.2.alloc R1.out.2.2.size _⟩
        case measure => simp [intOf1]; omega

set_option maxRecDepth 100000 in
set_option maxHeartbeats 1000000 in
theorem scx_empty (a : Addr) (c : Nat) (hc : c ≤ 9223372036854775807) (w : World) : Calls Try.prog 83 #[.slice (some a) 0 c] w (RetScx w []) := by
  have hE : upE [] = 21 := upE_nil rfl
  have hS : scanF (([] : List Nat).length + 1) [] = ([], 0, 0) := scanF_short hE
  have U : ∀ (b : Addr), Calls Try.prog 91 #[.slice (some b) 0 c] w (RetUpL w []) := fun b => unpack_any [] (by intro x hx; cases hx) (some b) 0 c 0 w (rb_empty (by unfold maxLen; omega)) (Nat.zero_le _)
  unfold RetUpL at U
  obtain ⟨u1, u2, u3, u4, u5⟩ := up_bad hE (by omega)
  rw [u1, u2, u3, u4, u5] at U
  have HU := Lib.hid U
  have HS := Lib.hid hS
  clear U u1 u2 u3 u4 u5 hE hS
  go_enter Try.func83, Try.ntmps83
  go_wp2
  go_step3
  go_wp2
  go_step3
  go_wp2
  go_loopw [2, 3, 5] (fun fv sv av wr => fv = .slice none 0 0 ∧ sv = .int .i64 0 ∧ av = .int .i64 0 ∧ wr = w) (fun _ _ _ _ => 0)
  case atStart => exact ⟨rfl, rfl, rfl, rfl⟩
  case round =>
    obtain ⟨rfl, rfl, rfl, rfl⟩ := hrel
    go_wp2_with fail
    refine (HU.out _).mono ?_
    rintro e w1 ⟨v1, rfl, r1, b1⟩
    obtain ⟨A1, c1, rfl⟩ := r1.form
    go_wp2
    first | rw [Exit.noGoto_ret] | skip
    go_ret3
    unfold RetScx
    rw [HS.out]
    exact ⟨_, rfl, frx_nil _ _, b1.alloc b1.size _⟩

set_option maxRecDepth 100000 in
set_option maxHeartbeats 1000000 in
theorem refScx_empty (a : Addr) (c : Nat) (hc : c ≤ 9223372036854775807) (w : World) : Calls Try.prog 74 #[.slice (some a) 0 c] w (RetScx w []) := by
  have hE : upE [] = 21 := upE_nil rfl
  have hS : scanF (([] : List Nat).length + 1) [] = ([], 0, 0) := scanF_short hE
  have U : ∀ (b : Addr), Calls Try.prog 86 #[.slice (some b) 0 c] w (RetUpL w []) := fun b => refUnpack_any [] (by intro x hx; cases hx) (some b) 0 c 0 w (rb_empty (by unfold maxLen; omega)) (Nat.zero_le _)
  unfold RetUpL at U
  obtain ⟨u1, u2, u3, u4, u5⟩ := up_bad hE (by omega)
  rw [u1, u2, u3, u4, u5] at U
  have HU := Lib.hid U
  have HS := Lib.hid hS
  clear U u1 u2 u3 u4 u5 hE hS
  go_enter Try.func74, Try.ntmps74
  go_wp2
  go_loopw [2, 3, 5] (fun fv sv av wr => fv = .slice none 0 0 ∧ sv = .int .i64 0 ∧ av = .int .i64 0 ∧ wr = w) (fun _ _ _ _ => 0)
  case atStart => exact ⟨rfl, rfl, rfl, rfl⟩
  case round =>
    obtain ⟨rfl, rfl, rfl, rfl⟩ := hrel
    go_wp2_with fail
    refine (HU.out _).mono ?_
    rintro e w1 ⟨v1, rfl, r1, b1⟩
    obtain ⟨A1, c1, rfl⟩ := r1.form
    go_wp2
    first | rw [Exit.noGoto_ret] | skip
    go_ret3
    unfold RetScx
    rw [HS.out]
    exact ⟨_, rfl, frx_nil _ _, b1.alloc b1.size _⟩

theorem scx_any (L : List Nat) (hb : AllB L) (A : Option Addr) (n c B : Nat) (h64 : n ≤ 1048576) (w : World) (hx : RB w B (.slice A n c) L) (hB : B ≤ w.heap.size) : Calls Try.prog 83 #[.slice A n c] w (RetScx w L) := by
  cases A with
  | none =>
    obtain ⟨rfl, rfl⟩ := hx.2 _ _ rfl
    have : L = [] := List.eq_nil_of_length_eq_zero hx.1.len.symm
    subst this
    exact scx_none w
  | some a =>
    by_cases hn : n = 0
    · subst hn
      have : L = [] := List.eq_nil_of_length_eq_zero hx.1.len.symm
      subst this
      have := hx.1.cap.2
      unfold maxLen at this
      exact scx_empty a c (by omega) w
    · obtain ⟨b, o, e, _, _⟩ := hx.1.at_ (by omega)
      injection e with e
      subst e
      exact scx_some L hb b o n c B h64 w hx hB
theorem refScx_any (L : List Nat) (hb : AllB L) (A : Option Addr) (n c B : Nat) (h64 : n ≤ 1048576) (w : World) (hx : RB w B (.slice A n c) L) (hB : B ≤ w.heap.size) : Calls Try.prog 74 #[.slice A n c] w (RetScx w L) := by
  cases A with
  | none =>
    obtain ⟨rfl, rfl⟩ := hx.2 _ _ rfl
    have : L = [] := List.eq_nil_of_length_eq_zero hx.1.len.symm
    subst this
    exact refScx_none w
  | some a =>
    by_cases hn : n = 0
    · subst hn
      have : L = [] := List.eq_nil_of_length_eq_zero hx.1.len.symm
      subst this
      have := hx.1.cap.2
      unfold maxLen at this
      exact refScx_empty a c (by omega) w
    · obtain ⟨b, o, e, _, _⟩ := hx.1.at_ (by omega)
      injection e with e
      subst e
      exact refScx_some L hb b o n c B h64 w hx hB
end Go.Proofs.Ytkakbeiehggkiaa
