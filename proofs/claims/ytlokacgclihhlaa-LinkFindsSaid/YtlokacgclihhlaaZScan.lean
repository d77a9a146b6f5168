/-
  Scan, the program's and the document's.
-/
import Derived.Test.YtlokacgclihhlaaZFrs
import Derived.Test.YtlokacgclihhlaaZUpr
import Derived.Test.YtlokacgclihhlaaZPackd
import Derived.WalkMore
namespace Go.Proofs.Ytlokacgclihhlaa
open Go.RowKit

theorem infoF : (Try.prog.info? 33).map (fun i => (i.zero, i.size, i.bytes)) = some (some (.agg #[.int .i64 0, .int .i64 0, .slice none 0 0]), 3, 40) := by kernel_rfl

def RetScan (w : World) (L : List Nat) (e : Ending) (w' : World) : Prop :=
  ∃ v, e = .returned (.tuple #[v, .int .i64 ((scanF (L.length + 1) L).2.1 : Nat), .int .i64 ((scanF (L.length + 1) L).2.2 : Nat)]) ∧ FrS w' w.heap.size v (scanF (L.length + 1) L).1 ∧ Below w.heap.size w w'
def ScanRel (w : World) (L : List Nat) (fv sv av : Value) (wr : World) : Prop :=
  ∃ a fuel sk Fs, av = .int .i64 ((a : Nat) : Int) ∧ sv = .int .i64 ((sk : Nat) : Int) ∧ a ≤ L.length ∧ sk ≤ a ∧ Hid (ScanAt L a fuel sk Fs) ∧ Hid (FrS wr w.heap.size fv Fs) ∧ Below w.heap.size w wr
theorem rb_tail {w : World} {B b o n c a : Nat} {L : List Nat} {AD : Option Addr} (h : RB w B (.slice (some ⟨b, o, none⟩) n c) L) (ha : a ≤ n) (hAD : (if c = a then (some ⟨b, o, none⟩ : Option Addr) else some ⟨b, o + a, none⟩) = AD) : RB w B (.slice AD (n - a) (c - a)) (L.drop a) := by
  have hl := h.1.len
  have hc := h.1.cap
  subst hAD
  by_cases hca : c = a
  · rw [if_pos hca]
    exact ⟨RW.mk (by rw [List.length_drop]; omega) (by omega) (by omega) (fun h0 => absurd h0 (by omega)), nz_some⟩
  · rw [if_neg hca]
    have := rb_sl (i := a) (k := n - a) h (by omega)
    have e : sl L a (n - a) = L.drop a := by unfold sl; rw [List.take_of_length_le (by rw [List.length_drop]; omega)]
    rw [e] at this
    exact this
theorem frs_lt {w : World} {base : Nat} {v : Value} {Fs : List Fr} (h : FrS w base v Fs) : ∀ k, v.ownBlock = some k → k < w.heap.size := by
  obtain ⟨vs, h1, h2, _⟩ := h
  exact fun k hk => (World.ownsRow.lt h2 k hk).2
theorem three_cells (w : World) (e : TypeId) (a b c : Value) : ∀ j u, [a, b, c][j]? = some u → (w.alloc (.cells #[a, b, c] e)).cell? ((⟨w.heap.size, 0, none⟩ : Addr).add j) = some u := by
  intro j u hj
  match j, hj with
  | 0, hj => simp at hj; subst hj; rw [add_none]; exact built_cells3 w _ e 0 _ rfl
  | 1, hj => simp at hj; subst hj; rw [add_none]; exact built_cells3 w _ e 1 _ rfl
  | 2, hj => simp at hj; subst hj; rw [add_none]; exact built_cells3 w _ e 2 _ rfl
where
  built_cells3 (w : World) (cs : Array Value) (e : TypeId) (j : Nat) (v : Value) (h : cs[j]? = some v) : (w.alloc (.cells cs e)).cell? ⟨w.heap.size, 0 + j, none⟩ = some v := by
    rw [Nat.zero_add, cell_of_row _ _ j cs e (0, 0) (heap_alloc_new w _), h]

set_option maxRecDepth 100000 in
set_option maxHeartbeats 2000000 in
theorem scan_some (L : List Nat) (hb : AllB L) (b o : Nat) (n c B : Nat) (h64 : n ≤ 1048576) (w : World) (hx : RB w B (.slice (some ⟨b, o, none⟩) n c) L) (hB : B ≤ w.heap.size) :
    Calls Try.prog 39 #[.slice (some ⟨b, o, none⟩) n c] w (RetScan w L) := by
  obtain ⟨i0, hi0, hz0, hz1, hz2⟩ := info_parts infoF
  have HXL := Lib.hid hx.1.len
  have hcap := hx.1.cap
  unfold maxLen at hcap
  have HB := Lib.hid (And.intro hb hx)
  clear hb hx
  go_enter Try.func39, Try.ntmps39
  go_wp2
  go_step3
  go_wp2
  go_step3
  go_wp2
  go_loopw [2, 3, 5] (fun fv sv av wr => ScanRel w L fv sv av wr) (fun _ _ av _ => n - (intOf1 av).toNat)
  case atStart => exact ⟨0, L.length + 1, 0, [], rfl, rfl, Nat.zero_le _, Nat.le_refl _, scanAt_start L, frs_nil _ _, Below.refl _ _⟩
  case round =>
    obtain ⟨a, fuel, sk, Fs, rfl, rfl, haL, hsk, HA, HF, hbw⟩ := hrel
    have han : a ≤ n := by rw [HXL.out]; exact haL
    obtain ⟨AD, hAD⟩ : ∃ AD, (if c = a then (some ⟨b, o, none⟩ : Option Addr) else some ⟨b, o + a, none⟩) = AD := ⟨_, rfl⟩
    have HD := Lib.hid (rb_tail (HB.out.2.belowM hbw hB) han hAD)
    obtain ⟨D, hD⟩ : ∃ D, D = L.drop a := ⟨_, rfl⟩
    have hDB : AllB D := by rw [hD]; exact fun x hx => HB.out.1 x (List.mem_of_mem_drop hx)
    have U := unpack_strong D hDB AD (n - a) (c - a) B wr (by rw [hD]; exact HD.out) (Nat.le_trans hB hbw.size)
    have HDD := Lib.hid (And.intro hD hDB)
    have hbd : upE D = 0 → upN D ≤ n - a ∧ 12 ≤ upN D := fun h => by
      have h1 := upE_fits h
      have h2 : D.length = n - a := by rw [hD, List.length_drop, HXL.out]
      omega
    have hbd2 : upE D ≠ 21 → a < n := fun h => by
      have h1 : D.length ≠ 0 := fun e => h (upE_nil e)
      have h2 : D.length = n - a := by rw [hD, List.length_drop, HXL.out]
      omega
    obtain ⟨st, hst⟩ : ∃ x, x = upSt D := ⟨_, rfl⟩
    obtain ⟨sq, hsq⟩ : ∃ x, x = upSq D := ⟨_, rfl⟩
    obtain ⟨X, hX⟩ : ∃ x, x = upX D := ⟨_, rfl⟩
    obtain ⟨sz, hsz⟩ : ∃ x, x = upN D := ⟨_, rfl⟩
    obtain ⟨er, her⟩ : ∃ x, x = upE D := ⟨_, rfl⟩
    have HU : Hid (Calls Try.prog 32 #[.slice AD (n - a) (c - a)] wr (RetUpS wr st sq X sz er)) := by rw [hst, hsq, hX, hsz, her]; exact U
    rw [← hsz, ← her] at hbd
    rw [← her] at hbd2
    have HE := Lib.hid (And.intro hst (And.intro hsq (And.intro hX (And.intro hsz her))))
    have HW := Lib.hid hbw
    have hbs := hbw.size
    obtain ⟨k, hk⟩ : ∃ k, n - a = k := ⟨_, rfl⟩
    obtain ⟨cd, hcd⟩ : ∃ cd, c - a = cd := ⟨_, rfl⟩
    have HU2 := Lib.hid (hk ▸ hcd ▸ HU.out : Calls Try.prog 32 #[.slice AD k cd] wr (RetUpS wr st sq X sz er))
    clear hD hDB U hst hsq hX hsz her hbw HD HU
    go_wp2_with fail
    refine HU2.out.mono ?_
    rintro e w1 ⟨v1, rfl, r1, b1, fresh⟩
    obtain ⟨A1, c1, rfl⟩ := r1.form
    obtain ⟨lx, hlx⟩ : ∃ l, l = X.length := ⟨_, rfl⟩
    rw [← hlx] at r1 fresh
    rw [← hlx]
    have hs1 := b1.size
    have FF := Lib.hid (frs_below HF.out b1)
    have HFL := Lib.hid (frs_lt HF.out)
    have f1 : Below w.heap.size w w1 := HW.out.trans (b1.mono HW.out.size)
    have R1 := Lib.hid (And.intro r1 (And.intro fresh f1))
    clear r1 b1 fresh f1 hlx HF
    have hka : (n : Int) - (a : Int) = (k : Int) := by omega
    by_cases h21 : er = 21
    · subst h21
      have hE := scanAt_end HA.out (by rw [← HDD.out.1]; exact HE.out.2.2.2.2.symm)
      rw [show L.length - a = k from by rw [← HXL.out]; exact hk] at hE
      have HEE := Lib.hid hE
      clear hE hbd hbd2
      go_wp2
      first | rw [Exit.noGoto_ret] | skip
      go_ret3
      unfold RetScan
      rw [HEE.out]
      refine ⟨_, rfl, ?_, ?_⟩
      · exact frs_below FF.out ((Below.refl _ _).alloc (Nat.le_refl _) _)
      · exact R1.out.2.2.alloc R1.out.2.2.size _
    · by_cases h0 : er = 0
      · subst h0
        obtain ⟨hz1', hz2'⟩ := hbd rfl
        have hFl : Fs.length ≤ a := HA.out.2.2.1
        obtain ⟨vs, hv1, hv2, hv3⟩ := FF.out
        have HV := Lib.hid (And.intro hv1 (And.intro hv2 hv3))
        have hg2 : ∀ (F G : Obj), Below w1.heap.size w1 ((w1.alloc F).alloc G) := fun F G => ((Below.refl _ _).alloc (Nat.le_refl _) F).alloc (by simp) G
        have TC := Lib.hid (three_cells (w1.alloc (.cells #[.int .i64 (st : Int), .int .i64 (sq : Int), .slice A1 lx c1] 33)) 33 (.int .i64 (st : Int)) (.int .i64 (sq : Int)) (.slice A1 lx c1))
        have esz : (w1.alloc (.cells #[.int .i64 (st : Int), .int .i64 (sq : Int), .slice A1 lx c1] 33)).heap.size = w1.heap.size + 1 := by simp
        rw [esz] at TC
        have hWa : IntKind.i64.wrap ((a : Int) + (sz : Int)) = ((a + sz : Nat) : Int) := by rw [IntKind.wrap_i64]; omega
        clear hv1 hv2 hv3 hbd hbd2 esz
        go_wp2_with (at_builtin
                     refine wpList_append_own_at _ rfl (.tmp 24) (.tmp 26) _ rfl w.heap.size 33 i0 _ 3 40 Try.underlying44 hi0 hz0 hz1 hz2 rfl (by decide) _ Fs.length _ rfl ((HV.out.2.1.alloc _).alloc _) ⟨w1.heap.size + 1, 0, none⟩ 1 1 [.int .i64 (st : Int), .int .i64 (sq : Int), .slice A1 lx c1] rfl rfl TC.out (by intro u hu; simp at hu; rcases hu with rfl | rfl | rfl <;> rfl) (by unfold maxLen; omega) (by omega) (by simp; omega) ?_)
        intro v' w' ho hg _ hr
        have hgA := hg2 (.cells #[.int .i64 (st : Int), .int .i64 (sq : Int), .slice A1 lx c1] 33) (.cells #[.int .i64 (st : Int), .int .i64 (sq : Int), .slice A1 lx c1] 33)
        have hFS : FrS w' w.heap.size v' (Fs ++ [(st, sq, X)]) := by
          refine frs_append HV.out.1 (fun i hi hi' => rbn_grown (HV.out.2.2 i hi hi') (grown_of_below hgA _) (Or.inl rfl)) ho hg (by simpa using hr) ⟨(R1.out.1.below hgA).more hgA.size, fun b2 o2 n2 c2 e h02 => ?_⟩
          injection e with e1 e2 e3
          subst e1
          have h1 := R1.out.2.1 b2 o2 lx c1 rfl
          intro h
          have h3 := HFL.out b2 h.symm
          omega
        have HS := Lib.hid (scanAt_ok HA.out (by rw [← HDD.out.1]; exact HE.out.2.2.2.2.symm))
        have hbw' : Below w.heap.size w w' := grown_belowB ((R1.out.2.2.alloc R1.out.2.2.size _).alloc (by have := R1.out.2.2.size; simp; omega) _) (Nat.le_refl _) hg (fun k hk => (World.ownsRow.lt HV.out.2.1 k hk).1)
        have HFS := Lib.hid (And.intro hFS hbw')
        clear ho hg hr hgA hFS hbw'
        go_wp2
        go_roundw
        case rel =>
          refine ⟨a + sz, fuel - 1, sk, Fs ++ [(st, sq, X)], by go_num, rfl, by rw [← HXL.out]; omega, by omega, ?_, HFS.out.1, HFS.out.2⟩
          show ScanAt L (a + sz) (fuel - 1) sk (Fs ++ [(st, sq, X)])
          have := HS.out
          rw [← HDD.out.1, ← HE.out.1, ← HE.out.2.1, ← HE.out.2.2.1, ← HE.out.2.2.2.1] at this
          exact this
        case measure => simp [intOf1]; omega
      · have q1 : ((er : Int) == 0) = false := by rw [beq_eq_false_iff_ne]; omega
        have q2 : ((er : Int) == 21) = false := by rw [beq_eq_false_iff_ne]; omega
        have han2 : a < n := hbd2 h21
        have HS := Lib.hid (scanAt_skip HA.out (by rw [← HDD.out.1, ← HE.out.2.2.2.2]; exact h21) (by rw [← HDD.out.1, ← HE.out.2.2.2.2]; exact h0))
        clear hbd hbd2
        go_wp2
        go_roundw
        case rel => exact ⟨a + 1, fuel - 1, sk + 1, Fs, by go_num, by go_num, by rw [← HXL.out]; omega, by omega, HS.out, frs_below FF.out ((Below.refl _ _).alloc (Nat.le_refl _) _), R1.out.2.2.alloc R1.out.2.2.size _⟩
        case measure => simp [intOf1]; omega
end Go.Proofs.Ytlokacgclihhlaa
