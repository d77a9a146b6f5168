/-
  sameFrame where both are the same.
  Numbers of a fixed size are written; validFrame; Pack, the program's.
  Scan, the program's and the document's.
-/
import Derived.Test.YtkakbeiehggkiaaH04
import Derived.Test.YtkakbeiehggkiaaH16
import Derived.Test.YtkakbeiehggkiaaH18
import Derived.Test.YtkakbeiehggkiaaH19
import Derived.WalkMore
namespace Go.Proofs.Ytkakbeiehggkiaa
open Go.RowKit

set_option maxRecDepth 100000 in
set_option maxHeartbeats 400000 in
theorem sameFrame_yes (st sq : Int) (A1 A2 : Option Addr) (n1 c1 n2 c2 B : Nat) (X : List Nat) (w : World) (h1 : RB w B (.slice A1 n1 c1) X) (h2 : RB w B (.slice A2 n2 c2) X) (hB : B ≤ w.heap.size) :
    Calls Try.prog 26 #[.agg #[.int .i64 st, .int .i64 sq, .slice A1 n1 c1], .agg #[.int .i64 st, .int .i64 sq, .slice A2 n2 c2]] w (RetB w true) := by
  have g1 := (h1.alloc hB (.cells #[.int .i64 st, .int .i64 sq, .slice A1 n1 c1] 35)).alloc (by simp; omega) (.cells #[.int .i64 st, .int .i64 sq, .slice A2 n2 c2] 35)
  have g2 := (h2.alloc hB (.cells #[.int .i64 st, .int .i64 sq, .slice A1 n1 c1] 35)).alloc (by simp; omega) (.cells #[.int .i64 st, .int .i64 sq, .slice A2 n2 c2] 35)
  have t1 := run_string_bytes g1.1
  have t2 := run_string_bytes g2.1
  obtain ⟨S, hS⟩ : ∃ S, S = strB X := ⟨_, rfl⟩
  rw [← hS] at t1 t2
  have q1 := strEqZ S
  have q2 : (st == st) = true := by simp
  have q3 : (sq == sq) = true := by simp
  clear hS g1 g2 h1 h2
  go_enter Try.func26, Try.ntmps26
  go_wp2
  go_ret
  refine ⟨by simp [q1], ?_⟩
  exact ((Below.refl _ _).alloc (Nat.le_refl _) _).alloc (by simp) _
end Go.Proofs.Ytkakbeiehggkiaa

namespace Go.Proofs.Ytkakbeiehggkiaa
open Go.RowKit

/-- The first i of the k bytes of N, the most significant one first. -/
def bebI (N k i : Nat) : List Nat := (List.range i).map (fun j => N / 2 ^ (8 * (k - 1 - j)) % 256)
def beb (N k : Nat) : List Nat := bebI N k k
theorem bebI_succ (N k i : Nat) : bebI N k (i + 1) = bebI N k i ++ [N / 2 ^ (8 * (k - 1 - i)) % 256] := by
  unfold bebI; rw [List.range_succ, List.map_append]; rfl
theorem bebI_len (N k i : Nat) : (bebI N k i).length = i := by simp [bebI]
theorem beb_len (N k : Nat) : (beb N k).length = k := bebI_len N k k
theorem allB_beb (N k : Nat) : AllB (beb N k) := by
  intro x hx
  obtain ⟨j, _, rfl⟩ := List.mem_map.1 hx
  omega
theorem be_snoc (L : List Nat) (x : Nat) : be (L ++ [x]) = be L * 256 + x := by unfold be; rw [List.foldl_append]; rfl
theorem be_bebI (N k : Nat) (hN : N < 2 ^ (8 * k)) : ∀ i, i ≤ k → be (bebI N k i) = N / 2 ^ (8 * (k - i))
  | 0, _ => by
    have : N / 2 ^ (8 * (k - 0)) = 0 := Nat.div_eq_of_lt (by simpa using hN)
    rw [this]; rfl
  | i + 1, h => by
    rw [bebI_succ, be_snoc, be_bebI N k hN i (by omega)]
    have e1 : k - i = (k - 1 - i) + 1 := by omega
    have e2 : k - (i + 1) = k - 1 - i := by omega
    rw [e1, e2, Nat.mul_add, Nat.pow_add, ← Nat.div_div_eq_div_mul]
    generalize N / 2 ^ (8 * (k - 1 - i)) = q
    have : (2 : Nat) ^ (8 * 1) = 256 := by decide
    rw [this]; omega
theorem be_beb (N k : Nat) (hN : N < 2 ^ (8 * k)) : be (beb N k) = N := by
  have := be_bebI N k hN k (Nat.le_refl _)
  rw [Nat.sub_self] at this
  unfold beb
  rw [this]; simp

def RetApp (base : Nat) (w : World) (L : List Nat) (e : Ending) (w' : World) : Prop := ∃ v, e = .returned v ∧ w'.ownsRow base 5 1 v L.length (bys L) ∧ Below base w w' ∧ w.heap.size ≤ w'.heap.size
def AppRel (base : Nat) (w : World) (X : List Nat) (N k : Nat) (vv iv : Value) (wr : World) : Prop :=
  ∃ i : Nat, i ≤ k ∧ iv = .int .i64 (i : Int) ∧ wr.ownsRow base 5 1 vv (X.length + i) (bys (X ++ bebI N k i)) ∧ Below base w wr ∧ w.heap.size ≤ wr.heap.size

theorem grown_belowB {base : Nat} {w wr w1 : World} {row : Option Nat} (hb : Below base w wr) (hbs : base ≤ w.heap.size) (hg : wr.grownBy w1 row) (h : ∀ k, row = some k → base ≤ k) : Below base w w1 :=
  hb.trans ⟨hg.os, hg.tape, hg.output, hg.size, fun k hk => hg.block k (Nat.lt_of_lt_of_le hk (Nat.le_trans hbs hb.size)) (fun e => by have := h _ e.symm; omega)⟩

set_option maxRecDepth 100000 in
set_option maxHeartbeats 400000 in
theorem appendFixed_any (N k base : Nat) (hk : k ≤ 4) (hN : N < 4294967296) (X : List Nat) (hX : X.length ≤ 1048576) (v : Value) (w : World) (ho : w.ownsRow base 5 1 v X.length (bys X)) (hbs : base ≤ w.heap.size) :
    Calls Try.prog 89 #[v, .int .i64 (N : Int), .int .i64 (k : Int)] w (RetApp base w (X ++ beb N k)) := by
  have HO := Lib.hid ho
  clear ho
  go_enter Try.func89, Try.ntmps89
  go_wp2
  go_loopw [0, 9] (fun vv iv wr => AppRel base w X N k vv iv wr) (fun _ iv _ => k - (intOf1 iv).toNat)
  case atStart => exact ⟨0, Nat.zero_le _, rfl, by simpa [bebI] using HO.out, Below.refl _ _, Nat.le_refl _⟩
  case round =>
    obtain ⟨i, hi, rfl, hown, hbw, hsz⟩ := hrel
    by_cases hik : i < k
    · obtain ⟨j, hj⟩ : ∃ j, j = k - 1 - i := ⟨_, rfl⟩
      have e1 : (k : Int) - 1 - (i : Int) = (j : Int) := by omega
      have hj3 : j ≤ 3 := by omega
      obtain ⟨x, hx⟩ : ∃ x, x = N / 2 ^ (8 * j) % 256 := ⟨_, rfl⟩
      have e2 : IntKind.u8.wrap ((N : Int) / 2 ^ (8 * j)) = (x : Int) := by
        have : ((N : Int) / 2 ^ (8 * j)) = ((N / 2 ^ (8 * j) : Nat) : Int) := by simp
        rw [this, hx, IntKind.wrap_u8]; omega
      have HJ := Lib.hid (And.intro hj hx)
      clear hj hx
      have OC : RB (wr.alloc (.cells #[.int .u8 (x : Int)] 5)) (wr.heap.size + 1) (.slice (some ⟨wr.heap.size, 0, none⟩) 1 1) [x] := rb_one wr _ x
      have HOW := Lib.hid hown
      clear hown
      have hsb : base ≤ wr.heap.size := Nat.le_trans hbs hsz
      go_wp2_with (at_builtin
                   refine wpList_append_bytes rfl (.tmp 12) (.tmp 21) rfl base (wr.heap.size + 1) _ _ (X ++ bebI N k i) rfl (HOW.out.alloc _) _ [x] rfl OC (by simp; omega) (by simp; omega) ?_)
      intro v3 w3 hown3 hg3
      go_wp2
      go_roundw
      case rel =>
        refine ⟨i + 1, by omega, by go_num, ?_, ?_, ?_⟩
        · rw [bebI_succ, ← HJ.out.1, ← HJ.out.2, ← List.append_assoc]
          simpa [Nat.add_assoc] using hown3
        · exact grown_belowB (hbw.alloc hsb _) hbs hg3 (ownBlock_ge HOW.out)
        · have := hg3.size; simp at this; omega
      case measure => simp [intOf1]; omega
    · obtain rfl : i = k := by omega
      go_wp2
      go_ret
      refine ⟨_, rfl, ?_, hbw, hsz⟩
      rw [List.length_append, beb_len]
      exact hown
end Go.Proofs.Ytkakbeiehggkiaa

namespace Go.Proofs.Ytkakbeiehggkiaa
open Go.RowKit

theorem infoF : (Try.prog.info? 35).map (fun i => (i.zero, i.size, i.bytes)) = some (some (.agg #[.int .i64 0, .int .i64 0, .slice none 0 0]), 3, 40) := by kernel_rfl

def RetScan (w : World) (L : List Nat) (e : Ending) (w' : World) : Prop :=
  ∃ v, e = .returned (.tuple #[v, .int .i64 ((scanF (L.length + 1) L).2.1 : Nat), .int .i64 ((scanF (L.length + 1) L).2.2 : Nat)]) ∧ FrS w' w.heap.size v (scanF (L.length + 1) L).1 ∧ Below w.heap.size w w'
def ScanRel (w : World) (L : List Nat) (fv sv av : Value) (wr : World) : Prop :=
  ∃ a fuel sk Fs, av = .int .i64 ((a : Nat) : Int) ∧ sv = .int .i64 ((sk : Nat) : Int) ∧ a ≤ L.length ∧ sk ≤ a ∧ Hid (ScanAt L a fuel sk Fs) ∧ Hid (FrS wr w.heap.size fv Fs) ∧ Below w.heap.size w wr
theorem rb_tail {w : World} {B b o n c a : Nat} {L : List Nat} {AD : Option Addr} (h : RB w B (.slice (some ⟨b, o, none⟩) n c) L) (ha : a ≤ n) (hAD : (if c = a then (some ⟨b, o, none⟩ : Option Addr) else some ⟨b, o + a, none⟩) = AD) : RB w B (.slice AD (n - a) (c - a)) (L.drop a) := by
  have hl := h.1.len
  have hc := h.1.cap
  subst hAD
  by_cases hca : c = a
  · rw [if_pos hca]
    exact ⟨RW.mk (by rw [List.length_drop]; omega) (by omega) (by omega) (fun h0 => absurd h0 (by omega)), nz_some⟩
  · rw [if_neg hca]
    have := rb_sl (i := a) (k := n - a) h (by omega)
    have e : sl L a (n - a) = L.drop a := by unfold sl; rw [List.take_of_length_le (by rw [List.length_drop]; omega)]
    rw [e] at this
    exact this
theorem frs_lt {w : World} {base : Nat} {v : Value} {Fs : List Fr} (h : FrS w base v Fs) : ∀ k, v.ownBlock = some k → k < w.heap.size := by
  obtain ⟨vs, h1, h2, _⟩ := h
  exact fun k hk => (World.ownsRow.lt h2 k hk).2
theorem three_cells (w : World) (e : TypeId) (a b c : Value) : ∀ j u, [a, b, c][j]? = some u → (w.alloc (.cells #[a, b, c] e)).cell? ((⟨w.heap.size, 0, none⟩ : Addr).add j) = some u := by
  intro j u hj
  match j, hj with
  | 0, hj => simp at hj; subst hj; rw [add_none]; exact built_cells3 w _ e 0 _ rfl
  | 1, hj => simp at hj; subst hj; rw [add_none]; exact built_cells3 w _ e 1 _ rfl
  | 2, hj => simp at hj; subst hj; rw [add_none]; exact built_cells3 w _ e 2 _ rfl
where
  built_cells3 (w : World) (cs : Array Value) (e : TypeId) (j : Nat) (v : Value) (h : cs[j]? = some v) : (w.alloc (.cells cs e)).cell? ⟨w.heap.size, 0 + j, none⟩ = some v := by
    rw [Nat.zero_add, cell_of_row _ _ j cs e (0, 0) (heap_alloc_new w _), h]

set_option maxRecDepth 100000 in
set_option maxHeartbeats 2000000 in
theorem scan_some (L : List Nat) (hb : AllB L) (b o : Nat) (n c B : Nat) (h64 : n ≤ 1048576) (w : World) (hx : RB w B (.slice (some ⟨b, o, none⟩) n c) L) (hB : B ≤ w.heap.size) :
    Calls Try.prog 83 #[.slice (some ⟨b, o, none⟩) n c] w (RetScan w L) := by
  obtain ⟨i0, hi0, hz0, hz1, hz2⟩ := info_parts infoF
  have HXL := Lib.hid hx.1.len
  have hcap := hx.1.cap
  unfold maxLen at hcap
  have HB := Lib.hid (And.intro hb hx)
  clear hb hx
  go_enter Try.func83, Try.ntmps83
  go_wp2
  go_step3
  go_wp2
  go_step3
  go_wp2
  go_loopw [2, 3, 5] (fun fv sv av wr => ScanRel w L fv sv av wr) (fun _ _ av _ => n - (intOf1 av).toNat)
  case atStart => exact ⟨0, L.length + 1, 0, [], rfl, rfl, Nat.zero_le _, Nat.le_refl _, scanAt_start L, frs_nil _ _, Below.refl _ _⟩
  case round =>
    obtain ⟨a, fuel, sk, Fs, rfl, rfl, haL, hsk, HA, HF, hbw⟩ := hrel
    have han : a ≤ n := by rw [HXL.out]; exact haL
    obtain ⟨AD, hAD⟩ : ∃ AD, (if c = a then (some ⟨b, o, none⟩ : Option Addr) else some ⟨b, o + a, none⟩) = AD := ⟨_, rfl⟩
    have HD := Lib.hid (rb_tail (HB.out.2.belowM hbw hB) han hAD)
    obtain ⟨D, hD⟩ : ∃ D, D = L.drop a := ⟨_, rfl⟩
    have hDB : AllB D := by rw [hD]; exact fun x hx => HB.out.1 x (List.mem_of_mem_drop hx)
    have U := unpack_strong D hDB AD (n - a) (c - a) B wr (by rw [hD]; exact HD.out) (Nat.le_trans hB hbw.size)
    have HDD := Lib.hid (And.intro hD hDB)
    have hbd : upE D = 0 → upN D ≤ n - a ∧ 12 ≤ upN D := fun h => by
      have h1 := upE_fits h
      have h2 : D.length = n - a := by rw [hD, List.length_drop, HXL.out]
      omega
    have hbd2 : upE D ≠ 21 → a < n := fun h => by
      have h1 : D.length ≠ 0 := fun e => h (upE_nil e)
      have h2 : D.length = n - a := by rw [hD, List.length_drop, HXL.out]
      omega
    obtain ⟨st, hst⟩ : ∃ x, x = upSt D := ⟨_, rfl⟩
    obtain ⟨sq, hsq⟩ : ∃ x, x = upSq D := ⟨_, rfl⟩
    obtain ⟨X, hX⟩ : ∃ x, x = upX D := ⟨_, rfl⟩
    obtain ⟨sz, hsz⟩ : ∃ x, x = upN D := ⟨_, rfl⟩
    obtain ⟨er, her⟩ : ∃ x, x = upE D := ⟨_, rfl⟩
    have HU : Hid (Calls Try.prog 91 #[.slice AD (n - a) (c - a)] wr (RetUpS wr st sq X sz er)) := by rw [hst, hsq, hX, hsz, her]; exact U
    rw [← hsz, ← her] at hbd
    rw [← her] at hbd2
    have HE := Lib.hid (And.intro hst (And.intro hsq (And.intro hX (And.intro hsz her))))
    have HW := Lib.hid hbw
    have hbs := hbw.size
    obtain ⟨k, hk⟩ : ∃ k, n - a = k := ⟨_, rfl⟩
    obtain ⟨cd, hcd⟩ : ∃ cd, c - a = cd := ⟨_, rfl⟩
    have HU2 := Lib.hid (hk ▸ hcd ▸ HU.out : Calls Try.prog 91 #[.slice AD k cd] wr (RetUpS wr st sq X sz er))
    clear hD hDB U hst hsq hX hsz her hbw HD HU
    go_wp2_with fail
    refine HU2.out.mono ?_
    rintro e w1 ⟨v1, rfl, r1, b1, fresh⟩
    obtain ⟨A1, c1, rfl⟩ := r1.form
    obtain ⟨lx, hlx⟩ : ∃ l, l = X.length := ⟨_, rfl⟩
    rw [← hlx] at r1 fresh
    rw [← hlx]
    have hs1 := b1.size
    have FF := Lib.hid (frs_below HF.out b1)
    have HFL := Lib.hid (frs_lt HF.out)
    have f1 : Below w.heap.size w w1 := HW.out.trans (b1.mono HW.out.size)
    have R1 := Lib.hid (And.intro r1 (And.intro fresh f1))
    clear r1 b1 fresh f1 hlx HF
    have hka : (n : Int) - (a : Int) = (k : Int) := by omega
    by_cases h21 : er = 21
    · subst h21
      have hE := scanAt_end HA.out (by rw [← HDD.out.1]; exact HE.out.2.2.2.2.symm)
      rw [show L.length - a = k from by rw [← HXL.out]; exact hk] at hE
      have HEE := Lib.hid hE
      clear hE hbd hbd2
      go_wp2
      first | rw [Exit.noGoto_ret] | skip
      go_ret3
      unfold RetScan
      rw [HEE.out]
      refine ⟨_, rfl, ?_, ?_⟩
      · exact frs_below FF.out ((Below.refl _ _).alloc (Nat.le_refl _) _)
      · exact R1.out.2.2.alloc R1.out.2.2.size _
    · by_cases h0 : er = 0
      · subst h0
        obtain ⟨hz1', hz2'⟩ := hbd rfl
        have hFl : Fs.length ≤ a := HA.out.2.2.1
        obtain ⟨vs, hv1, hv2, hv3⟩ := FF.out
        have HV := Lib.hid (And.intro hv1 (And.intro hv2 hv3))
        have hg2 : ∀ (F G : Obj), Below w1.heap.size w1 ((w1.alloc F).alloc G) := fun F G => ((Below.refl _ _).alloc (Nat.le_refl _) F).alloc (by simp) G
        have TC := Lib.hid (three_cells (w1.alloc (.cells #[.int .i64 (st : Int), .int .i64 (sq : Int), .slice A1 lx c1] 35)) 35 (.int .i64 (st : Int)) (.int .i64 (sq : Int)) (.slice A1 lx c1))
        have esz : (w1.alloc (.cells #[.int .i64 (st : Int), .int .i64 (sq : Int), .slice A1 lx c1] 35)).heap.size = w1.heap.size + 1 := by simp
        rw [esz] at TC
        have hWa : IntKind.i64.wrap ((a : Int) + (sz : Int)) = ((a + sz : Nat) : Int) := by rw [IntKind.wrap_i64]; omega
        clear hv1 hv2 hv3 hbd hbd2 esz
        go_wp2_with (at_builtin
                     refine wpList_append_own_at _ rfl (.tmp 24) (.tmp 26) _ rfl w.heap.size 35 i0 _ 3 40 Try.underlying63 hi0 hz0 hz1 hz2 rfl (by decide) _ Fs.length _ rfl ((HV.out.2.1.alloc _).alloc _) ⟨w1.heap.size + 1, 0, none⟩ 1 1 [.int .i64 (st : Int), .int .i64 (sq : Int), .slice A1 lx c1] rfl rfl TC.out (by intro u hu; simp at hu; rcases hu with rfl | rfl | rfl <;> rfl) (by unfold maxLen; omega) (by omega) (by simp; omega) ?_)
        intro v' w' ho hg _ hr
        have hgA := hg2 (.cells #[.int .i64 (st : Int), .int .i64 (sq : Int), .slice A1 lx c1] 35) (.cells #[.int .i64 (st : Int), .int .i64 (sq : Int), .slice A1 lx c1] 35)
        have hFS : FrS w' w.heap.size v' (Fs ++ [(st, sq, X)]) := by
          refine frs_append HV.out.1 (fun i hi hi' => rbn_grown (HV.out.2.2 i hi hi') (grown_of_below hgA _) (Or.inl rfl)) ho hg (by simpa using hr) ⟨(R1.out.1.below hgA).more hgA.size, fun b2 o2 n2 c2 e h02 => ?_⟩
          injection e with e1 e2 e3
          subst e1
          have h1 := R1.out.2.1 b2 o2 lx c1 rfl
          intro h
          have h3 := HFL.out b2 h.symm
          omega
        have HS := Lib.hid (scanAt_ok HA.out (by rw [← HDD.out.1]; exact HE.out.2.2.2.2.symm))
        have hbw' : Below w.heap.size w w' := grown_belowB ((R1.out.2.2.alloc R1.out.2.2.size _).alloc (by have := R1.out.2.2.size; simp; omega) _) (Nat.le_refl _) hg (fun k hk => (World.ownsRow.lt HV.out.2.1 k hk).1)
        have HFS := Lib.hid (And.intro hFS hbw')
        clear ho hg hr hgA hFS hbw'
        go_wp2
        go_roundw
        case rel =>
          refine ⟨a + sz, fuel - 1, sk, Fs ++ [(st, sq, X)], by go_num, rfl, by rw [← HXL.out]; omega, by omega, ?_, HFS.out.1, HFS.out.2⟩
          show ScanAt L (a + sz) (fuel - 1) sk (Fs ++ [(st, sq, X)])
          have := HS.out
          rw [← HDD.out.1, ← HE.out.1, ← HE.out.2.1, ← HE.out.2.2.1, ← HE.out.2.2.2.1] at this
          exact this
        case measure => simp [intOf1]; omega
      · have q1 : ((er : Int) == 0) = false := by rw [beq_eq_false_iff_ne]; omega
        have q2 : ((er : Int) == 21) = false := by rw [beq_eq_false_iff_ne]; omega
        have han2 : a < n := hbd2 h21
        have HS := Lib.hid (scanAt_skip HA.out (by rw [← HDD.out.1, ← HE.out.2.2.2.2]; exact h21) (by rw [← HDD.out.1, ← HE.out.2.2.2.2]; exact h0))
        clear hbd hbd2
        go_wp2
        go_roundw
        case rel => exact ⟨a + 1, fuel - 1, sk + 1, Fs, by go_num, by go_num, by rw [← HXL.out]; omega, by omega, HS.out, frs_below FF.out ((Below.refl _ _).alloc (Nat.le_refl _) _), R1.out.2.2.alloc R1.out.2.2.size _⟩
        case measure => simp [intOf1]; omega
end Go.Proofs.Ytkakbeiehggkiaa
