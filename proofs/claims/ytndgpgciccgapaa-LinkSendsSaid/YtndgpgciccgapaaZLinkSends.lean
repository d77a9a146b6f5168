/-
  For any stream, window and script the law LinkSends returns true and leaves its arguments as they were: no condition.
-/
import Derived.Test.YtndgpgciccgapaaZRsn4
import Derived.Test.YtndgpgciccgapaaZSameFs
import Derived.Test.YtndgpgciccgapaaZNumber
import Derived.Test.YtndgpgciccgapaaZPost
import Derived.Test.YtndgpgciccgapaaZValid
import Derived.Test.YtndgpgciccgapaaZOpenW
import Derived.Lib.SmallJoins
namespace Go.Proofs.Ytndgpgciccgapaa.linkSends
open Go.Proofs.Ytndgpgciccgapaa
open Go.ChangeShapes Go.WideShapes Go.ChangeAt Go.RowKit Go.Joins Go.Maps
set_option linter.unusedVariables false
attribute [local go_sem ↓] Go.wp_at_zero Go.wp_at_succ

theorem belS {w W w1 : World} (h0 : Below w.heap.size w W) (h : Below W.heap.size W w1) : Below w.heap.size w w1 := h0.trans (h.mono h0.size)

theorem cellsSd : Try.prog.cellsOf 56 = 4 := by kernel_rfl
/-- Call i of a script at A. -/
def SdIn (w : World) (A : Option Addr) (i : Nat) : Prop :=
  ∃ b o k z A' n' c' X B' m' d' zs, A = some ⟨b, o, none⟩ ∧ b < w.heap.size ∧ w.cell? ⟨b, o + i * 4, none⟩ = some (.int .i64 k) ∧ w.cell? ⟨b, o + i * 4 + 1, none⟩ = some (.int .i64 z) ∧ w.cell? ⟨b, o + i * 4 + 2, none⟩ = some (.slice A' n' c') ∧ w.cell? ⟨b, o + i * 4 + 3, none⟩ = some (.slice B' m' d') ∧
    (Lit.int .i64 k).wf = true ∧ (Lit.int .i64 z).wf = true ∧ RB w w.heap.size (.slice A' n' c') X ∧ AllI zs ∧ IW w w.heap.size (.slice B' m' d') zs

set_option maxRecDepth 100000 in
theorem open_script {H : Type} {enc : TypeId × Value → H} {W : World} {b : Nat} {v : Value} {d : DataW H} {ps : List MemPlace}
    (hok : Value.okWide Try.prog W .any b 48 v) (h : DataW.Trod enc Try.prog W 0 (fun _ => true) true 48 v d ps) :
    ∃ A n c, v = .slice A n c ∧ ∀ i, i < n → SdIn W A i := by
  obtain ⟨a0, n, c, rfl⟩ := WideShapes.okWide_slice Try.underlying48 hok
  obtain ⟨fuel, hf0⟩ := h
  have hf : DataW.trod enc Try.prog W 0 (fun _ => true) true fuel 48 [.slice a0 n c] = some (d, ps) := by simpa [Value.cells] using hf0
  refine ⟨a0, n, c, rfl, ?_⟩
  rcases Go.Deep.open_slice Try.underlying48 hf with ⟨hcs, _⟩ | ⟨a, len, cap, m, k, D, Pl, hcs, hb, hl, hm, hmm, hx, hel⟩
  · simp only [List.cons.injEq, and_true] at hcs
    injection hcs with e1 e2 e3
    subst e2
    exact fun i hi => absurd hi (by omega)
  · simp only [List.cons.injEq, and_true] at hcs
    injection hcs with e1 e2 e3
    subst e1 e2 e3
    intro i hi
    have hsp : a.spot = none := by
      obtain ⟨cs0, h1, _⟩ := hel 0 (by rw [hmm]; split <;> omega)
      rw [cellsSd] at h1
      obtain ⟨_, hlen, hcell⟩ := World.cells?_some h1
      have h0 := hcell 0 (by omega)
      rw [List.getElem?_eq_getElem (by omega)] at h0
      simpa [Addr.add] using World.cell?_spot h0
    obtain ⟨cs', h1, h2⟩ := hel i (by rw [hmm]; split <;> omega)
    rw [cellsSd] at h1
    obtain ⟨_, hlen, hcell⟩ := World.cells?_some h1
    have ci : Try.prog.cellsOf 3 = 1 := by kernel_rfl
    have cB : Try.prog.cellsOf 31 = 1 := by kernel_rfl
    have cI : Try.prog.cellsOf 43 = 1 := by kernel_rfl
    obtain ⟨y0, y1, y2, y3, k', hx', _, g0, g1, g2, g3⟩ := trod_struct4 Try.underlying56 h2
    match cs', hlen with
    | [u0, u1, u2, u3], _ =>
      simp only [ci, cB, cI, List.drop_zero, List.drop_succ_cons, List.take_succ_cons, List.take_zero] at g0 g1 g2 g3
      obtain ⟨st, e0, _, wst⟩ := DataW.trod_int Try.underlying3 g0
      obtain ⟨sq, e1, _, wsq⟩ := DataW.trod_int Try.underlying3 g1
      simp at e0 e1
      subst e0 e1
      obtain ⟨A', n', c', X, rfl, hXB, hX⟩ := open_bytesRB_cell g2
      have hform : ∃ A n c, u3 = .slice A n c := by
        rcases open_ints Try.underlying43 Try.underlying3 cellsI g3 with ⟨hcs, hx⟩ | ⟨a, len', cap', zs, hcs, _⟩
        · simp only [List.cons.injEq, and_true] at hcs
          exact ⟨_, _, _, hcs⟩
        · simp only [List.cons.injEq, and_true] at hcs
          exact ⟨_, _, _, hcs⟩
      obtain ⟨B', m', d', rfl⟩ := hform
      obtain ⟨zs, hai, hz⟩ := open_numbers_cs g3
      have p0 := hcell 0 (by omega)
      have p1 := hcell 1 (by omega)
      have p2 := hcell 2 (by omega)
      have p3 := hcell 3 (by omega)
      rw [Go.Deep.add_add] at p0 p1 p2 p3
      simp only [List.getElem?_cons_zero, List.getElem?_cons_succ, Nat.add_zero] at p0 p1 p2 p3
      obtain ⟨bb, off, spot⟩ := a
      simp only at hsp
      subst hsp
      rw [Go.WideShapes.add_plain] at p0 p1 p2 p3
      exact ⟨bb, off, st, sq, A', n', c', X, B', m', d', zs, rfl, World.block_lt_of_cell? _ _ p0, p0, by rw [Nat.add_assoc]; exact p1, by rw [Nat.add_assoc]; exact p2, by rw [Nat.add_assoc]; exact p3, wst, wsq, hX, hai, hz⟩

theorem S0ex (w : World) (x y : Int) (u v : Value) : ∃ W0, Hid (W0 = w.alloc (.cells #[.int .i64 x, .int .i64 y, u, v] 56)) ∧ Below w.heap.size w W0 ∧
    Hid (W0.heap[w.heap.size]? = some (.cells #[.int .i64 x, .int .i64 y, u, v] 56 (0, 0))) ∧ w.heap.size < W0.heap.size :=
  ⟨_, rfl, (Below.refl _ _).alloc (Nat.le_refl _) _, heap_alloc_new w _, by simp⟩
theorem sd_blk {w w' : World} {g : Nat} {a b c d : Value} {T : TypeId} (h : w.heap[g]? = some (.cells #[a, b, c, d] T (0, 0))) (hb : Below w.heap.size w w') : w'.cell? ⟨g, 0, none⟩ = some a ∧ w'.cell? ⟨g, 1, none⟩ = some b ∧ w'.cell? ⟨g, 2, none⟩ = some c ∧ w'.cell? ⟨g, 3, none⟩ = some d := by
  have h1 := (hb.block g (Array.getElem?_eq_some_iff.1 h).1).trans h
  exact ⟨cell_of_row _ _ _ _ _ _ h1, cell_of_row _ _ _ _ _ _ h1, cell_of_row _ _ _ _ _ _ h1, cell_of_row _ _ _ _ _ _ h1⟩

theorem rsn_lt {w : World} {g base : Nat} {st win : Int} {a : Nat} {Bs : List (List Nat)} (h : Rsn w g base st win a Bs) : g < w.heap.size := by
  obtain ⟨bv, h1, _⟩ := h
  exact (Array.getElem?_eq_some_iff.1 h1).1
theorem rsn_by {w w' : World} {g mb g2 base a b : Nat} {st win st2 win2 : Int} {Bs Cs : List (List Nat)} (hS : Snd w g mb st win a Bs) (hR : Rsn w g2 base st2 win2 b Cs) (ho : Only (fun k => k = g ∨ k = mb) w w') (h1 : g ≠ g2) (h2 : mb ≠ g2) : Rsn w' g2 base st2 win2 b Cs := by
  refine rsn_only hR ho (snd_nob hS) (fun e => by rcases e with e | e <;> omega) (fun k cs hk e => ?_)
  rcases e with rfl | rfl
  · rw [hS.1] at hk
    injection hk with hk
    injection hk with _ hk
    exact absurd hk (by decide)
  · obtain ⟨_, _, f, hm, _⟩ := hS
    obtain ⟨es, c, hb⟩ := hm.block
    rw [hb] at hk
    cases hk
theorem nob_roff {w : World} {g base base' : Nat} {st win : Int} {a : Nat} {Bs : List (List Nat)} (h : Rsn w g base' st win a Bs) : NoB w (fun k => k = g ∨ (base ≤ k ∧ ∃ cs, w.heap[k]? = some (.cells cs 31 (0, 0)))) := by
  intro k cs fr hk e
  rcases e with rfl | ⟨_, cs', hc⟩
  · obtain ⟨bv, h1, _⟩ := h
    rw [h1] at hk
    injection hk with hk
    injection hk with _ hk
    exact absurd hk (by decide)
  · rw [hc] at hk
    injection hk with hk
    injection hk with _ hk
    exact absurd hk (by decide)
theorem snd_by {w w' : World} {g mb g2 base a : Nat} {st win : Int} {Bs : List (List Nat)} (hS : Snd w g mb st win a Bs) (ho : Only (fun k => k = g2 ∨ (base ≤ k ∧ ∃ cs, w.heap[k]? = some (.cells cs 31 (0, 0)))) w w') (hn : NoB w (fun k => k = g2 ∨ (base ≤ k ∧ ∃ cs, w.heap[k]? = some (.cells cs 31 (0, 0))))) (h1 : g ≠ g2) (h2 : mb ≠ g2) : Snd w' g mb st win a Bs := by
  refine snd_only hS ho hn (fun e => ?_) (fun e => ?_)
  · rcases e with e | ⟨_, cs, hc⟩
    · exact h1 e
    · rw [hS.1] at hc
      injection hc with hc
      injection hc with _ hc
      exact absurd hc (by decide)
  · rcases e with e | ⟨_, cs, hc⟩
    · exact h2 e
    · obtain ⟨_, _, f, hm, _⟩ := hS
      obtain ⟨es, c, hb⟩ := hm.block
      rw [hb] at hc
      cases hc

def SdRel (w : World) (g mb g2 S n : Nat) (win : Int) (iv : Value) (wr : World) : Prop :=
  ∃ (k a : Nat) (Bs : List (List Nat)), iv = .int .i64 (k : Int) ∧ k ≤ n ∧ Bs.length ≤ k ∧ Hid (∀ (i : Nat) (hi : i < Bs.length), Bs[i].length ≤ 1024) ∧ Hid (Snd wr g mb (S : Int) win a Bs) ∧ Hid (Rsn wr g2 w.heap.size (S : Int) win a Bs) ∧ Below w.heap.size w wr

set_option maxRecDepth 100000 in
set_option maxHeartbeats 4000000 in
theorem walk_in (S : Nat) (win : Int) (A : Option Addr) (n c : Nat) (w : World) (hn : n ≤ 60) (hF : ∀ i, i < n → SdIn w A i) (hok : okSn (S : Int) win) :
    Calls Try.prog 5 #[.int .i64 (S : Int), .int .i64 win, .slice A n c] w (RetB w true) := by
  have hni : (n : Int) ≤ 60 := by omega
  have HF := Lib.hid hF
  have HN := Lib.hid (newS_yes (S : Int) win w hok)
  have hok2 := hok.2
  have HOK := Lib.hid hok
  clear hF hok
  go_enter Try.func5, Try.ntmps5
  go_wp2_with fail
  refine HN.out.mono ?_
  rintro e w1 ⟨g, mb, rfl, hS1, hg, hm, b1⟩
  have HS1 := Lib.hid hS1
  have HB1 := Lib.hid b1
  clear hS1 b1
  go_wp2_with fail
  refine (rnewS_yes (S : Int) win w1 HOK.out).mono ?_
  rintro e w2 ⟨g2, rfl, hR2, hg2, hl2, b2⟩
  have h0 : SdRel w g mb g2 S n win (.int .i64 0) w2 := ⟨0, 0, [], rfl, Nat.zero_le _, Nat.le_refl _, Lib.hid (fun i hi => by simp at hi), Lib.hid (snd_below HS1.out b2), Lib.hid (hR2 _), belS HB1.out b2⟩
  have H0 := Lib.hid h0
  have hap := snd_apart HS1.out
  have hgg : g ≠ g2 := by have := hap.2.1; omega
  have hmg : mb ≠ g2 := by have := hap.2.2; omega
  have hgm := hap.1
  have hg2w : w.heap.size ≤ g2 := Nat.le_trans HB1.out.size hg2
  clear h0 hR2 hap b2
  go_wp2_with fail
  go_loopw [48] (fun iv wr => SdRel w g mb g2 S n win iv wr) (fun iv _ => n - (intOf1 iv).toNat)
  case atStart => exact H0.out
  case round =>
    obtain ⟨k, a, Bs, rfl, hk, hlB, HL, HS, HR, hbw⟩ := hrel
    by_cases hkn : k < n
    · obtain ⟨b, o, kd, z, A', n', c', X, B', m', d', zs, rfl, hb, p0, p1, p2, p3, wk, wz, hX, hai, hz⟩ := HF.out k hkn
      have i1 : (0 : Int) ≤ (k : Int) := by omega
      have i2 : (k : Int) < (n : Int) := by omega
      have q0 := (hbw.cell (p := ⟨b, o + k * 4, none⟩) hb).trans p0
      have q1 := (hbw.cell (p := ⟨b, o + k * 4 + 1, none⟩) hb).trans p1
      have q2 := (hbw.cell (p := ⟨b, o + k * 4 + 2, none⟩) hb).trans p2
      have q3 := (hbw.cell (p := ⟨b, o + k * 4 + 3, none⟩) hb).trans p3
      obtain ⟨W2, HW2, hw2, HG2, z2⟩ := S0ex wr kd z (.slice A' n' c') (.slice B' m' d')
      have HBw := Lib.hid hbw
      have HB2 := Lib.hid (And.intro (belS hbw hw2) hw2)
      have HS2 := Lib.hid (snd_below HS.out hw2)
      have HR2 := Lib.hid (rsn_below HR.out hw2)
      have HX := Lib.hid (And.intro hX (And.intro hai (And.intro hz (And.intro wk wz))))
      obtain ⟨r0, r1, r2, r3⟩ := sd_blk HG2.out (Below.refl _ _)
      clear p0 p1 p2 p3 wk wz hX hai hz hbw
      by_cases hbg : 1032 < n'
      · have j1 : (1032 : Int) < (n' : Int) := by omega
        go_wp2_with fail
        rw [← HW2.out]
        go_wp2_with fail
        refine (awake_any _).mono ?_
        rintro e w3 ⟨rfl, b3⟩
        go_wp2
        go_ret
        exact ⟨rfl, belS HB2.out.1 b3⟩
      by_cases hbm : 40 < m'
      · have j1 : ¬ (1032 : Int) < (n' : Int) := by omega
        have j2 : (40 : Int) < (m' : Int) := by omega
        go_wp2_with fail
        rw [← HW2.out]
        go_wp2_with fail
        refine (awake_any _).mono ?_
        rintro e w3 ⟨rfl, b3⟩
        go_wp2
        go_ret
        exact ⟨rfl, belS HB2.out.1 b3⟩
      have j1 : ¬ (1032 : Int) < (n' : Int) := by omega
      have j2 : ¬ (40 : Int) < (m' : Int) := by omega
      by_cases h0 : (IntKind.u64.wrap kd).tmod 4 = 0
      · have d0 : ((IntKind.u64.wrap kd).tmod 4 == 0) = true := by simp [h0]
        clear h0
        go_wp2_with fail
        rw [← HW2.out]
        go_wp2_with fail
        by_cases hlong : 1024 < n'
        · skip
          refine (offer_long g mb S a win Bs A' n' c' W2 HS2.out hok2.1 hlong).mono ?_
          rintro e w3 ⟨rfl, b3⟩
          have HS3 := Lib.hid (snd_below HS2.out b3)
          have HR3 := Lib.hid (rsn_below HR2.out b3)
          have hb3 := belS HB2.out.1 b3
          obtain ⟨W3, HW3, hw3, HG3, z3⟩ := F0ex w3 0 0 (.slice none 0 0)
          have HB3 := Lib.hid (belS hb3 hw3)
          have HS4 := Lib.hid (snd_below HS3.out hw3)
          have HR4 := Lib.hid (rsn_below HR3.out hw3)
          have r2a := fun o => (sd_blk HG2.out (b3.alloc b3.size o)).2.2.1
          clear b3 hb3 hw3 r0 r1 r2 r3 q0 q1 q2 q3
          go_wp2_with fail
          rw [← HW3.out]
          refine (roffer_long g2 w.heap.size S a win Bs A' n' c' W3 HR4.out hlong).mono ?_
          rintro e w4 ⟨rfl, b4⟩
          have hb4 := belS HB3.out b4
          obtain ⟨W4, HW4, hw4, HG4, z4⟩ := F0ex w4 0 0 (.slice none 0 0)
          have HB4 := Lib.hid (belS hb4 hw4)
          have b34 := b4.trans (hw4.mono b4.size)
          have HS5 := Lib.hid (snd_below HS4.out b34)
          have HR5 := Lib.hid (rsn_below HR4.out b34)
          have k0 := fun o => (fr_blk HG3.out (b4.alloc b4.size o)).1
          have k1 := fun o => (fr_blk HG3.out (b4.alloc b4.size o)).2.1
          have k2 := fun o => (fr_blk HG3.out (b4.alloc b4.size o)).2.2.1
          clear b4 hb4 hw4 b34 r2a
          go_wp2_with fail
          rw [← HW4.out]
          refine (sameFrame_yes 0 0 none none 0 0 0 0 W4.heap.size [] W4 ⟨RW.nil_, nz_none⟩ ⟨RW.nil_, nz_none⟩ (Nat.le_refl _)).mono ?_
          rintro e w5 ⟨rfl, b5⟩
          have HS6 := Lib.hid (snd_below HS5.out b5)
          have HR6 := Lib.hid (rsn_below HR5.out b5)
          have HB6 := Lib.hid (belS HB4.out b5)
          clear b5
          go_wp2
          go_roundw
          case rel => exact ⟨k + 1, a, Bs, by go_num, by omega, by omega, HL, HS6, HR6, HB6.out⟩
          case measure => simp [intOf1]; omega
        · by_cases hfull : win ≤ (Bs.length : Int) - (a : Int)
          · skip
            refine (offer_full g mb S a win Bs A' n' c' W2 HS2.out hok2.1 (by omega) (by omega) hfull).mono ?_
            rintro e w3 ⟨rfl, b3⟩
            have HS3 := Lib.hid (snd_below HS2.out b3)
            have HR3 := Lib.hid (rsn_below HR2.out b3)
            have hb3 := belS HB2.out.1 b3
            obtain ⟨W3, HW3, hw3, HG3, z3⟩ := F0ex w3 0 0 (.slice none 0 0)
            have HB3 := Lib.hid (belS hb3 hw3)
            have HS4 := Lib.hid (snd_below HS3.out hw3)
            have HR4 := Lib.hid (rsn_below HR3.out hw3)
            have r2a := fun o => (sd_blk HG2.out (b3.alloc b3.size o)).2.2.1
            clear b3 hb3 hw3 r0 r1 r2 r3 q0 q1 q2 q3
            go_wp2_with fail
            rw [← HW3.out]
            refine (roffer_full g2 w.heap.size S a win Bs A' n' c' W3 HR4.out (by omega) (by omega) hfull).mono ?_
            rintro e w4 ⟨rfl, b4⟩
            have hb4 := belS HB3.out b4
            obtain ⟨W4, HW4, hw4, HG4, z4⟩ := F0ex w4 0 0 (.slice none 0 0)
            have HB4 := Lib.hid (belS hb4 hw4)
            have b34 := b4.trans (hw4.mono b4.size)
            have HS5 := Lib.hid (snd_below HS4.out b34)
            have HR5 := Lib.hid (rsn_below HR4.out b34)
            have k0 := fun o => (fr_blk HG3.out (b4.alloc b4.size o)).1
            have k1 := fun o => (fr_blk HG3.out (b4.alloc b4.size o)).2.1
            have k2 := fun o => (fr_blk HG3.out (b4.alloc b4.size o)).2.2.1
            clear b4 hb4 hw4 b34 r2a
            go_wp2_with fail
            rw [← HW4.out]
            refine (sameFrame_yes 0 0 none none 0 0 0 0 W4.heap.size [] W4 ⟨RW.nil_, nz_none⟩ ⟨RW.nil_, nz_none⟩ (Nat.le_refl _)).mono ?_
            rintro e w5 ⟨rfl, b5⟩
            have HS6 := Lib.hid (snd_below HS5.out b5)
            have HR6 := Lib.hid (rsn_below HR5.out b5)
            have HB6 := Lib.hid (belS HB4.out b5)
            clear b5
            go_wp2
            go_roundw
            case rel => exact ⟨k + 1, a, Bs, by go_num, by omega, by omega, HL, HS6, HR6, HB6.out⟩
            case measure => simp [intOf1]; omega
          · skip
            refine (offer_ok g mb S a win Bs X A' n' c' w.heap.size W2 HS2.out hok2.1 (HX.out.1.belowM HB2.out.1 (Nat.le_refl _)) HB2.out.1.size (by omega) (by omega) (by omega)).mono ?_
            rintro e w3 ⟨v3, rfl, hv3, hS3, hO3⟩
            obtain ⟨A3, c3, e3⟩ := (bd_rb hv3).form
            subst e3
            have hap2 := snd_apart HS2.out
            have hR3 := rsn_by HS2.out HR2.out hO3 hgg hmg
            have hb3 : Below w.heap.size w w3 := HB2.out.1.trans (hO3.below HB2.out.1.size (by rintro k (rfl | rfl) <;> assumption))
            have hG3 := (hO3.block wr.heap.size z2 (by have := snd_apart HS.out; omega)).trans HG2.out
            obtain ⟨W3, HW3, hw3, HG3, z3⟩ := F0ex w3 (S : Int) (Bs.length : Int) (.slice A3 X.length c3)
            have HB3 := Lib.hid (belS hb3 hw3)
            have HS4 := Lib.hid (snd_below hS3 hw3)
            have HR4 := Lib.hid (rsn_below hR3 hw3)
            have HV4 := Lib.hid (hv3.only (S := fun _ => False) (only_below hw3) (fun _ _ _ _ h => h))
            have HZ := Lib.hid (show g2 < w3.heap.size from (rsn_lt hR3))
            have r2a := fun o => (sd_blk hG3 ((Below.refl _ _).alloc (Nat.le_refl _) o)).2.2.1
            clear hv3 hS3 hO3 hap2 hR3 hb3 hG3 hw3 r0 r1 r2 r3 q0 q1 q2 q3
            go_wp2_with fail
            rw [← HW3.out]
            refine (roffer_ok g2 w.heap.size S a win Bs X A' n' c' w.heap.size W3 HR4.out (HX.out.1.belowM HB3.out (Nat.le_refl _)) HB3.out.size HB3.out.size (by omega) (by omega) (by omega)).mono ?_
            rintro e w4 ⟨v4, rfl, hv4, hR5, hO4⟩
            obtain ⟨A4, c4, e4⟩ := (bd_rb hv4).form
            subst e4
            have hnob := nob_roff (base := w.heap.size) HR4.out
            have hS5 := snd_by HS4.out hO4 hnob hgg hmg
            have hV5 := HV4.out.only hO4 hnob
            have hb4 : Below w.heap.size w w4 := HB3.out.trans (hO4.below HB3.out.size (by rintro k (rfl | ⟨h, _⟩) <;> assumption))
            have hG4 := (hO4.block w3.heap.size z3 (by
              rintro (e | ⟨_, cs, hc⟩)
              · have := HZ.out; omega
              · rw [HG3.out] at hc
                injection hc with hc
                injection hc with _ hc
                exact absurd hc (by decide))).trans HG3.out
            obtain ⟨W4, HW4, hw4, HG4, z4⟩ := F0ex w4 (S : Int) (Bs.length : Int) (.slice A4 X.length c4)
            have HB4 := Lib.hid (belS hb4 hw4)
            have HS6 := Lib.hid (snd_below hS5 hw4)
            have HR6 := Lib.hid (rsn_below hR5 hw4)
            have HV6 := Lib.hid (And.intro (bd_rb (hV5.only (S := fun _ => False) (only_below hw4) (fun _ _ _ _ h => h))) (bd_rb (hv4.only (S := fun _ => False) (only_below hw4) (fun _ _ _ _ h => h))))
            have k0 := fun o => (fr_blk hG4 ((Below.refl _ _).alloc (Nat.le_refl _) o)).1
            have k1 := fun o => (fr_blk hG4 ((Below.refl _ _).alloc (Nat.le_refl _) o)).2.1
            have k2 := fun o => (fr_blk hG4 ((Below.refl _ _).alloc (Nat.le_refl _) o)).2.2.1
            clear hnob hS5 hV5 hb4 hG4 hw4 hv4 hR5 hO4 r2a
            go_wp2_with fail
            rw [← HW4.out]
            refine (sameFrame_yes (S : Int) (Bs.length : Int) A3 A4 X.length c3 X.length c4 W4.heap.size X W4 HV6.out.1 HV6.out.2 (Nat.le_refl _)).mono ?_
            rintro e w5 ⟨rfl, b5⟩
            have HS7 := Lib.hid (snd_below HS6.out b5)
            have HR7 := Lib.hid (rsn_below HR6.out b5)
            have HB7 := Lib.hid (belS HB4.out b5)
            have HL7 := Lib.hid (show ∀ (i : Nat) (hi : i < (Bs ++ [X]).length), (Bs ++ [X])[i].length ≤ 1024 from fun i hi => by
              by_cases hlt : i < Bs.length
              · rw [List.getElem_append_left hlt]
                exact HL.out i hlt
              · rw [List.getElem_append_right (by omega)]
                have := HX.out.1.1.len
                simp
                omega)
            clear b5
            go_wp2
            go_roundw
            case rel => exact ⟨k + 1, a, Bs ++ [X], by go_num, by omega, by simp; omega, HL7, HS7, HR7, HB7.out⟩
            case measure => simp [intOf1]; omega
      have d0 : ((IntKind.u64.wrap kd).tmod 4 == 0) = false := by simp [h0]
      clear h0
      have HQ := Lib.hid r1
      have HQ3 := Lib.hid r3
      have hzB := z2
      have hgw := snd_apart HS.out
      have hg2l := rsn_lt HR.out
      by_cases h1 : (IntKind.u64.wrap kd).tmod 4 = 1
      · have d1 : ((IntKind.u64.wrap kd).tmod 4 == 1) = true := by simp [h1]
        clear h1
        by_cases hN : (a : Int) ≤ z ∧ z ≤ (Bs.length : Int)
        · obtain ⟨N, rfl⟩ : ∃ N : Nat, z = (N : Int) := ⟨z.toNat, by omega⟩
          have HNN := Lib.hid (show a ≤ N ∧ N ≤ Bs.length from by omega)
          clear hN
          go_wp2_with fail
          rw [← HW2.out]
          go_region_held3 (fun w' => w'.cell? ⟨wr.heap.size, 1, none⟩ = some (.int .i64 (N : Int)))
            (first | with_reducible exact K4.out | with_reducible exact K3.out | with_reducible exact HQ.out | exact HQ.out | go_keep)
            (first
              | (go_at_call 22
                 refine (ack_yes g mb S a N win Bs _ (by exact snd_below HS2.out (Below.refl _ _).drew) hok2.1 (by omega) HNN.out.1 HNN.out.2).mono ?_
                 rintro e w3 ⟨rfl, hS3, hO3⟩
                 have HS3 := Lib.hid hS3
                 have hO3' : Only (fun k => k = g ∨ k = mb) W2 w3 := Only.trans only_drew hO3
                 have HO3 := Lib.hid hO3'
                 have HR3 := Lib.hid (rsn_by HS2.out HR2.out hO3' hgg hmg)
                 have K3 := Lib.hid ((hO3'.cell (p := ⟨wr.heap.size, 1, none⟩) hzB (by have := hgw.2; simp; omega)).trans HQ.out)
                 clear hS3 hO3 hO3')
              | (go_at_call 23
                 refine (rack_yes g2 w.heap.size S a N win Bs _ (by exact HR3.out) HNN.out.1 HNN.out.2).mono ?_
                 rintro e w4 ⟨rfl, hR4, hO4⟩
                 have HR4 := Lib.hid hR4
                 have hG2 := HR3.out
                 have HS4 := Lib.hid (snd_only HS3.out hO4 (by obtain ⟨bv, q, _⟩ := hG2; exact nob_sn q) hgg hmg)
                 have HO4 := Lib.hid hO4
                 have K4 := Lib.hid ((hO4.cell (p := ⟨wr.heap.size, 1, none⟩) (Nat.lt_of_lt_of_le hzB HO3.out.size) (by simp; omega)).trans K3.out)
                 clear hR4 hO4 hG2))
          have HB4 := Lib.hid ((HB2.out.1.trans (HO3.out.below HB2.out.1.size (by rintro k (rfl | rfl) <;> assumption))).trans (HO4.out.below (Nat.le_trans HB2.out.1.size HO3.out.size) (by rintro k rfl; exact hg2w)))
          have hNl := HNN.out.2
          go_wp2
          go_roundw
          case rel => exact ⟨k + 1, N, Bs, by go_num, by omega, by omega, HL, HS4, HR4, HB4.out⟩
          case measure => simp [intOf1]; omega
        · have HNN := Lib.hid (show z < (a : Int) ∨ (Bs.length : Int) < z from by omega)
          clear hN
          go_wp2_with fail
          rw [← HW2.out]
          go_region_held3 (fun w' => w'.cell? ⟨wr.heap.size, 1, none⟩ = some (.int .i64 z))
            (first | with_reducible exact HQ.out | exact HQ.out | go_keep)
            (first
              | (go_at_call 22
                 refine (ack_no g mb S a z win Bs _ (by exact snd_below HS2.out (Below.refl _ _).drew) hok2.1 HNN.out).mono ?_
                 rintro e w3 ⟨rfl, rfl⟩)
              | (go_at_call 23
                 refine (rack_no g2 w.heap.size S a z win Bs _ (by exact rsn_below HR2.out (Below.refl _ _).drew) HNN.out).mono ?_
                 rintro e w4 ⟨rfl, rfl⟩))
          have HS4 := Lib.hid (snd_below HS2.out (Below.refl _ _).drew)
          have HR4 := Lib.hid (rsn_below HR2.out (Below.refl _ _).drew)
          have HB4 := Lib.hid HB2.out.1.drew
          go_wp2
          go_roundw
          case rel => exact ⟨k + 1, a, Bs, by go_num, by omega, by omega, HL, HS4, HR4, HB4.out⟩
          case measure => simp [intOf1]; omega
      have d1 : ((IntKind.u64.wrap kd).tmod 4 == 1) = false := by simp [h1]
      clear h1
      have hpl : (pF S a Bs (Bs.length - a)).length ≤ 1048576 := by rw [pF_len]; omega
      by_cases h2 : (IntKind.u64.wrap kd).tmod 4 = 2
      · have d2 : ((IntKind.u64.wrap kd).tmod 4 == 2) = true := by simp [h2]
        clear h2
        go_wp2_with fail
        rw [← HW2.out]
        refine (pending_any g mb S a win Bs W2 HS2.out hok2.1 (by omega) HL.out).mono ?_
        rintro e w3 ⟨v3, rfl, hv3, b3⟩
        have HV3 := Lib.hid hv3
        have HB3 := Lib.hid b3
        have HS3 := Lib.hid (snd_below HS2.out b3)
        have HR3 := Lib.hid (rsn_below HR2.out b3)
        clear hv3 b3
        go_wp2_with fail
        refine (rpending_any g2 w.heap.size S a win Bs w3 HR3.out (by omega) HL.out).mono ?_
        rintro e w4 ⟨v4, rfl, hv4, b4⟩
        have HV4 := Lib.hid (And.intro (frd_frs (frd_below HV3.out b4)) (frd_frs hv4))
        have HS4 := Lib.hid (snd_below HS3.out b4)
        have HR4 := Lib.hid (rsn_below HR3.out b4)
        have HB4 := Lib.hid (belS (belS HB2.out.1 HB3.out) b4)
        clear hv4 b4
        go_wp2_with fail
        refine (sameFrames_yes _ v3 v4 _ _ hpl w4 HV4.out.1 HV4.out.2).mono ?_
        rintro e w5 ⟨rfl, b5⟩
        have HS5 := Lib.hid (snd_below HS4.out b5)
        have HR5 := Lib.hid (rsn_below HR4.out b5)
        have HB5 := Lib.hid (belS HB4.out b5)
        clear b5
        go_wp2
        go_roundw
        case rel => exact ⟨k + 1, a, Bs, by go_num, by omega, by omega, HL, HS5, HR5, HB5.out⟩
        case measure => simp [intOf1]; omega
      have d2 : ((IntKind.u64.wrap kd).tmod 4 == 2) = false := by simp [h2]
      clear h2
      by_cases h3 : (IntKind.u64.wrap kd).tmod 4 = 3
      · have d3 : ((IntKind.u64.wrap kd).tmod 4 == 3) = true := by simp [h3]
        clear h3
        have hal := agF_len S a Bs zs m'
        have hm40 : m' ≤ 1024 := by omega
        go_wp2_with fail
        rw [← HW2.out]
        go_region_held3 (fun w' => w'.cell? ⟨wr.heap.size, 3, none⟩ = some (.slice B' m' d'))
          (first | with_reducible exact K5.out | with_reducible exact K4.out | with_reducible exact K3.out | with_reducible exact HQ3.out | exact HQ3.out | go_keep)
          (first
            | (go_at_call 27
               refine (again_any g mb S a win Bs B' m' d' w.heap.size zs _ (by exact snd_below HS2.out (Below.refl _ _).drew) hok2.1 (by omega) HL.out (by exact HX.out.2.2.1.belowM HB2.out.1.drew (Nat.le_refl _)) (by exact HB2.out.1.size) hm40 HX.out.2.1).mono ?_
               rintro e w3 ⟨v3, rfl, hv3, b3⟩
               have b3' : Below W2.heap.size W2 w3 := below_un b3
               have HV3 := Lib.hid hv3
               have HB3 := Lib.hid b3'
               have HS3 := Lib.hid (snd_below HS2.out b3')
               have HR3 := Lib.hid (rsn_below HR2.out b3')
               have K3 := Lib.hid ((b3'.cell (p := ⟨wr.heap.size, 3, none⟩) hzB).trans HQ3.out)
               clear hv3 b3 b3')
            | (go_at_call 28
               refine (ragain_any g2 w.heap.size S a win Bs B' m' d' w.heap.size zs _ (by exact HR3.out) (by omega) HL.out (by exact HX.out.2.2.1.belowM (belS HB2.out.1 HB3.out) (Nat.le_refl _)) (by exact (belS HB2.out.1 HB3.out).size) hm40 HX.out.2.1).mono ?_
               rintro e w4 ⟨v4, rfl, hv4, b4⟩
               have HV4 := Lib.hid (And.intro (frd_frs (frd_below HV3.out b4)) (frd_frs hv4))
               have HB4 := Lib.hid b4
               have HS4 := Lib.hid (snd_below HS3.out b4)
               have HR4 := Lib.hid (rsn_below HR3.out b4)
               have K4 := Lib.hid ((b4.cell (p := ⟨wr.heap.size, 3, none⟩) (Nat.lt_of_lt_of_le hzB HB3.out.size)).trans K3.out)
               clear hv4 b4)
            | (go_at_call 24
               refine (sameFrames_yes _ v3 v4 _ _ (by exact Nat.le_trans hal (by omega)) _ (by exact HV4.out.1) (by exact HV4.out.2)).mono ?_
               rintro e w5 ⟨rfl, b5⟩
               have HS5 := Lib.hid (snd_below HS4.out b5)
               have HR5 := Lib.hid (rsn_below HR4.out b5)
               have HB5 := Lib.hid (belS (belS (belS HB2.out.1 HB3.out) HB4.out) b5)
               have K5 := Lib.hid ((b5.cell (p := ⟨wr.heap.size, 3, none⟩) (Nat.lt_of_lt_of_le (Nat.lt_of_lt_of_le hzB HB3.out.size) HB4.out.size)).trans K4.out)
               clear b5))
        go_wp2
        go_roundw
        case rel => exact ⟨k + 1, a, Bs, by go_num, by omega, by omega, HL, HS5, HR5, HB5.out⟩
        case measure => simp [intOf1]; omega
      · have d3 : ((IntKind.u64.wrap kd).tmod 4 == 3) = false := by simp [h3]
        clear h3
        go_wp2_with fail
        rw [← HW2.out]
        go_roundw
        case rel => exact ⟨k + 1, a, Bs, by go_num, by omega, by omega, HL, HS2, HR2, HB2.out.1⟩
        case measure => simp [intOf1]; omega
    · obtain rfl : k = n := by omega
      have hpl : (pF S a Bs (Bs.length - a)).length ≤ 1048576 := by rw [pF_len]; omega
      have HBw := Lib.hid hbw
      clear hbw
      go_wp2_with fail
      refine (pending_any g mb S a win Bs wr HS.out hok2.1 (by omega) HL.out).mono ?_
      rintro e w3 ⟨v3, rfl, hv3, b3⟩
      have HV3 := Lib.hid hv3
      have HB3 := Lib.hid b3
      have HR3 := Lib.hid (rsn_below HR.out b3)
      clear hv3 b3
      go_wp2_with fail
      refine (rpending_any g2 w.heap.size S a win Bs w3 HR3.out (by omega) HL.out).mono ?_
      rintro e w4 ⟨v4, rfl, hv4, b4⟩
      have HV4 := Lib.hid (And.intro (frd_frs (frd_below HV3.out b4)) (frd_frs hv4))
      have HB4 := Lib.hid (belS (belS HBw.out HB3.out) b4)
      clear hv4 b4
      go_wp2_with fail
      refine (sameFrames_yes _ v3 v4 _ _ hpl w4 HV4.out.1 HV4.out.2).mono ?_
      rintro e w5 ⟨rfl, b5⟩
      have HB5 := Lib.hid (belS HB4.out b5)
      clear b5
      go_wp2_with fail
      refine (awake_any _).mono ?_
      rintro e w7 ⟨rfl, b7⟩
      go_wp2
      go_ret
      exact ⟨rfl, belS HB5.out b7⟩

set_option maxRecDepth 100000 in
set_option maxHeartbeats 2000000 in
theorem walk_bad (st win : Int) (A : Option Addr) (n c : Nat) (w : World) (hn : n ≤ 60) (h : ¬ okSn st win) :
    Calls Try.prog 5 #[.int .i64 st, .int .i64 win, .slice A n c] w (RetB w true) := by
  have hni : (n : Int) ≤ 60 := by omega
  have HN := Lib.hid (newS_no st win w h)
  have HR := Lib.hid (rnewS_no st win w h)
  clear h
  go_enter Try.func5, Try.ntmps5
  go_wp2_with fail
  refine HN.out.mono ?_
  rintro e w1 ⟨rfl, rfl⟩
  go_wp2_with fail
  refine HR.out.mono ?_
  rintro e w2 ⟨rfl, rfl⟩
  go_wp2_with fail
  refine (awake_any _).mono ?_
  rintro e w4 ⟨rfl, b4⟩
  go_wp2
  go_ret
  exact ⟨rfl, b4⟩

set_option maxRecDepth 100000 in
theorem walk (st win : Int) (A : Option Addr) (n c : Nat) (w : World) (hF : ∀ i, i < n → SdIn w A i) :
    Calls Try.prog 5 #[.int .i64 st, .int .i64 win, .slice A n c] w (RetB w true) := by
  by_cases hn : n ≤ 60
  · by_cases hok : okSn st win
    · obtain ⟨S, rfl⟩ : ∃ S : Nat, st = (S : Int) := ⟨st.toNat, by have := hok.1.1; omega⟩
      exact walk_in S win A n c w hn hF hok
    · exact walk_bad st win A n c w hn hok
  · have h1 : (60 : Int) < (n : Int) := by omega
    go_enter Try.func5, Try.ntmps5
    go_wp2_with fail
    refine (awake_any _).mono ?_
    rintro e w7 ⟨rfl, b7⟩
    go_wp2
    go_ret
    exact ⟨rfl, b7⟩

set_option maxRecDepth 100000 in
theorem lifted (os : Os) (started : os.Started) (H : Type) (enc : TypeId × Value → H) :
    ReturnsInHanded {} Try.checked os 5 .any (Rows.linkSendsSpec.pre6 enc Try.prog Try.f5 Rows.linkSendsRow.domain false) (Rows.linkSendsSpec.post enc Try.prog Try.f5 false true false false) := by
  refine returnsInHanded_of_change (C := Try.checked) ownTry started (by kernel_rfl) Try.func5
    (ChangeSpec.witness6 (enc := enc) (C := Try.checked) false ⟨#[], #[.int .i64 0, .int .i64 0, .slice none 0 0], []⟩ 8 (by kernel_rfl) (by kernel_rfl) (by kernel_rfl) (by kernel_rfl)) ?_
  intro W base args ds gs before hval0 hW hcnd _
  have hval : ∀ (j : Nat) t v, Try.f5.params[j]? = some t → args[j]? = some v → Value.okWide Try.prog W .any base t v := hval0
  have hW' := hW
  obtain ⟨p, q, hA0, hV, rfl, hfz, hnd⟩ := hW
  have hA : DataW.TrodAll enc Try.prog W 0 (fun _ => true) true Try.f5.params.toList args.toList ds p := hA0
  rw [Try.params5] at hA hval
  obtain ⟨v0, v1, v2, d0, d1, d2, p0, p1, p2, rfl, rfl, rfl, h0, h1, h2⟩ := trodAll_three hA
  obtain ⟨rfl, rfl⟩ := trodVars_none hV
  obtain ⟨st, rfl, _, _⟩ := open_int Try.underlying3 (hval 0 _ v0 rfl rfl) h0
  obtain ⟨win, rfl, _, _⟩ := open_int Try.underlying3 (hval 1 _ v1 rfl rfl) h1
  obtain ⟨A1, n1, c1, rfl, hF⟩ := open_script (hval 2 _ v2 rfl rfl) h2
  clear hA0 hval0
  refine (walk st win A1 n1 c1 W hF).mono fun e W' ⟨he, hg⟩ => ?_
  subst he
  exact ⟨_, rfl, post_reads laidOut (by kernel_rfl) hW' rfl (fun _ _ _ => trodAll_mk1 (shut_bool Try.underlying4 _)) (fun _ => rfl) rfl hg (ok_one (by kernel_rfl) rfl (okWide_bool_mk Try.underlying4 _))⟩

theorem over : Rows.linkSendsRow.holds Try.pinned (OpenSpec.ofChange Rows.linkSendsSpec) :=
  OpenClaim.holds_of_wide 5 Try.f5 rfl rfl rfl rfl rfl rfl rfl ⟨rfl, rfl, rfl, rfl, rfl⟩ rfl rfl rfl rfl rfl (by kernel_rfl) Try.func5 (by kernel_rfl)
    (of_decide_eq_true (by kernel_rfl)) (by unfold Func.isWrapper; first | (rw [if_pos (by decide +kernel)]; kernel_rfl) | (rw [if_neg (by decide +kernel)]; exact ⟨rfl, rfl⟩))
    (fun os started H enc _ => lifted os started H enc)

theorem proved : Rows.LinkSendsSaid := over
end Go.Proofs.Ytndgpgciccgapaa.linkSends
