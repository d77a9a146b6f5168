/-
  For any fix the law TrackMany returns true and leaves its arguments as they were: no condition.
-/
import Derived.Test.YtdmopmgabieciabKAwake
import Derived.Test.YtdmopmgabieciabKFixe
import Derived.Test.YtdmopmgabieciabKRow
import Derived.Test.YtdmopmgabieciabKFlat
import Derived.OwnWalk
namespace Go.Proofs.Ytdmopmgabieciab.trackMany
open Go.Proofs.Ytdmopmgabieciab
open Go.ChangeShapes Go.WideShapes Go.ChangeAt Go.RowKit Go.Joins
set_option linter.unusedVariables false

theorem infoFix : (Try.prog.info? 25).map (fun i => (i.zero, i.size, i.bytes)) = some (some (.agg #[.int .i64 0, .int .i64 0, .int .i64 0, .int .i64 0, .int .i64 0, .int .i64 0, .int .i64 0, .int .i64 0, .int .i64 0, .int .i64 0]), 10, 80) := by kernel_rfl

def encF (x y z e a b c d tl : Int) (tm : Int) : List Int := [tm, x, y, z, e, a, b, c, d, tl]
theorem encF_len (x y z e a b c d tl tm : Int) : (encF x y z e a b c d tl tm).length = 10 := rfl
def tms (k : Nat) : List Int := (List.range k).map Int.ofNat
theorem tms_len (k : Nat) : (tms k).length = k := by simp [tms]
theorem tms_succ (k : Nat) : tms (k + 1) = tms k ++ [(k : Int)] := by simp [tms, List.range_succ]
theorem tms_get (n k : Nat) (h : k < (tms n).length) : (tms n)[k] = (k : Int) := by simp [tms]

theorem box_many {w w1 : World} {A : Array Value} {T : TypeId} (B : Array Value) (T' : TypeId) (h : Below (w.alloc (.cells A T)).heap.size (w.alloc (.cells A T)) w1) :
    ∃ V, Hid (V = w1.alloc (.cells B T')) ∧ Hid (Below w.heap.size w V) ∧ Hid (V.heap[w.heap.size]? = some (.cells A T (0, 0))) ∧ Hid (V.heap[w1.heap.size]? = some (.cells B T' (0, 0))) := by
  have hs := h.size
  simp at hs
  refine ⟨_, rfl, (below_al h).alloc (by omega) _, ?_, heap_alloc_new _ _⟩
  exact (heap_alloc_old _ _ (by omega)).trans ((h.block w.heap.size (by simp)).trans (heap_alloc_new w _))

/-- A list of the call's own reads as its numbers. -/
theorem ir_own {α : Type} {enc : α → List Int} {e : TypeId} {w : World} {base g n c : Nat} {R : List α} (hk : ∀ a, (enc a).length = 10) (h : SL enc 10 e w base (.slice (some ⟨g, 0, none⟩) n c) R) (hn : n = R.length) (hg : g < w.heap.size) (hc : n ≤ c ∧ c ≤ maxLen) :
    IR w w.heap.size 10 (.slice (some ⟨g, 0, none⟩) n c) n (R.flatMap enc) := by
  refine ⟨some ⟨g, 0, none⟩, c, rfl, by rw [fm_len hk, hn], hc.1, hc.2, fun _ => ⟨g, 0, rfl, hg, fun j hj => ?_⟩⟩
  have hd : j / 10 < R.length := by omega
  have hm : j % 10 < 10 := Nat.mod_lt _ (by omega)
  have h1 := h.cell hk hd hm
  have e1 : j / 10 * 10 + j % 10 = j := by omega
  rw [e1] at h1
  rw [Nat.zero_add, h1]
  have h2 := fm_get hk R (j / 10) (j % 10) hd hm
  rw [e1] at h2
  have hl : j < (R.flatMap enc).length := by rw [fm_len hk]; omega
  rw [List.getElem?_eq_getElem hl] at h2
  rw [ints, List.getElem?_map, ← h2, ith_lt hl]
  rfl
theorem ir_put {w : World} {B g n c p : Nat} {L : List Int} (h : IR w B 10 (.slice (some ⟨g, 0, none⟩) n c) n L) (hp : p < n * 10) (x : Int) : IR (w.setCell ⟨g, p, none⟩ (.int .i64 x)) B 10 (.slice (some ⟨g, 0, none⟩) n c) n (L.set p x) := by
  obtain ⟨A', c', e, h0, h1, h2, h3⟩ := h
  injection e with e1 e2 e3
  subst e1 e3
  refine ⟨_, _, rfl, by rw [List.length_set]; exact h0, h1, h2, fun hn => ?_⟩
  obtain ⟨b, o, ha, hb, hc⟩ := h3 hn
  injection ha with ha
  injection ha with ha1 ha2
  subst ha1 ha2
  refine ⟨g, 0, rfl, hb, fun j hj => ?_⟩
  have hcj := hc j hj
  rw [Nat.zero_add] at hcj ⊢
  by_cases e : j = p
  · subst e
    have hl : j < L.length := by omega
    simp [go_sem, hcj, ith, hl]
  · have e' : p ≠ j := fun h => e h.symm
    simp [go_sem, hcj, ith, e', e]
theorem fx_own (x y z e a b c d tl : Int) (n k j : Nat) (hk : k < n) (hj : j < 10) : fx ((tms n).flatMap (encF x y z e a b c d tl)) k j = (encF x y z e a b c d tl (k : Int)).getD j 0 := by
  unfold fx
  have hl : k * 10 + j < ((tms n).flatMap (encF x y z e a b c d tl)).length := by rw [fm_len (encF_len x y z e a b c d tl), tms_len]; omega
  have h2 := fm_get (encF_len x y z e a b c d tl) (tms n) k j (by rw [tms_len]; exact hk) hj
  rw [tms_get, List.getElem?_eq_getElem hl] at h2
  rw [ith_lt hl, List.getD_eq_getElem?_getD, ← h2]
  rfl
theorem okF_own {x y z e a b c d tl : Int} (h : okFix 0 x y z e a b c d tl) (n k : Nat) (hk : k < n) (hn : n ≤ 5000) : okF ((tms n).flatMap (encF x y z e a b c d tl)) k := by
  unfold okF
  rw [fx_own x y z e a b c d tl n k 0 hk (by omega), fx_own x y z e a b c d tl n k 1 hk (by omega), fx_own x y z e a b c d tl n k 2 hk (by omega), fx_own x y z e a b c d tl n k 3 hk (by omega), fx_own x y z e a b c d tl n k 4 hk (by omega), fx_own x y z e a b c d tl n k 5 hk (by omega), fx_own x y z e a b c d tl n k 6 hk (by omega), fx_own x y z e a b c d tl n k 7 hk (by omega), fx_own x y z e a b c d tl n k 8 hk (by omega), fx_own x y z e a b c d tl n k 9 hk (by omega)]
  refine ⟨?_, h.2⟩
  show 0 ≤ (k : Int) ∧ (k : Int) ≤ 1125899906842624
  omega
theorem fe_good {x y z e a b c d tl : Int} (h : okFix 0 x y z e a b c d tl) : feE ((tms 4097).flatMap (encF x y z e a b c d tl)) 4097 10 1 0 0 = 0 := by
  unfold feE
  rw [if_pos (by unfold okRules; omega), if_pos (fun k hk => okF_own h 4097 k hk (by omega))]
theorem fe_bad (x y z e a b c d tl : Int) : feE (((tms 4097).flatMap (encF x y z e a b c d tl)).set 40960 (-1)) 4097 10 1 0 0 = 40 := by
  unfold feE
  rw [if_pos (by unfold okRules; omega), if_neg (fun h => ?_)]
  have h1 := (h 4096 (by omega)).1.1
  have hl : 40960 < ((tms 4097).flatMap (encF x y z e a b c d tl)).length := by rw [fm_len (encF_len x y z e a b c d tl), tms_len]; omega
  have h2 : fx (((tms 4097).flatMap (encF x y z e a b c d tl)).set 40960 (-1)) 4096 0 = -1 := by
    unfold fx
    rw [ith_lt (by rw [List.length_set]; exact hl), List.getElem_set_self]
  rw [h2] at h1
  omega

theorem two_laid (w : World) (e : TypeId) (l : List Int) : ∀ j u, (ints l)[j]? = some u → ((w.alloc (.cells (ints l).toArray e)).alloc (.cells (ints l).toArray e)).cell? ((⟨w.heap.size + 1, 0, none⟩ : Addr).add j) = some u := by
  intro j u hj
  have h := laid_cells (w.alloc (.cells (ints l).toArray e)) e l j u hj
  have e1 : (w.alloc (.cells (ints l).toArray e)).heap.size = w.heap.size + 1 := by simp
  rwa [e1] at h
theorem own_alloc {α : Type} {enc : α → List Int} {k : Nat} {e : TypeId} {w : World} {base : Nat} {v : Value} {R : List α} (h : SL enc k e w base v R) (o : Obj) : SL enc k e (w.alloc o) base v R := h.below ((Below.refl _ _).alloc (Nat.le_refl _) o)

def MnR (x y z e a b c d tl : Int) (V : World) (lv iv : Value) (wr : World) : Prop :=
  ∃ k : Nat, k ≤ 4097 ∧ iv = .int .i64 (k : Int) ∧ Hid (SL (encF x y z e a b c d tl) 10 25 wr V.heap.size lv (tms k)) ∧ Below V.heap.size V wr

set_option maxRecDepth 100000 in
set_option maxHeartbeats 2000000 in
theorem walk (t x y z e a b c d tl : Int) (bad : Bool) (w : World) :
    Calls Try.prog 3 #[.agg #[.int .i64 t, .int .i64 x, .int .i64 y, .int .i64 z, .int .i64 e, .int .i64 a, .int .i64 b, .int .i64 c, .int .i64 d, .int .i64 tl], .bool bad] w (RetB w true) := by
  obtain ⟨i0, hi0, hz0, hz1, hz2⟩ := info_parts infoFix
  go_enter Try.func3, Try.ntmps3
  go_wp2_with fail
  refine (refValidFix_any 0 x y z e a b c d tl _).mono ?_
  rintro en w1 ⟨rfl, hb1⟩
  by_cases h1 : okFix 0 x y z e a b c d tl
  · rw [decide_eq_true h1]
    have H1 := Lib.hid h1
    clear h1
    go_wp2
    obtain ⟨V, HV, hv, G0, G5⟩ := box_many #[.int .i64 10, .int .i64 1, .int .i64 0, .int .i64 0] 29 hb1
    rw [← HV.out]
    clear hb1
    go_loopw [6, 7] (fun lv iv wr => MnR x y z e a b c d tl V lv iv wr) (fun _ iv _ => 4097 - (numOf iv).toNat)
    case atStart => exact ⟨0, by omega, rfl, Lib.hid (SL.nil_ _ _ _ _ _), Below.refl _ _⟩
    case round =>
      obtain ⟨k, hk, rfl, hS, hbr⟩ := hrel
      by_cases hlt : k < 4097
      · have hle : (k : Int) ≤ 4096 := by omega
        have k0 := blk_cell G0.out hbr 0 (.int .i64 0) rfl
        have k1 := blk_cell G0.out hbr 1 (.int .i64 x) rfl
        have k2 := blk_cell G0.out hbr 2 (.int .i64 y) rfl
        have k3 := blk_cell G0.out hbr 3 (.int .i64 z) rfl
        have k4 := blk_cell G0.out hbr 4 (.int .i64 e) rfl
        have k5 := blk_cell G0.out hbr 5 (.int .i64 a) rfl
        have k6 := blk_cell G0.out hbr 6 (.int .i64 b) rfl
        have k7 := blk_cell G0.out hbr 7 (.int .i64 c) rfl
        have k8 := blk_cell G0.out hbr 8 (.int .i64 d) rfl
        have k9 := blk_cell G0.out hbr 9 (.int .i64 tl) rfl
        have hS0 := hS.out
        have hlen := tms_len k
        obtain ⟨F, hF⟩ : ∃ F, ints ((tms k).flatMap (encF x y z e a b c d tl)) = F := ⟨_, rfl⟩
        have hown : wr.ownsRow V.heap.size 25 10 u6 (tms k).length (ints ((tms k).flatMap (encF x y z e a b c d tl))) := hS0
        rw [hlen, hF] at hown
        have hbs := hbr.size
        have HC := Lib.hid (two_laid wr 25 (encF x y z e a b c d tl (k : Int)))
        have HS := Lib.hid (And.intro hS0 (And.intro hlen hF))
        have HBR := Lib.hid hbr
        clear hS0 hlen hF hbr hS
        go_wp2_with (at_builtin
                     refine wpList_append_own_at _ rfl (.tmp 28) (.tmp 30) _ rfl V.heap.size 25 i0 _ 10 80 Try.underlying30 hi0 hz0 hz1 hz2 rfl (by decide) _ k _ rfl ((hown.alloc _).alloc _) ⟨wr.heap.size + 1, 0, none⟩ 1 1 [.int .i64 (k : Int), .int .i64 x, .int .i64 y, .int .i64 z, .int .i64 e, .int .i64 a, .int .i64 b, .int .i64 c, .int .i64 d, .int .i64 tl] rfl rfl HC.out (by intro u hu; simp at hu; rcases hu with rfl | rfl | rfl | rfl | rfl | rfl | rfl | rfl | rfl | rfl <;> rfl) (by unfold maxLen; omega) (by omega) (by simp; omega) ?_)
        intro v' w2 ho hg _ _
        have HG := Lib.hid (SL.grows (a := (k : Int)) (wr := wr.alloc (.cells ([.int .i64 (k : Int), .int .i64 x, .int .i64 y, .int .i64 z, .int .i64 e, .int .i64 a, .int .i64 b, .int .i64 c, .int .i64 d, .int .i64 tl]).toArray 25)) (own_alloc HS.out.1 _) (HBR.out.alloc HBR.out.size _) (Nat.le_refl _) (Nat.le_refl _) _ HS.out.2 rfl ho hg)
        clear ho hg hown
        go_wp2
        go_roundw
        case rel => exact ⟨k + 1, by omega, by simp, Lib.hid (by rw [tms_succ]; exact HG.out.1), HG.out.2⟩
        case measure => simp [numOf]; omega
      · obtain rfl : k = 4097 := by omega
        have hS0 := hS.out
        have hl4 : (tms 4097).length = 4097 := tms_len 4097
        rcases hS0.form with ⟨_, hR⟩ | ⟨g, cc, rfl, hg1, hg2, hcp1, hcp2⟩
        · rw [hR] at hl4
          simp at hl4
        rw [hl4] at hS hS0 hcp1 ⊢
        have hIR := ir_own (encF_len x y z e a b c d tl) hS0 hl4.symm hg2 ⟨hcp1, hcp2⟩
        have hcc : (4097 : Int) ≤ (cc : Int) := by omega
        have ff := hS0.frozen
        have HBR := Lib.hid hbr
        have hgW : w.heap.size < V.heap.size := (Array.getElem?_eq_some_iff.1 G0.out).1
        have hg5 : w1.heap.size < V.heap.size := (Array.getElem?_eq_some_iff.1 G5.out).1
        have HIR := Lib.hid hIR
        have c0 : wr.cell? ⟨g, 40960, none⟩ = some (.int .i64 4096) := by
          have h := hS0.cell (encF_len x y z e a b c d tl) (i := 4096) (j := 0) (by omega) (by omega)
          rw [tms_get] at h
          exact h
        obtain ⟨r0, r1, r2, r3⟩ := four_cells G5.out hbr
        have HN := Lib.hid (And.intro hl4 (And.intro hg1 (And.intro hg2 (And.intro hcp1 hcp2))))
        clear hl4 hS hS0 hIR hbr hcp1 hcp2
        cases bad with
        | true =>
          have hne : w1.heap.size ≠ g := by omega
          go_wp2_with fail
          refine (clean_no (((tms 4097).flatMap (encF x y z e a b c d tl)).set 40960 (-1)) 10 1 0 0 _ 4097 cc wr.heap.size _ (ir_put HIR.out (p := 40960) (by omega) (-1)) (by simp) (by omega) 40 40 (fe_bad x y z e a b c d tl) (Or.inr ⟨by omega, rfl⟩)).mono ?_
          rintro en w3 ⟨rfl, hb3⟩
          have HB3 := Lib.hid (bel_ (Below.setCell (p := ⟨g, 40960, none⟩) HBR.out HN.out.2.1 (.int .i64 (-1))) hb3)
          have HI3 := Lib.hid (((ir_put HIR.out (p := 40960) (by omega) (-1))).belowM hb3 (by simp))
          have hs3 : wr.heap.size ≤ w3.heap.size := by have := hb3.size; first | exact this | (simp at this; exact this)
          clear r0 r1 r2 r3 hb3
          obtain ⟨r0, r1, r2, r3⟩ := four_cells G5.out HB3.out
          go_wp2_with fail
          refine (parts_no (((tms 4097).flatMap (encF x y z e a b c d tl)).set 40960 (-1)) 10 1 0 0 _ 4097 cc wr.heap.size _ HI3.out hs3 (by omega) 40 40 (fe_bad x y z e a b c d tl) (Or.inr ⟨by omega, rfl⟩)).mono ?_
          rintro en w4 ⟨rfl, hb4⟩
          have HB4 := Lib.hid (bel_ HB3.out hb4)
          clear r0 r1 r2 r3 hb4
          go_wp2_with fail
          refine (awake_any _).mono ?_
          rintro en w5 ⟨rfl, hb5⟩
          go_wp2
          go_ret
          exact ⟨rfl, bel_ hv.out (bel_ HB4.out (below_al hb5))⟩
        | false =>
          go_wp2_with fail
          refine (clean_no ((tms 4097).flatMap (encF x y z e a b c d tl)) 10 1 0 0 _ 4097 cc wr.heap.size _ HIR.out (Nat.le_refl _) (by omega) 2 0 (fe_good H1.out) (Or.inl ⟨rfl, rfl⟩)).mono ?_
          rintro en w3 ⟨rfl, hb3⟩
          have HB3 := Lib.hid (bel_ HBR.out hb3)
          have HI3 := Lib.hid ((HIR.out).belowM hb3 (Nat.le_refl _))
          have hs3 : wr.heap.size ≤ w3.heap.size := by have := hb3.size; first | exact this | (simp at this; exact this)
          clear r0 r1 r2 r3 hb3
          obtain ⟨r0, r1, r2, r3⟩ := four_cells G5.out HB3.out
          go_wp2_with fail
          refine (parts_no ((tms 4097).flatMap (encF x y z e a b c d tl)) 10 1 0 0 _ 4097 cc wr.heap.size _ HI3.out hs3 (by omega) 2 0 (fe_good H1.out) (Or.inl ⟨rfl, rfl⟩)).mono ?_
          rintro en w4 ⟨rfl, hb4⟩
          have HB4 := Lib.hid (bel_ HB3.out hb4)
          clear r0 r1 r2 r3 hb4
          go_wp2_with fail
          refine (awake_any _).mono ?_
          rintro en w5 ⟨rfl, hb5⟩
          go_wp2
          go_ret
          exact ⟨rfl, bel_ hv.out (bel_ HB4.out (below_al hb5))⟩
  · rw [decide_eq_false h1]
    have HB1 := Lib.hid hb1
    clear h1 hb1
    go_wp2_with fail
    refine (awake_any _).mono ?_
    rintro en w2 ⟨rfl, hb2⟩
    go_wp2
    go_ret
    exact ⟨rfl, bel_ (below_al HB1.out) hb2⟩

set_option maxRecDepth 100000 in
theorem lifted (os : Os) (started : os.Started) (H : Type) (enc : TypeId × Value → H) :
    ReturnsInHanded {} Try.checked os 3 .any (Rows.trackManySpec.pre6 enc Try.prog Try.f3 Rows.trackManyRow.domain false) (Rows.trackManySpec.post enc Try.prog Try.f3 false true false false) := by
  refine returnsInHanded_of_change (C := Try.checked) ownTry started (by kernel_rfl) Try.func3
    (ChangeSpec.witness6 (enc := enc) (C := Try.checked) false ⟨#[], #[.agg #[.int .i64 0, .int .i64 0, .int .i64 0, .int .i64 0, .int .i64 0, .int .i64 0, .int .i64 0, .int .i64 0, .int .i64 0, .int .i64 0], .bool false], []⟩ 8 (by kernel_rfl) (by kernel_rfl) (by kernel_rfl) (by kernel_rfl)) ?_
  intro W base args ds gs before hval0 hW hcnd _
  have hval : ∀ (j : Nat) t v, Try.f3.params[j]? = some t → args[j]? = some v → Value.okWide Try.prog W .any base t v := hval0
  have hW' := hW
  obtain ⟨p, q, hA0, hV, rfl, hfz, hnd⟩ := hW
  have hA : DataW.TrodAll enc Try.prog W 0 (fun _ => true) true Try.f3.params.toList args.toList ds p := hA0
  rw [Try.params3] at hA hval
  obtain ⟨v0, v1, d0, d1, p0, p1, rfl, rfl, rfl, h0, h1⟩ := trodAll_two hA
  obtain ⟨rfl, rfl⟩ := trodVars_none hV
  obtain ⟨L0, _, hl0, rfl⟩ := open_flat (k := 10) (okWide_struct Try.underlying25 (hval 0 25 v0 rfl rfl)) (by kernel_rfl) (by kernel_rfl) h0
  obtain ⟨t, x, y, z, e, a, b, c, d, tl, rfl⟩ := list10 hl0
  obtain ⟨bad, rfl⟩ := okWide_bool Try.underlying4 (hval 1 _ v1 rfl rfl)
  clear hA0 hval0
  refine (walk t x y z e a b c d tl bad W).mono fun e W' ⟨he, hg⟩ => ?_
  subst he
  exact ⟨_, rfl, post_reads laidOut (by kernel_rfl) hW' rfl (fun _ _ _ => trodAll_mk1 (shut_bool Try.underlying4 _)) (fun _ => rfl) rfl hg (ok_one (by kernel_rfl) rfl (okWide_bool_mk Try.underlying4 _))⟩

theorem over : Rows.trackManyRow.holds Try.pinned (OpenSpec.ofChange Rows.trackManySpec) :=
  OpenClaim.holds_of_wide 3 Try.f3 rfl rfl rfl rfl rfl rfl rfl ⟨rfl, rfl, rfl, rfl, rfl⟩ rfl rfl rfl rfl rfl (by kernel_rfl) Try.func3 (by kernel_rfl)
    (of_decide_eq_true (by kernel_rfl)) (by unfold Func.isWrapper; first | (rw [if_pos (by decide +kernel)]; kernel_rfl) | (rw [if_neg (by decide +kernel)]; exact ⟨rfl, rfl⟩))
    (fun os started H enc _ => lifted os started H enc)

theorem proved : Rows.TrackManySaid := over
end Go.Proofs.Ytdmopmgabieciab.trackMany
