/-
  For any frame, index and byte the law LinkDamages returns true and leaves its arguments as they were: no condition.
-/
import Derived.Test.YtlokacgclihhlaaZDmg
namespace Go.Proofs.Ytlokacgclihhlaa.linkDamages
open Go.Proofs.Ytlokacgclihhlaa
open Go.ChangeShapes Go.WideShapes Go.ChangeAt Go.RowKit Go.Joins
set_option linter.unusedVariables false

theorem belS {w W w1 : World} (h0 : Below w.heap.size w W) (h : Below W.heap.size W w1) : Below w.heap.size w w1 := h0.trans (h.mono h0.size)

set_option maxRecDepth 100000 in
set_option maxHeartbeats 400000 in
theorem refValid_yes (st sq : Int) (A : Option Addr) (n c : Nat) (h : okF st sq n) (w : World) :
    Calls Try.prog 38 #[.agg #[.int .i64 st, .int .i64 sq, .slice A n c]] w (RetB w true) := by
  obtain ⟨h1, h2, h3, h4, h5⟩ := h
  have h5i : (n : Int) ≤ 1024 := by omega
  go_enter Try.func38, Try.ntmps38
  go_wp2
  go_ret
  exact ⟨by simp [*], (Below.refl _ _).alloc (Nat.le_refl _) _⟩

set_option maxRecDepth 100000 in
set_option maxHeartbeats 1000000 in
theorem refValid_no (st sq : Int) (A : Option Addr) (n c : Nat) (h : ¬ okF st sq n) (w : World) :
    Calls Try.prog 38 #[.agg #[.int .i64 st, .int .i64 sq, .slice A n c]] w (RetB w false) := by
  unfold okF at h
  by_cases h1 : 0 ≤ st
  · by_cases h2 : st ≤ 255
    · by_cases h3 : 0 ≤ sq
      · by_cases h4 : sq ≤ 4294967295
        · have h5 : ¬ (n : Int) ≤ 1024 := by omega
          have d5 : decide ((n : Int) ≤ 1024) = false := by simpa using h5
          clear h
          go_enter Try.func38, Try.ntmps38
          go_wp2
          go_ret
          exact ⟨by simp <;> omega, (Below.refl _ _).alloc (Nat.le_refl _) _⟩
        · have d5 : decide (sq ≤ 4294967295) = false := by simpa using h4
          clear h
          go_enter Try.func38, Try.ntmps38
          go_wp2
          go_ret
          exact ⟨by simp <;> omega, (Below.refl _ _).alloc (Nat.le_refl _) _⟩
      · have d5 : decide (0 ≤ sq) = false := by simpa using h3
        clear h
        go_enter Try.func38, Try.ntmps38
        go_wp2
        go_ret
        exact ⟨by simp <;> omega, (Below.refl _ _).alloc (Nat.le_refl _) _⟩
    · have d5 : decide (st ≤ 255) = false := by simpa using h2
      clear h
      go_enter Try.func38, Try.ntmps38
      go_wp2
      go_ret
      exact ⟨by simp <;> omega, (Below.refl _ _).alloc (Nat.le_refl _) _⟩
  · have d5 : decide (0 ≤ st) = false := by simpa using h1
    clear h
    go_enter Try.func38, Try.ntmps38
    go_wp2
    go_ret
    exact ⟨by simp <;> omega, (Below.refl _ _).alloc (Nat.le_refl _) _⟩

theorem open_bytesRB_one {H : Type} {enc : TypeId × Value → H} {W : World} {base fuel : Nat} {v : Value} {x : DataW H × List MemPlace}
    (hf : DataW.trod enc Try.prog W base (fun _ => true) true fuel 22 [v] = some x) :
    ∃ A n c L, v = .slice A n c ∧ AllB L ∧ RB W W.heap.size (.slice A n c) L := by
  have hform : ∃ A n c, v = .slice A n c := by
    rcases open_ints Try.underlying22 Try.underlying5 cellsB hf with ⟨hcs, hx⟩ | ⟨a, len', cap', zs, hcs, _⟩
    · simp only [List.cons.injEq, and_true] at hcs
      exact ⟨_, _, _, hcs⟩
    · simp only [List.cons.injEq, and_true] at hcs
      exact ⟨_, _, _, hcs⟩
  obtain ⟨A, n, c, rfl⟩ := hform
  obtain ⟨L, h1, h2⟩ := open_bytesRB_cs hf
  exact ⟨A, n, c, L, rfl, h1, h2⟩
theorem owns_form {w : World} {base n : Nat} {e : TypeId} {v : Value} {X : List Nat} (h : w.ownsRow base e 1 v n (bys X)) (h0 : 0 < n) : ∃ g cap, v = .slice (some ⟨g, 0, none⟩) n cap ∧ base ≤ g ∧ n ≤ cap := by
  obtain ⟨_, ⟨_, h2⟩ | ⟨g, cap, cur, h2, h3, _, h4, _⟩⟩ := h
  · omega
  · exact ⟨g, cap, h2, h3, h4⟩
theorem bys_set (L : List Nat) (i v : Nat) : bys (L.set i v) = (bys L).set i (.int .u8 (v : Int)) := by unfold bys; rw [List.map_set]
theorem bys_getI (L : List Nat) (i : Nat) (h : i < L.length) : (bys L)[i]? = some (.int .u8 (nth L i : Nat)) := by
  unfold bys; rw [List.getElem?_map, List.getElem?_eq_getElem h, nth_lt h]; rfl
theorem allB_set {L : List Nat} (h : AllB L) (i v : Nat) (hv : v < 256) : AllB (L.set i v) := fun x hx => by
  rcases List.mem_or_eq_of_mem_set hx with h1 | h1
  · exact h x h1
  · subst h1; exact hv

set_option maxRecDepth 100000 in
set_option maxHeartbeats 1000000 in
theorem walk_yes (st sq : Nat) (at_ : Int) (val : Nat) (hval : val < 256) (A : Option Addr) (n c : Nat) (X : List Nat) (hXb : AllB X) (hok : okF st sq n) (w : World) (hx : RB w w.heap.size (.slice A n c) X) :
    Calls Try.prog 8 #[.agg #[.int .i64 (st : Int), .int .i64 (sq : Int), .slice A n c], .int .i64 at_, .int .u8 (val : Int)] w (RetB w true) := by
  obtain ⟨W0, HW0, hw0, HG, z0⟩ := F0ex w st sq (.slice A n c)
  have HOK := Lib.hid hok
  have HX := Lib.hid (hx.below hw0)
  have HXL := Lib.hid hx.1.len
  have hst : st < 256 := by have := hok.2.1; omega
  have hn : n ≤ 1024 := hok.2.2.2.2
  have HXB := Lib.hid hXb
  have Hw0 := Lib.hid hw0
  obtain ⟨k0, k1, k2, kf⟩ := fr_blk HG.out (Below.refl _ _)
  obtain ⟨m, hm⟩ : ∃ m, m = 12 + n := ⟨_, rfl⟩
  have hu0 : 0 ≤ IntKind.u64.wrap at_ := by rw [IntKind.wrap_u64]; omega
  obtain ⟨i, hi⟩ : ∃ i : Nat, (IntKind.u64.wrap at_).tmod (m : Int) = (i : Int) := Int.eq_ofNat_of_zero_le (Int.tmod_nonneg _ hu0)
  have him : i < m := by
    have := Int.tmod_lt_of_pos (IntKind.u64.wrap at_) (show (0 : Int) < (m : Int) by omega)
    omega
  clear hu0
  have hW64 : wrap64 (i : Int) = (i : Int) := by unfold wrap64; omega
  have hPl : (packL st sq X).length = m := by rw [packL_len, ← HXL.out, hm]
  have HM := Lib.hid (And.intro hm hPl)
  have e12 : (12 : Int) + (n : Int) = (m : Int) := by omega
  clear hx hok hXb hw0 hPl hm
  go_enter Try.func8, Try.ntmps8
  go_wp2_with fail
  rw [← HW0.out]
  refine (refValid_yes st sq A n c HOK.out _).mono ?_
  rintro e w1 ⟨rfl, b1⟩
  clear k0 k1 k2 kf
  obtain ⟨k0, k1, k2, kf⟩ := fr_blk HG.out b1
  have B1 := Lib.hid b1
  clear b1
  go_wp2_with fail
  refine (pack_ok st sq X HXB.out A n c w.heap.size HOK.out w1 (HX.out.belowM B1.out (Nat.le_of_lt z0)) (by have := B1.out.size; omega)).mono ?_
  rintro e w2 ⟨v2, rfl, o2, b2⟩
  have f2 := belS B1.out b2
  clear k0 k1 k2 kf
  obtain ⟨k0, k1, k2, kf⟩ := fr_blk HG.out f2
  obtain ⟨_, r2⟩ := rb_of_owns o2
  obtain ⟨A2, c2, rfl⟩ := r2.form
  rw [HM.out.2] at r2 o2
  rw [HM.out.2]
  obtain ⟨g, o, rfl, hgB, hcell⟩ := r2.1.at_ (by omega)
  have hci : w2.cell? ⟨g, o + i, none⟩ = some (.int .u8 (nth (packL st sq X) i : Nat)) := hcell i him
  have F2 := Lib.hid (And.intro r2 f2)
  have hWm : IntKind.u64.wrap (m : Int) = (m : Int) := by rw [IntKind.wrap_u64]; omega
  have hWi : IntKind.i64.wrap (i : Int) = (i : Int) := by rw [IntKind.wrap_i64]; omega
  have hmne : ¬ (m : Int) = 0 := by omega
  have iim : (i : Int) < (m : Int) := by omega
  clear o2 b2 r2 f2 hcell
  obtain ⟨y, hy⟩ : ∃ y, y = nth (packL st sq X) i := ⟨_, rfl⟩
  rw [← hy] at hci
  by_cases hyv : y = val
  · subst hyv
    have qy : ((y : Int) == (y : Int)) = true := by simp
    clear hy
    go_wp2_with fail
    refine (awake_any _).mono ?_
    rintro e w4 ⟨rfl, b4⟩
    go_wp2
    go_ret
    exact ⟨rfl, belS Hw0.out (belS F2.out.2 b4)⟩
  · have HY := Lib.hid (show nth (packL st sq X) i ≠ val by rw [← hy]; exact hyv)
    have qy : ((y : Int) == (val : Int)) = false := by rw [beq_eq_false_iff_ne]; omega
    clear hy hyv
    go_wp2_with fail
    refine (own_any (packL st sq X) _ w2.heap.size w2 F2.out.1 (Nat.le_refl _) (by rw [HM.out.2]; omega)).mono ?_
    rintro e w3 ⟨v3, rfl, o3, b3⟩
    obtain ⟨g3, cap3, rfl, hg3, hcap3⟩ := owns_form o3 (by rw [HM.out.2]; omega)
    have hPi : i < (packL st sq X).length := by rw [HM.out.2]; exact him
    have hc3 : w3.cell? ⟨g3, i, none⟩ = some (.int .u8 (nth (packL st sq X) i : Nat)) := (o3.cellAt i (by omega)).trans (bys_getI _ _ hPi)
    have hf3 := o3.frozenAt i
    have o3s := (o3.stored i (.int .u8 (val : Int))).1
    rw [← bys_set] at o3s
    have f3 := belS F2.out.2 b3
    have hgW0 : W0.heap.size ≤ g3 := Nat.le_trans F2.out.2.size hg3
    have f3s : Below W0.heap.size W0 (w3.setCell ⟨g3, i, none⟩ (.int .u8 (val : Int))) := f3.setCell hgW0 _
    rw [HM.out.2] at o3s
    rw [HM.out.2]
    have O3 := Lib.hid (And.intro o3s f3s)
    obtain ⟨C, hC⟩ : ∃ C, C = (packL st sq X).set i val := ⟨_, rfl⟩
    have hCl : C.length = m := by rw [hC, List.length_set, HM.out.2]
    have hCB : AllB C := by rw [hC]; exact allB_set (allB_pack hst HXB.out) _ _ hval
    have HC := Lib.hid (And.intro hC (And.intro hCl hCB))
    clear o3 o3s f3 f3s b3 hC hCl hCB k0 k1 k2 kf
    go_wp2_with fail
    obtain ⟨W3, hW3⟩ : ∃ W3, W3 = w3.setCell ⟨g3, i, none⟩ (.int .u8 (val : Int)) := ⟨_, rfl⟩
    have O3' : Hid (W3.ownsRow w2.heap.size 5 1 (.slice (some ⟨g3, 0, none⟩) m cap3) m (bys C) ∧ Below W0.heap.size W0 W3) := by
      rw [hW3, HC.out.1]; exact O3.out
    rw [← hW3]
    clear hW3 O3 hc3 hf3
    obtain ⟨st2, hst2⟩ : ∃ x, x = upSt C := ⟨_, rfl⟩
    obtain ⟨sq2, hsq2⟩ : ∃ x, x = upSq C := ⟨_, rfl⟩
    obtain ⟨X2, hX2⟩ : ∃ x, x = upX C := ⟨_, rfl⟩
    obtain ⟨sz, hsz⟩ : ∃ x, x = upN C := ⟨_, rfl⟩
    obtain ⟨er, her⟩ : ∃ x, x = upE C := ⟨_, rfl⟩
    have HE2 : Hid (∀ w, RetUpL w C = RetUp w st2 sq2 X2 sz er) := fun w => by unfold RetUpL; rw [hst2, hsq2, hX2, hsz, her]
    have HD : Hid (er = 0 → X2.length ≠ n) := fun h0 => by
      rw [hX2, HC.out.1, HXL.out]
      exact damaged hst HXB.out (by rw [← HXL.out]; have := HM.out.1; omega) hval HY.out (by rw [← HC.out.1, ← her]; exact h0)
    clear hst2 hsq2 hX2 hsz her
    have U1 := unpack_any C HC.out.2.2 _ m cap3 _ W3 (rb_of_owns O3'.out.1).2 (Nat.le_refl _)
    rw [HE2.out] at U1
    refine U1.mono ?_
    clear U1
    rintro e w4 ⟨v4, rfl, r4, b4⟩
    obtain ⟨A4, c4, rfl⟩ := r4.form
    have f4 := belS O3'.out.2 b4
    have F4 := Lib.hid f4
    obtain ⟨k0, k1, k2, kf⟩ := fr_blk HG.out f4
    have z4 : w.heap.size < w4.heap.size := Nat.lt_of_lt_of_le z0 f4.size
    obtain ⟨l4, hl4⟩ : ∃ l, l = X2.length := ⟨_, rfl⟩
    rw [← hl4]
    have HD' : Hid (er = 0 → l4 ≠ n) := by rw [hl4]; exact HD.out
    clear r4 b4 f4 hl4 HD
    by_cases he0 : er = 0
    · subst he0
      have hne : ((l4 : Int) != (n : Int)) = true := by have := HD'.out rfl; rw [bne_iff_ne]; omega
      go_wp2_with fail
      refine (awake_any _).mono ?_
      rintro e w5 ⟨rfl, b5⟩
      go_wp2
      go_ret
      exact ⟨rfl, belS Hw0.out (belS (F4.out.alloc F4.out.size _) b5)⟩
    · have hne : ((er : Int) != 0) = true := by rw [bne_iff_ne]; omega
      go_wp2_with fail
      refine (awake_any _).mono ?_
      rintro e w5 ⟨rfl, b5⟩
      go_wp2
      go_ret
      exact ⟨rfl, belS Hw0.out (belS (F4.out.alloc F4.out.size _) b5)⟩

set_option maxRecDepth 100000 in
set_option maxHeartbeats 1000000 in
theorem walk_no (st sq : Int) (at_ : Int) (val : Int) (A : Option Addr) (n c : Nat) (hok : ¬ okF st sq n) (w : World) :
    Calls Try.prog 8 #[.agg #[.int .i64 st, .int .i64 sq, .slice A n c], .int .i64 at_, .int .u8 val] w (RetB w true) := by
  obtain ⟨W0, HW0, hw0, HG, z0⟩ := F0ex w st sq (.slice A n c)
  have HOK := Lib.hid hok
  clear hok
  obtain ⟨k0, k1, k2, kf⟩ := fr_blk HG.out (Below.refl _ _)
  go_enter Try.func8, Try.ntmps8
  go_wp2_with fail
  rw [← HW0.out]
  refine (refValid_no st sq A n c HOK.out _).mono ?_
  rintro e w1 ⟨rfl, b1⟩
  go_wp2_with fail
  refine (awake_any _).mono ?_
  rintro e w4 ⟨rfl, b4⟩
  go_wp2
  go_ret
  exact ⟨rfl, belS hw0 (belS b1 b4)⟩

theorem walk (st sq : Int) (at_ : Int) (val : Nat) (hval : val < 256) (A : Option Addr) (n c : Nat) (X : List Nat) (hXb : AllB X) (w : World) (hx : RB w w.heap.size (.slice A n c) X) :
    Calls Try.prog 8 #[.agg #[.int .i64 st, .int .i64 sq, .slice A n c], .int .i64 at_, .int .u8 (val : Int)] w (RetB w true) := by
  by_cases hok : okF st sq n
  · obtain ⟨s, rfl⟩ := Int.eq_ofNat_of_zero_le hok.1
    obtain ⟨q, rfl⟩ := Int.eq_ofNat_of_zero_le hok.2.2.1
    exact walk_yes s q at_ val hval A n c X hXb hok w hx
  · exact walk_no st sq at_ val A n c hok w

theorem cellsF : Try.prog.cellsOf 33 = 3 := by kernel_rfl

set_option maxRecDepth 100000 in
theorem lifted (os : Os) (started : os.Started) (H : Type) (enc : TypeId × Value → H) :
    ReturnsInHanded {} Try.checked os 8 .any (Rows.linkDamagesSpec.pre6 enc Try.prog Try.f8 Rows.linkDamagesRow.domain false) (Rows.linkDamagesSpec.post enc Try.prog Try.f8 false true false false) := by
  refine returnsInHanded_of_change (C := Try.checked) ownTry started (by kernel_rfl) Try.func8
    (ChangeSpec.witness6 (enc := enc) (C := Try.checked) false ⟨#[], #[.agg #[.int .i64 0, .int .i64 0, .slice none 0 0], .int .i64 0, .int .u8 0], []⟩ 8 (by kernel_rfl) (by kernel_rfl) (by kernel_rfl) (by kernel_rfl)) ?_
  intro W base args ds gs before hval0 hW hcnd _
  have hval : ∀ (j : Nat) t v, Try.f8.params[j]? = some t → args[j]? = some v → Value.okWide Try.prog W .any base t v := hval0
  have hW' := hW
  obtain ⟨p, q, hA0, hV, rfl, hfz, hnd⟩ := hW
  have hA : DataW.TrodAll enc Try.prog W 0 (fun _ => true) true Try.f8.params.toList args.toList ds p := hA0
  rw [Try.params8] at hA hval
  obtain ⟨v0, v1, v2, d0, d1, d2, p0, p1, p2, rfl, rfl, rfl, h0, h1, h2⟩ := trodAll_three hA
  obtain ⟨rfl, rfl⟩ := trodVars_none hV
  obtain ⟨x1, rfl, rfl, rfl, wx1⟩ := open_int Try.underlying3 (hval 1 _ v1 rfl rfl) h1
  obtain ⟨x2, rfl, rfl, rfl, wx2⟩ := open_int Try.underlying5 (hval 2 _ v2 rfl rfl) h2
  have bx2 := bounds_u8 wx2
  obtain ⟨y2, rfl⟩ := Int.eq_ofNat_of_zero_le bx2.1
  obtain ⟨c0, c1, c2, y0, y1, y3, m, rfl, rfl, rfl, hy0, hy1, hy3⟩ := open_agg3 Try.underlying33 (by kernel_rfl) cellsF (hval 0 33 v0 rfl rfl) h0
  obtain ⟨st, e0, rfl, wst⟩ := DataW.trod_int Try.underlying3 hy0
  obtain ⟨sq, e1, rfl, wsq⟩ := DataW.trod_int Try.underlying3 hy1
  simp at e0 e1
  subst e0 e1
  obtain ⟨A0, n0, c0, X0, rfl, hB0, hx0⟩ := open_bytesRB_one hy3
  clear hA0 hval0
  refine (walk st sq x1 y2 (by omega) A0 n0 c0 X0 hB0 W hx0).mono fun e W' ⟨he, hg⟩ => ?_
  subst he
  exact ⟨_, rfl, post_reads laidOut (by kernel_rfl) hW' rfl (fun _ _ _ => trodAll_mk1 (shut_bool Try.underlying4 _)) (fun _ => rfl) rfl hg (ok_one (by kernel_rfl) rfl (okWide_bool_mk Try.underlying4 _))⟩

theorem over : Rows.linkDamagesRow.holds Try.pinned (OpenSpec.ofChange Rows.linkDamagesSpec) :=
  OpenClaim.holds_of_wide 8 Try.f8 rfl rfl rfl rfl rfl rfl rfl ⟨rfl, rfl, rfl, rfl, rfl⟩ rfl rfl rfl rfl rfl (by kernel_rfl) Try.func8 (by kernel_rfl)
    (of_decide_eq_true (by kernel_rfl)) (by unfold Func.isWrapper; first | (rw [if_pos (by decide +kernel)]; kernel_rfl) | (rw [if_neg (by decide +kernel)]; exact ⟨rfl, rfl⟩))
    (fun os started H enc _ => lifted os started H enc)

theorem proved : Rows.LinkDamagesSaid := over
end Go.Proofs.Ytlokacgclihhlaa.linkDamages
