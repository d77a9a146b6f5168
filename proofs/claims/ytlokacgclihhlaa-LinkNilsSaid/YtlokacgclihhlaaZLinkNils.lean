/-
  For any frame, number and list of numbers the law LinkNils returns true and leaves its arguments as they were: no condition.
-/
import Derived.Test.YtlokacgclihhlaaZNils
import Derived.Test.YtlokacgclihhlaaZOpenF
namespace Go.Proofs.Ytlokacgclihhlaa.linkNils
open Go.Proofs.Ytlokacgclihhlaa
open Go.ChangeShapes Go.WideShapes Go.ChangeAt Go.RowKit Go.Joins
set_option linter.unusedVariables false

theorem belS {w W w1 : World} (h0 : Below w.heap.size w W) (h : Below W.heap.size W w1) : Below w.heap.size w w1 := h0.trans (h.mono h0.size)
theorem alloc3Z (w : World) (A B C : Obj) : let W := ((w.alloc A).alloc B).alloc C
    W.heap[w.heap.size]? = some A ∧ W.heap[w.heap.size + 1]? = some B ∧ W.heap[w.heap.size + 1 + 1]? = some C ∧ W.heap.size = w.heap.size + 3 := by
  intro W
  have s1 : (w.alloc A).heap.size = w.heap.size + 1 := by simp
  have s2 : ((w.alloc A).alloc B).heap.size = w.heap.size + 1 + 1 := by simp
  refine ⟨?_, ?_, ?_, by simp [W]⟩
  · exact (heap_alloc_old _ _ (by omega)).trans ((heap_alloc_old _ _ (by omega)).trans (heap_alloc_new w A))
  · have h := heap_alloc_new (w.alloc A) B
    rw [s1] at h
    exact (heap_alloc_old _ _ (by omega)).trans h
  · have h := heap_alloc_new ((w.alloc A).alloc B) C
    rw [s2] at h
    exact h
theorem alloc2Z (w : World) (A B : Obj) : let W := (w.alloc A).alloc B
    W.heap[w.heap.size]? = some A ∧ W.heap[w.heap.size + 1]? = some B ∧ W.heap.size = w.heap.size + 2 := by
  intro W
  have s1 : (w.alloc A).heap.size = w.heap.size + 1 := by simp
  refine ⟨?_, ?_, by simp [W]⟩
  · exact (heap_alloc_old _ _ (by omega)).trans (heap_alloc_new w A)
  · have h := heap_alloc_new (w.alloc A) B
    rw [s1] at h
    exact h

/-- The two pointers of a list: nil, and a zero struct. -/
theorem two_ptrs {W0 wr : World} {g s : Nat} {T T2 : TypeId} {cs : Array Value} (hP : W0.heap[g]? = some (.cells #[.pointer none, .pointer (some ⟨s, 0, none⟩)] T (0, 0))) (hS : W0.heap[s]? = some (.cells cs T2 (0, 0))) (h1 : cs[1]? = some (.int .i64 0))
    (hb : Below W0.heap.size W0 wr) (k : Nat) (hk : k < 2) : ∃ a, wr.cell? ⟨g, k, none⟩ = some (.pointer a) ∧ NoneV wr (.pointer a) := by
  have hg : g < W0.heap.size := (Array.getElem?_eq_some_iff.1 hP).1
  have hs : s < W0.heap.size := (Array.getElem?_eq_some_iff.1 hS).1
  have hP' := (hb.block g hg).trans hP
  have hS' := (hb.block s hs).trans hS
  match k, hk with
  | 0, _ => exact ⟨none, cell_of_row _ _ _ _ _ _ hP', Or.inl rfl⟩
  | 1, _ => exact ⟨_, cell_of_row _ _ _ _ _ _ hP', Or.inr ⟨s, rfl, by rw [cell_of_row _ _ _ _ _ _ hS', h1]⟩⟩

def NilRel (W1 : World) (iv : Value) (wr : World) : Prop := ∃ k : Nat, k ≤ 2 ∧ iv = .int .i64 (k : Int) ∧ Below W1.heap.size W1 wr

set_option maxRecDepth 100000 in
set_option maxHeartbeats 1000000 in
theorem walk_in (st sq : Int) (A : Option Addr) (n c : Nat) (N : Int) (A3 : Option Addr) (n3 c3 : Nat) (hn : n ≤ 1024) (hn3 : n3 ≤ 40) (w : World) :
    Calls Try.prog 5 #[.agg #[.int .i64 st, .int .i64 sq, .slice A n c], .int .i64 N, .slice A3 n3 c3] w (RetB w true) := by
  obtain ⟨W1, hW1⟩ : ∃ W1, W1 = ((w.alloc (.cells #[.int .i64 st, .int .i64 sq, .slice A n c] 33)).alloc (.cells #[.int .i64 0, .int .i64 0, .int .i64 0, .int .i64 0, .map none] 38)).alloc (.cells #[.pointer none, .pointer (some ⟨w.heap.size + 1, 0, none⟩)] 35) := ⟨_, rfl⟩
  obtain ⟨hF, hS, hP, hsz⟩ := alloc3Z w (.cells #[.int .i64 st, .int .i64 sq, .slice A n c] 33) (.cells #[.int .i64 0, .int .i64 0, .int .i64 0, .int .i64 0, .map none] 38) (.cells #[.pointer none, .pointer (some ⟨w.heap.size + 1, 0, none⟩)] 35)
  rw [← hW1] at hF hS hP hsz
  have hb1 : Below w.heap.size w W1 := by rw [hW1]; exact (((Below.refl _ _).alloc (Nat.le_refl _) _).alloc (by simp) _).alloc (by simp; omega) _
  have HW := Lib.hid (And.intro hF (And.intro hS (And.intro hP (And.intro hsz hb1))))
  have HW1 := Lib.hid hW1
  clear hF hS hP hsz hb1 hW1
  have hni : (n : Int) ≤ 1024 := by omega
  have hn3i : (n3 : Int) ≤ 40 := by omega
  go_enter Try.func5, Try.ntmps5
  go_wp2
  rw [← HW1.out]
  go_loopw [31] (fun iv wr => NilRel W1 iv wr) (fun iv _ => 2 - (intOf1 iv).toNat)
  case atStart => exact ⟨0, by omega, rfl, Below.refl _ _⟩
  case round =>
    obtain ⟨k, hk, rfl, hbw⟩ := hrel
    obtain ⟨k0, k1, k2, kf⟩ := fr_blk HW.out.1 hbw
    have hwg : w.heap.size < wr.heap.size := by have := hbw.size; have := HW.out.2.2.2.1; omega
    by_cases hk2 : k < 2
    · obtain ⟨a, hca, hN⟩ := two_ptrs HW.out.2.2.1 HW.out.2.1 rfl hbw k hk2
      have HN := Lib.hid hN
      have HB := Lib.hid hbw
      clear hbw hN
      go_wp2_with fail
      refine (offer_none a A n c _ HN.out).mono ?_
      rintro e w2 ⟨rfl, b2⟩
      have f2 := belS HB.out b2
      have B2 := Lib.hid f2
      have N2 := Lib.hid (HN.out.below b2)
      clear b2 f2 hca k0 k1 k2 kf
      go_wp2_with fail
      refine (sameFrame_yes 0 0 none none 0 0 0 0 0 [] _ rb_nil rb_nil (Nat.zero_le _)).mono ?_
      rintro e w3 ⟨rfl, b3⟩
      have b23 : Below w2.heap.size w2 w3 := belS ((Below.refl _ _).alloc (Nat.le_refl _) _) b3
      have B3 := Lib.hid (belS B2.out b23)
      have N3 := Lib.hid (N2.out.below b23)
      clear b3 b23
      go_wp2_with fail
      refine (ack_none a N _ N3.out).mono ?_
      rintro e w4 ⟨rfl, rfl⟩
      go_wp2_with fail
      refine (pending_none a _ N3.out).mono ?_
      rintro e w4 ⟨rfl, rfl⟩
      go_wp2_with fail
      refine (again_none a A3 n3 c3 _ N3.out).mono ?_
      rintro e w4 ⟨rfl, rfl⟩
      go_wp2
      go_roundw
      case rel => exact ⟨k + 1, by omega, by go_num, B3.out⟩
      case measure => simp [intOf1]; omega
    · obtain rfl : k = 2 := by omega
      obtain ⟨W2, hW2⟩ : ∃ W2, W2 = (wr.alloc (.cells #[.int .i64 0, .int .i64 0, .int .i64 0, .map none] 50)).alloc (.cells #[.pointer none, .pointer (some ⟨wr.heap.size, 0, none⟩)] 47) := ⟨_, rfl⟩
      obtain ⟨hR, hP2, hsz2⟩ := alloc2Z wr (.cells #[.int .i64 0, .int .i64 0, .int .i64 0, .map none] 50) (.cells #[.pointer none, .pointer (some ⟨wr.heap.size, 0, none⟩)] 47)
      rw [← hW2] at hR hP2 hsz2
      have hb2 : Below wr.heap.size wr W2 := by rw [hW2]; exact ((Below.refl _ _).alloc (Nat.le_refl _) _).alloc (by simp) _
      have hF2 := (hb2.block w.heap.size hwg).trans ((hbw.block w.heap.size (by have := HW.out.2.2.2.1; omega)).trans HW.out.1)
      have HV := Lib.hid (And.intro hR (And.intro hP2 (And.intro hsz2 (And.intro hF2 (belS HW.out.2.2.2.2 (belS hbw hb2))))))
      have HW2 := Lib.hid hW2
      clear hR hP2 hsz2 hb2 hW2 hF2 k0 k1 k2 kf hbw
      go_wp2
      rw [← HW2.out]
      go_loopw [74] (fun iv wr => NilRel W2 iv wr) (fun iv _ => 2 - (intOf1 iv).toNat)
      case atStart => exact ⟨0, by omega, rfl, Below.refl _ _⟩
      case round =>
        obtain ⟨k, hk, rfl, hbw⟩ := hrel
        obtain ⟨k0, k1, k2, kf⟩ := fr_blk HV.out.2.2.2.1 hbw
        by_cases hk2 : k < 2
        · obtain ⟨a, hca, hN⟩ := two_ptrs HV.out.2.1 HV.out.1 rfl hbw k hk2
          have HN := Lib.hid hN
          have HB := Lib.hid hbw
          clear hbw hN
          go_wp2_with fail
          refine (take_none a st sq _ _ HN.out).mono ?_
          rintro e w2 ⟨rfl, b2⟩
          have f2 := belS HB.out b2
          have B2 := Lib.hid f2
          have N2 := Lib.hid (HN.out.below b2)
          clear b2 f2 hca k0 k1 k2 kf
          go_wp2_with fail
          refine (giveUp_none a N _ N2.out).mono ?_
          rintro e w4 ⟨rfl, rfl⟩
          go_wp2_with fail
          refine (next_none a _ N2.out).mono ?_
          rintro e w4 ⟨rfl, rfl⟩
          go_wp2_with fail
          refine (held_none a _ N2.out).mono ?_
          rintro e w4 ⟨rfl, rfl⟩
          go_wp2_with fail
          refine (missing_none a _ N2.out).mono ?_
          rintro e w4 ⟨rfl, rfl⟩
          go_wp2_with fail
          refine (copy_none a _ N2.out).mono ?_
          rintro e w4 ⟨rfl, rfl⟩
          go_wp2
          go_roundw
          case rel =>
            repeat apply Exists.intro
            refine ⟨?_, rfl⟩
            exact ⟨k + 1, by omega, by go_num, B2.out⟩
          case measure => simp [intOf1]; omega
        · obtain rfl : k = 2 := by omega
          go_wp2_with fail
          refine (awake_any _).mono ?_
          rintro e w4 ⟨rfl, b4⟩
          go_wp2
          go_ret
          exact ⟨rfl, belS (belS HV.out.2.2.2.2 hbw) b4⟩

set_option maxRecDepth 100000 in
theorem walk (st sq : Int) (A : Option Addr) (n c : Nat) (N : Int) (A3 : Option Addr) (n3 c3 : Nat) (w : World) :
    Calls Try.prog 5 #[.agg #[.int .i64 st, .int .i64 sq, .slice A n c], .int .i64 N, .slice A3 n3 c3] w (RetB w true) := by
  by_cases hn : n ≤ 1024
  · by_cases hn3 : n3 ≤ 40
    · exact walk_in st sq A n c N A3 n3 c3 hn hn3 w
    · have h1 : (n : Int) ≤ 1024 := by omega
      have h2 : (40 : Int) < (n3 : Int) := by omega
      go_enter Try.func5, Try.ntmps5
      go_wp2_with fail
      refine (awake_any _).mono ?_
      rintro e w4 ⟨rfl, b4⟩
      go_wp2
      go_ret
      exact ⟨rfl, belS ((Below.refl _ _).alloc (Nat.le_refl _) _) b4⟩
  · have h1 : (1024 : Int) < (n : Int) := by omega
    go_enter Try.func5, Try.ntmps5
    go_wp2_with fail
    refine (awake_any _).mono ?_
    rintro e w4 ⟨rfl, b4⟩
    go_wp2
    go_ret
    exact ⟨rfl, belS ((Below.refl _ _).alloc (Nat.le_refl _) _) b4⟩

set_option maxRecDepth 100000 in
theorem lifted (os : Os) (started : os.Started) (H : Type) (enc : TypeId × Value → H) :
    ReturnsInHanded {} Try.checked os 5 .any (Rows.linkNilsSpec.pre6 enc Try.prog Try.f5 Rows.linkNilsRow.domain false) (Rows.linkNilsSpec.post enc Try.prog Try.f5 false true false false) := by
  refine returnsInHanded_of_change (C := Try.checked) ownTry started (by kernel_rfl) Try.func5
    (ChangeSpec.witness6 (enc := enc) (C := Try.checked) false ⟨#[], #[.agg #[.int .i64 0, .int .i64 0, .slice none 0 0], .int .i64 0, .slice none 0 0], []⟩ 8 (by kernel_rfl) (by kernel_rfl) (by kernel_rfl) (by kernel_rfl)) ?_
  intro W base args ds gs before hval0 hW hcnd _
  have hval : ∀ (j : Nat) t v, Try.f5.params[j]? = some t → args[j]? = some v → Value.okWide Try.prog W .any base t v := hval0
  have hW' := hW
  obtain ⟨p, q, hA0, hV, rfl, hfz, hnd⟩ := hW
  have hA : DataW.TrodAll enc Try.prog W 0 (fun _ => true) true Try.f5.params.toList args.toList ds p := hA0
  rw [Try.params5] at hA hval
  obtain ⟨v0, v1, v2, d0, d1, d2, p0, p1, p2, rfl, rfl, rfl, h0, h1, h2⟩ := trodAll_three hA
  obtain ⟨rfl, rfl⟩ := trodVars_none hV
  obtain ⟨x1, rfl, rfl, rfl, wx1⟩ := open_int Try.underlying3 (hval 1 _ v1 rfl rfl) h1
  obtain ⟨A3, n3, c3, rfl⟩ := okWide_slice Try.underlying34 (hval 2 _ v2 rfl rfl)
  obtain ⟨st, sq, A0, n0, c0, X0, rfl, hB0, hx0⟩ := open_frame (hval 0 33 v0 rfl rfl) h0
  clear hA0 hval0
  refine (walk st sq A0 n0 c0 x1 A3 n3 c3 W).mono fun e W' ⟨he, hg⟩ => ?_
  subst he
  exact ⟨_, rfl, post_reads laidOut (by kernel_rfl) hW' rfl (fun _ _ _ => trodAll_mk1 (shut_bool Try.underlying4 _)) (fun _ => rfl) rfl hg (ok_one (by kernel_rfl) rfl (okWide_bool_mk Try.underlying4 _))⟩

theorem over : Rows.linkNilsRow.holds Try.pinned (OpenSpec.ofChange Rows.linkNilsSpec) :=
  OpenClaim.holds_of_wide 5 Try.f5 rfl rfl rfl rfl rfl rfl rfl ⟨rfl, rfl, rfl, rfl, rfl⟩ rfl rfl rfl rfl rfl (by kernel_rfl) Try.func5 (by kernel_rfl)
    (of_decide_eq_true (by kernel_rfl)) (by unfold Func.isWrapper; first | (rw [if_pos (by decide +kernel)]; kernel_rfl) | (rw [if_neg (by decide +kernel)]; exact ⟨rfl, rfl⟩))
    (fun os started H enc _ => lifted os started H enc)

theorem proved : Rows.LinkNilsSaid := over
end Go.Proofs.Ytlokacgclihhlaa.linkNils
