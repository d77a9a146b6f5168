/-
  For any two boxes and three numbers the law TrackInside returns true and leaves its arguments as they were: no condition.
-/
import Derived.Test.YtdmopmgabieciaaKAwake
import Derived.Test.YtdmopmgabieciaaKHold
import Derived.Test.YtdmopmgabieciaaKFlat
namespace Go.Proofs.Ytdmopmgabieciaa.trackInside
open Go.Proofs.Ytdmopmgabieciaa
open Go.ChangeShapes Go.WideShapes Go.ChangeAt Go.RowKit Go.Joins
set_option linter.unusedVariables false

theorem boxes3 (w : World) (ca cb cc : Array Value) (T T' T'' : TypeId) : ∃ W0, Hid (W0 = ((w.alloc (.cells ca T)).alloc (.cells cb T')).alloc (.cells cc T'')) ∧ Hid (Below w.heap.size w W0) ∧
    Hid (W0.heap[w.heap.size]? = some (.cells ca T (0, 0))) ∧ Hid (W0.heap[w.heap.size + 1]? = some (.cells cb T' (0, 0))) ∧ Hid (W0.heap[w.heap.size + 1 + 1]? = some (.cells cc T'' (0, 0))) := by
  have s1 : (w.alloc (.cells ca T)).heap.size = w.heap.size + 1 := by simp
  have s2 : ((w.alloc (.cells ca T)).alloc (.cells cb T')).heap.size = w.heap.size + 1 + 1 := by simp
  refine ⟨_, rfl, (((Below.refl _ _).alloc (Nat.le_refl _) _).alloc (by simp) _).alloc (by simp; omega) _, ?_, ?_, ?_⟩
  · exact (heap_alloc_old _ _ (by omega)).trans ((heap_alloc_old _ _ (by omega)).trans (heap_alloc_new w _))
  · have h := heap_alloc_new (w.alloc (.cells ca T)) (.cells cb T')
    rw [s1] at h
    exact (heap_alloc_old _ _ (by omega)).trans h
  · have h := heap_alloc_new ((w.alloc (.cells ca T)).alloc (.cells cb T')) (.cells cc T'')
    rw [s2] at h
    exact h

theorem six_cells {W0 w1 : World} {g : Nat} {a b c d e f : Value} {T : TypeId} (hG : W0.heap[g]? = some (.cells #[a, b, c, d, e, f] T (0, 0))) (h : Below W0.heap.size W0 w1) :
    w1.cell? ⟨g, 0, none⟩ = some a ∧ w1.cell? ⟨g, 1, none⟩ = some b ∧ w1.cell? ⟨g, 2, none⟩ = some c ∧ w1.cell? ⟨g, 3, none⟩ = some d ∧ w1.cell? ⟨g, 4, none⟩ = some e ∧ w1.cell? ⟨g, 5, none⟩ = some f :=
  ⟨blk_cell hG h 0 a rfl, blk_cell hG h 1 b rfl, blk_cell hG h 2 c rfl, blk_cell hG h 3 d rfl, blk_cell hG h 4 e rfl, blk_cell hG h 5 f rfl⟩
theorem three_cells {W0 w1 : World} {g : Nat} {a b c : Value} {T : TypeId} (hG : W0.heap[g]? = some (.cells #[a, b, c] T (0, 0))) (h : Below W0.heap.size W0 w1) :
    w1.cell? ⟨g, 0, none⟩ = some a ∧ w1.cell? ⟨g, 1, none⟩ = some b ∧ w1.cell? ⟨g, 2, none⟩ = some c :=
  ⟨blk_cell hG h 0 a rfl, blk_cell hG h 1 b rfl, blk_cell hG h 2 c rfl⟩

set_option maxRecDepth 100000 in
set_option maxHeartbeats 4000000 in
theorem walk (a0 a1 a2 a3 a4 a5 b0 b1 b2 b3 b4 b5 x y z : Int) (w : World) :
    Calls Try.prog 3 #[.agg #[.int .i64 a0, .int .i64 a1, .int .i64 a2, .int .i64 a3, .int .i64 a4, .int .i64 a5], .agg #[.int .i64 b0, .int .i64 b1, .int .i64 b2, .int .i64 b3, .int .i64 b4, .int .i64 b5], .agg #[.int .i64 x, .int .i64 y, .int .i64 z]] w (RetB w true) := by
  obtain ⟨W0, HW0, HW, HG, HG', HG''⟩ := boxes3 w #[.int .i64 a0, .int .i64 a1, .int .i64 a2, .int .i64 a3, .int .i64 a4, .int .i64 a5] #[.int .i64 b0, .int .i64 b1, .int .i64 b2, .int .i64 b3, .int .i64 b4, .int .i64 b5] #[.int .i64 x, .int .i64 y, .int .i64 z] 25 25 26
  obtain ⟨p, hp⟩ : ∃ p, decide (inBox a0 a1 a2 a3 a4 a5 b0 b1 b2 b3 b4 b5) = p := ⟨_, rfl⟩
  obtain ⟨q, hq⟩ : ∃ q, decide (inPt a0 a1 a2 a3 a4 a5 x y z) = q := ⟨_, rfl⟩
  have HH := Lib.hid (And.intro hp hq)
  clear hp hq
  have ep : (p == p) = true := by simp
  have eq : (q == q) = true := by simp
  have KG := Lib.hid (fun (w' : World) (h : Below W0.heap.size W0 w') => And.intro (six_cells HG.out h) (And.intro (six_cells HG'.out h) (three_cells HG''.out h)))
  have KD := Lib.hid (KG.out _ ((Below.refl W0.heap.size W0).drew))
  go_enter Try.func3, Try.ntmps3
  go_wp2
  rw [← HW0.out]
  go_region_held3 (fun w' => (w'.cell? ⟨w.heap.size, 0, none⟩ = some (.int .i64 a0) ∧ w'.cell? ⟨w.heap.size, 1, none⟩ = some (.int .i64 a1) ∧ w'.cell? ⟨w.heap.size, 2, none⟩ = some (.int .i64 a2) ∧ w'.cell? ⟨w.heap.size, 3, none⟩ = some (.int .i64 a3) ∧ w'.cell? ⟨w.heap.size, 4, none⟩ = some (.int .i64 a4) ∧ w'.cell? ⟨w.heap.size, 5, none⟩ = some (.int .i64 a5)) ∧
      (w'.cell? ⟨w.heap.size + 1, 0, none⟩ = some (.int .i64 b0) ∧ w'.cell? ⟨w.heap.size + 1, 1, none⟩ = some (.int .i64 b1) ∧ w'.cell? ⟨w.heap.size + 1, 2, none⟩ = some (.int .i64 b2) ∧ w'.cell? ⟨w.heap.size + 1, 3, none⟩ = some (.int .i64 b3) ∧ w'.cell? ⟨w.heap.size + 1, 4, none⟩ = some (.int .i64 b4) ∧ w'.cell? ⟨w.heap.size + 1, 5, none⟩ = some (.int .i64 b5)) ∧
      (w'.cell? ⟨w.heap.size + 1 + 1, 0, none⟩ = some (.int .i64 x) ∧ w'.cell? ⟨w.heap.size + 1 + 1, 1, none⟩ = some (.int .i64 y) ∧ w'.cell? ⟨w.heap.size + 1 + 1, 2, none⟩ = some (.int .i64 z)))
    (first
      | (with_reducible exact KD.out)
      | (refine KG.out _ ?_
         with_reducible first | exact hb5 | exact hb4 | exact hb3 | exact hb2 | exact hb1)
      | go_keep)
    (first
      | (go_at_call 15
         refine (inside_any a0 a1 a2 a3 a4 a5 b0 b1 b2 b3 b4 b5 _).mono ?_
         rintro e w1 ⟨rfl, hb1'⟩
         rw [HH.out.1]
         have hb1 : Below W0.heap.size W0 w1 := below_un hb1'
         clear hb1')
      | (go_at_call 16
         refine (refInsideB_any a0 a1 a2 a3 a4 a5 b0 b1 b2 b3 b4 b5 _).mono ?_
         rintro e w2 ⟨rfl, hb2'⟩
         rw [HH.out.1]
         have hb2 : Below W0.heap.size W0 w2 := by with_reducible first | exact bel_ hb1 hb2' | exact bel_ hb1 (below_un hb2')
         clear hb2')
      | (go_at_call 17
         refine (holds_any a0 a1 a2 a3 a4 a5 x y z _).mono ?_
         rintro e w3 ⟨rfl, hb3'⟩
         rw [HH.out.2]
         have hb3 : Below W0.heap.size W0 w3 := by with_reducible first | exact bel_ hb2 hb3' | exact bel_ hb2 (below_un hb3')
         clear hb3')
      | (go_at_call 18
         refine (refHolds_any a0 a1 a2 a3 a4 a5 x y z _).mono ?_
         rintro e w4 ⟨rfl, hb4'⟩
         rw [HH.out.2]
         have hb4 : Below W0.heap.size W0 w4 := by with_reducible first | exact bel_ hb3 hb4' | exact bel_ hb3 (below_un hb4')
         clear hb4')
      | (go_at_call 19
         refine (awake_any _).mono ?_
         rintro e w5 ⟨rfl, hb5'⟩
         have hb5 : Below W0.heap.size W0 w5 := by with_reducible first | exact bel_ hb4 hb5' | exact bel_ hb4 (below_un hb5')
         clear hb5'))
  all_goals
    go_wp2
    go_ret
    exact ⟨rfl, bel_ HW.out hb5⟩

set_option maxRecDepth 100000 in
theorem lifted (os : Os) (started : os.Started) (H : Type) (enc : TypeId × Value → H) :
    ReturnsInHanded {} Try.checked os 3 .any (Rows.trackInsideSpec.pre6 enc Try.prog Try.f3 Rows.trackInsideRow.domain false) (Rows.trackInsideSpec.post enc Try.prog Try.f3 false true false false) := by
  refine returnsInHanded_of_change (C := Try.checked) ownTry started (by kernel_rfl) Try.func3
    (ChangeSpec.witness6 (enc := enc) (C := Try.checked) false ⟨#[], #[.agg #[.int .i64 0, .int .i64 0, .int .i64 0, .int .i64 0, .int .i64 0, .int .i64 0], .agg #[.int .i64 0, .int .i64 0, .int .i64 0, .int .i64 0, .int .i64 0, .int .i64 0], .agg #[.int .i64 0, .int .i64 0, .int .i64 0]], []⟩ 8 (by kernel_rfl) (by kernel_rfl) (by kernel_rfl) (by kernel_rfl)) ?_
  intro W base args ds gs before hval0 hW hcnd _
  have hval : ∀ (j : Nat) t v, Try.f3.params[j]? = some t → args[j]? = some v → Value.okWide Try.prog W .any base t v := hval0
  have hW' := hW
  obtain ⟨p, q, hA0, hV, rfl, hfz, hnd⟩ := hW
  have hA : DataW.TrodAll enc Try.prog W 0 (fun _ => true) true Try.f3.params.toList args.toList ds p := hA0
  rw [Try.params3] at hA hval
  obtain ⟨v0, v1, v2, d0, d1, d2, p0, p1, p2, rfl, rfl, rfl, h0, h1, h2⟩ := trodAll_three hA
  obtain ⟨rfl, rfl⟩ := trodVars_none hV
  obtain ⟨L0, _, hl0, rfl⟩ := open_flat (k := 6) (okWide_struct Try.underlying25 (hval 0 25 v0 rfl rfl)) (by kernel_rfl) (by kernel_rfl) h0
  obtain ⟨L1, _, hl1, rfl⟩ := open_flat (k := 6) (okWide_struct Try.underlying25 (hval 1 25 v1 rfl rfl)) (by kernel_rfl) (by kernel_rfl) h1
  obtain ⟨L2, _, hl2, rfl⟩ := open_flat (k := 3) (okWide_array Try.underlying26 (hval 2 26 v2 rfl rfl)) (by kernel_rfl) (by kernel_rfl) h2
  obtain ⟨a0, a1, a2, a3, a4, a5, rfl⟩ := list6 hl0
  obtain ⟨b0, b1, b2, b3, b4, b5, rfl⟩ := list6 hl1
  obtain ⟨x, y, z, rfl⟩ := list3 hl2
  clear hA0 hval0
  refine (walk a0 a1 a2 a3 a4 a5 b0 b1 b2 b3 b4 b5 x y z W).mono fun e W' ⟨he, hg⟩ => ?_
  subst he
  exact ⟨_, rfl, post_reads laidOut (by kernel_rfl) hW' rfl (fun _ _ _ => trodAll_mk1 (shut_bool Try.underlying4 _)) (fun _ => rfl) rfl hg (ok_one (by kernel_rfl) rfl (okWide_bool_mk Try.underlying4 _))⟩

theorem over : Rows.trackInsideRow.holds Try.pinned (OpenSpec.ofChange Rows.trackInsideSpec) :=
  OpenClaim.holds_of_wide 3 Try.f3 rfl rfl rfl rfl rfl rfl rfl ⟨rfl, rfl, rfl, rfl, rfl⟩ rfl rfl rfl rfl rfl (by kernel_rfl) Try.func3 (by kernel_rfl)
    (of_decide_eq_true (by kernel_rfl)) (by unfold Func.isWrapper; first | (rw [if_pos (by decide +kernel)]; kernel_rfl) | (rw [if_neg (by decide +kernel)]; exact ⟨rfl, rfl⟩))
    (fun os started H enc _ => lifted os started H enc)

theorem proved : Rows.TrackInsideSaid := over
end Go.Proofs.Ytdmopmgabieciaa.trackInside
