/-
  For any navigation record, rules and track the law TrackRules returns true and leaves its arguments as they were: no condition.
-/
import Derived.Test.YtdmopmgabieciaaKAwake
import Derived.Test.YtdmopmgabieciaaKSync
import Derived.Test.YtdmopmgabieciaaKValr
namespace Go.Proofs.Ytdmopmgabieciaa.trackRules
open Go.Proofs.Ytdmopmgabieciaa
open Go.ChangeShapes Go.WideShapes Go.ChangeAt Go.RowKit Go.Joins
set_option linter.unusedVariables false

theorem boxes3r (w : World) (ca cb cc : Array Value) (T T' T'' : TypeId) : ∃ W0, Hid (W0 = ((w.alloc (.cells ca T)).alloc (.cells cb T')).alloc (.cells cc T'')) ∧ Hid (Below w.heap.size w W0) ∧
    Hid (W0.heap[w.heap.size]? = some (.cells ca T (0, 0))) ∧ Hid (W0.heap[w.heap.size + 1]? = some (.cells cb T' (0, 0))) ∧ Hid (W0.heap[w.heap.size + 1 + 1]? = some (.cells cc T'' (0, 0))) := by
  have s1 : (w.alloc (.cells ca T)).heap.size = w.heap.size + 1 := by simp
  have s2 : ((w.alloc (.cells ca T)).alloc (.cells cb T')).heap.size = w.heap.size + 1 + 1 := by simp
  refine ⟨_, rfl, (((Below.refl _ _).alloc (Nat.le_refl _) _).alloc (by simp) _).alloc (by simp; omega) _, ?_, ?_, ?_⟩
  · exact (heap_alloc_old _ _ (by omega)).trans ((heap_alloc_old _ _ (by omega)).trans (heap_alloc_new w _))
  · have h := heap_alloc_new (w.alloc (.cells ca T)) (.cells cb T')
    rw [s1] at h
    exact (heap_alloc_old _ _ (by omega)).trans h
  · have h := heap_alloc_new ((w.alloc (.cells ca T)).alloc (.cells cb T')) (.cells cc T'')
    rw [s2] at h
    exact h

set_option maxRecDepth 100000 in
set_option maxHeartbeats 8000000 in
theorem walk (sy : Bool) (t x y z e q0 q1 q2 q3 tl sc nv er g s a rt : Int) (A : Option Addr) (n c : Nat) (Ps : List (Nat × List Int)) (w : World) (hx : PW w w.heap.size (.slice A n c) Ps) :
    Calls Try.prog 7 #[.agg #[.bool sy, .int .i64 t, .int .i64 x, .int .i64 y, .int .i64 z, .int .i64 e, .int .i64 q0, .int .i64 q1, .int .i64 q2, .int .i64 q3, .int .i64 tl, .int .i64 sc, .int .i64 nv, .int .i64 er], .agg #[.int .i64 g, .int .i64 s, .int .i64 a, .int .i64 rt], .agg #[.slice A n c]] w (RetB w true) := by
  obtain ⟨W0, HW0, HW, HG, HG', HG''⟩ := boxes3r w #[.bool sy, .int .i64 t, .int .i64 x, .int .i64 y, .int .i64 z, .int .i64 e, .int .i64 q0, .int .i64 q1, .int .i64 q2, .int .i64 q3, .int .i64 tl, .int .i64 sc, .int .i64 nv, .int .i64 er] #[.int .i64 g, .int .i64 s, .int .i64 a, .int .i64 rt] #[.slice A n c] 60 35 63
  have HPW := Lib.hid (fun (w' : World) (h : Below W0.heap.size W0 w') => hx.below (bel_ HW.out h))
  obtain ⟨p1, hp1⟩ : ∃ p, decide (okFix t x y z e q0 q1 q2 q3 tl) = p := ⟨_, rfl⟩
  obtain ⟨p2, hp2⟩ : ∃ p, decide (okSync sc nv er) = p := ⟨_, rfl⟩
  obtain ⟨p3, hp3⟩ : ∃ p, decide (okRules g s a rt) = p := ⟨_, rfl⟩
  obtain ⟨p4, hp4⟩ : ∃ p, decide (VT Ps g s a rt) = p := ⟨_, rfl⟩
  have HH := Lib.hid (And.intro hp1 (And.intro hp2 (And.intro hp3 hp4)))
  clear hp1 hp2 hp3 hp4 hx
  have e1 : (p1 == p1) = true := by simp
  have e2 : (p2 == p2) = true := by simp
  have e3 : (p3 == p3) = true := by simp
  have e4 : (p4 == p4) = true := by simp
  have KG := Lib.hid (fun (w' : World) (h : Below W0.heap.size W0 w') => And.intro (blk_cell HG.out h 0 (.bool sy) rfl) (And.intro (blk_cell HG.out h 1 (.int .i64 t) rfl) (And.intro (blk_cell HG.out h 2 (.int .i64 x) rfl) (And.intro (blk_cell HG.out h 3 (.int .i64 y) rfl) (And.intro (blk_cell HG.out h 4 (.int .i64 z) rfl) (And.intro (blk_cell HG.out h 5 (.int .i64 e) rfl) (And.intro (blk_cell HG.out h 6 (.int .i64 q0) rfl) (And.intro (blk_cell HG.out h 7 (.int .i64 q1) rfl) (And.intro (blk_cell HG.out h 8 (.int .i64 q2) rfl) (And.intro (blk_cell HG.out h 9 (.int .i64 q3) rfl) (And.intro (blk_cell HG.out h 10 (.int .i64 tl) rfl) (And.intro (blk_cell HG.out h 11 (.int .i64 sc) rfl) (And.intro (blk_cell HG.out h 12 (.int .i64 nv) rfl) (And.intro (blk_cell HG.out h 13 (.int .i64 er) rfl) (And.intro (blk_cell HG'.out h 0 (.int .i64 g) rfl) (And.intro (blk_cell HG'.out h 1 (.int .i64 s) rfl) (And.intro (blk_cell HG'.out h 2 (.int .i64 a) rfl) (And.intro (blk_cell HG'.out h 3 (.int .i64 rt) rfl) (blk_cell HG''.out h 0 (.slice A n c) rfl)))))))))))))))))))
  go_enter Try.func7, Try.ntmps7
  go_wp2_with fail
  rw [← HW0.out]
  refine (many_any Ps A n c w.heap.size 40 _ (HPW.out _ (Below.refl _ _)) HW.out.size).mono ?_
  rintro en w1 ⟨v, rfl, hb1⟩
  cases v with
  | true =>
    go_wp2_with fail
    refine (awake_any _).mono ?_
    rintro en w2 ⟨rfl, hb2⟩
    go_wp2
    go_ret
    exact ⟨rfl, bel_ HW.out (bel_ hb1 hb2)⟩
  | false =>
    have KD := Lib.hid (KG.out _ hb1.drew)
    go_wp2
    go_region_held3 (fun w' => w'.cell? ⟨w.heap.size, 0, none⟩ = some (.bool sy) ∧ w'.cell? ⟨w.heap.size, 1, none⟩ = some (.int .i64 t) ∧ w'.cell? ⟨w.heap.size, 2, none⟩ = some (.int .i64 x) ∧ w'.cell? ⟨w.heap.size, 3, none⟩ = some (.int .i64 y) ∧ w'.cell? ⟨w.heap.size, 4, none⟩ = some (.int .i64 z) ∧ w'.cell? ⟨w.heap.size, 5, none⟩ = some (.int .i64 e) ∧ w'.cell? ⟨w.heap.size, 6, none⟩ = some (.int .i64 q0) ∧ w'.cell? ⟨w.heap.size, 7, none⟩ = some (.int .i64 q1) ∧ w'.cell? ⟨w.heap.size, 8, none⟩ = some (.int .i64 q2) ∧ w'.cell? ⟨w.heap.size, 9, none⟩ = some (.int .i64 q3) ∧ w'.cell? ⟨w.heap.size, 10, none⟩ = some (.int .i64 tl) ∧ w'.cell? ⟨w.heap.size, 11, none⟩ = some (.int .i64 sc) ∧ w'.cell? ⟨w.heap.size, 12, none⟩ = some (.int .i64 nv) ∧ w'.cell? ⟨w.heap.size, 13, none⟩ = some (.int .i64 er) ∧ w'.cell? ⟨w.heap.size + 1, 0, none⟩ = some (.int .i64 g) ∧ w'.cell? ⟨w.heap.size + 1, 1, none⟩ = some (.int .i64 s) ∧ w'.cell? ⟨w.heap.size + 1, 2, none⟩ = some (.int .i64 a) ∧ w'.cell? ⟨w.heap.size + 1, 3, none⟩ = some (.int .i64 rt) ∧ w'.cell? ⟨w.heap.size + 1 + 1, 0, none⟩ = some (.slice A n c))
      (first
        | (with_reducible exact KD.out)
        | (refine KG.out _ ?_
           with_reducible first | exact hb10 | exact hb9 | exact hb8 | exact hb7 | exact hb6 | exact hb5 | exact hb4 | exact hb3 | exact hb2)
        | go_keep)
      (first
      | (go_at_call 32
         refine (validFix_any t x y z e q0 q1 q2 q3 tl _).mono ?_
         rintro en w2 ⟨rfl, hb2'⟩
         rw [HH.out.1]
         have hb2 : Below W0.heap.size W0 w2 := by with_reducible first | exact bel_ hb1 hb2' | exact bel_ hb1 (below_un hb2')
         clear hb2')
      | (go_at_call 33
         refine (refValidFix_any t x y z e q0 q1 q2 q3 tl _).mono ?_
         rintro en w3 ⟨rfl, hb3'⟩
         rw [HH.out.1]
         have hb3 : Below W0.heap.size W0 w3 := by with_reducible first | exact bel_ hb2 hb3' | exact bel_ hb2 (below_un hb3')
         clear hb3')
      | (go_at_call 34
         refine (validSync_any sc nv er _).mono ?_
         rintro en w4 ⟨rfl, hb4'⟩
         rw [HH.out.2.1]
         have hb4 : Below W0.heap.size W0 w4 := by with_reducible first | exact bel_ hb3 hb4' | exact bel_ hb3 (below_un hb4')
         clear hb4')
      | (go_at_call 35
         refine (refValidSync_any sc nv er _).mono ?_
         rintro en w5 ⟨rfl, hb5'⟩
         rw [HH.out.2.1]
         have hb5 : Below W0.heap.size W0 w5 := by with_reducible first | exact bel_ hb4 hb5' | exact bel_ hb4 (below_un hb5')
         clear hb5')
      | (go_at_call 36
         refine (validRules_any g s a rt _).mono ?_
         rintro en w6 ⟨rfl, hb6'⟩
         rw [HH.out.2.2.1]
         have hb6 : Below W0.heap.size W0 w6 := by with_reducible first | exact bel_ hb5 hb6' | exact bel_ hb5 (below_un hb6')
         clear hb6')
      | (go_at_call 37
         refine (refValidRules_any g s a rt _).mono ?_
         rintro en w7 ⟨rfl, hb7'⟩
         rw [HH.out.2.2.1]
         have hb7 : Below W0.heap.size W0 w7 := by with_reducible first | exact bel_ hb6 hb7' | exact bel_ hb6 (below_un hb7')
         clear hb7')
      | (go_at_call 38
         refine (validTrack_any Ps g s a rt A n c w.heap.size _ (by exact HPW.out _ hb7) (by exact (bel_ HW.out hb7).size)).mono ?_
         rintro en w8 ⟨rfl, hb8'⟩
         rw [HH.out.2.2.2]
         have hb8 : Below W0.heap.size W0 w8 := by with_reducible first | exact bel_ hb7 hb8' | exact bel_ hb7 (below_un hb8')
         clear hb8')
      | (go_at_call 39
         refine (refValidTrack_any Ps g s a rt A n c w.heap.size _ (by exact HPW.out _ hb8) (by exact (bel_ HW.out hb8).size)).mono ?_
         rintro en w9 ⟨rfl, hb9'⟩
         rw [HH.out.2.2.2]
         have hb9 : Below W0.heap.size W0 w9 := by with_reducible first | exact bel_ hb8 hb9' | exact bel_ hb8 (below_un hb9')
         clear hb9')
      | (go_at_call 19
         refine (awake_any _).mono ?_
         rintro en w10 ⟨rfl, hb10'⟩
         have hb10 : Below W0.heap.size W0 w10 := by with_reducible first | exact bel_ hb9 hb10' | exact bel_ hb9 (below_un hb10')
         clear hb10'))
    all_goals
      go_wp2
      go_ret
      exact ⟨rfl, bel_ HW.out hb10⟩

set_option maxRecDepth 100000 in
theorem lifted (os : Os) (started : os.Started) (H : Type) (enc : TypeId × Value → H) :
    ReturnsInHanded {} Try.checked os 7 .any (Rows.trackRulesSpec.pre6 enc Try.prog Try.f7 Rows.trackRulesRow.domain false) (Rows.trackRulesSpec.post enc Try.prog Try.f7 false true false false) := by
  refine returnsInHanded_of_change (C := Try.checked) ownTry started (by kernel_rfl) Try.func7
    (ChangeSpec.witness6 (enc := enc) (C := Try.checked) false ⟨#[], #[.agg #[.bool false, .int .i64 0, .int .i64 0, .int .i64 0, .int .i64 0, .int .i64 0, .int .i64 0, .int .i64 0, .int .i64 0, .int .i64 0, .int .i64 0, .int .i64 0, .int .i64 0, .int .i64 0], .agg #[.int .i64 0, .int .i64 0, .int .i64 0, .int .i64 0], .agg #[.slice none 0 0]], []⟩ 8 (by kernel_rfl) (by kernel_rfl) (by kernel_rfl) (by kernel_rfl)) ?_
  intro W base args ds gs before hval0 hW hcnd _
  have hval : ∀ (j : Nat) t v, Try.f7.params[j]? = some t → args[j]? = some v → Value.okWide Try.prog W .any base t v := hval0
  have hW' := hW
  obtain ⟨p, q, hA0, hV, rfl, hfz, hnd⟩ := hW
  have hA : DataW.TrodAll enc Try.prog W 0 (fun _ => true) true Try.f7.params.toList args.toList ds p := hA0
  rw [Try.params7] at hA hval
  obtain ⟨v0, v1, v2, d0, d1, d2, p0, p1, p2, rfl, rfl, rfl, h0, h1, h2⟩ := trodAll_three hA
  obtain ⟨rfl, rfl⟩ := trodVars_none hV
  obtain ⟨sy, t, x, y, z, e, q0, q1, q2, q3, tl, sc, nv, er, _, rfl⟩ := open_nav (hval 0 60 v0 rfl rfl) h0
  obtain ⟨L1, _, hl1, rfl⟩ := open_flat (k := 4) (okWide_struct Try.underlying35 (hval 1 35 v1 rfl rfl)) (by kernel_rfl) (by kernel_rfl) h1
  obtain ⟨g, s, a, rt, rfl⟩ := list4 hl1
  obtain ⟨A, n, c, Ps, rfl, hx⟩ := open_track (hval 2 63 v2 rfl rfl) h2
  clear hA0 hval0
  refine (walk sy t x y z e q0 q1 q2 q3 tl sc nv er g s a rt A n c Ps W hx).mono fun e W' ⟨he, hg⟩ => ?_
  subst he
  exact ⟨_, rfl, post_reads laidOut (by kernel_rfl) hW' rfl (fun _ _ _ => trodAll_mk1 (shut_bool Try.underlying4 _)) (fun _ => rfl) rfl hg (ok_one (by kernel_rfl) rfl (okWide_bool_mk Try.underlying4 _))⟩

theorem over : Rows.trackRulesRow.holds Try.pinned (OpenSpec.ofChange Rows.trackRulesSpec) :=
  OpenClaim.holds_of_wide 7 Try.f7 rfl rfl rfl rfl rfl rfl rfl ⟨rfl, rfl, rfl, rfl, rfl⟩ rfl rfl rfl rfl rfl (by kernel_rfl) Try.func7 (by kernel_rfl)
    (of_decide_eq_true (by kernel_rfl)) (by unfold Func.isWrapper; first | (rw [if_pos (by decide +kernel)]; kernel_rfl) | (rw [if_neg (by decide +kernel)]; exact ⟨rfl, rfl⟩))
    (fun os started H enc _ => lifted os started H enc)

theorem proved : Rows.TrackRulesSaid := over
end Go.Proofs.Ytdmopmgabieciaa.trackRules
