/-
  The document's fault: a datagram is doubled.
-/
import Derived.Test.YtlginmnmobkbhaaCDoc3
namespace Go.Proofs.Ytlginmnmobkbhaa
open Go.RowKit

/-- joined of one. -/
theorem joined_1 {W : World} {A : Option Addr} {c : Nat} {X : List Nat} (hr : RB W W.heap.size (.slice A X.length c) X) (hl : X.length ≤ 1048576) :
    Calls Try.prog 59 #[.slice (some ⟨W.heap.size, 0, none⟩) 1 1] (W.alloc (.cells #[.slice A X.length c] 33)) (RetOwn (W.alloc (.cells #[.slice A X.length c] 33)) X) := by
  have h := joined_any 1 W.heap.size W.heap.size 1 (fun _ => .slice A X.length c) (fun _ => X) (W.alloc (.cells #[.slice A X.length c] 33)) (fun j hj => by
      have : j = 0 := by omega
      subst this
      exact cell_of_row _ _ _ _ _ _ (heap_alloc_new W _)) (fun j _ => hr.belowM ((Below.refl _ _).alloc (Nat.le_refl _) _) (Nat.le_refl _)) (by simp) (by simp) (by omega) (Nat.le_refl _) (by simp [flat]; omega)
  have e : flat (fun _ => X) 1 = X := by simp [flat]
  rw [e] at h
  exact h

theorem joined_bel {W w2 : World} {o : Obj} (b2 : Below (W.drew.alloc o).heap.size (W.drew.alloc o) w2) : Below W.heap.size W w2 := by
  have h1 : Below W.heap.size W (W.drew.alloc o) := (Below.refl W.heap.size W).drew.alloc (Nat.le_refl _) o
  exact h1.trans (b2.mono h1.size)
theorem joined_el {W w2 : World} {o : Obj} {base c2 : Nat} {A2 : Option Addr} {X : List Nat} (hb : base ≤ W.heap.size) (o2 : w2.ownsRow (W.drew.alloc o).heap.size 5 1 (.slice A2 X.length c2) X.length (bys X)) (hX : X.length ≤ 1048576) (hB : AllB X) : El w2 base (.slice A2 X.length c2, X) := by
  have h1 : Below W.heap.size W (W.drew.alloc o) := (Below.refl W.heap.size W).drew.alloc (Nat.le_refl _) o
  exact ⟨owns_base o2 (Nat.le_trans hb h1.size), hB, hX⟩

set_option maxRecDepth 100000 in
set_option maxHeartbeats 1000000 in
theorem fault_double {w : World} {base : Nat} {v : Value} {ps : List (Value × List Nat)} (h : Dcs w base base v ps) (hb : base ≤ w.heap.size) (hn2 : ps.length ≤ 900) (i : Nat) (hi : i < ps.length) (n : Int) :
    Calls Try.prog 68 #[v, .agg #[.int .i64 2, .int .i64 (i : Int), .int .i64 n]] w (RetFd w base ((ps.take (i + 1)).map Prod.snd ++ (ps[i]'hi).2 :: (ps.drop (i + 1)).map Prod.snd)) := by
  obtain ⟨W0, hW0⟩ : ∃ W0, W0 = w.alloc (.cells #[.int .i64 2, .int .i64 (i : Int), .int .i64 n] 106) := ⟨_, rfl⟩
  have hb0 : Below w.heap.size w W0 := by rw [hW0]; exact (Below.refl _ _).alloc (Nat.le_refl _) _
  have z0 : w.heap.size < W0.heap.size := by rw [hW0]; simp
  have hG : W0.heap[w.heap.size]? = some (.cells #[.int .i64 2, .int .i64 (i : Int), .int .i64 n] 106 (0, 0)) := by rw [hW0]; exact heap_alloc_new w _
  have h0 := dcs_below h hb0
  obtain ⟨g, c, e, hgl, hcell⟩ := dcs_at h0 i hi
  subst e
  have hel := h0.els _ (List.getElem_mem hi)
  obtain ⟨_, hrb⟩ := rb_of_owns hel.1
  obtain ⟨A, cp, hform⟩ := hrb.form
  obtain ⟨X, hX⟩ : ∃ X, X = (ps[i]'hi).2 := ⟨_, rfl⟩
  rw [← hX] at hform hrb ⊢
  rw [hform] at hcell hrb
  have hcellA := hcell
  rw [hW0] at hcellA
  have hX2 : X.length ≤ 1048576 ∧ AllB X := by rw [hX]; exact ⟨hel.2.2, hel.2.1⟩
  obtain ⟨k0, k1, k2, kf⟩ := fr_blk hG (Below.refl _ _)
  have HG := Lib.hid hG
  have HW := Lib.hid hW0
  have HR := Lib.hid (And.intro (show RB W0.drew W0.drew.heap.size (.slice A X.length cp) X from ⟨hrb.1.drew, hrb.2⟩) hX2)
  have H0 := Lib.hid (And.intro h0 hb0)
  have i1 : (i : Int) < (ps.length : Int) := by omega
  have i2 : ¬ (i : Int) < 0 := by omega
  have i3 : IntKind.i64.wrap ((i : Int) + 1) = (i : Int) + 1 := by rw [IntKind.wrap_i64]; omega
  clear h0 hb0 h hG hel hrb hform hX hX2
  go_enter Try.func68, Try.ntmps68
  clear hW0
  go_wp2_with fail
  rw [← HW.out]
  go_region_held3 (fun w' => w'.cell? ⟨w.heap.size, 1, none⟩ = some (.int .i64 (i : Int)))
    (first | exact k1 | exact j1 | exact q1 | go_keep)
    (first
      | (go_at_call 59
         refine (joined_1 HR.out.1 HR.out.2.1).mono ?_
         rintro e w2 ⟨v2, rfl, o2, b2⟩
         obtain ⟨A2, c2, e2⟩ := (rb_of_owns o2).2.form
         subst e2
         have b3 : Below W0.heap.size W0 w2 := joined_bel b2
         have e3 := joined_el (base := base) (Nat.le_trans hb H0.out.2.size) o2 HR.out.2.1 HR.out.2.2
         obtain ⟨j0, j1, j2, jf⟩ := fr_blk HG.out b3
         have HJ := Lib.hid (And.intro o2 (And.intro b3 (And.intro (dcs_below H0.out.1 b3) e3))))
      | (go_at_call 81
         refine (with_any HJ.out.2.2.1 (by omega) (i + 1) ((i : Int) + 1) (by omega) hi A2 c2 X HJ.out.2.2.2).mono ?_
         rintro e w3 ⟨v3, rfl, hd3, hb3⟩
         have q1 : w3.cell? ⟨w.heap.size, 1, none⟩ = some (.int .i64 (i : Int)) := (hb3.cell (p := ⟨w.heap.size, 1, none⟩) (Nat.lt_of_lt_of_le z0 HJ.out.2.1.size)).trans j1
         have HT := Lib.hid (And.intro hd3 hb3)
         clear hd3 hb3))
  go_wp2
  go_ret
  exact ⟨_, _, by rw [List.map_append, List.map_cons], rfl, dcs_lb HT.out.1 (Nat.le_trans (Nat.le_trans hb H0.out.2.size) HJ.out.2.1.size), (H0.out.2.mono hb).trans ((HJ.out.2.1.mono (Nat.le_trans hb H0.out.2.size)).trans (HT.out.2.mono (Nat.le_trans (Nat.le_trans hb H0.out.2.size) HJ.out.2.1.size)))⟩
end Go.Proofs.Ytlginmnmobkbhaa
