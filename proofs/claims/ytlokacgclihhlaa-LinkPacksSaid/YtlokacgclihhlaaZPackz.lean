/-
  Pack of a valid frame, the document's.
-/
import Derived.Test.YtlokacgclihhlaaZPackq
import Derived.Deep.DrawnRows
import Derived.Deep.RegionWith
namespace Go.Proofs.Ytlokacgclihhlaa
open Go.RowKit
attribute [local go_sem ↓] Go.wp_at_zero Go.wp_at_succ

def quadV (a b c d : Value) : Nat → Value
  | 0 => a
  | 1 => b
  | 2 => c
  | _ => d
def quadX (a b c d : List Nat) : Nat → List Nat
  | 0 => a
  | 1 => b
  | 2 => c
  | _ => d
theorem flat4 (a b c d : List Nat) : flat (quadX a b c d) 4 = a ++ b ++ c ++ d := by simp [flat, quadX]

/-- joined of four parts whose list lies in the newest block. -/
theorem joined_four (a b c d : Value) (X1 X2 X3 X4 : List Nat) (w : World) (h1 : RB w w.heap.size a X1) (h2 : RB w w.heap.size b X2) (h3 : RB w w.heap.size c X3) (h4 : RB w w.heap.size d X4) (hl : (X1 ++ X2 ++ X3 ++ X4).length ≤ 1048576) :
    Calls Try.prog 42 #[.slice (some ⟨w.heap.size, 0, none⟩) 4 4] (w.alloc (.cells #[a, b, c, d] 22)) (RetOwn w (X1 ++ X2 ++ X3 ++ X4)) := by
  refine (joined_any 4 w.heap.size w.heap.size 4 (quadV a b c d) (quadX X1 X2 X3 X4) (w.alloc (.cells #[a, b, c, d] 22)) (fun j hj => ?_) (fun j hj => ?_) (by simp) (by simp) (by omega) (by omega) (by rw [flat4]; omega)).mono ?_
  · match j, hj with
    | 0, _ => exact built_cells w _ _ 0 a rfl
    | 1, _ => exact built_cells w _ _ 1 b rfl
    | 2, _ => exact built_cells w _ _ 2 c rfl
    | 3, _ => exact built_cells w _ _ 3 d rfl
  · match j, hj with
    | 0, _ => exact h1.alloc (Nat.le_refl _) _
    | 1, _ => exact h2.alloc (Nat.le_refl _) _
    | 2, _ => exact h3.alloc (Nat.le_refl _) _
    | 3, _ => exact h4.alloc (Nat.le_refl _) _
  · rintro e w' ⟨v', rfl, ho, hb⟩
    rw [flat4] at ho
    exact ⟨v', rfl, owns_base ho (by simp), ((Below.refl w.heap.size w).alloc (Nat.le_refl _) _).trans (hb.mono (by simp))⟩
theorem joined_two (a b : Value) (X1 X2 : List Nat) (w : World) (h1 : RB w w.heap.size a X1) (h2 : RB w w.heap.size b X2) (hl : (X1 ++ X2).length ≤ 1048576) :
    Calls Try.prog 42 #[.slice (some ⟨w.heap.size, 0, none⟩) 2 2] (w.alloc (.cells #[a, b] 22)) (RetOwn w (X1 ++ X2)) := by
  have e2 : flat (quadX X1 X2 [] []) 2 = X1 ++ X2 := by simp [flat, quadX]
  refine (joined_any 2 w.heap.size w.heap.size 2 (quadV a b a a) (quadX X1 X2 [] []) (w.alloc (.cells #[a, b] 22)) (fun j hj => ?_) (fun j hj => ?_) (by simp) (by simp) (by omega) (by omega) (by rw [e2]; omega)).mono ?_
  · match j, hj with
    | 0, _ => exact built_cells w _ _ 0 a rfl
    | 1, _ => exact built_cells w _ _ 1 b rfl
  · match j, hj with
    | 0, _ => exact h1.alloc (Nat.le_refl _) _
    | 1, _ => exact h2.alloc (Nat.le_refl _) _
  · rintro e w' ⟨v', rfl, ho, hb⟩
    rw [e2] at ho
    exact ⟨v', rfl, owns_base ho (by simp), ((Below.refl w.heap.size w).alloc (Nat.le_refl _) _).trans (hb.mono (by simp))⟩

theorem joined_four' (p : Nat) (a b c d : Value) (X1 X2 X3 X4 : List Nat) (w : World) (hp : p = w.heap.size) (h1 : RB w w.heap.size a X1) (h2 : RB w w.heap.size b X2) (h3 : RB w w.heap.size c X3) (h4 : RB w w.heap.size d X4) (hl : (X1 ++ X2 ++ X3 ++ X4).length ≤ 1048576) :
    Calls Try.prog 42 #[.slice (some ⟨p, 0, none⟩) 4 4] (w.alloc (.cells #[a, b, c, d] 22)) (RetOwn w (X1 ++ X2 ++ X3 ++ X4)) := by
  subst hp
  exact joined_four a b c d X1 X2 X3 X4 w h1 h2 h3 h4 hl
theorem joined_two' (p : Nat) (a b : Value) (X1 X2 : List Nat) (w : World) (hp : p = w.heap.size) (h1 : RB w w.heap.size a X1) (h2 : RB w w.heap.size b X2) (hl : (X1 ++ X2).length ≤ 1048576) :
    Calls Try.prog 42 #[.slice (some ⟨p, 0, none⟩) 2 2] (w.alloc (.cells #[a, b] 22)) (RetOwn w (X1 ++ X2)) := by
  subst hp
  exact joined_two a b X1 X2 w h1 h2 hl

theorem rb_twoL (wr : World) (e : TypeId) (st : Nat) : RB (wr.alloc (.cells #[.int .u8 165, .int .u8 (st : Int)] e)) (wr.heap.size + 1) (.slice (some ⟨wr.heap.size, 0, none⟩) 2 2) [165, st] := by
  have h := rb_two wr e 165 st
  have e : ((165 : Nat) : Int) = 165 := rfl
  rw [e] at h
  exact h
theorem size_allocP (w : World) (o : Obj) : (w.alloc o).heap.size = w.heap.size + 1 := by simp
theorem size_allocDr (w : World) (o : Obj) : (w.alloc o).drew.heap.size = w.heap.size + 1 := by
  show (w.alloc o).heap.size = _
  simp
theorem RB.drew {w : World} {B : Nat} {v : Value} {X : List Nat} (h : RB w B v X) : RB w.drew B v X := ⟨h.1.drew, h.2⟩

set_option maxRecDepth 100000 in
set_option maxHeartbeats 8000000 in
theorem refPack_ok (st sq : Nat) (X : List Nat) (hXb : AllB X) (A : Option Addr) (n c B : Nat) (hok : okF st sq n) (w : World) (hx : RB w B (.slice A n c) X) (hB : B ≤ w.heap.size) :
    Calls Try.prog 35 #[.agg #[.int .i64 (st : Int), .int .i64 (sq : Int), .slice A n c]] w (RetNum w (packL st sq X)) := by
  obtain ⟨W0, HW0, hw0, HG, z0⟩ := F0ex w st sq (.slice A n c)
  have HOK := Lib.hid hok
  have HX := Lib.hid (hx.belowM (B' := w.heap.size) hw0 hB)
  have HXL := Lib.hid hx.1.len
  have hn : n ≤ 1024 := hok.2.2.2.2
  have hst : st < 256 := by have := hok.2.1; omega
  have hsq : sq < 4294967296 := by have := hok.2.2.2.1; omega
  have hn32 : n < 4294967296 := by omega
  have hWst : IntKind.u8.wrap (st : Int) = (st : Int) := by rw [IntKind.wrap_u8]; omega
  have hWsq : IntKind.u64.wrap (sq : Int) = (sq : Int) := by rw [IntKind.wrap_u64]; omega
  have hWn : IntKind.u64.wrap (n : Int) = (n : Int) := by rw [IntKind.wrap_u64]; omega
  have HXB := Lib.hid hXb
  have hBW : B ≤ W0.heap.size := Nat.le_trans hB (Nat.le_of_lt z0)
  clear hx hok hXb
  obtain ⟨k0, k1, k2, kf⟩ := fr_blk HG.out (Below.refl _ _)
  go_enter Try.func35, Try.ntmps35
  go_wp2_with fail
  rw [← HW0.out]
  refine (refValidP true st sq A n c (by simpa using HOK.out) _).mono ?_
  rintro e W1 ⟨rfl, b1⟩
  clear k0 k1 k2 kf
  obtain ⟨k0, k1, k2, kf⟩ := fr_blk HG.out b1
  have B1 := Lib.hid b1
  have X1 := Lib.hid ((HX.out.belowM b1 hBW).more (Nat.le_trans hBW b1.size))
  have hs1 := b1.size
  have K1 := Lib.hid (And.intro k0 (And.intro k1 k2))
  clear b1
  go_wp2
  go_region_held3? (fun w' => w'.cell? ⟨w.heap.size, 0, none⟩ = some (.int .i64 (st : Int)) ∧ w'.cell? ⟨w.heap.size, 1, none⟩ = some (.int .i64 (sq : Int)) ∧ w'.cell? ⟨w.heap.size, 2, none⟩ = some (.slice A n c))
    (first | exact K3.out | exact K2.out | exact K1.out | go_keep)
    (first
      | (go_at_call_of 53 ((sq : Nat) : Int)
         refine (bigw_any sq 4 (by omega) hsq _).mono ?_
         rintro e w2 ⟨v2, rfl, o2, b2⟩
         obtain ⟨_, r2⟩ := rb_of_owns o2
         obtain ⟨A2, c2, rfl⟩ := r2.form
         have f2 : Below W1.heap.size W1 w2 := by first | exact below_un b2 | exact belW ((Below.refl _ _).alloc (Nat.le_refl _) _) (below_un b2)
         have rA : RB w2 w2.heap.size (.slice (some ⟨W1.heap.size, 0, none⟩) 2 2) [165, st] := by with_reducible exact ((rb_twoL W1 5 st).belowM (below_un b2) (by simp)).more (by have := b2.size; rw [size_allocDr] at this; omega)
         obtain ⟨q0, q1, q2, _⟩ := fr_blk HG.out (belW B1.out f2)
         have K2 := Lib.hid (And.intro q0 (And.intro q1 q2))
         clear o2 b2 q0 q1 q2)
      | (go_at_call_of 53 ((sq : Nat) : Int)
         refine (bigw_any sq 4 (by omega) hsq _).mono ?_
         rintro e w2 ⟨v2, rfl, o2, b2⟩
         obtain ⟨_, r2⟩ := rb_of_owns o2
         obtain ⟨A2, c2, rfl⟩ := r2.form
         have f2 : Below W1.heap.size W1 w2 := below_un b2
         obtain ⟨q0, q1, q2, _⟩ := fr_blk HG.out (belW B1.out f2)
         have K2 := Lib.hid (And.intro q0 (And.intro q1 q2))
         clear o2 b2 q0 q1 q2)
      | (go_at_call_of 53 ((n : Nat) : Int)
         refine (bigw_any n 2 (by omega) hn32 _).mono ?_
         rintro e w3 ⟨v3, rfl, o3, b3⟩
         obtain ⟨_, r3⟩ := rb_of_owns o3
         obtain ⟨A3, c3, rfl⟩ := r3.form
         have rA3 := (rA.below b3).more b3.size
         have r23 := (r2.below b3).more b3.size
         have f3 : Below W1.heap.size W1 w3 := belW f2 b3
         obtain ⟨q0, q1, q2, _⟩ := fr_blk HG.out (belW B1.out f3)
         have K3 := Lib.hid (And.intro q0 (And.intro q1 q2))
         clear o3 b3 q0 q1 q2)
      | (go_at_call_of 53 ((n : Nat) : Int)
         refine (bigw_any n 2 (by omega) hn32 _).mono ?_
         rintro e w3 ⟨v3, rfl, o3, b3⟩
         obtain ⟨_, r3⟩ := rb_of_owns o3
         obtain ⟨A3, c3, rfl⟩ := r3.form
         have rA3 : RB w3 w3.heap.size (.slice (some ⟨w2.heap.size, 0, none⟩) 2 2) [165, st] := by with_reducible exact ((rb_twoL w2 5 st).belowM b3 (by simp)).more (by have := b3.size; rw [size_allocP] at this; omega)
         have r23 : RB w3 w3.heap.size (.slice A2 (beb sq 4).length c2) (beb sq 4) := ((r2.alloc (Nat.le_refl _) _).belowM b3 (by simp)).more (by have := b3.size; rw [size_allocP] at this; omega)
         have f3 : Below W1.heap.size W1 w3 := belW (f2.alloc f2.size _) b3
         obtain ⟨q0, q1, q2, _⟩ := fr_blk HG.out (belW B1.out f3)
         have K3 := Lib.hid (And.intro q0 (And.intro q1 q2))
         clear o3 b3 q0 q1 q2)
      | (go_at_call_of 53 ((n : Nat) : Int)
         refine (bigw_any n 2 (by omega) hn32 _).mono ?_
         rintro e w3 ⟨v3, rfl, o3, b3⟩
         obtain ⟨_, r3⟩ := rb_of_owns o3
         obtain ⟨A3, c3, rfl⟩ := r3.form
         have r23 := (r2.below b3).more b3.size
         have f3 : Below W1.heap.size W1 w3 := belW f2 b3
         obtain ⟨q0, q1, q2, _⟩ := fr_blk HG.out (belW B1.out f3)
         have K3 := Lib.hid (And.intro q0 (And.intro q1 q2))
         clear o3 b3 q0 q1 q2)
      | (go_at_call 42
         have _g := rA3
         refine (joined_four _ _ _ _ [165, st] (beb sq 4) (beb n 2) X w3 (by exact rA3) (by exact r23) (by exact r3) (by exact (X1.out.belowM f3 (Nat.le_refl _)).more f3.size) (by rw [List.length_append, List.length_append, List.length_append, beb_len, beb_len, ← HXL.out]; simp; omega)).mono ?_
         rintro e w5 ⟨v5, rfl, o5, b5⟩
         have f5 : Below W1.heap.size W1 w5 := belW f3 b5
         obtain ⟨q0, q1, q2, _⟩ := fr_blk HG.out (belW B1.out f5)
         have K3 := Lib.hid (And.intro q0 (And.intro q1 q2))
         clear q0 q1 q2)
      | (go_at_call 42
         refine (joined_four' _ _ _ _ _ [165, st] (beb sq 4) (beb n 2) X (w3.alloc (.cells #[.int .u8 165, .int .u8 (st : Int)] 5)) (by simp) (by exact (rb_twoL w3 5 st).more (by simp)) (by exact (r23.alloc (Nat.le_refl _) _).more (by simp)) (by exact (r3.alloc (Nat.le_refl _) _).more (by simp)) (by exact (((X1.out.belowM f3 (Nat.le_refl _)).more f3.size).alloc (Nat.le_refl _) _).more (by simp)) (by rw [List.length_append, List.length_append, List.length_append, beb_len, beb_len, ← HXL.out]; simp; omega)).mono ?_
         rintro e w5 ⟨v5, rfl, o5', b5'⟩
         have b5 : Below w3.heap.size w3 w5 := ((Below.refl _ _).alloc (Nat.le_refl _) _).trans (b5'.mono (by simp))
         have o5 := owns_base o5' (base' := w3.heap.size) (by simp)
         clear o5' b5'
         have f5 : Below W1.heap.size W1 w5 := belW f3 b5
         obtain ⟨q0, q1, q2, _⟩ := fr_blk HG.out (belW B1.out f5)
         have K3 := Lib.hid (And.intro q0 (And.intro q1 q2))
         clear q0 q1 q2))
  all_goals (
    obtain ⟨_, r5⟩ := rb_of_owns o5
    have e5 : [165, st] ++ beb sq 4 ++ beb n 2 ++ X = packHead st sq X := by unfold packHead; rw [← HXL.out]
    rw [e5] at r5
    have hYB : AllB (packHead st sq X) := allB_head hst HXB.out
    have hYl : (packHead st sq X).length = 8 + n := by rw [packHead_len, ← HXL.out]
    have hpk : packL st sq X = packHead st sq X ++ beb (crc (packHead st sq X)) 4 := rfl
    revert r5 hYB hYl hpk
    generalize packHead st sq X = Y
    intro r5 hYB hYl hpk
    obtain ⟨s, hs⟩ : ∃ s, s = crc Y := ⟨_, rfl⟩
    have hs32 : s < 4294967296 := by rw [hs]; exact crc_lt _
    have hWs : IntKind.u64.wrap (s : Int) = (s : Int) := by rw [IntKind.wrap_u64]; omega
    obtain ⟨A5, c5, rfl⟩ := r5.form
    have C5 : Hid (Calls Try.prog 37 #[.slice A5 Y.length c5] w5 fun e w' => e = .returned (.int .u32 (s : Int)) ∧ w5 = w') := by rw [hs]; exact Lib.hid (refChecksum_any Y hYB A5 _ c5 _ w5 r5.1)
    have HP := Lib.hid (And.intro hpk (And.intro hs (And.intro hYl (And.intro r5 f5))))
    clear o5 e5 r5 hYB hYl hpk hs f5 b5
    go_wp2_with fail
    refine C5.out.mono ?_
    rintro e w6 ⟨rfl, rfl⟩
    go_wp2_with fail
    refine (bigw_any s 4 (by omega) hs32 _).mono ?_
    rintro e w6 ⟨v6, rfl, o6, b6⟩
    obtain ⟨_, r6⟩ := rb_of_owns o6
    obtain ⟨A6, c6, rfl⟩ := r6.form
    have r56 := (HP.out.2.2.2.1.below b6).more b6.size
    have f6 : Below W0.heap.size W0 w6 := belW (belW B1.out HP.out.2.2.2.2) b6
    have R6 := Lib.hid (And.intro r56 (And.intro r6 f6))
    clear o6 b6 r6 r56 f6
    go_wp2_with fail
    refine (joined_two' _ _ _ Y (beb s 4) w6 (by first | rfl | simp) R6.out.1 R6.out.2.1 (by rw [List.length_append, beb_len, HP.out.2.2.1]; omega)).mono ?_
    rintro e w7 ⟨v7, rfl, o7, b7⟩
    go_wp2
    go_ret2
    refine ⟨_, rfl, ?_, belW hw0 (belW R6.out.2.2 b7)⟩
    rw [HP.out.1, ← HP.out.2.1]
    exact owns_base o7 (Nat.le_trans hw0.size R6.out.2.2.size))
end Go.Proofs.Ytlokacgclihhlaa
