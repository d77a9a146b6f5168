/-
  validFrame; Pack of a valid frame, the program's.
-/
import Derived.Test.YtlokacgclihhlaaZPackd
namespace Go.Proofs.Ytlokacgclihhlaa
open Go.RowKit

def okF (st sq : Int) (n : Nat) : Prop := 0 ≤ st ∧ st ≤ 255 ∧ 0 ≤ sq ∧ sq ≤ 4294967295 ∧ n ≤ 1024

set_option maxRecDepth 100000 in
set_option maxHeartbeats 400000 in
theorem validFrame_yes (st sq : Int) (A : Option Addr) (n c : Nat) (h : okF st sq n) (w : World) :
    Calls Try.prog 48 #[.agg #[.int .i64 st, .int .i64 sq, .slice A n c]] w (RetB w true) := by
  obtain ⟨h1, h2, h3, h4, h5⟩ := h
  have h5i : (n : Int) ≤ 1024 := by omega
  go_enter Try.func48, Try.ntmps48
  go_wp2
  go_ret
  exact ⟨by simp [*], (Below.refl _ _).alloc (Nat.le_refl _) _⟩

def packHead (st sq : Nat) (X : List Nat) : List Nat := [165, st] ++ beb sq 4 ++ beb X.length 2 ++ X
def packL (st sq : Nat) (X : List Nat) : List Nat := packHead st sq X ++ beb (crc (packHead st sq X)) 4

theorem rb_two (wr : World) (e : TypeId) (x y : Nat) : RB (wr.alloc (.cells #[.int .u8 (x : Int), .int .u8 (y : Int)] e)) (wr.heap.size + 1) (.slice (some ⟨wr.heap.size, 0, none⟩) 2 2) [x, y] := by
  refine ⟨RW.mk rfl (Nat.le_refl _) (by simp [maxLen]) (fun _ => ⟨wr.heap.size, 0, rfl, by omega, fun j hj => ?_⟩), nz_some⟩
  rw [Nat.zero_add]
  match j, hj with
  | 0, _ => exact built_cells wr _ e 0 _ rfl
  | 1, _ => exact built_cells wr _ e 1 _ rfl

theorem AllB.append {X Y : List Nat} (h1 : AllB X) (h2 : AllB Y) : AllB (X ++ Y) := fun x hx => (List.mem_append.1 hx).elim (h1 x) (h2 x)

theorem F0ex (w : World) (st sq : Int) (v : Value) : ∃ W0, Hid (W0 = w.alloc (.cells #[.int .i64 st, .int .i64 sq, v] 33)) ∧ Below w.heap.size w W0 ∧
    Hid (W0.heap[w.heap.size]? = some (.cells #[.int .i64 st, .int .i64 sq, v] 33 (0, 0))) ∧ w.heap.size < W0.heap.size :=
  ⟨_, rfl, (Below.refl _ _).alloc (Nat.le_refl _) _, heap_alloc_new w _, by simp⟩

set_option maxRecDepth 100000 in
set_option maxHeartbeats 1000000 in
theorem pack_ok (st sq : Nat) (X : List Nat) (hXb : AllB X) (A : Option Addr) (n c B : Nat) (hok : okF st sq n) (w : World) (hx : RB w B (.slice A n c) X) (hB : B ≤ w.heap.size) :
    Calls Try.prog 34 #[.agg #[.int .i64 (st : Int), .int .i64 (sq : Int), .slice A n c]] w (RetNum w (packL st sq X)) := by
  obtain ⟨i0, hi0, hz0, hz1, hz2⟩ := info_parts infoB
  obtain ⟨W0, HW0, hw0, HG, z0⟩ := F0ex w st sq (.slice A n c)
  have HOK := Lib.hid hok
  have HX := Lib.hid (hx.belowM (B' := w.heap.size) hw0 hB)
  have HXL := Lib.hid hx.1.len
  have hn : n ≤ 1024 := hok.2.2.2.2
  have hst : st < 256 := by have := hok.2.1; omega
  have hsq : sq < 4294967296 := by have := hok.2.2.2.1; omega
  have hWst : IntKind.u8.wrap (st : Int) = (st : Int) := by rw [IntKind.wrap_u8]; omega
  have HXB := Lib.hid hXb
  have hBW : B ≤ W0.heap.size := Nat.le_trans hB (Nat.le_of_lt z0)
  clear hx hok hXb
  obtain ⟨k0, k1, k2, kf⟩ := fr_blk HG.out (Below.refl _ _)
  go_enter Try.func34, Try.ntmps34
  go_wp2_with fail
  rw [← HW0.out]
  refine (validFrame_yes st sq A n c HOK.out _).mono ?_
  rintro e w1 ⟨rfl, b1⟩
  clear k0 k1 k2 kf
  obtain ⟨k0, k1, k2, kf⟩ := fr_blk HG.out b1
  have B1 := Lib.hid b1
  have hs1 := b1.size
  clear b1
  go_wp2_with (at_make
               refine wpList_make_room _ rfl (.const (.int .i64 0)) (.tmp 12) _ rfl 5 i0 Try.underlying22 hi0 hz0 hz1 .i64 .i64 0 _ 0 (8 + n + 4) rfl rfl rfl (by omega) (by omega) (by rw [hz2]; omega) (by omega) ?_)
  intro w2 hrow b2 hs2
  have o2 := owns_of_row (L := []) (n := 0) (c := 8 + n + 4) (base := W0.heap.size) (by simpa using hrow) hs1 rfl (by simp) (by unfold maxLen; omega)
  have f2 : Below W0.heap.size W0 w2 := belW B1.out b2
  clear k0 k1 k2 kf
  obtain ⟨k0, k1, k2, kf⟩ := fr_blk HG.out f2
  have hs2' := f2.size
  have O2 := Lib.hid (And.intro o2 f2)
  clear hrow b2 o2 f2 hs2
  have OC : RB (w2.alloc (.cells #[.int .u8 165, .int .u8 (st : Int)] 5)) (w2.heap.size + 1) (.slice (some ⟨w2.heap.size, 0, none⟩) 2 2) [165, st] := by
    have h := rb_two w2 5 165 st
    have e : ((165 : Nat) : Int) = 165 := rfl
    rw [e] at h
    exact h
  go_wp2_with (at_builtin
               refine wpList_append_bytes rfl (.tmp 14) (.tmp 18) rfl W0.heap.size (w2.heap.size + 1) _ _ [] rfl (O2.out.1.alloc _) _ [165, st] rfl OC (by simp) (by simp; omega) ?_)
  intro v3 w3 o3 g3
  have f3 : Below W0.heap.size W0 w3 := grown_belowB (O2.out.2.alloc (by omega) _) (Nat.le_refl _) g3 (ownBlock_ge O2.out.1)
  clear k0 k1 k2 kf OC
  obtain ⟨k0, k1, k2, kf⟩ := fr_blk HG.out f3
  have O3 := Lib.hid (And.intro o3 f3)
  clear o3 g3 f3
  go_wp2_with fail
  refine (appendFixed_any sq 4 W0.heap.size (by omega) hsq [165, st] (by simp) v3 w3 (by simpa using O3.out.1) O3.out.2.size).mono ?_
  rintro e w4 ⟨v4, rfl, o4, b4, hs4⟩
  have f4 : Below W0.heap.size W0 w4 := O3.out.2.trans b4
  clear k0 k1 k2 kf
  obtain ⟨k0, k1, k2, kf⟩ := fr_blk HG.out f4
  have O4 := Lib.hid (And.intro o4 f4)
  clear o4 b4 hs4 f4
  go_wp2_with fail
  refine (appendFixed_any n 2 W0.heap.size (by omega) (by omega) ([165, st] ++ beb sq 4) (by simp [beb_len]) v4 w4 O4.out.1 O4.out.2.size).mono ?_
  rintro e w5 ⟨v5, rfl, o5, b5, hs5⟩
  have f5 : Below W0.heap.size W0 w5 := O4.out.2.trans b5
  clear k0 k1 k2 kf
  obtain ⟨k0, k1, k2, kf⟩ := fr_blk HG.out f5
  have X5 := HX.out.belowM f5 hBW
  have hs5' := f5.size
  have O5 := Lib.hid (And.intro o5 (And.intro f5 X5))
  clear o5 b5 hs5 f5 X5
  go_wp2_with (at_builtin
               refine wpList_append_bytes rfl (.tmp 29) (.tmp 31) rfl W0.heap.size B _ _ ([165, st] ++ beb sq 4 ++ beb n 2) rfl O5.out.1 _ X rfl O5.out.2.2 (by rw [← HXL.out]; simp [beb_len]; omega) hs5' ?_)
  intro v6 w6 o6 g6
  have f6 : Below W0.heap.size W0 w6 := grown_belowB O5.out.2.1 (Nat.le_refl _) g6 (ownBlock_ge O5.out.1)
  have ehead : 165 :: st :: (beb sq 4 ++ (beb n 2 ++ X)) = packHead st sq X := by unfold packHead; rw [← HXL.out]; simp
  rw [ehead] at o6
  have hlen : (beb sq 4).length + (beb n 2).length + 1 + 1 + X.length = (packHead st sq X).length := by rw [← ehead]; simp; omega
  rw [hlen] at o6
  have hhl : (packHead st sq X).length = 8 + n := by rw [← hlen, ← HXL.out]; simp [beb_len] <;> omega
  obtain ⟨_, r6⟩ := rb_of_owns o6
  obtain ⟨A6, c6, rfl⟩ := r6.form
  have hHB : AllB (packHead st sq X) := by
    unfold packHead
    exact (((show AllB [165, st] from by intro x hx; simp at hx; omega).append (allB_beb _ _)).append (allB_beb _ _)).append HXB.out
  have C6 := Lib.hid (checksum_any (packHead st sq X) hHB _ _ _ _ w6 r6.1)
  have O6 := Lib.hid (And.intro o6 (And.intro f6 hhl))
  obtain ⟨s, hs⟩ : ∃ s, s = crc (packHead st sq X) := ⟨_, rfl⟩
  have hs32 : s < 4294967296 := by rw [hs]; exact crc_lt _
  have hWs : IntKind.i64.wrap (s : Int) = (s : Int) := by rw [IntKind.wrap_i64]; omega
  have C6' : Hid (Calls Try.prog 36 #[.slice A6 (packHead st sq X).length c6] w6 fun e w' => e = .returned (.int .u32 (s : Int)) ∧ w6 = w') := by rw [hs]; exact C6.out
  have HS := Lib.hid hs
  clear o6 g6 f6 r6 hHB C6 hs ehead hlen hhl
  go_wp2_with fail
  refine C6'.out.mono ?_
  rintro e w7 ⟨rfl, rfl⟩
  go_wp2_with fail
  refine (appendFixed_any s 4 W0.heap.size (by omega) hs32 (packHead st sq X) (by rw [O6.out.2.2]; omega) _ w6 O6.out.1 O6.out.2.1.size).mono ?_
  rintro e w8 ⟨v8, rfl, o8, b8, hs8⟩
  go_wp2
  go_ret2
  refine ⟨_, rfl, ?_, hw0.trans ((O6.out.2.1.trans b8).mono hw0.size)⟩
  have e : packL st sq X = packHead st sq X ++ beb s 4 := by unfold packL; rw [HS.out]
  rw [e]
  exact owns_base o8 (Nat.le_of_lt z0)
end Go.Proofs.Ytlokacgclihhlaa
