/-
  One byte that differs: the checksum differs, the number differs; plain facts.
  Pack of whatever frame: refused, or packed; the document's Pack.
  Pack of a valid frame, the document's.
-/
import Derived.Test.YtkakbeiehggkiaaH19
import Derived.Test.YtkakbeiehggkiaaH33
import Derived.Test.YtkakbeiehggkiaaH38
import Derived.Test.YtkakbeiehggkiaaH06
import Derived.Deep.DrawnRows
import Derived.Deep.RegionWith
namespace Go.Proofs.Ytkakbeiehggkiaa
open Go.RowKit

theorem bitP_top (x : BitVec 32) : (bitP x).getLsbD 31 = x.getLsbD 0 := by
  unfold bitP
  rw [BitVec.getLsbD_xor, BitVec.getLsbD_ushiftRight]
  have h1 : x.getLsbD (1 + 31) = false := BitVec.getLsbD_of_ge x 32 (by omega)
  rw [h1]
  cases x.getLsbD 0
  · rfl
  · decide +kernel
theorem bitP_zero {x : BitVec 32} (h : bitP x = 0#32) : x = 0#32 := by
  have h0 : x.getLsbD 0 = false := by
    rw [← bitP_top, h]; simp
  have h1 : x >>> 1 = 0#32 := by
    have : bitP x = (x >>> 1) ^^^ 0#32 := by unfold bitP; rw [h0]; rfl
    rw [this] at h
    simpa using h
  apply BitVec.eq_of_getLsbD_eq
  intro i hi
  cases i with
  | zero => rw [h0]; simp
  | succ i =>
    have := congrArg (fun y => y.getLsbD i) h1
    simp only [BitVec.getLsbD_ushiftRight] at this
    rw [Nat.add_comm] at this
    rw [this]; simp
theorem xor_eq_zero {x y : BitVec 32} (h : x ^^^ y = 0#32) : x = y := by
  have : x ^^^ y ^^^ y = 0#32 ^^^ y := by rw [h]
  rw [BitVec.xor_assoc, BitVec.xor_self] at this
  simpa using this
theorem bitP_inj {x y : BitVec 32} (h : bitP x = bitP y) : x = y := by
  apply xor_eq_zero
  apply bitP_zero
  rw [bitP_xor, h, BitVec.xor_self]
theorem iterP_inj : ∀ (k : Nat) {x y : BitVec 32}, iterP k x = iterP k y → x = y
  | 0, _, _, h => h
  | k + 1, _, _, h => iterP_inj k (bitP_inj h)
theorem byteP_inj {s t : BitVec 32} {c : Nat} (h : byteP s c = byteP t c) : s = t := by
  have := iterP_inj 8 h
  apply xor_eq_zero
  have h2 : s ^^^ t = (s ^^^ BitVec.ofNat 32 c) ^^^ (t ^^^ BitVec.ofNat 32 c) := xor_split s t _
  rw [h2, this, BitVec.xor_self]
theorem byteP_diff {s : BitVec 32} {c d : Nat} (hc : c < 256) (hd : d < 256) (h : byteP s c = byteP s d) : c = d := by
  have h1 := iterP_inj 8 h
  have h2 : BitVec.ofNat 32 c = BitVec.ofNat 32 d := by
    apply xor_eq_zero
    rw [xor_split _ _ s, BitVec.xor_comm _ s, h1, BitVec.xor_comm _ s, BitVec.xor_self]
  have := congrArg BitVec.toNat h2
  simp only [BitVec.toNat_ofNat] at this
  omega
theorem fold_inj : ∀ (B : List Nat) {s t : BitVec 32}, B.foldl byteP s = B.foldl byteP t → s = t
  | [], _, _, h => h
  | b :: B, _, _, h => byteP_inj (fold_inj B h)
theorem set_split (L : List Nat) (i v : Nat) (hi : i < L.length) : L.set i v = L.take i ++ v :: L.drop (i + 1) := List.set_eq_take_append_cons_drop.trans (by rw [if_pos hi])
theorem self_split (L : List Nat) (i : Nat) (hi : i < L.length) : L = L.take i ++ nth L i :: L.drop (i + 1) := by
  rw [nth_lt hi, ← List.drop_eq_getElem_cons hi, List.take_append_drop]
theorem crc_set {L : List Nat} {i v : Nat} (hi : i < L.length) (hb : AllB L) (hv : v < 256) (hne : nth L i ≠ v) : crc (L.set i v) ≠ crc L := by
  intro h
  unfold crc at h
  have h1 : crcV (L.set i v) = crcV L := by
    have := BitVec.eq_of_toNat_eq h
    have h2 := congrArg (fun y => ~~~ y) this
    simpa using h2
  unfold crcV at h1
  rw [set_split L i v hi] at h1
  conv at h1 => rhs; rw [self_split L i hi]
  rw [List.foldl_append, List.foldl_append, List.foldl_cons, List.foldl_cons] at h1
  exact hne (byteP_diff (hb.nth i) hv (fold_inj _ h1).symm)
def stepB (n x : Nat) : Nat := n * 256 + x
theorem foldB_inj : ∀ (B : List Nat) {s t : Nat}, AllB B → B.foldl stepB s = B.foldl stepB t → s = t
  | [], _, _, _, h => h
  | b :: B, s, t, hb, h => by
    have h1 := foldB_inj B (fun x hx => hb x (List.mem_cons_of_mem _ hx)) h
    unfold stepB at h1
    omega
theorem be_set {L : List Nat} {i v : Nat} (hi : i < L.length) (hb : AllB L) (hne : nth L i ≠ v) : be (L.set i v) ≠ be L := by
  intro h
  have h1 : (L.set i v).foldl stepB 0 = L.foldl stepB 0 := h
  rw [set_split L i v hi] at h1
  conv at h1 => rhs; rw [self_split L i hi]
  rw [List.foldl_append, List.foldl_append, List.foldl_cons, List.foldl_cons] at h1
  have h2 := foldB_inj _ (fun x hx => hb x (List.mem_of_mem_drop hx)) h1
  unfold stepB at h2
  omega

theorem packHead_len (st sq : Nat) (X : List Nat) : (packHead st sq X).length = 8 + X.length := by unfold packHead; simp [beb_len]; omega
theorem packL_len (st sq : Nat) (X : List Nat) : (packL st sq X).length = 12 + X.length := by unfold packL; rw [List.length_append, packHead_len, beb_len]; omega
theorem allB_head {st sq : Nat} {X : List Nat} (hst : st < 256) (hX : AllB X) : AllB (packHead st sq X) := by
  unfold packHead
  exact (((show AllB [165, st] from by intro x hx; simp at hx; omega).append (allB_beb _ _)).append (allB_beb _ _)).append hX
theorem allB_pack {st sq : Nat} {X : List Nat} (hst : st < 256) (hX : AllB X) : AllB (packL st sq X) := (allB_head hst hX).append (allB_beb _ _)

/-- An encoding with one byte changed is refused, or has another length. -/
theorem damaged {st sq : Nat} {X : List Nat} {i v : Nat} (hst : st < 256) (hX : AllB X) (hi : i < 12 + X.length) (hv : v < 256) (hne : nth (packL st sq X) i ≠ v) (hE : upE ((packL st sq X).set i v) = 0) :
    (upX ((packL st sq X).set i v)).length ≠ X.length := by
  have hlen : ((packL st sq X).set i v).length = 12 + X.length := by rw [List.length_set, packL_len]
  generalize hc : (packL st sq X).set i v = C at *
  intro hl
  have hg := up_good hE
  rw [hg.2.2.1] at hl
  unfold upE at hE
  split at hE
  · omega
  split at hE
  · omega
  split at hE
  · omega
  split at hE
  · omega
  split at hE
  · omega
  rename_i hcut
  split at hE
  · omega
  rename_i hsum
  have hul : upL C = X.length := by rw [sl_len (by omega)] at hl; exact hl
  rw [hul] at hsum
  have hsum' : crc (C.take (8 + X.length)) = be (sl C (8 + X.length) 4) := by omega
  have hhl := packHead_len st sq X
  have hbl := beb_len (crc (packHead st sq X)) 4
  rw [← hc] at hsum'
  by_cases hih : i < 8 + X.length
  · have e1 : ((packL st sq X).set i v).take (8 + X.length) = (packHead st sq X).set i v := by
      unfold packL
      rw [List.set_append_left _ _ (by omega), ← hhl]
      have : (packHead st sq X).length = ((packHead st sq X).set i v).length := by rw [List.length_set]
      rw [this, List.take_left]
    have e2 : sl ((packL st sq X).set i v) (8 + X.length) 4 = beb (crc (packHead st sq X)) 4 := by
      unfold sl packL
      rw [List.set_append_left _ _ (by omega), ← hhl]
      have : (packHead st sq X).length = ((packHead st sq X).set i v).length := by rw [List.length_set]
      rw [this, List.drop_left]
      exact List.take_of_length_le (by omega)
    rw [e1, e2, be_beb _ _ (by have := crc_lt (packHead st sq X); omega)] at hsum'
    refine crc_set (by omega) (allB_head hst hX) hv ?_ hsum'
    unfold packL at hne
    rwa [nth_append_left (by omega)] at hne
  · obtain ⟨j, rfl⟩ : ∃ j, i = (packHead st sq X).length + j := ⟨i - (packHead st sq X).length, by omega⟩
    have e1 : ((packL st sq X).set ((packHead st sq X).length + j) v).take (8 + X.length) = packHead st sq X := by
      unfold packL
      rw [List.set_append_right _ _ (by omega), ← hhl, List.take_left]
    have e2 : sl ((packL st sq X).set ((packHead st sq X).length + j) v) (8 + X.length) 4 = (beb (crc (packHead st sq X)) 4).set j v := by
      unfold sl packL
      rw [List.set_append_right _ _ (by omega), ← hhl, List.drop_left, Nat.add_sub_cancel_left]
      exact List.take_of_length_le (by rw [List.length_set]; omega)
    rw [e1, e2] at hsum'
    have hb := be_beb (crc (packHead st sq X)) 4 (by have := crc_lt (packHead st sq X); omega)
    refine be_set (L := beb (crc (packHead st sq X)) 4) (i := j) (v := v) (by omega) (allB_beb _ _) ?_ (by rw [hb]; exact hsum'.symm)
    unfold packL at hne
    rwa [nth_append_right] at hne
end Go.Proofs.Ytkakbeiehggkiaa

namespace Go.Proofs.Ytkakbeiehggkiaa
open Go.RowKit

set_option maxRecDepth 100000 in
set_option maxHeartbeats 400000 in
theorem pack_bad (st sq : Int) (A : Option Addr) (n c : Nat) (hok : ¬ okF st sq n) (w : World) :
    Calls Try.prog 82 #[.agg #[.int .i64 st, .int .i64 sq, .slice A n c]] w fun e w' => e = .returned (.tuple #[.slice none 0 0, .int .i64 20]) ∧ Below w.heap.size w w' := by
  obtain ⟨W0, HW0, hw0, HG, z0⟩ := F0ex w st sq (.slice A n c)
  have HOK := Lib.hid hok
  clear hok
  obtain ⟨k0, k1, k2, kf⟩ := fr_blk HG.out (Below.refl _ _)
  go_enter Try.func82, Try.ntmps82
  go_wp2_with fail
  rw [← HW0.out]
  refine (validFrame_no st sq A n c HOK.out _).mono ?_
  rintro e w1 ⟨rfl, b1⟩
  go_wp2
  go_ret2
  exact ⟨rfl, belW hw0 b1⟩

set_option maxRecDepth 100000 in
set_option maxHeartbeats 400000 in
theorem refPack_bad (st sq : Int) (A : Option Addr) (n c : Nat) (hok : ¬ okF st sq n) (w : World) :
    Calls Try.prog 73 #[.agg #[.int .i64 st, .int .i64 sq, .slice A n c]] w fun e w' => e = .returned (.tuple #[.slice none 0 0, .int .i64 20]) ∧ Below w.heap.size w w' := by
  obtain ⟨W0, HW0, hw0, HG, z0⟩ := F0ex w st sq (.slice A n c)
  have HOK := Lib.hid hok
  clear hok
  obtain ⟨k0, k1, k2, kf⟩ := fr_blk HG.out (Below.refl _ _)
  go_enter Try.func73, Try.ntmps73
  go_wp2_with fail
  rw [← HW0.out]
  refine (refValidP false st sq A n c (by simpa using HOK.out) _).mono ?_
  rintro e w1 ⟨rfl, b1⟩
  go_wp2
  go_ret2
  exact ⟨rfl, belW hw0 b1⟩
end Go.Proofs.Ytkakbeiehggkiaa

namespace Go.Proofs.Ytkakbeiehggkiaa
open Go.RowKit
attribute [local go_sem ↓] Go.wp_at_zero Go.wp_at_succ

def quadV (a b c d : Value) : Nat → Value
  | 0 => a
  | 1 => b
  | 2 => c
  | _ => d
def quadX (a b c d : List Nat) : Nat → List Nat
  | 0 => a
  | 1 => b
  | 2 => c
  | _ => d
theorem flat4 (a b c d : List Nat) : flat (quadX a b c d) 4 = a ++ b ++ c ++ d := by simp [flat, quadX]

/-- joined of four parts whose list lies in the newest block. -/
theorem joined_four (a b c d : Value) (X1 X2 X3 X4 : List Nat) (w : World) (h1 : RB w w.heap.size a X1) (h2 : RB w w.heap.size b X2) (h3 : RB w w.heap.size c X3) (h4 : RB w w.heap.size d X4) (hl : (X1 ++ X2 ++ X3 ++ X4).length ≤ 1048576) :
    Calls Try.prog 59 #[.slice (some ⟨w.heap.size, 0, none⟩) 4 4] (w.alloc (.cells #[a, b, c, d] 33)) (RetOwn w (X1 ++ X2 ++ X3 ++ X4)) := by
  refine (joined_any 4 w.heap.size w.heap.size 4 (quadV a b c d) (quadX X1 X2 X3 X4) (w.alloc (.cells #[a, b, c, d] 33)) (fun j hj => ?_) (fun j hj => ?_) (by simp) (by simp) (by omega) (by omega) (by rw [flat4]; omega)).mono ?_
  · match j, hj with
    | 0, _ => exact built_cells w _ _ 0 a rfl
    | 1, _ => exact built_cells w _ _ 1 b rfl
    | 2, _ => exact built_cells w _ _ 2 c rfl
    | 3, _ => exact built_cells w _ _ 3 d rfl
  · match j, hj with
    | 0, _ => exact h1.alloc (Nat.le_refl _) _
    | 1, _ => exact h2.alloc (Nat.le_refl _) _
    | 2, _ => exact h3.alloc (Nat.le_refl _) _
    | 3, _ => exact h4.alloc (Nat.le_refl _) _
  · rintro e w' ⟨v', rfl, ho, hb⟩
    rw [flat4] at ho
    exact ⟨v', rfl, owns_base ho (by simp), ((Below.refl w.heap.size w).alloc (Nat.le_refl _) _).trans (hb.mono (by simp))⟩
theorem joined_two (a b : Value) (X1 X2 : List Nat) (w : World) (h1 : RB w w.heap.size a X1) (h2 : RB w w.heap.size b X2) (hl : (X1 ++ X2).length ≤ 1048576) :
    Calls Try.prog 59 #[.slice (some ⟨w.heap.size, 0, none⟩) 2 2] (w.alloc (.cells #[a, b] 33)) (RetOwn w (X1 ++ X2)) := by
  have e2 : flat (quadX X1 X2 [] []) 2 = X1 ++ X2 := by simp [flat, quadX]
  refine (joined_any 2 w.heap.size w.heap.size 2 (quadV a b a a) (quadX X1 X2 [] []) (w.alloc (.cells #[a, b] 33)) (fun j hj => ?_) (fun j hj => ?_) (by simp) (by simp) (by omega) (by omega) (by rw [e2]; omega)).mono ?_
  · match j, hj with
    | 0, _ => exact built_cells w _ _ 0 a rfl
    | 1, _ => exact built_cells w _ _ 1 b rfl
  · match j, hj with
    | 0, _ => exact h1.alloc (Nat.le_refl _) _
    | 1, _ => exact h2.alloc (Nat.le_refl _) _
  · rintro e w' ⟨v', rfl, ho, hb⟩
    rw [e2] at ho
    exact ⟨v', rfl, owns_base ho (by simp), ((Below.refl w.heap.size w).alloc (Nat.le_refl _) _).trans (hb.mono (by simp))⟩

theorem joined_four' (p : Nat) (a b c d : Value) (X1 X2 X3 X4 : List Nat) (w : World) (hp : p = w.heap.size) (h1 : RB w w.heap.size a X1) (h2 : RB w w.heap.size b X2) (h3 : RB w w.heap.size c X3) (h4 : RB w w.heap.size d X4) (hl : (X1 ++ X2 ++ X3 ++ X4).length ≤ 1048576) :
    Calls Try.prog 59 #[.slice (some ⟨p, 0, none⟩) 4 4] (w.alloc (.cells #[a, b, c, d] 33)) (RetOwn w (X1 ++ X2 ++ X3 ++ X4)) := by
  subst hp
  exact joined_four a b c d X1 X2 X3 X4 w h1 h2 h3 h4 hl
theorem joined_two' (p : Nat) (a b : Value) (X1 X2 : List Nat) (w : World) (hp : p = w.heap.size) (h1 : RB w w.heap.size a X1) (h2 : RB w w.heap.size b X2) (hl : (X1 ++ X2).length ≤ 1048576) :
    Calls Try.prog 59 #[.slice (some ⟨p, 0, none⟩) 2 2] (w.alloc (.cells #[a, b] 33)) (RetOwn w (X1 ++ X2)) := by
  subst hp
  exact joined_two a b X1 X2 w h1 h2 hl

theorem rb_twoL (wr : World) (e : TypeId) (st : Nat) : RB (wr.alloc (.cells #[.int .u8 165, .int .u8 (st : Int)] e)) (wr.heap.size + 1) (.slice (some ⟨wr.heap.size, 0, none⟩) 2 2) [165, st] := by
  have h := rb_two wr e 165 st
  have e : ((165 : Nat) : Int) = 165 := rfl
  rw [e] at h
  exact h
theorem size_allocP (w : World) (o : Obj) : (w.alloc o).heap.size = w.heap.size + 1 := by simp
theorem size_allocDr (w : World) (o : Obj) : (w.alloc o).drew.heap.size = w.heap.size + 1 := by
  show (w.alloc o).heap.size = _
  simp
theorem RB.drew {w : World} {B : Nat} {v : Value} {X : List Nat} (h : RB w B v X) : RB w.drew B v X := ⟨h.1.drew, h.2⟩

set_option maxRecDepth 100000 in
set_option maxHeartbeats 8000000 in
theorem refPack_ok (st sq : Nat) (X : List Nat) (hXb : AllB X) (A : Option Addr) (n c B : Nat) (hok : okF st sq n) (w : World) (hx : RB w B (.slice A n c) X) (hB : B ≤ w.heap.size) :
    Calls Try.prog 73 #[.agg #[.int .i64 (st : Int), .int .i64 (sq : Int), .slice A n c]] w (RetNum w (packL st sq X)) := by
  obtain ⟨W0, HW0, hw0, HG, z0⟩ := F0ex w st sq (.slice A n c)
  have HOK := Lib.hid hok
  have HX := Lib.hid (hx.belowM (B' := w.heap.size) hw0 hB)
  have HXL := Lib.hid hx.1.len
  have hn : n ≤ 1024 := hok.2.2.2.2
  have hst : st < 256 := by have := hok.2.1; omega
  have hsq : sq < 4294967296 := by have := hok.2.2.2.1; omega
  have hn32 : n < 4294967296 := by omega
  have hWst : IntKind.u8.wrap (st : Int) = (st : Int) := by rw [IntKind.wrap_u8]; omega
  have hWsq : IntKind.u64.wrap (sq : Int) = (sq : Int) := by rw [IntKind.wrap_u64]; omega
  have hWn : IntKind.u64.wrap (n : Int) = (n : Int) := by rw [IntKind.wrap_u64]; omega
  have HXB := Lib.hid hXb
  have hBW : B ≤ W0.heap.size := Nat.le_trans hB (Nat.le_of_lt z0)
  clear hx hok hXb
  obtain ⟨k0, k1, k2, kf⟩ := fr_blk HG.out (Below.refl _ _)
  go_enter Try.func73, Try.ntmps73
  go_wp2_with fail
  rw [← HW0.out]
  refine (refValidP true st sq A n c (by simpa using HOK.out) _).mono ?_
  rintro e W1 ⟨rfl, b1⟩
  clear k0 k1 k2 kf
  obtain ⟨k0, k1, k2, kf⟩ := fr_blk HG.out b1
  have B1 := Lib.hid b1
  have X1 := Lib.hid ((HX.out.belowM b1 hBW).more (Nat.le_trans hBW b1.size))
  have hs1 := b1.size
  have K1 := Lib.hid (And.intro k0 (And.intro k1 k2))
  clear b1
  go_wp2
  go_region_held3? (fun w' => w'.cell? ⟨w.heap.size, 0, none⟩ = some (.int .i64 (st : Int)) ∧ w'.cell? ⟨w.heap.size, 1, none⟩ = some (.int .i64 (sq : Int)) ∧ w'.cell? ⟨w.heap.size, 2, none⟩ = some (.slice A n c))
    (first | exact K3.out | exact K2.out | exact K1.out | go_keep)
    (first
      | (go_at_call_of 84 ((sq : Nat) : Int)
         refine (bigw_any sq 4 (by omega) hsq _).mono ?_
         rintro e w2 ⟨v2, rfl, o2, b2⟩
         obtain ⟨_, r2⟩ := rb_of_owns o2
         obtain ⟨A2, c2, rfl⟩ := r2.form
         have f2 : Below W1.heap.size W1 w2 := by first | exact below_un b2 | exact belW ((Below.refl _ _).alloc (Nat.le_refl _) _) (below_un b2)
         have rA : RB w2 w2.heap.size (.slice (some ⟨W1.heap.size, 0, none⟩) 2 2) [165, st] := by with_reducible exact ((rb_twoL W1 5 st).belowM (below_un b2) (by simp)).more (by have := b2.size; rw [size_allocDr] at this; omega)
         obtain ⟨q0, q1, q2, _⟩ := fr_blk HG.out (belW B1.out f2)
         have K2 := Lib.hid (And.intro q0 (And.intro q1 q2))
         clear o2 b2 q0 q1 q2)
      | (go_at_call_of 84 ((sq : Nat) : Int)
         refine (bigw_any sq 4 (by omega) hsq _).mono ?_
         rintro e w2 ⟨v2, rfl, o2, b2⟩
         obtain ⟨_, r2⟩ := rb_of_owns o2
         obtain ⟨A2, c2, rfl⟩ := r2.form
         have f2 : Below W1.heap.size W1 w2 := below_un b2
         obtain ⟨q0, q1, q2, _⟩ := fr_blk HG.out (belW B1.out f2)
         have K2 := Lib.hid (And.intro q0 (And.intro q1 q2))
         clear o2 b2 q0 q1 q2)
      | (go_at_call_of 84 ((n : Nat) : Int)
         refine (bigw_any n 2 (by omega) hn32 _).mono ?_
         rintro e w3 ⟨v3, rfl, o3, b3⟩
         obtain ⟨_, r3⟩ := rb_of_owns o3
         obtain ⟨A3, c3, rfl⟩ := r3.form
         have rA3 := (rA.below b3).more b3.size
         have r23 := (r2.below b3).more b3.size
         have f3 : Below W1.heap.size W1 w3 := belW f2 b3
         obtain ⟨q0, q1, q2, _⟩ := fr_blk HG.out (belW B1.out f3)
         have K3 := Lib.hid (And.intro q0 (And.intro q1 q2))
         clear o3 b3 q0 q1 q2)
      | (go_at_call_of 84 ((n : Nat) : Int)
         refine (bigw_any n 2 (by omega) hn32 _).mono ?_
         rintro e w3 ⟨v3, rfl, o3, b3⟩
         obtain ⟨_, r3⟩ := rb_of_owns o3
         obtain ⟨A3, c3, rfl⟩ := r3.form
         have rA3 : RB w3 w3.heap.size (.slice (some ⟨w2.heap.size, 0, none⟩) 2 2) [165, st] := by with_reducible exact ((rb_twoL w2 5 st).belowM b3 (by simp)).more (by have := b3.size; rw [size_allocP] at this; omega)
         have r23 : RB w3 w3.heap.size (.slice A2 (beb sq 4).length c2) (beb sq 4) := ((r2.alloc (Nat.le_refl _) _).belowM b3 (by simp)).more (by have := b3.size; rw [size_allocP] at this; omega)
         have f3 : Below W1.heap.size W1 w3 := belW (f2.alloc f2.size _) b3
         obtain ⟨q0, q1, q2, _⟩ := fr_blk HG.out (belW B1.out f3)
         have K3 := Lib.hid (And.intro q0 (And.intro q1 q2))
         clear o3 b3 q0 q1 q2)
      | (go_at_call_of 84 ((n : Nat) : Int)
         refine (bigw_any n 2 (by omega) hn32 _).mono ?_
         rintro e w3 ⟨v3, rfl, o3, b3⟩
         obtain ⟨_, r3⟩ := rb_of_owns o3
         obtain ⟨A3, c3, rfl⟩ := r3.form
         have r23 := (r2.below b3).more b3.size
         have f3 : Below W1.heap.size W1 w3 := belW f2 b3
         obtain ⟨q0, q1, q2, _⟩ := fr_blk HG.out (belW B1.out f3)
         have K3 := Lib.hid (And.intro q0 (And.intro q1 q2))
         clear o3 b3 q0 q1 q2)
      | (go_at_call 59
         have _g := rA3
         refine (joined_four _ _ _ _ [165, st] (beb sq 4) (beb n 2) X w3 (by exact rA3) (by exact r23) (by exact r3) (by exact (X1.out.belowM f3 (Nat.le_refl _)).more f3.size) (by rw [List.length_append, List.length_append, List.length_append, beb_len, beb_len, ← HXL.out]; simp; omega)).mono ?_
         rintro e w5 ⟨v5, rfl, o5, b5⟩
         have f5 : Below W1.heap.size W1 w5 := belW f3 b5
         obtain ⟨q0, q1, q2, _⟩ := fr_blk HG.out (belW B1.out f5)
         have K3 := Lib.hid (And.intro q0 (And.intro q1 q2))
         clear q0 q1 q2)
      | (go_at_call 59
         refine (joined_four' _ _ _ _ _ [165, st] (beb sq 4) (beb n 2) X (w3.alloc (.cells #[.int .u8 165, .int .u8 (st : Int)] 5)) (by simp) (by exact (rb_twoL w3 5 st).more (by simp)) (by exact (r23.alloc (Nat.le_refl _) _).more (by simp)) (by exact (r3.alloc (Nat.le_refl _) _).more (by simp)) (by exact (((X1.out.belowM f3 (Nat.le_refl _)).more f3.size).alloc (Nat.le_refl _) _).more (by simp)) (by rw [List.length_append, List.length_append, List.length_append, beb_len, beb_len, ← HXL.out]; simp; omega)).mono ?_
         rintro e w5 ⟨v5, rfl, o5', b5'⟩
         have b5 : Below w3.heap.size w3 w5 := ((Below.refl _ _).alloc (Nat.le_refl _) _).trans (b5'.mono (by simp))
         have o5 := owns_base o5' (base' := w3.heap.size) (by simp)
         clear o5' b5'
         have f5 : Below W1.heap.size W1 w5 := belW f3 b5
         obtain ⟨q0, q1, q2, _⟩ := fr_blk HG.out (belW B1.out f5)
         have K3 := Lib.hid (And.intro q0 (And.intro q1 q2))
         clear q0 q1 q2))
  all_goals (
    obtain ⟨_, r5⟩ := rb_of_owns o5
    have e5 : [165, st] ++ beb sq 4 ++ beb n 2 ++ X = packHead st sq X := by unfold packHead; rw [← HXL.out]
    rw [e5] at r5
    have hYB : AllB (packHead st sq X) := allB_head hst HXB.out
    have hYl : (packHead st sq X).length = 8 + n := by rw [packHead_len, ← HXL.out]
    have hpk : packL st sq X = packHead st sq X ++ beb (crc (packHead st sq X)) 4 := rfl
    revert r5 hYB hYl hpk
    generalize packHead st sq X = Y
    intro r5 hYB hYl hpk
    obtain ⟨s, hs⟩ : ∃ s, s = crc Y := ⟨_, rfl⟩
    have hs32 : s < 4294967296 := by rw [hs]; exact crc_lt _
    have hWs : IntKind.u64.wrap (s : Int) = (s : Int) := by rw [IntKind.wrap_u64]; omega
    obtain ⟨A5, c5, rfl⟩ := r5.form
    have C5 : Hid (Calls Try.prog 85 #[.slice A5 Y.length c5] w5 fun e w' => e = .returned (.int .u32 (s : Int)) ∧ w5 = w') := by rw [hs]; exact Lib.hid (refChecksum_any Y hYB A5 _ c5 _ w5 r5.1)
    have HP := Lib.hid (And.intro hpk (And.intro hs (And.intro hYl (And.intro r5 f5))))
    clear o5 e5 r5 hYB hYl hpk hs f5 b5
    go_wp2_with fail
    refine C5.out.mono ?_
    rintro e w6 ⟨rfl, rfl⟩
    go_wp2_with fail
    refine (bigw_any s 4 (by omega) hs32 _).mono ?_
    rintro e w6 ⟨v6, rfl, o6, b6⟩
    obtain ⟨_, r6⟩ := rb_of_owns o6
    obtain ⟨A6, c6, rfl⟩ := r6.form
    have r56 := (HP.out.2.2.2.1.below b6).more b6.size
    have f6 : Below W0.heap.size W0 w6 := belW (belW B1.out HP.out.2.2.2.2) b6
    have R6 := Lib.hid (And.intro r56 (And.intro r6 f6))
    clear o6 b6 r6 r56 f6
    go_wp2_with fail
    refine (joined_two' _ _ _ Y (beb s 4) w6 (by first | rfl | simp) R6.out.1 R6.out.2.1 (by rw [List.length_append, beb_len, HP.out.2.2.1]; omega)).mono ?_
    rintro e w7 ⟨v7, rfl, o7, b7⟩
    go_wp2
    go_ret2
    refine ⟨_, rfl, ?_, belW hw0 (belW R6.out.2.2 b7)⟩
    rw [HP.out.1, ← HP.out.2.1]
    exact owns_base o7 (Nat.le_trans hw0.size R6.out.2.2.size))
end Go.Proofs.Ytkakbeiehggkiaa
