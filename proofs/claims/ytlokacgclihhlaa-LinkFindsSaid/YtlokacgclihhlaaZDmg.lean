/-
  One byte that differs: the checksum differs, the number differs; plain facts.
-/
import Derived.Test.YtlokacgclihhlaaZPackf
namespace Go.Proofs.Ytlokacgclihhlaa
open Go.RowKit

theorem bitP_top (x : BitVec 32) : (bitP x).getLsbD 31 = x.getLsbD 0 := by
  unfold bitP
  rw [BitVec.getLsbD_xor, BitVec.getLsbD_ushiftRight]
  have h1 : x.getLsbD (1 + 31) = false := BitVec.getLsbD_of_ge x 32 (by omega)
  rw [h1]
  cases x.getLsbD 0
  · rfl
  · decide +kernel
theorem bitP_zero {x : BitVec 32} (h : bitP x = 0#32) : x = 0#32 := by
  have h0 : x.getLsbD 0 = false := by
    rw [← bitP_top, h]; simp
  have h1 : x >>> 1 = 0#32 := by
    have : bitP x = (x >>> 1) ^^^ 0#32 := by unfold bitP; rw [h0]; rfl
    rw [this] at h
    simpa using h
  apply BitVec.eq_of_getLsbD_eq
  intro i hi
  cases i with
  | zero => rw [h0]; simp
  | succ i =>
    have := congrArg (fun y => y.getLsbD i) h1
    simp only [BitVec.getLsbD_ushiftRight] at this
    rw [Nat.add_comm] at this
    rw [this]; simp
theorem xor_eq_zero {x y : BitVec 32} (h : x ^^^ y = 0#32) : x = y := by
  have : x ^^^ y ^^^ y = 0#32 ^^^ y := by rw [h]
  rw [BitVec.xor_assoc, BitVec.xor_self] at this
  simpa using this
theorem bitP_inj {x y : BitVec 32} (h : bitP x = bitP y) : x = y := by
  apply xor_eq_zero
  apply bitP_zero
  rw [bitP_xor, h, BitVec.xor_self]
theorem iterP_inj : ∀ (k : Nat) {x y : BitVec 32}, iterP k x = iterP k y → x = y
  | 0, _, _, h => h
  | k + 1, _, _, h => iterP_inj k (bitP_inj h)
theorem byteP_inj {s t : BitVec 32} {c : Nat} (h : byteP s c = byteP t c) : s = t := by
  have := iterP_inj 8 h
  apply xor_eq_zero
  have h2 : s ^^^ t = (s ^^^ BitVec.ofNat 32 c) ^^^ (t ^^^ BitVec.ofNat 32 c) := xor_split s t _
  rw [h2, this, BitVec.xor_self]
theorem byteP_diff {s : BitVec 32} {c d : Nat} (hc : c < 256) (hd : d < 256) (h : byteP s c = byteP s d) : c = d := by
  have h1 := iterP_inj 8 h
  have h2 : BitVec.ofNat 32 c = BitVec.ofNat 32 d := by
    apply xor_eq_zero
    rw [xor_split _ _ s, BitVec.xor_comm _ s, h1, BitVec.xor_comm _ s, BitVec.xor_self]
  have := congrArg BitVec.toNat h2
  simp only [BitVec.toNat_ofNat] at this
  omega
theorem fold_inj : ∀ (B : List Nat) {s t : BitVec 32}, B.foldl byteP s = B.foldl byteP t → s = t
  | [], _, _, h => h
  | b :: B, _, _, h => byteP_inj (fold_inj B h)
theorem set_split (L : List Nat) (i v : Nat) (hi : i < L.length) : L.set i v = L.take i ++ v :: L.drop (i + 1) := List.set_eq_take_append_cons_drop.trans (by rw [if_pos hi])
theorem self_split (L : List Nat) (i : Nat) (hi : i < L.length) : L = L.take i ++ nth L i :: L.drop (i + 1) := by
  rw [nth_lt hi, ← List.drop_eq_getElem_cons hi, List.take_append_drop]
theorem crc_set {L : List Nat} {i v : Nat} (hi : i < L.length) (hb : AllB L) (hv : v < 256) (hne : nth L i ≠ v) : crc (L.set i v) ≠ crc L := by
  intro h
  unfold crc at h
  have h1 : crcV (L.set i v) = crcV L := by
    have := BitVec.eq_of_toNat_eq h
    have h2 := congrArg (fun y => ~~~ y) this
    simpa using h2
  unfold crcV at h1
  rw [set_split L i v hi] at h1
  conv at h1 => rhs; rw [self_split L i hi]
  rw [List.foldl_append, List.foldl_append, List.foldl_cons, List.foldl_cons] at h1
  exact hne (byteP_diff (hb.nth i) hv (fold_inj _ h1).symm)
def stepB (n x : Nat) : Nat := n * 256 + x
theorem foldB_inj : ∀ (B : List Nat) {s t : Nat}, AllB B → B.foldl stepB s = B.foldl stepB t → s = t
  | [], _, _, _, h => h
  | b :: B, s, t, hb, h => by
    have h1 := foldB_inj B (fun x hx => hb x (List.mem_cons_of_mem _ hx)) h
    unfold stepB at h1
    omega
theorem be_set {L : List Nat} {i v : Nat} (hi : i < L.length) (hb : AllB L) (hne : nth L i ≠ v) : be (L.set i v) ≠ be L := by
  intro h
  have h1 : (L.set i v).foldl stepB 0 = L.foldl stepB 0 := h
  rw [set_split L i v hi] at h1
  conv at h1 => rhs; rw [self_split L i hi]
  rw [List.foldl_append, List.foldl_append, List.foldl_cons, List.foldl_cons] at h1
  have h2 := foldB_inj _ (fun x hx => hb x (List.mem_of_mem_drop hx)) h1
  unfold stepB at h2
  omega

theorem packHead_len (st sq : Nat) (X : List Nat) : (packHead st sq X).length = 8 + X.length := by unfold packHead; simp [beb_len]; omega
theorem packL_len (st sq : Nat) (X : List Nat) : (packL st sq X).length = 12 + X.length := by unfold packL; rw [List.length_append, packHead_len, beb_len]; omega
theorem allB_head {st sq : Nat} {X : List Nat} (hst : st < 256) (hX : AllB X) : AllB (packHead st sq X) := by
  unfold packHead
  exact (((show AllB [165, st] from by intro x hx; simp at hx; omega).append (allB_beb _ _)).append (allB_beb _ _)).append hX
theorem allB_pack {st sq : Nat} {X : List Nat} (hst : st < 256) (hX : AllB X) : AllB (packL st sq X) := (allB_head hst hX).append (allB_beb _ _)

/-- An encoding with one byte changed is refused, or has another length. -/
theorem damaged {st sq : Nat} {X : List Nat} {i v : Nat} (hst : st < 256) (hX : AllB X) (hi : i < 12 + X.length) (hv : v < 256) (hne : nth (packL st sq X) i ≠ v) (hE : upE ((packL st sq X).set i v) = 0) :
    (upX ((packL st sq X).set i v)).length ≠ X.length := by
  have hlen : ((packL st sq X).set i v).length = 12 + X.length := by rw [List.length_set, packL_len]
  generalize hc : (packL st sq X).set i v = C at *
  intro hl
  have hg := up_good hE
  rw [hg.2.2.1] at hl
  unfold upE at hE
  split at hE
  · omega
  split at hE
  · omega
  split at hE
  · omega
  split at hE
  · omega
  split at hE
  · omega
  rename_i hcut
  split at hE
  · omega
  rename_i hsum
  have hul : upL C = X.length := by rw [sl_len (by omega)] at hl; exact hl
  rw [hul] at hsum
  have hsum' : crc (C.take (8 + X.length)) = be (sl C (8 + X.length) 4) := by omega
  have hhl := packHead_len st sq X
  have hbl := beb_len (crc (packHead st sq X)) 4
  rw [← hc] at hsum'
  by_cases hih : i < 8 + X.length
  · have e1 : ((packL st sq X).set i v).take (8 + X.length) = (packHead st sq X).set i v := by
      unfold packL
      rw [List.set_append_left _ _ (by omega), ← hhl]
      have : (packHead st sq X).length = ((packHead st sq X).set i v).length := by rw [List.length_set]
      rw [this, List.take_left]
    have e2 : sl ((packL st sq X).set i v) (8 + X.length) 4 = beb (crc (packHead st sq X)) 4 := by
      unfold sl packL
      rw [List.set_append_left _ _ (by omega), ← hhl]
      have : (packHead st sq X).length = ((packHead st sq X).set i v).length := by rw [List.length_set]
      rw [this, List.drop_left]
      exact List.take_of_length_le (by omega)
    rw [e1, e2, be_beb _ _ (by have := crc_lt (packHead st sq X); omega)] at hsum'
    refine crc_set (by omega) (allB_head hst hX) hv ?_ hsum'
    unfold packL at hne
    rwa [nth_append_left (by omega)] at hne
  · obtain ⟨j, rfl⟩ : ∃ j, i = (packHead st sq X).length + j := ⟨i - (packHead st sq X).length, by omega⟩
    have e1 : ((packL st sq X).set ((packHead st sq X).length + j) v).take (8 + X.length) = packHead st sq X := by
      unfold packL
      rw [List.set_append_right _ _ (by omega), ← hhl, List.take_left]
    have e2 : sl ((packL st sq X).set ((packHead st sq X).length + j) v) (8 + X.length) 4 = (beb (crc (packHead st sq X)) 4).set j v := by
      unfold sl packL
      rw [List.set_append_right _ _ (by omega), ← hhl, List.drop_left, Nat.add_sub_cancel_left]
      exact List.take_of_length_le (by rw [List.length_set]; omega)
    rw [e1, e2] at hsum'
    have hb := be_beb (crc (packHead st sq X)) 4 (by have := crc_lt (packHead st sq X); omega)
    refine be_set (L := beb (crc (packHead st sq X)) 4) (i := j) (v := v) (by omega) (allB_beb _ _) ?_ (by rw [hb]; exact hsum'.symm)
    unfold packL at hne
    rwa [nth_append_right] at hne
end Go.Proofs.Ytlokacgclihhlaa
