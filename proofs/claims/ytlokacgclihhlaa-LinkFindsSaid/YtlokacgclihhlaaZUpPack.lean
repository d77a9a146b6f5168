/-
  What Unpack reads of an encoding, with whatever behind it.
-/
import Derived.Test.YtlokacgclihhlaaZDmg
namespace Go.Proofs.Ytlokacgclihhlaa
open Go.RowKit

theorem sl_mid (A M R : List Nat) : sl (A ++ (M ++ R)) A.length M.length = M := by
  unfold sl
  rw [List.drop_left, List.take_left]

theorem unpacked (st sq : Nat) (X T : List Nat) (hsq : sq < 4294967296) (hX : X.length ≤ 1024) :
    upSt (packL st sq X ++ T) = st ∧ upSq (packL st sq X ++ T) = sq ∧ upX (packL st sq X ++ T) = X ∧ upN (packL st sq X ++ T) = 12 + X.length ∧ upE (packL st sq X ++ T) = 0 := by
  have hlen : (packL st sq X ++ T).length = 12 + X.length + T.length := by rw [List.length_append, packL_len]
  have h0 : nth (packL st sq X ++ T) 0 = 165 := by unfold packL packHead; simp [nth]
  have h1 : nth (packL st sq X ++ T) 1 = st := by unfold packL packHead; simp [nth]
  obtain ⟨K, hK⟩ : ∃ K, K = beb (crc (packHead st sq X)) 4 := ⟨_, rfl⟩
  have hPK : packL st sq X = [165, st] ++ (beb sq 4 ++ (beb X.length 2 ++ (X ++ K))) := by
    unfold packL
    rw [← hK]
    unfold packHead
    simp
  have e1 : sl (packL st sq X ++ T) 2 4 = beb sq 4 := by
    have := sl_mid [165, st] (beb sq 4) (beb X.length 2 ++ (X ++ (K ++ T)))
    rw [beb_len] at this
    rw [hPK]
    simpa using this
  have e2 : sl (packL st sq X ++ T) 6 2 = beb X.length 2 := by
    have := sl_mid ([165, st] ++ beb sq 4) (beb X.length 2) (X ++ (K ++ T))
    rw [beb_len, List.length_append, beb_len] at this
    rw [hPK]
    simpa using this
  have e3 : sl (packL st sq X ++ T) 8 X.length = X := by
    have := sl_mid ([165, st] ++ beb sq 4 ++ beb X.length 2) X (K ++ T)
    rw [List.length_append, List.length_append, beb_len, beb_len] at this
    rw [hPK]
    simpa using this
  have e4 : sl (packL st sq X ++ T) (8 + X.length) 4 = beb (crc (packHead st sq X)) 4 := by
    have := sl_mid (packHead st sq X) (beb (crc (packHead st sq X)) 4) T
    rw [beb_len, packHead_len] at this
    rw [← this]
    unfold packL
    rw [List.append_assoc]
  have e5 : (packL st sq X ++ T).take (8 + X.length) = packHead st sq X := by
    unfold packL
    rw [List.append_assoc, ← packHead_len st sq X, List.take_left]
  have eL : upL (packL st sq X ++ T) = X.length := by
    unfold upL
    rw [e2, be_beb _ _ (by omega)]
  have eE : upE (packL st sq X ++ T) = 0 := by
    refine upE_ok (by omega) (by rw [h0]; simp) (by omega) (by rw [eL]; omega) (by rw [eL]; omega) ?_
    rw [eL, e4, e5, be_beb _ _ (by have := crc_lt (packHead st sq X); omega)]
    simp
  obtain ⟨g1, g2, g3, g4, g5⟩ := up_good eE
  refine ⟨by rw [g1, h1], by rw [g2, e1, be_beb _ _ (by omega)], by rw [g3, eL, e3], by rw [g4, eL]; omega, g5⟩
end Go.Proofs.Ytlokacgclihhlaa
