/-
  What Scan finds in frames behind one another with bytes between them that begin no frame.
-/
import Derived.Test.YtlokacgclihhlaaZFrs
import Derived.Test.YtlokacgclihhlaaZUpPack
namespace Go.Proofs.Ytlokacgclihhlaa
open Go.RowKit

def junk (T : List Nat) : List Nat := T.filter (fun x => x != 165)
def okFr (f : Fr) : Prop := f.1 < 256 ∧ f.2.1 < 4294967296 ∧ f.2.2.length ≤ 1024 ∧ AllB f.2.2
def packs (T : List Nat) : List Fr → List Nat
  | [] => []
  | f :: Fs => junk T ++ (packL f.1 f.2.1 f.2.2 ++ packs T Fs)
theorem packs_snoc (T : List Nat) : ∀ (Fs : List Fr) (f : Fr), packs T (Fs ++ [f]) = packs T Fs ++ junk T ++ packL f.1 f.2.1 f.2.2
  | [], f => by simp [packs]
  | g :: Fs, f => by
    rw [List.cons_append, packs, packs_snoc T Fs f, packs]
    simp
theorem packs_len (T : List Nat) : ∀ Fs : List Fr, Fs.length * ((junk T).length + 1) ≤ (packs T Fs).length
  | [] => by simp [packs]
  | f :: Fs => by
    have := packs_len T Fs
    rw [packs, List.length_append, List.length_append, packL_len, List.length_cons, Nat.succ_mul]
    omega
theorem packs_most (T : List Nat) : ∀ Fs : List Fr, (∀ f ∈ Fs, okFr f) → (packs T Fs).length ≤ Fs.length * ((junk T).length + 1036)
  | [], _ => by simp [packs]
  | f :: Fs, h => by
    have := packs_most T Fs fun g hg => h g (List.mem_cons_of_mem _ hg)
    have hf := (h f (List.mem_cons_self ..)).2.2.1
    rw [packs, List.length_append, List.length_append, packL_len, List.length_cons, Nat.succ_mul]
    omega
theorem packs_allB {T : List Nat} (hT : AllB T) : ∀ Fs : List Fr, (∀ f ∈ Fs, okFr f) → AllB (packs T Fs)
  | [], _ => fun x hx => by simp [packs] at hx
  | f :: Fs, h => by
    have hf := h f (List.mem_cons_self ..)
    exact AllB.append (fun x hx => hT x (List.mem_filter.1 hx).1) (AllB.append (allB_pack hf.1 hf.2.2.2) (packs_allB hT Fs fun g hg => h g (List.mem_cons_of_mem _ hg)))
theorem upE_other {x : Nat} {R : List Nat} (h : x ≠ 165) : upE (x :: R) = 22 := by
  unfold upE
  rw [if_neg (by simp), if_pos (by simpa [nth] using h)]
theorem scan_junk : ∀ (J R : List Nat), (∀ x ∈ J, x ≠ 165) → ∀ k, scanF (J.length + k) (J ++ R) = ((scanF k R).1, (scanF k R).2.1 + J.length, (scanF k R).2.2)
  | [], R, _, k => by simp
  | x :: J, R, h, k => by
    have hx := upE_other (R := J ++ R) (h x (List.mem_cons_self ..))
    have e : (x :: J).length + k = (J.length + k) + 1 := by simp; omega
    rw [e, List.cons_append, scanF_skip (by omega) (by omega), List.drop_succ_cons, List.drop_zero, scan_junk J R (fun y hy => h y (List.mem_cons_of_mem _ hy)) k]
    simp
    omega
theorem scan_frame (f : Fr) (h : okFr f) (T : List Nat) (k : Nat) : scanF (k + 1) (packL f.1 f.2.1 f.2.2 ++ T) = (f :: (scanF k T).1, (scanF k T).2.1, (scanF k T).2.2) := by
  obtain ⟨u1, u2, u3, u4, u5⟩ := unpacked f.1 f.2.1 f.2.2 T h.2.1 h.2.2.1
  rw [scanF_ok u5, u1, u2, u3, u4, ← packL_len f.1 f.2.1 f.2.2, List.drop_left]
theorem scan_packs (T : List Nat) (k : Nat) : ∀ Fs : List Fr, (∀ f ∈ Fs, okFr f) → scanF (Fs.length * ((junk T).length + 1) + (k + 1)) (packs T Fs) = (Fs, Fs.length * (junk T).length, 0)
  | [], _ => by
    have : scanF (k + 1) [] = ([], 0, 0) := scanF_short (upE_nil rfl)
    simpa [packs] using this
  | f :: Fs, h => by
    have ih := scan_packs T k Fs fun g hg => h g (List.mem_cons_of_mem _ hg)
    have hj : ∀ x ∈ junk T, x ≠ 165 := fun x hx => by
      have := (List.mem_filter.1 hx).2
      simpa using this
    have e : (f :: Fs).length * ((junk T).length + 1) + (k + 1) = (junk T).length + ((Fs.length * ((junk T).length + 1) + (k + 1)) + 1) := by
      rw [List.length_cons, Nat.succ_mul]
      omega
    rw [e, packs, scan_junk _ _ hj, scan_frame f (h f (List.mem_cons_self ..)), ih]
    simp only [Prod.mk.injEq, true_and, and_true, List.length_cons, Nat.succ_mul]
theorem scanF_packs (T : List Nat) (Fs : List Fr) (h : ∀ f ∈ Fs, okFr f) : scanF ((packs T Fs).length + 1) (packs T Fs) = (Fs, Fs.length * (junk T).length, 0) := by
  have hl := packs_len T Fs
  have e : (packs T Fs).length + 1 = Fs.length * ((junk T).length + 1) + (((packs T Fs).length - Fs.length * ((junk T).length + 1)) + 1) := by omega
  rw [e]
  exact scan_packs T _ Fs h
end Go.Proofs.Ytlokacgclihhlaa
