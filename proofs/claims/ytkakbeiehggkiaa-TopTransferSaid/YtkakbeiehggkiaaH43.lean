/-
  What Scan finds in frames behind one another with bytes between them that begin no frame.
  What a transfer delivers when no round makes frames of its own.
-/
import Derived.Test.YtkakbeiehggkiaaH18
import Derived.Test.YtkakbeiehggkiaaH42
import Derived.Test.YtkakbeiehggkiaaH33
namespace Go.Proofs.Ytkakbeiehggkiaa
open Go.RowKit

def junk (T : List Nat) : List Nat := T.filter (fun x => x != 165)
def okFr (f : Fr) : Prop := f.1 < 256 ∧ f.2.1 < 4294967296 ∧ f.2.2.length ≤ 1024 ∧ AllB f.2.2
def packs (T : List Nat) : List Fr → List Nat
  | [] => []
  | f :: Fs => junk T ++ (packL f.1 f.2.1 f.2.2 ++ packs T Fs)
theorem packs_snoc (T : List Nat) : ∀ (Fs : List Fr) (f : Fr), packs T (Fs ++ [f]) = packs T Fs ++ junk T ++ packL f.1 f.2.1 f.2.2
  | [], f => by simp [packs]
  | g :: Fs, f => by
    rw [List.cons_append, packs, packs_snoc T Fs f, packs]
    simp
theorem packs_len (T : List Nat) : ∀ Fs : List Fr, Fs.length * ((junk T).length + 1) ≤ (packs T Fs).length
  | [] => by simp [packs]
  | f :: Fs => by
    have := packs_len T Fs
    rw [packs, List.length_append, List.length_append, packL_len, List.length_cons, Nat.succ_mul]
    omega
theorem packs_most (T : List Nat) : ∀ Fs : List Fr, (∀ f ∈ Fs, okFr f) → (packs T Fs).length ≤ Fs.length * ((junk T).length + 1036)
  | [], _ => by simp [packs]
  | f :: Fs, h => by
    have := packs_most T Fs fun g hg => h g (List.mem_cons_of_mem _ hg)
    have hf := (h f (List.mem_cons_self ..)).2.2.1
    rw [packs, List.length_append, List.length_append, packL_len, List.length_cons, Nat.succ_mul]
    omega
theorem packs_allB {T : List Nat} (hT : AllB T) : ∀ Fs : List Fr, (∀ f ∈ Fs, okFr f) → AllB (packs T Fs)
  | [], _ => fun x hx => by simp [packs] at hx
  | f :: Fs, h => by
    have hf := h f (List.mem_cons_self ..)
    exact AllB.append (fun x hx => hT x (List.mem_filter.1 hx).1) (AllB.append (allB_pack hf.1 hf.2.2.2) (packs_allB hT Fs fun g hg => h g (List.mem_cons_of_mem _ hg)))
theorem upE_other {x : Nat} {R : List Nat} (h : x ≠ 165) : upE (x :: R) = 22 := by
  unfold upE
  rw [if_neg (by simp), if_pos (by simpa [nth] using h)]
theorem scan_junk : ∀ (J R : List Nat), (∀ x ∈ J, x ≠ 165) → ∀ k, scanF (J.length + k) (J ++ R) = ((scanF k R).1, (scanF k R).2.1 + J.length, (scanF k R).2.2)
  | [], R, _, k => by simp
  | x :: J, R, h, k => by
    have hx := upE_other (R := J ++ R) (h x (List.mem_cons_self ..))
    have e : (x :: J).length + k = (J.length + k) + 1 := by simp; omega
    rw [e, List.cons_append, scanF_skip (by omega) (by omega), List.drop_succ_cons, List.drop_zero, scan_junk J R (fun y hy => h y (List.mem_cons_of_mem _ hy)) k]
    simp
    omega
theorem scan_frame (f : Fr) (h : okFr f) (T : List Nat) (k : Nat) : scanF (k + 1) (packL f.1 f.2.1 f.2.2 ++ T) = (f :: (scanF k T).1, (scanF k T).2.1, (scanF k T).2.2) := by
  obtain ⟨u1, u2, u3, u4, u5⟩ := unpacked f.1 f.2.1 f.2.2 T h.2.1 h.2.2.1
  rw [scanF_ok u5, u1, u2, u3, u4, ← packL_len f.1 f.2.1 f.2.2, List.drop_left]
theorem scan_packs (T : List Nat) (k : Nat) : ∀ Fs : List Fr, (∀ f ∈ Fs, okFr f) → scanF (Fs.length * ((junk T).length + 1) + (k + 1)) (packs T Fs) = (Fs, Fs.length * (junk T).length, 0)
  | [], _ => by
    have : scanF (k + 1) [] = ([], 0, 0) := scanF_short (upE_nil rfl)
    simpa [packs] using this
  | f :: Fs, h => by
    have ih := scan_packs T k Fs fun g hg => h g (List.mem_cons_of_mem _ hg)
    have hj : ∀ x ∈ junk T, x ≠ 165 := fun x hx => by
      have := (List.mem_filter.1 hx).2
      simpa using this
    have e : (f :: Fs).length * ((junk T).length + 1) + (k + 1) = (junk T).length + ((Fs.length * ((junk T).length + 1) + (k + 1)) + 1) := by
      rw [List.length_cons, Nat.succ_mul]
      omega
    rw [e, packs, scan_junk _ _ hj, scan_frame f (h f (List.mem_cons_self ..)), ih]
    simp only [Prod.mk.injEq, true_and, and_true, List.length_cons, Nat.succ_mul]
theorem scanF_packs (T : List Nat) (Fs : List Fr) (h : ∀ f ∈ Fs, okFr f) : scanF ((packs T Fs).length + 1) (packs T Fs) = (Fs, Fs.length * (junk T).length, 0) := by
  have hl := packs_len T Fs
  have e : (packs T Fs).length + 1 = Fs.length * ((junk T).length + 1) + (((packs T Fs).length - Fs.length * ((junk T).length + 1)) + 1) := by omega
  rw [e]
  exact scan_packs T _ Fs h
end Go.Proofs.Ytkakbeiehggkiaa

namespace Go.Proofs.Ytkakbeiehggkiaa
open Go.RowKit

/-- A frame that was offered. -/
def SentF (BB : List (List Nat)) (k : Nat) (f : Fr) : Prop := f.1 = 0 ∧ f.2.1 < k ∧ f.2.2 = BB.getD f.2.1 []
/-- Only records that were offered are held. -/
def HeldOf (BB : List (List Nat)) (k : Nat) (F : Hf) : Prop := ∀ s x, F s = some x → ∃ i : Nat, s = (i : Int) ∧ i < k ∧ x = (BB.getD i [], false)
/-- What was delivered: a beginning of the records. -/
def DelOf (BB : List (List Nat)) (nx : Int) (D : List Dl) : Prop := (D.length : Int) = nx ∧ ∀ i (h : i < D.length), D[i]'h = ((i : Int), BB.getD i [], false)
structure StT (BB : List (List Nat)) (k : Nat) (T : Int) (s : Rp) : Prop where
  good : GoodR T s
  held : HeldOf BB k s.2.1
  del : DelOf BB s.1 s.2.2
  le : s.1 ≤ (k : Int)
theorem StT.mono {BB : List (List Nat)} {k k' : Nat} {T : Int} {s : Rp} (h : StT BB k T s) (hk : k ≤ k') : StT BB k' T s :=
  ⟨h.good, fun s x e => by obtain ⟨i, h1, h2, h3⟩ := h.held s x e; exact ⟨i, h1, by omega, h3⟩, h.del, by have := h.le; omega⟩

theorem mOf_spec {F : Hf} : ∀ (n : Nat) (nx : Int) (j : Nat), j < n → F (nx + j) = none → (∀ i : Nat, i < mOf F n nx → F (nx + i) ≠ none) ∧ F (nx + (mOf F n nx : Nat)) = none ∧ mOf F n nx ≤ j
  | 0, _, j, h, _ => absurd h (by omega)
  | n + 1, nx, j, h, hj => by
    by_cases e : F nx = none
    · have h0 : mOf F (n + 1) nx = 0 := by rw [mOf, e]; rfl
      rw [h0]
      exact ⟨fun i hi => absurd hi (by omega), by simpa using e, Nat.zero_le _⟩
    · have hs : (F nx).isNone = false := by
        cases hF : F nx with
        | none => exact absurd hF e
        | some x => rfl
      have h0 : mOf F (n + 1) nx = mOf F n (nx + 1) + 1 := by rw [mOf, hs]; rfl
      have hj0 : j ≠ 0 := fun e0 => by subst e0; exact e (by simpa using hj)
      obtain ⟨j', rfl⟩ : ∃ j', j = j' + 1 := ⟨j - 1, by omega⟩
      have e2 : ∀ i : Nat, nx + ((i + 1 : Nat) : Int) = nx + 1 + (i : Int) := fun i => by push_cast; omega
      rw [e2] at hj
      obtain ⟨h1, h2, h3⟩ := mOf_spec n (nx + 1) j' (by omega) hj
      rw [h0]
      refine ⟨fun i hi => ?_, by rw [e2]; exact h2, by omega⟩
      cases i with
      | zero => simpa using e
      | succ i => rw [e2]; exact h1 i (by omega)

/-- A frame that was offered is taken, or stays away. -/
theorem tkS_sent {BB : List (List Nat)} {k : Nat} {T : Int} {s : Rp} {f : Fr} (hT : 1 ≤ T ∧ T ≤ 64) (h : StT BB k T s) (hf : SentF BB k f) :
    StT BB k T (tkS T s f) ∧ s.1 ≤ (tkS T s f).1 := by
  obtain ⟨nx, F, D⟩ := s
  obtain ⟨⟨g1, g2, g3⟩, hh, ⟨d1, d2⟩, hle⟩ := h
  simp only at g1 g2 g3 hh d1 d2 hle
  by_cases hE : takeE 0 T nx F (f.1 : Int) (f.2.1 : Int) f.2.2.length = 0
  · obtain ⟨_, b1, b2, b3, b4, b5⟩ := takeE_ok hE
    obtain ⟨F', hF'⟩ : ∃ F', F' = putH F (f.2.1 : Int) f.2.2 false := ⟨_, rfl⟩
    obtain ⟨Tn, hTn⟩ : ∃ Tn : Nat, T = (Tn : Int) := ⟨T.toNat, by omega⟩
    have hnone : F' (nx + (Tn : Nat)) = none := by
      rw [hF']
      unfold putH
      rw [if_neg (by omega)]
      cases hx : F (nx + (Tn : Nat)) with
      | none => rfl
      | some x => have := g1 _ x hx; omega
    obtain ⟨m1, m2, m3⟩ := mOf_spec 66 nx Tn (by omega) hnone
    obtain ⟨m, hm⟩ : ∃ m, m = mOf F' 66 nx := ⟨_, rfl⟩
    rw [← hm] at m1 m2 m3
    have hheld' : HeldOf BB k F' := by
      intro q x hq
      rw [hF'] at hq
      unfold putH at hq
      by_cases e : q = (f.2.1 : Int)
      · rw [if_pos e] at hq
        injection hq with hq
        exact ⟨f.2.1, e, hf.2.1, by rw [← hq, hf.2.2]⟩
      · rw [if_neg e] at hq
        exact hh q x hq
    have hst : tkS T (nx, F, D) f = (nx + (m : Int), cutF F' (nx + m), D ++ dsOf F' nx m) := by
      rw [hF']
      exact tkS_ok hT.2 hE (by rw [← hF']; exact m1) (by rw [← hF']; exact m2) (by omega)
    rw [hst]
    have hg : GoodR T (nx + (m : Int), cutF F' (nx + m), D ++ dsOf F' nx m) := by
      rw [hF']
      exact goodR_ok (D := D) ⟨g1, g2, g3⟩ hE (by rw [← hF']; exact m1) (by rw [← hF']; exact m2)
    refine ⟨⟨hg, ?_, ?_, ?_⟩, by show nx ≤ nx + (m : Int); omega⟩
    · intro q x hq
      have hq' : (if q < nx + m then none else F' q) = some x := hq
      by_cases e : q < nx + m
      · rw [if_pos e] at hq'; cases hq'
      · rw [if_neg e] at hq'; exact hheld' q x hq'
    · refine ⟨by show ((D ++ dsOf F' nx m).length : Int) = nx + m; rw [List.length_append, dsOf_len]; push_cast; omega, fun i hi => ?_⟩
      have hi' : i < D.length + m := by
        have h0 : i < (D ++ dsOf F' nx m).length := hi
        rwa [List.length_append, dsOf_len] at h0
      show (D ++ dsOf F' nx m)[i]'hi = _
      by_cases hiD : i < D.length
      · rw [List.getElem_append_left hiD]
        exact d2 i hiD
      · rw [List.getElem_append_right (by omega), dsOf_get]
        obtain ⟨i2, hi2⟩ : ∃ i2, i2 = i - D.length := ⟨_, rfl⟩
        rw [← hi2]
        have hne := m1 i2 (by omega)
        cases hx : F' (nx + (i2 : Nat)) with
        | none => exact absurd hx hne
        | some x =>
          obtain ⟨i3, e1, e2, e3⟩ := hheld' _ x hx
          have e4 : i3 = i := by omega
          rw [e3, e4]
          show ((nx + (i2 : Int), BB.getD i [], false) : Dl) = _
          rw [e1, e4]
    · show nx + (m : Int) ≤ k
      by_cases e : m = 0
      · subst e; simpa using hle
      · have hne := m1 (m - 1) (by omega)
        cases hx : F' (nx + ((m - 1 : Nat) : Int)) with
        | none => exact absurd hx hne
        | some x =>
          obtain ⟨i3, e1, e2, e3⟩ := hheld' _ x hx
          omega
  · rw [tkS_no hE]
    exact ⟨⟨⟨g1, g2, g3⟩, hh, ⟨d1, d2⟩, hle⟩, Int.le_refl _⟩
/-- The record that is wanted next is taken. -/
theorem tkS_next {BB : List (List Nat)} {k : Nat} {T : Int} {s : Rp} {f : Fr} (hT : 1 ≤ T ∧ T ≤ 64) (h : StT BB k T s) (hf : SentF BB k f) (hk : k ≤ 4294967295) (hl : f.2.2.length ≤ 1024) (hn : (f.2.1 : Int) ≤ s.1) :
    (f.2.1 : Int) + 1 ≤ (tkS T s f).1 := by
  by_cases e : (f.2.1 : Int) < s.1
  · have := (tkS_sent hT h hf).2
    omega
  · obtain ⟨nx, F, D⟩ := s
    have e2 : (f.2.1 : Int) = nx := by
      have h1 : ¬ (f.2.1 : Int) < nx := e
      have h2 : (f.2.1 : Int) ≤ nx := hn
      omega
    obtain ⟨g1, g2, g3⟩ := h.good
    simp only at g1 g2 g3
    have hF : F nx = none := by
      cases hx : F nx with
      | none => rfl
      | some x => have := g1 _ x hx; omega
    have hE : takeE 0 T nx F (f.1 : Int) (f.2.1 : Int) f.2.2.length = 0 := by
      obtain ⟨f1, f2, f3⟩ := hf
      unfold takeE
      rw [if_pos ⟨by omega, by omega, by omega, by omega, hl⟩, if_pos (by omega)]
      unfold holdE
      rw [e2, if_neg (by omega), if_neg (by simp [hF]), if_neg (by omega)]
    obtain ⟨F', hF'⟩ : ∃ F', F' = putH F (f.2.1 : Int) f.2.2 false := ⟨_, rfl⟩
    obtain ⟨Tn, hTn⟩ : ∃ Tn : Nat, T = (Tn : Int) := ⟨T.toNat, by omega⟩
    have hnone : F' (nx + (Tn : Nat)) = none := by
      rw [hF']
      unfold putH
      rw [if_neg (by omega)]
      cases hx : F (nx + (Tn : Nat)) with
      | none => rfl
      | some x => have := g1 _ x hx; omega
    obtain ⟨m1, m2, m3⟩ := mOf_spec 66 nx Tn (by omega) hnone
    have hm0 : mOf F' 66 nx ≠ 0 := fun e0 => by
      rw [e0] at m2
      have : F' nx = none := by simpa using m2
      rw [hF'] at this
      unfold putH at this
      rw [if_pos e2.symm] at this
      cases this
    rw [tkS_ok hT.2 hE (by rw [← hF']; exact m1) (by rw [← hF']; exact m2) (by omega)]
    show (f.2.1 : Int) + 1 ≤ nx + _
    omega

theorem tkFs_sent {BB : List (List Nat)} {k : Nat} {T : Int} (hT : 1 ≤ T ∧ T ≤ 64) : ∀ (Fs : List Fr) (s : Rp), StT BB k T s → (∀ f ∈ Fs, SentF BB k f) → StT BB k T (tkFs T s Fs) ∧ s.1 ≤ (tkFs T s Fs).1
  | [], s, h, _ => ⟨h, Int.le_refl _⟩
  | f :: Fs, s, h, hf => by
    obtain ⟨h1, h2⟩ := tkS_sent hT h (hf f (List.mem_cons_self ..))
    obtain ⟨h3, h4⟩ := tkFs_sent hT Fs _ h1 (fun g hg => hf g (List.mem_cons_of_mem _ hg))
    exact ⟨h3, Int.le_trans h2 h4⟩
theorem tkLs_sent {BB : List (List Nat)} {k : Nat} {T : Int} (hT : 1 ≤ T ∧ T ≤ 64) : ∀ (Ls : List (List Nat)) (s : Rp), StT BB k T s → (∀ L ∈ Ls, ∀ f ∈ (scanF (L.length + 1) L).1, SentF BB k f) → StT BB k T (tkLs T s Ls) ∧ s.1 ≤ (tkLs T s Ls).1
  | [], s, h, _ => ⟨h, Int.le_refl _⟩
  | L :: Ls, s, h, hf => by
    obtain ⟨h1, h2⟩ := tkFs_sent hT _ s h (hf L (List.mem_cons_self ..))
    obtain ⟨h3, h4⟩ := tkLs_sent hT Ls _ h1 (fun g hg => hf g (List.mem_cons_of_mem _ hg))
    exact ⟨h3, Int.le_trans h2 h4⟩

theorem scan_one (f : Fr) (h : okFr2 f) : (scanF ((packFr f).length + 1) (packFr f)).1 = [f] := by
  have hok : okFr f := ⟨by have := h.1.2.1; omega, by have := h.1.2.2.2.1; omega, h.1.2.2.2.2, h.2⟩
  have h1 := scan_frame f hok [] (packFr f).length
  rw [List.append_nil] at h1
  have h2 : (scanF (packFr f).length []).1 = [] := by
    cases (packFr f).length with
    | zero => rfl
    | succ n => rw [scanF_short (upE_nil rfl)]
  show (scanF ((packFr f).length + 1) (packL f.1 f.2.1 f.2.2)).1 = _
  rw [h1, h2]
theorem pF_sent {BB : List (List Nat)} {a k : Nat} (hk : k ≤ BB.length) : ∀ (j : Nat), a + j ≤ k → ∀ f ∈ pF 0 a (BB.take k) j, SentF BB k f
  | 0, _, f, hf => by simp [pF] at hf
  | j + 1, hj, f, hf => by
    rcases List.mem_append.1 hf with h | h
    · exact pF_sent hk j (by omega) f h
    · simp at h
      subst h
      refine ⟨rfl, by show a + j < k; omega, ?_⟩
      show (BB.take k).getD (a + j) [] = BB.getD (a + j) []
      simp [List.getD, List.getElem?_take, show a + j < k by omega]
/-- A round without faults delivers all that is pending. -/
theorem quiet_all {BB : List (List Nat)} {a k : Nat} {T : Int} {s : Rp} (hT : 1 ≤ T ∧ T ≤ 64) (hB : ∀ X ∈ BB, X.length ≤ 1024 ∧ AllB X) (hk : k ≤ BB.length) (hk2 : k ≤ 4294967295) (h : StT BB k T s) (ha : (a : Int) ≤ s.1) :
    ∀ j, a + j ≤ k → StT BB k T (tkLs T s ((pF 0 a (BB.take k) j).map packFr)) ∧ (a : Int) + j ≤ (tkLs T s ((pF 0 a (BB.take k) j).map packFr)).1
  | 0, _ => ⟨h, by show (a : Int) + ((0 : Nat) : Int) ≤ s.1; omega⟩
  | j + 1, hj => by
    obtain ⟨h1, h2⟩ := quiet_all hT hB hk hk2 h ha j (by omega)
    obtain ⟨f, hf⟩ : ∃ f : Fr, f = (0, a + j, (BB.take k).getD (a + j) []) := ⟨_, rfl⟩
    have hs : SentF BB k f := by
      refine pF_sent hk (j + 1) hj f ?_
      rw [hf]
      exact List.mem_append_right _ (by simp)
    have hm : f.2.2 = [] ∨ f.2.2 ∈ BB := by
      rw [hs.2.2]
      by_cases hl : f.2.1 < BB.length
      · right
        have : BB.getD f.2.1 [] = BB[f.2.1] := by simp [List.getD, hl]
        rw [this]
        exact List.getElem_mem hl
      · left
        simp [List.getD, List.getElem?_eq_none (by omega : BB.length ≤ f.2.1)]
    have hb : f.2.2.length ≤ 1024 ∧ AllB f.2.2 := by
      rcases hm with e | e
      · rw [e]; exact ⟨by simp, fun x hx => by simp at hx⟩
      · exact hB _ e
    have hok : okFr2 f := ⟨⟨by have := hs.1; omega, by have := hs.1; omega, by omega, by have := hs.2.1; omega, hb.1⟩, hb.2⟩
    have e1 : tkLs T s ((pF 0 a (BB.take k) (j + 1)).map packFr) = tkS T (tkLs T s ((pF 0 a (BB.take k) j).map packFr)) f := by
      show tkLs T s ((pF 0 a (BB.take k) j ++ [(0, a + j, (BB.take k).getD (a + j) [])]).map packFr) = _
      rw [← hf, List.map_append]
      unfold tkLs
      rw [List.foldl_append]
      show tkFs T _ (scanF ((packFr f).length + 1) (packFr f)).1 = _
      rw [scan_one f hok]
      rfl
    rw [e1]
    refine ⟨(tkS_sent hT h1 hs).1, ?_⟩
    have h3 := tkS_next hT h1 hs hk2 hb.1 (by have e : f.2.1 = a + j := by rw [hf]
                                              rw [e]; push_cast; exact h2)
    have e : f.2.1 = a + j := by rw [hf]
    rw [e] at h3
    push_cast at h3 ⊢
    omega

/-- The rounds make no frames of their own. -/
def Honest (T : Nat) (BB : List (List Nat)) (RR : List (List Ft)) (j : Nat) : Prop :=
  ∀ L ∈ carried (RR[j]?) (pkts BB (trN T BB RR j).1 (min BB.length ((trN T BB RR j).1 + T))), ∀ f ∈ (scanF (L.length + 1) L).1, SentF BB (min BB.length ((trN T BB RR j).1 + T)) f
def Quiet (RR : List (List Ft)) (j : Nat) : Prop := RR[j]? = none ∨ RR[j]? = some []
theorem quiet_carried {RR : List (List Ft)} {j : Nat} (h : Quiet RR j) (Ls : List (List Nat)) : carried (RR[j]?) Ls = Ls := by
  rcases h with h | h <;> rw [h] <;> rfl

/-- What is true behind j rounds. -/
def InvT (T : Nat) (BB : List (List Nat)) (RR : List (List Ft)) (j : Nat) : Prop :=
  ((trN T BB RR j).1 : Int) = (trN T BB RR j).2.1 ∧ ∃ k0, k0 ≤ BB.length ∧ k0 ≤ (trN T BB RR j).1 + T ∧ StT BB k0 (T : Int) (trN T BB RR j).2
theorem invT_zero (T : Nat) (BB : List (List Nat)) (RR : List (List Ft)) : InvT T BB RR 0 :=
  ⟨rfl, 0, Nat.zero_le _, Nat.zero_le _, ⟨fun k x h => (by cases h), Int.le_refl _, by show (0 : Int) ≤ 4294967296; omega⟩, fun s x h => (by cases h), ⟨rfl, fun i h => absurd h (by show ¬ i < 0; omega)⟩, Int.le_refl _⟩
theorem invT_succ {T : Nat} {BB : List (List Nat)} {RR : List (List Ft)} {j : Nat} (hT : 1 ≤ T ∧ T ≤ 64) (hB : ∀ X ∈ BB, X.length ≤ 1024 ∧ AllB X) (hl : BB.length ≤ 4294967295) (h : InvT T BB RR j) (hh : Honest T BB RR j) :
    InvT T BB RR (j + 1) ∧ (trN T BB RR j).1 ≤ (trN T BB RR (j + 1)).1 ∧ (Quiet RR j → (trN T BB RR (j + 1)).1 = min BB.length ((trN T BB RR j).1 + T)) := by
  obtain ⟨⟨a, s⟩, hs⟩ : ∃ s, s = trN T BB RR j := ⟨_, rfl⟩
  unfold InvT at h
  unfold Honest at hh
  rw [← hs] at h hh
  obtain ⟨h1, k0, h2, h3, h4⟩ := h
  simp only at h1 h2 h3 h4 hh
  obtain ⟨k, hk⟩ : ∃ k, k = min BB.length (a + T) := ⟨_, rfl⟩
  rw [← hk] at hh
  have h5 := h4.mono (show k0 ≤ k by omega)
  have hTi : (1 : Int) ≤ (T : Int) ∧ (T : Int) ≤ 64 := by omega
  obtain ⟨Ls, hLs⟩ : ∃ Ls, Ls = carried (RR[j]?) (pkts BB a k) := ⟨_, rfl⟩
  rw [← hLs] at hh
  obtain ⟨h6, h7⟩ := tkLs_sent hTi Ls s h5 hh
  have h8 := h6.le
  have hn : trN T BB RR (j + 1) = ((tkLs (T : Int) s Ls).1.toNat, tkLs (T : Int) s Ls) := by
    show trStep T BB (RR[j]?) (trN T BB RR j) = _
    rw [← hs]
    unfold trStep
    simp only
    rw [← hk, ← hLs, if_pos ⟨by omega, h8⟩]
  unfold InvT
  rw [hn, ← hs]
  have h0 : 0 ≤ s.1 := by omega
  refine ⟨⟨by show ((tkLs (T : Int) s Ls).1.toNat : Int) = (tkLs (T : Int) s Ls).1; omega, k, by omega, by show k ≤ (tkLs (T : Int) s Ls).1.toNat + T; omega, h6⟩, by show a ≤ (tkLs (T : Int) s Ls).1.toNat; omega, fun hq => ?_⟩
  have e : Ls = (pF 0 a (BB.take k) (k - a)).map packFr := by rw [hLs, quiet_carried hq]; rfl
  have hak : a ≤ k := by have := h5.le; omega
  obtain ⟨_, q2⟩ := quiet_all hTi hB (by omega : k ≤ BB.length) (by omega) h5 (by omega : (a : Int) ≤ s.1) (k - a) (by omega)
  rw [← e] at q2
  show (tkLs (T : Int) s Ls).1.toNat = min BB.length (a + T)
  omega
theorem invT_all {T : Nat} {BB : List (List Nat)} {RR : List (List Ft)} (hT : 1 ≤ T ∧ T ≤ 64) (hB : ∀ X ∈ BB, X.length ≤ 1024 ∧ AllB X) (hl : BB.length ≤ 4294967295) : ∀ n, (∀ j, j < n → Honest T BB RR j) → InvT T BB RR n
  | 0, _ => invT_zero T BB RR
  | n + 1, h => (invT_succ hT hB hl (invT_all hT hB hl n (fun j hj => h j (by omega))) (h n (by omega))).1
/-- Quiet rounds make no frames of their own. -/
theorem quiet_honest {T : Nat} {BB : List (List Nat)} {RR : List (List Ft)} {j : Nat} (hB : ∀ X ∈ BB, X.length ≤ 1024 ∧ AllB X) (hl : BB.length ≤ 4294967295) (h : InvT T BB RR j) (hq : Quiet RR j) : Honest T BB RR j := by
  obtain ⟨⟨a, s⟩, hs⟩ : ∃ s, s = trN T BB RR j := ⟨_, rfl⟩
  unfold InvT at h
  unfold Honest
  rw [← hs] at h ⊢
  obtain ⟨h1, k0, h2, h3, h4⟩ := h
  simp only at h1 h2 h3 h4 ⊢
  obtain ⟨k, hk⟩ : ∃ k, k = min BB.length (a + T) := ⟨_, rfl⟩
  rw [← hk, quiet_carried hq]
  have hak : a ≤ k := by have := (h4.mono (show k0 ≤ k by omega)).le; omega
  intro L hL f hf
  obtain ⟨g, hg, rfl⟩ := List.mem_map.1 hL
  rw [scan_one g (pkts_ok hB a k (by omega) hak g hg)] at hf
  simp at hf
  subst hf
  exact pF_sent (by omega) (k - a) (by omega) f hg

open Classical in
/-- How many of the first rounds are quiet. -/
noncomputable def quietN (RR : List (List Ft)) : Nat → Nat
  | 0 => 0
  | j + 1 => quietN RR j + (if Quiet RR j then 1 else 0)
theorem quietN_step (T q : Nat) {a a' b : Nat} (h : min b (q * T) ≤ a) (ha : a' = min b (a + T)) : min b ((q + 1) * T) ≤ a' := by
  have e : (q + 1) * T = q * T + T := by rw [Nat.succ_mul]
  rw [e, ha]
  omega
open Classical in
theorem quietN_yes {RR : List (List Ft)} {j : Nat} (h : Quiet RR j) : quietN RR (j + 1) = quietN RR j + 1 := by
  show quietN RR j + (if Quiet RR j then 1 else 0) = _
  rw [if_pos h]
open Classical in
theorem quietN_no {RR : List (List Ft)} {j : Nat} (h : ¬ Quiet RR j) : quietN RR (j + 1) = quietN RR j := by
  show quietN RR j + (if Quiet RR j then 1 else 0) = _
  rw [if_neg h]; rfl
theorem quiet_far {T : Nat} {BB : List (List Nat)} {RR : List (List Ft)} (hT : 1 ≤ T ∧ T ≤ 64) (hB : ∀ X ∈ BB, X.length ≤ 1024 ∧ AllB X) (hl : BB.length ≤ 4294967295) : ∀ n, (∀ j, j < n → Honest T BB RR j) → min BB.length (quietN RR n * T) ≤ (trN T BB RR n).1
  | 0, _ => by show min BB.length (0 * T) ≤ 0; omega
  | n + 1, h => by
    have ih := quiet_far hT hB hl n (fun j hj => h j (by omega))
    obtain ⟨h1, h2, h3⟩ := invT_succ hT hB hl (invT_all hT hB hl n (fun j hj => h j (by omega))) (h n (by omega))
    by_cases hq : Quiet RR n
    · have e := quietN_yes hq
      rw [e]
      exact quietN_step T _ ih (h3 hq)
    · have e := quietN_no hq
      rw [e]
      omega
theorem quietN_mono (RR : List (List Ft)) : ∀ {m n : Nat}, m ≤ n → quietN RR m ≤ quietN RR n := by
  intro m n h
  induction h with
  | refl => exact Nat.le_refl _
  | step _ ih => exact Nat.le_trans ih (Nat.le_add_right _ _)

/-- What a transfer delivers: a beginning of the records, all of them if enough rounds are quiet. -/
theorem transfer_what {T n : Nat} {BB : List (List Nat)} {RR : List (List Ft)} (hT : 1 ≤ T ∧ T ≤ 64) (hB : ∀ X ∈ BB, X.length ≤ 1024 ∧ AllB X) (hl : BB.length ≤ 4294967295) (hN : IsN T BB RR n) (hH : ∀ j, j < n → Honest T BB RR j) :
    (trN T BB RR n).2.2.2.length ≤ BB.length ∧ (∀ i (h : i < (trN T BB RR n).2.2.2.length), (trN T BB RR n).2.2.2[i]'h = ((i : Int), BB.getD i [], false)) ∧
    (quietN RR 64 * T < BB.length ∨ (trN T BB RR n).2.2.2.length = BB.length) := by
  obtain ⟨h1, k0, h2, h3, h4⟩ := invT_all hT hB hl n hH
  have h5 := quiet_far hT hB hl n hH
  obtain ⟨d1, d2⟩ := h4.del
  have h6 := h4.le
  refine ⟨by omega, d2, ?_⟩
  obtain ⟨n1, n2, n3⟩ := hN
  by_cases hq : quietN RR 64 * T < BB.length
  · exact .inl hq
  · right
    rcases n3 with rfl | n3
    · omega
    · omega
end Go.Proofs.Ytkakbeiehggkiaa
