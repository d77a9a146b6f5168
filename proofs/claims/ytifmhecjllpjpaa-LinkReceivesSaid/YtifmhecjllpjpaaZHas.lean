/-
  The document's receiver: what its memory holds; NewReceiver, has; the program's Held.
-/
import Derived.Test.YtifmhecjllpjpaaZTake
import Derived.Test.YtifmhecjllpjpaaZOnce
namespace Go.Proofs.Ytifmhecjllpjpaa
open Go.RowKit Go.Maps
attribute [local go_sem ↓] Go.wp_at_zero Go.wp_at_succ

/-- The document's receiver behind a pointer to block g: its list reads as Ds. -/
def Rrc (w : World) (g base : Nat) (st win nx : Int) (Ds : List Dl) : Prop :=
  ∃ hv, w.heap[g]? = some (.cells #[.int .i64 st, .int .i64 win, .int .i64 nx, hv] 83 (0, 0)) ∧ DlS w base hv Ds
theorem rrc_below {w w' : World} {g base : Nat} {st win nx : Int} {Ds : List Dl} (h : Rrc w g base st win nx Ds) (hb : Below w.heap.size w w') : Rrc w' g base st win nx Ds := by
  obtain ⟨hv, h1, h2⟩ := h
  exact ⟨hv, (hb.block g (Array.getElem?_eq_some_iff.1 h1).1).trans h1, dls_below h2 hb⟩
theorem rrc_cells {w : World} {g base : Nat} {st win nx : Int} {Ds : List Dl} (h : Rrc w g base st win nx Ds) : ∃ A c, w.cell? ⟨g, 0, none⟩ = some (.int .i64 st) ∧ w.cell? ⟨g, 1, none⟩ = some (.int .i64 win) ∧ w.cell? ⟨g, 2, none⟩ = some (.int .i64 nx) ∧
    w.cell? ⟨g, 3, none⟩ = some (.slice A Ds.length c) ∧ Ds.length ≤ c ∧ (∀ i, w.frozen? ⟨g, i, none⟩ = false) ∧ g < w.heap.size ∧
    ∀ i (hi : i < Ds.length), ∃ gb A' n' c', A = some ⟨gb, 0, none⟩ ∧ gb < w.heap.size ∧ w.cell? ⟨gb, i * 3, none⟩ = some (.int .i64 (Ds[i]'hi).1) ∧ w.cell? ⟨gb, i * 3 + 1, none⟩ = some (.slice A' n' c') ∧
      w.cell? ⟨gb, i * 3 + 2, none⟩ = some (.bool (Ds[i]'hi).2.2) ∧ RB w w.heap.size (.slice A' n' c') (Ds[i]'hi).2.1 := by
  obtain ⟨hv, h1, h2⟩ := h
  obtain ⟨A, c, rfl, h3, h4⟩ := dls_cells h2
  exact ⟨A, c, cell_of_row _ _ _ _ _ _ h1, cell_of_row _ _ _ _ _ _ h1, cell_of_row _ _ _ _ _ _ h1, cell_of_row _ _ _ _ _ _ h1, h3, fun i => by simp [World.frozen?, h1], (Array.getElem?_eq_some_iff.1 h1).1, h4⟩

def RetNewC (w : World) (st win nx : Int) (e : Ending) (w' : World) : Prop :=
  ∃ g, e = .returned (.tuple #[.pointer (some ⟨g, 0, none⟩), .int .i64 0]) ∧ (∀ base, Rrc w' g base st win nx []) ∧ w.heap.size ≤ g ∧ g < w'.heap.size ∧ Below w.heap.size w w'
set_option maxRecDepth 100000 in
set_option maxHeartbeats 1000000 in
theorem rnew_yes (st win nx : Int) (w : World) (h : okR st win nx) : Calls Try.prog 14 #[.int .i64 st, .int .i64 win, .int .i64 nx] w (RetNewC w st win nx) := by
  obtain ⟨⟨h1, h2⟩, ⟨h3, h4⟩, h5, h6⟩ := h
  have i1 : ¬ st < 0 := by omega
  have i2 : ¬ 255 < st := by omega
  have i3 : ¬ win < 1 := by omega
  have i4 : ¬ 64 < win := by omega
  have i5 : ¬ nx < 0 := by omega
  have i6 : ¬ 4294967295 < nx := by omega
  go_enter Try.func14, Try.ntmps14
  go_wp2
  go_ret2
  refine ⟨_, rfl, fun base => ⟨_, heap_alloc_new w _, dls_nil _ _⟩, Nat.le_refl _, by simp, (Below.refl _ _).alloc (Nat.le_refl _) _⟩

set_option maxRecDepth 100000 in
set_option maxHeartbeats 1000000 in
theorem rnew_no (st win nx : Int) (w : World) (h : ¬ okR st win nx) : Calls Try.prog 14 #[.int .i64 st, .int .i64 win, .int .i64 nx] w (fun e w' => e = .returned (.tuple #[.pointer none, .int .i64 2]) ∧ w = w') := by
  have hq : st < 0 ∨ (¬ st < 0 ∧ 255 < st) ∨ (¬ st < 0 ∧ ¬ 255 < st ∧ win < 1) ∨ (¬ st < 0 ∧ ¬ 255 < st ∧ ¬ win < 1 ∧ 64 < win) ∨ (¬ st < 0 ∧ ¬ 255 < st ∧ ¬ win < 1 ∧ ¬ 64 < win ∧ nx < 0) ∨ (¬ st < 0 ∧ ¬ 255 < st ∧ ¬ win < 1 ∧ ¬ 64 < win ∧ ¬ nx < 0 ∧ 4294967295 < nx) := by
    unfold okR at h
    omega
  clear h
  rcases hq with h1 | ⟨h1, h2⟩ | ⟨h1, h2, h3⟩ | ⟨h1, h2, h3, h4⟩ | ⟨h1, h2, h3, h4, h5⟩ | ⟨h1, h2, h3, h4, h5, h6⟩
  all_goals
    go_enter Try.func14, Try.ntmps14
    go_wp2
    go_ret2
    exact ⟨rfl, rfl⟩

def HasR (w : World) (n : Nat) (Ds : List Dl) (sq : Int) (iv : Value) (wr : World) : Prop :=
  ∃ k : Nat, iv = .int .i64 (k : Int) ∧ k ≤ n ∧ wr = w ∧ Hid (∀ (j : Nat) (hj : j < Ds.length), j < k → (Ds[j]'hj).1 ≠ sq)
/-- The index of what is held with a number, or -1. -/
def RetHas (w : World) (Ds : List Dl) (sq : Int) (e : Ending) (w' : World) : Prop :=
  w' = w ∧ ((e = .returned (.int .i64 (-1)) ∧ ∀ (j : Nat) (hj : j < Ds.length), (Ds[j]'hj).1 ≠ sq) ∨
    ∃ (i : Nat) (hi : i < Ds.length), e = .returned (.int .i64 (i : Int)) ∧ (Ds[i]'hi).1 = sq ∧ ∀ (j : Nat) (hj : j < Ds.length), j < i → (Ds[j]'hj).1 ≠ sq)

set_option maxRecDepth 100000 in
set_option maxHeartbeats 1000000 in
theorem has_any (g base : Nat) (st win nx sq : Int) (Ds : List Dl) (w : World) (h : Rrc w g base st win nx Ds) (hl : Ds.length ≤ 1048576) :
    Calls Try.prog 86 #[.pointer (some ⟨g, 0, none⟩), .int .i64 sq] w (RetHas w Ds sq) := by
  obtain ⟨A, c, c0, c1, c2, c3, hcap, cf, hgl, hel⟩ := rrc_cells h
  have HE := Lib.hid hel
  obtain ⟨n, hn⟩ : ∃ n, n = Ds.length := ⟨_, rfl⟩
  rw [← hn] at c3 hcap hl
  have HN := Lib.hid hn
  have H0 := Lib.hid (show HasR w n Ds sq (.int .i64 0) w from ⟨0, rfl, Nat.zero_le _, rfl, fun j hj h => by omega⟩)
  clear h hel cf hn
  go_enter Try.func86, Try.ntmps86
  go_wp2
  go_loopw [11] (fun iv wr => HasR w n Ds sq iv wr) (fun iv _ => n - (intOf1 iv).toNat)
  case atStart => exact H0.out
  case round =>
    obtain ⟨k, rfl, hk, rfl, HK⟩ := hrel
    by_cases hkn : k < n
    · obtain ⟨gb, A', n', c', rfl, hgb, p0, p1, p2, pr⟩ := HE.out k (by rw [← HN.out]; exact hkn)
      have i1 : (0 : Int) ≤ (k : Int) := by omega
      have i2 : (k : Int) < (n : Int) := by omega
      obtain ⟨x, hx⟩ : ∃ x, x = (Ds[k]'(by rw [← HN.out]; exact hkn)).1 := ⟨_, rfl⟩
      rw [← hx] at p0
      have HXE := Lib.hid hx
      clear p1 p2 pr hx
      by_cases hq : x = sq
      · subst hq
        go_wp2
        go_ret
        exact ⟨rfl, .inr ⟨k, by rw [← HN.out]; exact hkn, rfl, HXE.out.symm, fun j hj h => HK.out j hj h⟩⟩
      · have d1 : (x == sq) = false := by simpa using hq
        go_wp2
        go_roundw
        case rel => exact ⟨k + 1, by go_num, by omega, rfl, fun j hj h => by
          by_cases e : j = k
          · subst e
            rw [← HXE.out]
            exact hq
          · exact HK.out j hj (by omega)⟩
        case measure => simp [intOf1]; omega
    · obtain rfl : k = n := by omega
      go_wp2
      go_ret
      exact ⟨rfl, .inl ⟨rfl, fun j hj => HK.out j hj (by rw [HN.out]; exact hj)⟩⟩

set_option maxRecDepth 100000 in
theorem held_any (g mb N : Nat) (st win nx : Int) (F : Hf) (w : World) (h : Rcv w g mb N st win nx F) (hw : 1 ≤ win) (hN : N ≤ 1048576) :
    Calls Try.prog 20 #[.pointer (some ⟨g, 0, none⟩)] w fun e w' => e = .returned (.int .i64 (N : Int)) ∧ w = w' := by
  obtain ⟨c0, c1, c2, c3, cf⟩ := rcv_cells h
  have HNL := Lib.hid (none_live g win w c1 (by omega))
  obtain ⟨_, f, hM, _⟩ := h
  have hlen := fun ty => hM.len uM ty
  clear hM cf
  go_enter Try.func20, Try.ntmps20
  go_wp2_with fail
  refine HNL.out.mono ?_
  rintro e w1 ⟨rfl, rfl⟩
  go_wp2
  go_ret
  exact ⟨rfl, rfl⟩
end Go.Proofs.Ytifmhecjllpjpaa
