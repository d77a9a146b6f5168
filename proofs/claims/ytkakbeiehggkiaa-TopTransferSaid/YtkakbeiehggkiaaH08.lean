/-
  The document's receiver: what its memory holds; NewReceiver, has; the program's Held.
  What is missing: the two ways of counting it (no program here).
  Slices of numbers with a sign: what they read as.
-/
import Derived.Test.YtkakbeiehggkiaaH07
import Derived.Below
import Derived.Laws.OwnMore
import Derived.Deep.Draws
import Derived.Laws.Rows
import Derived.Lib.Hide
import Derived.WalkKit
import Derived.Test.YtkakbeiehggkiaaH01
namespace Go.Proofs.Ytkakbeiehggkiaa
open Go.RowKit Go.Maps
attribute [local go_sem ↓] Go.wp_at_zero Go.wp_at_succ

/-- The document's receiver behind a pointer to block g: its list reads as Ds. -/
def Rrc (w : World) (g base : Nat) (st win nx : Int) (Ds : List Dl) : Prop :=
  ∃ hv, w.heap[g]? = some (.cells #[.int .i64 st, .int .i64 win, .int .i64 nx, hv] 91 (0, 0)) ∧ DlS w base hv Ds
theorem rrc_below {w w' : World} {g base : Nat} {st win nx : Int} {Ds : List Dl} (h : Rrc w g base st win nx Ds) (hb : Below w.heap.size w w') : Rrc w' g base st win nx Ds := by
  obtain ⟨hv, h1, h2⟩ := h
  exact ⟨hv, (hb.block g (Array.getElem?_eq_some_iff.1 h1).1).trans h1, dls_below h2 hb⟩
theorem rrc_cells {w : World} {g base : Nat} {st win nx : Int} {Ds : List Dl} (h : Rrc w g base st win nx Ds) : ∃ A c, w.cell? ⟨g, 0, none⟩ = some (.int .i64 st) ∧ w.cell? ⟨g, 1, none⟩ = some (.int .i64 win) ∧ w.cell? ⟨g, 2, none⟩ = some (.int .i64 nx) ∧
    w.cell? ⟨g, 3, none⟩ = some (.slice A Ds.length c) ∧ Ds.length ≤ c ∧ (∀ i, w.frozen? ⟨g, i, none⟩ = false) ∧ g < w.heap.size ∧
    ∀ i (hi : i < Ds.length), ∃ gb A' n' c', A = some ⟨gb, 0, none⟩ ∧ gb < w.heap.size ∧ w.cell? ⟨gb, i * 3, none⟩ = some (.int .i64 (Ds[i]'hi).1) ∧ w.cell? ⟨gb, i * 3 + 1, none⟩ = some (.slice A' n' c') ∧
      w.cell? ⟨gb, i * 3 + 2, none⟩ = some (.bool (Ds[i]'hi).2.2) ∧ RB w w.heap.size (.slice A' n' c') (Ds[i]'hi).2.1 := by
  obtain ⟨hv, h1, h2⟩ := h
  obtain ⟨A, c, rfl, h3, h4⟩ := dls_cells h2
  exact ⟨A, c, cell_of_row _ _ _ _ _ _ h1, cell_of_row _ _ _ _ _ _ h1, cell_of_row _ _ _ _ _ _ h1, cell_of_row _ _ _ _ _ _ h1, h3, fun i => by simp [World.frozen?, h1], (Array.getElem?_eq_some_iff.1 h1).1, h4⟩

def RetNewC (w : World) (st win nx : Int) (e : Ending) (w' : World) : Prop :=
  ∃ g, e = .returned (.tuple #[.pointer (some ⟨g, 0, none⟩), .int .i64 0]) ∧ (∀ base, Rrc w' g base st win nx []) ∧ w.heap.size ≤ g ∧ g < w'.heap.size ∧ Below w.heap.size w w'
set_option maxRecDepth 100000 in
set_option maxHeartbeats 1000000 in
theorem rnew_yes (st win nx : Int) (w : World) (h : okR st win nx) : Calls Try.prog 12 #[.int .i64 st, .int .i64 win, .int .i64 nx] w (RetNewC w st win nx) := by
  obtain ⟨⟨h1, h2⟩, ⟨h3, h4⟩, h5, h6⟩ := h
  have i1 : ¬ st < 0 := by omega
  have i2 : ¬ 255 < st := by omega
  have i3 : ¬ win < 1 := by omega
  have i4 : ¬ 64 < win := by omega
  have i5 : ¬ nx < 0 := by omega
  have i6 : ¬ 4294967295 < nx := by omega
  go_enter Try.func12, Try.ntmps12
  go_wp2
  go_ret2
  refine ⟨_, rfl, fun base => ⟨_, heap_alloc_new w _, dls_nil _ _⟩, Nat.le_refl _, by simp, (Below.refl _ _).alloc (Nat.le_refl _) _⟩

set_option maxRecDepth 100000 in
set_option maxHeartbeats 1000000 in
theorem rnew_no (st win nx : Int) (w : World) (h : ¬ okR st win nx) : Calls Try.prog 12 #[.int .i64 st, .int .i64 win, .int .i64 nx] w (fun e w' => e = .returned (.tuple #[.pointer none, .int .i64 2]) ∧ w = w') := by
  have hq : st < 0 ∨ (¬ st < 0 ∧ 255 < st) ∨ (¬ st < 0 ∧ ¬ 255 < st ∧ win < 1) ∨ (¬ st < 0 ∧ ¬ 255 < st ∧ ¬ win < 1 ∧ 64 < win) ∨ (¬ st < 0 ∧ ¬ 255 < st ∧ ¬ win < 1 ∧ ¬ 64 < win ∧ nx < 0) ∨ (¬ st < 0 ∧ ¬ 255 < st ∧ ¬ win < 1 ∧ ¬ 64 < win ∧ ¬ nx < 0 ∧ 4294967295 < nx) := by
    unfold okR at h
    omega
  clear h
  rcases hq with h1 | ⟨h1, h2⟩ | ⟨h1, h2, h3⟩ | ⟨h1, h2, h3, h4⟩ | ⟨h1, h2, h3, h4, h5⟩ | ⟨h1, h2, h3, h4, h5, h6⟩
  all_goals
    go_enter Try.func12, Try.ntmps12
    go_wp2
    go_ret2
    exact ⟨rfl, rfl⟩

def HasR (w : World) (n : Nat) (Ds : List Dl) (sq : Int) (iv : Value) (wr : World) : Prop :=
  ∃ k : Nat, iv = .int .i64 (k : Int) ∧ k ≤ n ∧ wr = w ∧ Hid (∀ (j : Nat) (hj : j < Ds.length), j < k → (Ds[j]'hj).1 ≠ sq)
/-- The index of what is held with a number, or -1. -/
def RetHas (w : World) (Ds : List Dl) (sq : Int) (e : Ending) (w' : World) : Prop :=
  w' = w ∧ ((e = .returned (.int .i64 (-1)) ∧ ∀ (j : Nat) (hj : j < Ds.length), (Ds[j]'hj).1 ≠ sq) ∨
    ∃ (i : Nat) (hi : i < Ds.length), e = .returned (.int .i64 (i : Int)) ∧ (Ds[i]'hi).1 = sq ∧ ∀ (j : Nat) (hj : j < Ds.length), j < i → (Ds[j]'hj).1 ≠ sq)

set_option maxRecDepth 100000 in
set_option maxHeartbeats 1000000 in
theorem has_any (g base : Nat) (st win nx sq : Int) (Ds : List Dl) (w : World) (h : Rrc w g base st win nx Ds) (hl : Ds.length ≤ 1048576) :
    Calls Try.prog 76 #[.pointer (some ⟨g, 0, none⟩), .int .i64 sq] w (RetHas w Ds sq) := by
  obtain ⟨A, c, c0, c1, c2, c3, hcap, cf, hgl, hel⟩ := rrc_cells h
  have HE := Lib.hid hel
  obtain ⟨n, hn⟩ : ∃ n, n = Ds.length := ⟨_, rfl⟩
  rw [← hn] at c3 hcap hl
  have HN := Lib.hid hn
  have H0 := Lib.hid (show HasR w n Ds sq (.int .i64 0) w from ⟨0, rfl, Nat.zero_le _, rfl, fun j hj h => by omega⟩)
  clear h hel cf hn
  go_enter Try.func76, Try.ntmps76
  go_wp2
  go_loopw [11] (fun iv wr => HasR w n Ds sq iv wr) (fun iv _ => n - (intOf1 iv).toNat)
  case atStart => exact H0.out
  case round =>
    obtain ⟨k, rfl, hk, rfl, HK⟩ := hrel
    by_cases hkn : k < n
    · obtain ⟨gb, A', n', c', rfl, hgb, p0, p1, p2, pr⟩ := HE.out k (by rw [← HN.out]; exact hkn)
      have i1 : (0 : Int) ≤ (k : Int) := by omega
      have i2 : (k : Int) < (n : Int) := by omega
      obtain ⟨x, hx⟩ : ∃ x, x = (Ds[k]'(by rw [← HN.out]; exact hkn)).1 := ⟨_, rfl⟩
      rw [← hx] at p0
      have HXE := Lib.hid hx
      clear p1 p2 pr hx
      by_cases hq : x = sq
      · subst hq
        go_wp2
        go_ret
        exact ⟨rfl, .inr ⟨k, by rw [← HN.out]; exact hkn, rfl, HXE.out.symm, fun j hj h => HK.out j hj h⟩⟩
      · have d1 : (x == sq) = false := by simpa using hq
        go_wp2
        go_roundw
        case rel => exact ⟨k + 1, by go_num, by omega, rfl, fun j hj h => by
          by_cases e : j = k
          · subst e
            rw [← HXE.out]
            exact hq
          · exact HK.out j hj (by omega)⟩
        case measure => simp [intOf1]; omega
    · obtain rfl : k = n := by omega
      go_wp2
      go_ret
      exact ⟨rfl, .inl ⟨rfl, fun j hj => HK.out j hj (by rw [HN.out]; exact hj)⟩⟩

set_option maxRecDepth 100000 in
theorem held_any (g mb N : Nat) (st win nx : Int) (F : Hf) (w : World) (h : Rcv w g mb N st win nx F) (hw : 1 ≤ win) (hN : N ≤ 1048576) :
    Calls Try.prog 18 #[.pointer (some ⟨g, 0, none⟩)] w fun e w' => e = .returned (.int .i64 (N : Int)) ∧ w = w' := by
  obtain ⟨c0, c1, c2, c3, cf⟩ := rcv_cells h
  have HNL := Lib.hid (none_live g win w c1 (by omega))
  obtain ⟨_, f, hM, _⟩ := h
  have hlen := fun ty => hM.len uM ty
  clear hM cf
  go_enter Try.func18, Try.ntmps18
  go_wp2_with fail
  refine HNL.out.mono ?_
  rintro e w1 ⟨rfl, rfl⟩
  go_wp2
  go_ret
  exact ⟨rfl, rfl⟩
end Go.Proofs.Ytkakbeiehggkiaa

namespace Go.Proofs.Ytkakbeiehggkiaa

/-- The list Ds holds what F holds, each number once. -/
structure DsF (Ds : List Dl) (F : Hf) : Prop where
  get : ∀ d ∈ Ds, F d.1 = some d.2
  all : ∀ k x, F k = some x → ∃ d ∈ Ds, d.1 = k
  once : Ds.Pairwise (fun a b => a.1 ≠ b.1)

def msF (F : Hf) (nx : Int) : Nat → List Int
  | 0 => []
  | j + 1 => msF F nx j ++ (if F (nx + j) = none then [nx + j] else [])
theorem msF_len (F : Hf) (nx : Int) : ∀ j, (msF F nx j).length ≤ j
  | 0 => Nat.le_refl _
  | j + 1 => by
    have := msF_len F nx j
    simp only [msF, List.length_append]
    split <;> simp <;> omega
/-- How many are held from x on. -/
def from_ (Ds : List Dl) (x : Int) : Nat := (Ds.filter (fun d => decide (x ≤ d.1))).length
theorem from_step : ∀ (Ds : List Dl) (x : Int), Ds.Pairwise (fun a b => a.1 ≠ b.1) → from_ Ds x = from_ Ds (x + 1) + (if ∃ d ∈ Ds, d.1 = x then 1 else 0)
  | [], x, _ => by simp [from_]
  | d :: Ds, x, h => by
    have ih := from_step Ds x (List.pairwise_cons.1 h).2
    have hd := (List.pairwise_cons.1 h).1
    unfold from_ at ih ⊢
    by_cases e : d.1 = x
    · have hn : ¬ ∃ d' ∈ Ds, d'.1 = x := fun ⟨d', h1, h2⟩ => hd d' h1 (by rw [e, h2])
      rw [if_neg hn] at ih
      have hy : ∃ d' ∈ d :: Ds, d'.1 = x := ⟨d, by simp, e⟩
      rw [if_pos hy]
      rw [List.filter_cons_of_pos (by simp; omega), List.filter_cons_of_neg (by simp; omega)]
      simp
      omega
    · have hi : (∃ d' ∈ d :: Ds, d'.1 = x) ↔ ∃ d' ∈ Ds, d'.1 = x := by
        constructor
        · rintro ⟨d', h1, h2⟩
          rcases List.mem_cons.1 h1 with rfl | h1
          · exact absurd h2 e
          · exact ⟨d', h1, h2⟩
        · rintro ⟨d', h1, h2⟩
          exact ⟨d', List.mem_cons_of_mem _ h1, h2⟩
      simp only [hi]
      by_cases hx : x ≤ d.1
      · rw [List.filter_cons_of_pos (by simp; omega), List.filter_cons_of_pos (by simp; omega)]
        simp only [List.length_cons]
        omega
      · rw [List.filter_cons_of_neg (by simp; omega), List.filter_cons_of_neg (by simp; omega)]
        exact ih
theorem from_zero {Ds : List Dl} {x : Int} : from_ Ds x = 0 ↔ ∀ d ∈ Ds, d.1 < x := by
  unfold from_
  rw [List.length_eq_zero_iff, List.filter_eq_nil_iff]
  simp
theorem from_all {Ds : List Dl} {x : Int} (h : ∀ d ∈ Ds, x ≤ d.1) : from_ Ds x = Ds.length := by
  unfold from_
  rw [List.filter_eq_self.2 (fun d hd => by simpa using h d hd)]
theorem held_iff {Ds : List Dl} {F : Hf} (h : DsF Ds F) (x : Int) : (∃ d ∈ Ds, d.1 = x) ↔ F x ≠ none := by
  constructor
  · rintro ⟨d, h1, rfl⟩
    rw [h.get d h1]
    simp
  · intro hx
    obtain ⟨y, hy⟩ := Option.ne_none_iff_exists'.1 hx
    exact h.all x y hy
/-- Where the missing end. -/
def Ends (Ds : List Dl) (nx : Int) (J : Nat) : Prop := (∀ d ∈ Ds, d.1 < nx + J) ∧ (J = 0 ∨ ∃ d ∈ Ds, d.1 + 1 = nx + J)
theorem ends_one {Ds : List Dl} {nx : Int} {J J' : Nat} (h : Ends Ds nx J) (h' : Ends Ds nx J') : J = J' := by
  obtain ⟨a, b⟩ := h
  obtain ⟨a', b'⟩ := h'
  rcases b with b | ⟨d, hd, b⟩
  · rcases b' with b' | ⟨d', hd', b'⟩
    · omega
    · have := a d' hd'; omega
  · have := a' d hd
    rcases b' with b' | ⟨d', hd', b'⟩
    · omega
    · have := a d' hd'; omega
/-- The greatest, or -1. -/
def topD : List Dl → Nat → Int
  | Ds, 0 => -1
  | Ds, k + 1 => max (topD Ds k) ((Ds.getD k (0, [], false)).1)
theorem topD_ge (Ds : List Dl) : ∀ k (j : Nat) (hj : j < Ds.length), j < k → (Ds[j]'hj).1 ≤ topD Ds k
  | 0, j, hj, h => by omega
  | k + 1, j, hj, h => by
    simp only [topD]
    by_cases e : j = k
    · subst e
      simp [List.getD, hj]
      omega
    · have := topD_ge Ds k j hj (by omega)
      omega
theorem topD_in (Ds : List Dl) : ∀ k, k ≤ Ds.length → topD Ds k = -1 ∨ ∃ (j : Nat) (hj : j < Ds.length), (Ds[j]'hj).1 = topD Ds k
  | 0, _ => .inl rfl
  | k + 1, h => by
    have hk : k < Ds.length := by omega
    have e : (Ds.getD k (0, [], false)).1 = (Ds[k]'hk).1 := by simp [List.getD, hk]
    simp only [topD]
    rw [e]
    rcases topD_in Ds k (by omega) with h1 | ⟨j, hj, h1⟩
    · by_cases h2 : (Ds[k]'hk).1 ≤ -1
      · left; omega
      · right; exact ⟨k, hk, by omega⟩
    · by_cases h2 : (Ds[k]'hk).1 ≤ topD Ds k
      · right; exact ⟨j, hj, by omega⟩
      · right; exact ⟨k, hk, by omega⟩
theorem top_ends {Ds : List Dl} {nx : Int} (h0 : 0 ≤ nx) (h : ∀ d ∈ Ds, nx ≤ d.1) : Ends Ds nx (topD Ds Ds.length + 1 - nx).toNat := by
  by_cases hn : Ds.length = 0
  · have e : Ds = [] := List.eq_nil_of_length_eq_zero hn
    subst e
    refine ⟨fun d hd => by simp at hd, .inl ?_⟩
    simp [topD]
    omega
  · have h1 := topD_ge Ds Ds.length 0 (by omega) (by omega)
    have h2 := h _ (List.getElem_mem (l := Ds) (n := 0) (by omega))
    have e : (((topD Ds Ds.length + 1 - nx).toNat : Nat) : Int) = topD Ds Ds.length + 1 - nx := by omega
    refine ⟨fun d hd => ?_, .inr ?_⟩
    · obtain ⟨j, hj, rfl⟩ := List.mem_iff_getElem.1 hd
      have := topD_ge Ds Ds.length j hj hj
      omega
    · rcases topD_in Ds Ds.length (Nat.le_refl _) with h3 | ⟨j, hj, h3⟩
      · omega
      · exact ⟨_, List.getElem_mem hj, by omega⟩
end Go.Proofs.Ytkakbeiehggkiaa

namespace Go.Proofs.Ytkakbeiehggkiaa
open Go.RowKit Go.WideShapes Go.ChangeShapes

/-- The number at an index. -/
def ith (zs : List Int) (j : Nat) : Int := zs.getD j 0
theorem ith_lt {zs : List Int} {j : Nat} (h : j < zs.length) : ith zs j = zs[j] := by simp [ith, h]
theorem ith_mem {zs : List Int} {j : Nat} (h : j < zs.length) : ith zs j ∈ zs := by rw [ith_lt h]; exact List.getElem_mem h

/-- The value is a slice that reads as the numbers zs, in a block below B. -/
def IW (w : World) (B : Nat) (v : Value) (zs : List Int) : Prop :=
  ∃ A c, v = .slice A zs.length c ∧ zs.length ≤ c ∧ c ≤ maxLen ∧
    (0 < zs.length → ∃ b o, A = some ⟨b, o, none⟩ ∧ b < B ∧ ∀ j, j < zs.length → w.cell? ⟨b, o + j, none⟩ = some (.int .i64 (ith zs j)))

section
variable {w w' : World} {B B' : Nat} {v : Value} {A : Option Addr} {n c : Nat} {xs : List Int}
theorem IW.len (h : IW w B (.slice A n c) xs) : n = xs.length := by
  obtain ⟨A', c', e, _⟩ := h
  injection e
theorem IW.cap (h : IW w B (.slice A n c) xs) : n ≤ c ∧ c ≤ maxLen := by
  obtain ⟨A', c', e, h1, h2, _⟩ := h
  injection e with e1 e2 e3
  subst e2 e3
  exact ⟨h1, h2⟩
theorem IW.at_ (h : IW w B (.slice A n c) xs) (hn : 0 < n) : ∃ b o, A = some ⟨b, o, none⟩ ∧ b < B ∧ ∀ j, j < n → w.cell? ⟨b, o + j, none⟩ = some (.int .i64 (ith xs j)) := by
  obtain ⟨A', c', e, h1, h2, h3⟩ := h
  injection e with e1 e2 e3
  subst e1 e2 e3
  exact h3 hn
theorem IW.mk (hl : n = xs.length) (h1 : n ≤ c) (h2 : c ≤ maxLen)
    (h3 : 0 < n → ∃ b o, A = some ⟨b, o, none⟩ ∧ b < B ∧ ∀ j, j < n → w.cell? ⟨b, o + j, none⟩ = some (.int .i64 (ith xs j))) : IW w B (.slice A n c) xs := by
  subst hl
  exact ⟨A, c, rfl, h1, h2, h3⟩
theorem IW.nil_ : IW w B (.slice none 0 0) [] := IW.mk rfl (Nat.le_refl _) (by simp [maxLen]) (fun h => absurd h (by omega))
theorem IW.keep (h : IW w B v xs) (hk : ∀ p : Addr, p.block < B → w'.cell? p = w.cell? p) : IW w' B v xs := by
  obtain ⟨A', c', e, h1, h2, h3⟩ := h
  refine ⟨A', c', e, h1, h2, fun hn => ?_⟩
  obtain ⟨b, o, ha, hb, hc⟩ := h3 hn
  exact ⟨b, o, ha, hb, fun j hj => (hk _ hb).trans (hc j hj)⟩
theorem IW.more (h : IW w B v xs) (hB : B ≤ B') : IW w B' v xs := by
  obtain ⟨A', c', e, h1, h2, h3⟩ := h
  refine ⟨A', c', e, h1, h2, fun hn => ?_⟩
  obtain ⟨b, o, ha, hb, hc⟩ := h3 hn
  exact ⟨b, o, ha, by omega, hc⟩
theorem IW.below (h : IW w B v xs) (hb : Below B w w') : IW w' B v xs := h.keep fun _ hp => hb.cell hp
theorem IW.belowM (h : IW w B v xs) (hb : Below B' w w') (hB : B ≤ B') : IW w' B v xs := h.keep fun _ hp => hb.cell (by omega)
theorem IW.drew (h : IW w B v xs) : IW w.drew B v xs := h
theorem IW.alloc (h : IW w B v xs) (hB : B ≤ w.heap.size) (o : Obj) : IW (w.alloc o) B v xs := h.keep fun p hp => World.cell?_alloc_lt w o p (by omega)
end

/-- Every number fits. -/
def AllI (L : List Int) : Prop := ∀ x ∈ L, -9223372036854775808 ≤ x ∧ x ≤ 9223372036854775807

theorem cellsI : Try.prog.cellsOf 3 = 1 := by kernel_rfl

set_option maxRecDepth 100000 in
theorem open_numbers_cs {H : Type} {enc : TypeId × Value → H} {W : World} {base fuel : Nat} {a0 : Option Addr} {n c : Nat} {x : DataW H × List MemPlace}
    (hf : DataW.trod enc Try.prog W base (fun _ => true) true fuel 55 [.slice a0 n c] = some x) :
    ∃ L, AllI L ∧ IW W W.heap.size (.slice a0 n c) L := by
  rcases open_ints Try.underlying55 Try.underlying3 cellsI hf with ⟨hcs, hx⟩ | ⟨a, len', cap', zs, hcs, _, hl, hm, hz, hx, hcell, hwz⟩
  · simp only [List.cons.injEq, and_true] at hcs
    rw [hcs]
    exact ⟨[], (by intro x h; cases h), IW.nil_⟩
  · simp only [List.cons.injEq, and_true] at hcs
    injection hcs with e1 e2 e3
    subst e1 e2 e3
    simp only [if_true] at hz
    refine ⟨zs.take n, ?_, IW.mk (by simp; omega) hl hm (fun h0 => ?_)⟩
    · intro y hy
      have := bounds_i64 (hwz y (List.mem_of_mem_take hy))
      omega
    · obtain ⟨b, off, rfl, hc⟩ := ints_at hcell (by omega)
      refine ⟨b, off, rfl, ?_, fun j hj => ?_⟩
      · have := hc 0 (by omega)
        exact World.block_lt_of_cell? _ _ this
      · rw [hc j (by omega)]
        have hjz : j < zs.length := by omega
        have hj2 : j < (zs.take n).length := by simp; omega
        rw [ith_lt hj2]
        simp [hjz]

set_option maxRecDepth 100000 in
/-- A slice of numbers that came in, opened. -/
theorem open_numbers {H : Type} {enc : TypeId × Value → H} {W : World} {b : Nat} {v : Value} {d : DataW H} {ps : List MemPlace}
    (hok : Value.okWide Try.prog W .any b 55 v) (h : DataW.Trod enc Try.prog W 0 (fun _ => true) true 55 v d ps) :
    ∃ A n c L, v = .slice A n c ∧ AllI L ∧ IW W W.heap.size (.slice A n c) L := by
  obtain ⟨a0, n, c, rfl⟩ := okWide_slice Try.underlying55 hok
  obtain ⟨fuel, hf⟩ := h
  obtain ⟨L, h1, h2⟩ := open_numbers_cs (by simpa [Value.cells] using hf)
  exact ⟨a0, n, c, L, rfl, h1, h2⟩

def RetSame (w : World) (b : Bool) (e : Ending) (w' : World) : Prop := e = .returned (.bool b) ∧ w' = w
end Go.Proofs.Ytkakbeiehggkiaa
