/-
  What Scan finds.
  What a transfer does, as functions: the receiver's part.
  The document's Number.
-/
import Derived.Test.YtkakbeiehggkiaaH04
import Derived.Test.YtkakbeiehggkiaaH17
import Derived.Test.YtkakbeiehggkiaaH14
import Derived.Test.YtkakbeiehggkiaaH12
namespace Go.Proofs.Ytkakbeiehggkiaa
open Go.RowKit

/-- What Scan finds. -/
def scanF : Nat → List Nat → List Fr × Nat × Nat
  | 0, L => ([], 0, L.length)
  | k + 1, L =>
    if upE L = 21 then ([], 0, L.length)
    else if upE L = 0 then ((upSt L, upSq L, upX L) :: (scanF k (L.drop (upN L))).1, (scanF k (L.drop (upN L))).2.1, (scanF k (L.drop (upN L))).2.2)
    else ((scanF k (L.drop 1)).1, (scanF k (L.drop 1)).2.1 + 1, (scanF k (L.drop 1)).2.2)
theorem scanF_short {k : Nat} {L : List Nat} (h : upE L = 21) : scanF (k + 1) L = ([], 0, L.length) := by rw [scanF, if_pos h]
theorem scanF_ok {k : Nat} {L : List Nat} (h : upE L = 0) : scanF (k + 1) L = ((upSt L, upSq L, upX L) :: (scanF k (L.drop (upN L))).1, (scanF k (L.drop (upN L))).2.1, (scanF k (L.drop (upN L))).2.2) := by rw [scanF, if_neg (by omega), if_pos h]
theorem scanF_skip {k : Nat} {L : List Nat} (h : upE L ≠ 21) (h0 : upE L ≠ 0) : scanF (k + 1) L = ((scanF k (L.drop 1)).1, (scanF k (L.drop 1)).2.1 + 1, (scanF k (L.drop 1)).2.2) := by rw [scanF, if_neg h, if_neg h0]
theorem upE_nil {L : List Nat} (h : L.length = 0) : upE L = 21 := by unfold upE; rw [if_pos h]
theorem upE_fits {L : List Nat} (h : upE L = 0) : upN L ≤ L.length ∧ 12 ≤ upN L := by
  have hg := (up_good h).2.2.2.1
  rw [hg]
  unfold upE at h
  repeat (split at h; · omega)
  omega
/-- How far the loop is. -/
def ScanAt (L : List Nat) (a fuel sk : Nat) (Fs : List Fr) : Prop :=
  a ≤ L.length ∧ L.length - a < fuel ∧ Fs.length ≤ a ∧ sk ≤ a ∧ scanF (L.length + 1) L = (Fs ++ (scanF fuel (L.drop a)).1, sk + (scanF fuel (L.drop a)).2.1, (scanF fuel (L.drop a)).2.2)
theorem scanAt_start (L : List Nat) : ScanAt L 0 (L.length + 1) 0 [] := ⟨Nat.zero_le _, by omega, Nat.zero_le _, Nat.le_refl _, by simp⟩
theorem scanAt_end {L : List Nat} {a fuel sk : Nat} {Fs : List Fr} (h : ScanAt L a fuel sk Fs) (he : upE (L.drop a) = 21) : scanF (L.length + 1) L = (Fs, sk, L.length - a) := by
  obtain ⟨h1, h2, h3, h4, h5⟩ := h
  obtain ⟨k, rfl⟩ : ∃ k, fuel = k + 1 := ⟨fuel - 1, by omega⟩
  rw [h5, scanF_short he]
  simp
theorem scanAt_ok {L : List Nat} {a fuel sk : Nat} {Fs : List Fr} (h : ScanAt L a fuel sk Fs) (he : upE (L.drop a) = 0) :
    ScanAt L (a + upN (L.drop a)) (fuel - 1) sk (Fs ++ [(upSt (L.drop a), upSq (L.drop a), upX (L.drop a))]) := by
  obtain ⟨h1, h2, h3, h4, h5⟩ := h
  obtain ⟨k, rfl⟩ : ∃ k, fuel = k + 1 := ⟨fuel - 1, by omega⟩
  obtain ⟨f1, f2⟩ := upE_fits he
  rw [List.length_drop] at f1
  refine ⟨by omega, by omega, by simp; omega, by omega, ?_⟩
  rw [h5, scanF_ok he, List.drop_drop, Nat.add_sub_cancel]
  simp
theorem scanAt_skip {L : List Nat} {a fuel sk : Nat} {Fs : List Fr} (h : ScanAt L a fuel sk Fs) (he : upE (L.drop a) ≠ 21) (h0 : upE (L.drop a) ≠ 0) : ScanAt L (a + 1) (fuel - 1) (sk + 1) Fs := by
  obtain ⟨h1, h2, h3, h4, h5⟩ := h
  obtain ⟨k, rfl⟩ : ∃ k, fuel = k + 1 := ⟨fuel - 1, by omega⟩
  have hl : (L.drop a).length ≠ 0 := fun e => he (upE_nil e)
  rw [List.length_drop] at hl
  refine ⟨by omega, by omega, by omega, by omega, ?_⟩
  rw [h5, scanF_skip he h0, List.drop_drop, Nat.add_sub_cancel]
  simp only [Prod.mk.injEq, true_and, and_true]
  omega
end Go.Proofs.Ytkakbeiehggkiaa

namespace Go.Proofs.Ytkakbeiehggkiaa
open Go.RowKit

/-- How many are held from nx on. -/
def mOf (F : Hf) : Nat → Int → Nat
  | 0, _ => 0
  | n + 1, nx => if (F nx).isNone then 0 else mOf F n (nx + 1) + 1
theorem mOf_eq {F : Hf} : ∀ (n m : Nat) (nx : Int), (∀ i : Nat, i < m → F (nx + i) ≠ none) → F (nx + m) = none → m < n → mOf F n nx = m
  | 0, m, _, _, _, h => absurd h (by omega)
  | n + 1, 0, nx, _, h2, _ => by
    have e : F nx = none := by simpa using h2
    simp [mOf, e]
  | n + 1, m + 1, nx, h1, h2, h3 => by
    have e : F nx ≠ none := by simpa using h1 0 (by omega)
    have h : mOf F n (nx + 1) = m := mOf_eq n m (nx + 1) (fun i hi => by
        have := h1 (i + 1) (by omega)
        have e2 : nx + ((i + 1 : Nat) : Int) = nx + 1 + (i : Int) := by push_cast; omega
        rw [e2] at this
        exact this) (by
        have e2 : nx + ((m + 1 : Nat) : Int) = nx + 1 + (m : Int) := by push_cast; omega
        rw [e2] at h2
        exact h2) (by omega)
    have hs : (F nx).isNone = false := by
      cases hF : F nx with
      | none => exact absurd hF e
      | some x => rfl
    rw [mOf, hs, h]
    rfl

/-- What a receiver has: the next number, what is held, what was delivered. -/
abbrev Rp := Int × Hf × List Dl
open Classical in
/-- A frame is taken. -/
noncomputable def tkS (win : Int) (s : Rp) (f : Fr) : Rp :=
  if takeE 0 win s.1 s.2.1 (f.1 : Int) (f.2.1 : Int) f.2.2.length = 0 then
    (s.1 + (mOf (putH s.2.1 (f.2.1 : Int) f.2.2 false) 66 s.1 : Nat), cutF (putH s.2.1 (f.2.1 : Int) f.2.2 false) (s.1 + (mOf (putH s.2.1 (f.2.1 : Int) f.2.2 false) 66 s.1 : Nat)), s.2.2 ++ dsOf (putH s.2.1 (f.2.1 : Int) f.2.2 false) s.1 (mOf (putH s.2.1 (f.2.1 : Int) f.2.2 false) 66 s.1))
  else s
noncomputable def tkFs (win : Int) (s : Rp) (Fs : List Fr) : Rp := Fs.foldl (tkS win) s
noncomputable def tkLs (win : Int) (s : Rp) (Ls : List (List Nat)) : Rp := Ls.foldl (fun s L => tkFs win s (scanF (L.length + 1) L).1) s
theorem tkFs_succ (win : Int) (s : Rp) (Fs : List Fr) (k : Nat) (hk : k < Fs.length) : tkFs win s (Fs.take (k + 1)) = tkS win (tkFs win s (Fs.take k)) (Fs[k]'hk) := by
  unfold tkFs
  rw [List.take_succ_eq_append_getElem hk, List.foldl_append]
  rfl
theorem tkLs_succ (win : Int) (s : Rp) (Ls : List (List Nat)) (k : Nat) (hk : k < Ls.length) : tkLs win s (Ls.take (k + 1)) = tkFs win (tkLs win s (Ls.take k)) (scanF ((Ls[k]'hk).length + 1) (Ls[k]'hk)).1 := by
  unfold tkLs
  rw [List.take_succ_eq_append_getElem hk, List.foldl_append]
  rfl
/-- What is delivered stands behind what was. -/
theorem tkS_app (win nx : Int) (F : Hf) (D : List Dl) (f : Fr) : tkS win (nx, F, D) f = ((tkS win (nx, F, []) f).1, (tkS win (nx, F, []) f).2.1, D ++ (tkS win (nx, F, []) f).2.2) := by
  unfold tkS
  by_cases h : takeE 0 win nx F (f.1 : Int) (f.2.1 : Int) f.2.2.length = 0
  · simp [h]
  · simp [h]
theorem tkFs_app (win : Int) : ∀ (Fs : List Fr) (nx : Int) (F : Hf) (D : List Dl), tkFs win (nx, F, D) Fs = ((tkFs win (nx, F, []) Fs).1, (tkFs win (nx, F, []) Fs).2.1, D ++ (tkFs win (nx, F, []) Fs).2.2)
  | [], nx, F, D => by simp [tkFs]
  | f :: Fs, nx, F, D => by
    show tkFs win (tkS win (nx, F, D) f) Fs = _
    have h1 := tkS_app win nx F D f
    have e2 : tkFs win (nx, F, []) (f :: Fs) = tkFs win (tkS win (nx, F, []) f) Fs := rfl
    obtain ⟨s, hs⟩ : ∃ s, s = tkS win (nx, F, []) f := ⟨_, rfl⟩
    rw [← hs] at h1 e2
    obtain ⟨n2, F2, D2⟩ := s
    rw [h1, e2, tkFs_app win Fs n2 F2 (D ++ D2), tkFs_app win Fs n2 F2 D2]
    simp
theorem tkLs_app (win : Int) : ∀ (Ls : List (List Nat)) (nx : Int) (F : Hf) (D : List Dl), tkLs win (nx, F, D) Ls = ((tkLs win (nx, F, []) Ls).1, (tkLs win (nx, F, []) Ls).2.1, D ++ (tkLs win (nx, F, []) Ls).2.2)
  | [], nx, F, D => by simp [tkLs]
  | L :: Ls, nx, F, D => by
    show tkLs win (tkFs win (nx, F, D) (scanF (L.length + 1) L).1) Ls = _
    have h1 := tkFs_app win (scanF (L.length + 1) L).1 nx F D
    have e2 : tkLs win (nx, F, []) (L :: Ls) = tkLs win (tkFs win (nx, F, []) (scanF (L.length + 1) L).1) Ls := rfl
    obtain ⟨s, hs⟩ : ∃ s, s = tkFs win (nx, F, []) (scanF (L.length + 1) L).1 := ⟨_, rfl⟩
    rw [← hs] at h1 e2
    obtain ⟨n2, F2, D2⟩ := s
    rw [h1, e2, tkLs_app win Ls n2 F2 (D ++ D2), tkLs_app win Ls n2 F2 D2]
    simp

/-- What is true of a receiver's state. -/
def GoodR (win : Int) (s : Rp) : Prop := GoodF s.2.1 s.1 win ∧ 0 ≤ s.1 ∧ s.1 ≤ 4294967296
theorem takeE_ok {win nx fst sq : Int} {F : Hf} {n : Nat} (h : takeE 0 win nx F fst sq n = 0) : fst = 0 ∧ 0 ≤ sq ∧ sq ≤ 4294967295 ∧ n ≤ 1024 ∧ nx ≤ sq ∧ sq < nx + win := by
  unfold takeE at h
  by_cases h1 : okF fst sq n
  · rw [if_pos h1] at h
    by_cases h2 : fst = 0
    · rw [if_pos h2] at h
      unfold holdE at h
      obtain ⟨a1, a2, a3, a4, a5⟩ := h1
      by_cases h3 : sq < nx
      · rw [if_pos h3] at h; omega
      · rw [if_neg h3] at h
        by_cases h4 : F sq ≠ none
        · rw [if_pos h4] at h; omega
        · rw [if_neg h4] at h
          by_cases h5 : nx + win ≤ sq
          · rw [if_pos h5] at h; omega
          · exact ⟨h2, a3, a4, a5, by omega, by omega⟩
    · rw [if_neg h2] at h; omega
  · rw [if_neg h1] at h; omega
/-- What is delivered behind a frame that is taken, by any count that fits. -/
theorem tkS_ok {win nx : Int} {F : Hf} {D : List Dl} {f : Fr} {m : Nat} (hw : win ≤ 64) (hE : takeE 0 win nx F (f.1 : Int) (f.2.1 : Int) f.2.2.length = 0) (h1 : ∀ i : Nat, i < m → putH F (f.2.1 : Int) f.2.2 false (nx + i) ≠ none) (h2 : putH F (f.2.1 : Int) f.2.2 false (nx + m) = none) (h3 : (m : Int) ≤ win) :
    tkS win (nx, F, D) f = (nx + (m : Int), cutF (putH F (f.2.1 : Int) f.2.2 false) (nx + m), D ++ dsOf (putH F (f.2.1 : Int) f.2.2 false) nx m) := by
  have hm := mOf_eq 66 m nx h1 h2 (by omega)
  unfold tkS
  rw [if_pos hE, hm]
theorem tkS_no {win nx : Int} {F : Hf} {D : List Dl} {f : Fr} (hE : takeE 0 win nx F (f.1 : Int) (f.2.1 : Int) f.2.2.length ≠ 0) : tkS win (nx, F, D) f = (nx, F, D) := by
  unfold tkS
  rw [if_neg hE]
theorem goodR_ok {win nx : Int} {F : Hf} {D D' : List Dl} {f : Fr} {m : Nat} (hG : GoodR win (nx, F, D)) (hE : takeE 0 win nx F (f.1 : Int) (f.2.1 : Int) f.2.2.length = 0) (h1 : ∀ i : Nat, i < m → putH F (f.2.1 : Int) f.2.2 false (nx + i) ≠ none) (h2 : putH F (f.2.1 : Int) f.2.2 false (nx + m) = none) :
    GoodR win (nx + (m : Int), cutF (putH F (f.2.1 : Int) f.2.2 false) (nx + m), D') := by
  obtain ⟨g1, g2, g3⟩ := hG
  obtain ⟨_, b1, b2, b3, b4, b5⟩ := takeE_ok hE
  have h := good_put (l := false) g1 b4 b5 b2 (by omega) g3 h1 h2
  exact ⟨h.1, by show 0 ≤ nx + (m : Int); have : 0 ≤ nx := g2; omega, h.2⟩

/-- A frame takes twelve bytes at least. -/
theorem scanF_len : ∀ (k : Nat) (L : List Nat), (scanF k L).1.length * 12 ≤ L.length
  | 0, L => by simp [scanF]
  | k + 1, L => by
    by_cases h : upE L = 21
    · rw [scanF_short h]; simp
    · by_cases h0 : upE L = 0
      · rw [scanF_ok h0]
        have h1 := scanF_len k (L.drop (upN L))
        have h2 := upE_fits h0
        rw [List.length_drop] at h1
        simp only [List.length_cons]
        omega
      · rw [scanF_skip h h0]
        have h1 := scanF_len k (L.drop 1)
        rw [List.length_drop] at h1
        show (scanF k (L.drop 1)).1.length * 12 ≤ _
        omega
/-- How many frames datagrams hold. -/
def fcnt (Ls : List (List Nat)) : Nat := (Ls.map (fun L => (scanF (L.length + 1) L).1.length)).sum
theorem fcnt_succ (Ls : List (List Nat)) (k : Nat) (hk : k < Ls.length) : fcnt (Ls.take (k + 1)) = fcnt (Ls.take k) + (scanF ((Ls[k]'hk).length + 1) (Ls[k]'hk)).1.length := by
  unfold fcnt
  rw [List.take_succ_eq_append_getElem hk, List.map_append, List.sum_append]
  simp
theorem fcnt_le : ∀ (Ls : List (List Nat)), (∀ L ∈ Ls, L.length ≤ 1200) → fcnt Ls ≤ 100 * Ls.length
  | [], _ => by simp [fcnt]
  | L :: Ls, h => by
    have h1 := fcnt_le Ls (fun L hL => h L (List.mem_cons_of_mem _ hL))
    have h2 := scanF_len (L.length + 1) L
    have h3 := h L (List.mem_cons_self ..)
    have e : fcnt (L :: Ls) = (scanF (L.length + 1) L).1.length + fcnt Ls := by simp [fcnt]
    rw [e]
    simp only [List.length_cons]
    omega
theorem fcnt_take (Ls : List (List Nat)) (k : Nat) : fcnt (Ls.take k) ≤ fcnt Ls := by
  conv => rhs; rw [← List.take_append_drop k Ls]
  unfold fcnt
  rw [List.map_append, List.sum_append]
  omega
end Go.Proofs.Ytkakbeiehggkiaa

namespace Go.Proofs.Ytkakbeiehggkiaa
open Go.RowKit

def NumRelR (w : World) (L : List Nat) (N : Nat) (nv zv : Value) (wr : World) : Prop :=
  ∃ (m : Nat) (E : List Nat), nv = .int .i64 (m : Int) ∧ m ≤ 4611686018427387903 ∧ Hid (enc7 N = E ++ enc7 m) ∧
    wr.ownsRow w.heap.size 5 1 zv (L.length + E.length) (bys (L ++ E)) ∧ Below w.heap.size w wr

set_option maxRecDepth 100000 in
set_option maxHeartbeats 400000 in
theorem refNumber_ok (L : List Nat) (N : Nat) (hN : N ≤ 4611686018427387903) (v : Value) (B : Nat) (hn64 : L.length ≤ 1048576) (w : World) (hx : RB w B v L) (hBw : B ≤ w.heap.size) :
    Calls Try.prog 39 #[v, .int .i64 (N : Int)] w (RetNum w (L ++ enc7 N)) := by
  obtain ⟨A, c, rfl⟩ := hx.form
  have HN := Lib.hid hN
  go_enter Try.func39, Try.ntmps39
  go_wp2_with fail
  refine (joined_one _ L B w hx hBw (by omega)).mono ?_
  rintro e w1 ⟨z, rfl, hown0, hb1⟩
  have HOW0 := Lib.hid hown0
  have HB1 := Lib.hid hb1
  clear hown0 hb1
  go_wp2
  go_loopw [1, 6] (fun nv zv wr => NumRelR w L N nv zv wr) (fun nv _ _ => (intOf1 nv).toNat)
  case atStart => exact ⟨N, [], rfl, HN.out, by simp [Hid], by simpa using HOW0.out, HB1.out⟩
  case round =>
    obtain ⟨m, E, rfl, hm, HE, hown, hbw⟩ := hrel
    have hE9 : E.length + 1 ≤ 9 := by
      have h1 := congrArg List.length HE.out
      rw [List.length_append] at h1
      have h2 := enc7_len9 HN.out
      have h3 := enc7_pos m
      omega
    have hszw := hbw.size
    by_cases h128 : m < 128
    · have hmi : IntKind.u8.wrap (m : Int) = (m : Int) := by rw [IntKind.wrap_u8]; omega
      have OC : RB (wr.alloc (.cells #[.int .u8 (m : Int)] 5)) (wr.heap.size + 1) (.slice (some ⟨wr.heap.size, 0, none⟩) 1 1) [m] := rb_one wr _ m
      go_wp2_with (at_builtin
                   refine wpList_append_bytes rfl (.tmp 27) (.tmp 30) rfl w.heap.size (wr.heap.size + 1) _ _ (L ++ E) rfl (hown.alloc _) _ [m] rfl OC (by simp; omega) (by simp; omega) ?_)
      intro v3 w3 hown3 hg3
      go_wp2
      go_ret2
      refine ⟨_, rfl, ?_, grown_below' (hbw.alloc hbw.size _) hg3 (ownBlock_ge hown)⟩
      have e : L ++ enc7 N = L ++ (E ++ [m]) := by rw [HE.out, enc7_small h128]
      have hl : (L ++ (E ++ [m])).length = L.length + E.length + 1 := by simp; omega
      rw [e, hl]
      exact hown3
    · obtain ⟨x, hxe⟩ : ∃ x, x = m % 128 + 128 := ⟨_, rfl⟩
      have hmi : (m : Int) % 128 + 128 = (x : Int) := by omega
      have hx256 : x < 256 := by omega
      have HXE := Lib.hid hxe
      clear hxe
      have OC : RB (wr.alloc (.cells #[.int .u8 (x : Int)] 5)) (wr.heap.size + 1) (.slice (some ⟨wr.heap.size, 0, none⟩) 1 1) [x] := rb_one wr _ _
      have h128i : (128 : Int) ≤ (m : Int) := by omega
      go_wp2_with (at_builtin
                   refine wpList_append_bytes rfl (.tmp 18) (.tmp 23) rfl w.heap.size (wr.heap.size + 1) _ _ (L ++ E) rfl (hown.alloc _) _ [x] rfl OC (by simp; omega) (by simp; omega) ?_)
      intro v3 w3 hown3 hg3
      go_wp2
      go_roundw
      case rel =>
        refine ⟨m / 128, E ++ [x], by go_num, by omega, ?_, ?_, grown_below' (hbw.alloc hbw.size _) hg3 (ownBlock_ge hown)⟩
        · show enc7 N = _
          rw [HE.out, enc7_big h128, List.append_assoc, HXE.out]; rfl
        · rw [show L.length + (E ++ [x]).length = L.length + E.length + 1 from by simp; omega]
          exact hown3
      case measure => simp [intOf1]; omega
theorem refNumber_bad (N : Int) (hN : N < 0 ∨ 4611686018427387903 < N) (A : Option Addr) (n c : Nat) (w : World) :
    Calls Try.prog 39 #[.slice A n c, .int .i64 N] w fun e w' => e = .returned (.tuple #[.slice none 0 0, .int .i64 2]) ∧ w = w' := by
  rcases hN with h | h
  · go_enter Try.func39, Try.ntmps39
    go_wp2
    go_ret2
    exact ⟨rfl, rfl⟩
  · have h0 : ¬ N < 0 := by omega
    go_enter Try.func39, Try.ntmps39
    go_wp2
    go_ret2
    exact ⟨rfl, rfl⟩
end Go.Proofs.Ytkakbeiehggkiaa
