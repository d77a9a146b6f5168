/-
  A number's words of 32 bits, without most significant words 0.
  The text of a number of one digit.
-/
import Derived.Test.YtdpmfenikomfkaaGreatE17
import Derived.WalkSmall
import Derived.Test.YtdpmfenikomfkaaGreatE16
import Derived.Laws.IdiomStrings
namespace Go.Proofs.YtdpmfenikomfkaaGreat
open Go.RowKit

/-- A number of u32 words is handed back. -/
def RetU (w : World) (m : Nat) (e : Ending) (w' : World) : Prop :=
  ∃ A n c, e = .returned (.slice A n c) ∧ RW .u32 w' w'.heap.size (.slice A n c) (words32 m) ∧ Below w.heap.size w w'

def halves : List Nat → List Nat
  | [] => []
  | x :: xs => x % 4294967296 :: x / 4294967296 :: halves xs
theorem halves_len : ∀ xs, (halves xs).length = 2 * xs.length
  | [] => rfl
  | x :: xs => by unfold halves; simp [halves_len xs]; omega
theorem halves_val : ∀ xs, val32 (halves xs) = val xs
  | [] => rfl
  | x :: xs => by
    unfold halves
    rw [val32_cons, val32_cons, halves_val xs, val_cons]
    unfold B32 B64
    omega
theorem halves_ok : ∀ xs, AllOk xs → AllOk32 (halves xs)
  | [], _ => AllOk32.nil
  | x :: xs, h => by
    obtain ⟨hx, hxs⟩ := h.cons
    intro y hy
    unfold halves at hy
    unfold B64 at hx
    unfold B32
    rcases List.mem_cons.1 hy with rfl | hy
    · omega
    · rcases List.mem_cons.1 hy with rfl | hy
      · omega
      · exact halves_ok xs hxs y hy
theorem halves_cons (x : Nat) (xs : List Nat) : halves (x :: xs) = x % 4294967296 :: x / 4294967296 :: halves xs := rfl
theorem halves_append : ∀ xs ys, halves (xs ++ ys) = halves xs ++ halves ys
  | [], ys => rfl
  | x :: xs, ys => by
    rw [List.cons_append, halves_cons, halves_cons, halves_append xs ys]
    rfl
theorem halves_succ (xs : List Nat) (k : Nat) (h : k < xs.length) : halves (xs.take (k + 1)) = halves (xs.take k) ++ [nth xs k % 4294967296, nth xs k / 4294967296] := by
  rw [List.take_succ_eq_append_getElem h, halves_append, nth_lt h]
  rfl

theorem info32 : (Tryz.prog.info? 98).map (fun i => (i.zero, i.size, i.bytes)) = some (some (.int .u32 0), 1, 4) := by kernel_rfl

def u32s (xs : List Nat) : List Value := xs.map (fun (x : Nat) => Value.int .u32 (x : Int))
theorem u32s_one (xs : List Nat) : ∀ u ∈ u32s xs, u.oneCell' = true := by
  intro u hu
  obtain ⟨y, _, rfl⟩ := List.mem_map.1 hu
  rfl

theorem RW.of_own {k : IntKind} {w : World} {base : Nat} {e : TypeId} {A : Option Addr} {n c : Nat} {xs : List Nat} (h : w.ownsRow base e 1 (.slice A n c) n (xs.map (fun (x : Nat) => Value.int k (x : Int)))) : RW k w w.heap.size (.slice A n c) xs := by
  have hl : xs.length = n := by simpa using h.1
  rcases h.2 with ⟨h1, h2⟩ | ⟨g, cap, cur, h1, h2, h3, h4, h5, h6, h7⟩
  · injection h1 with h1 h8 h9
    subst h1 h8 h9
    have : xs = [] := List.eq_nil_of_length_eq_zero hl
    subst this
    exact RW.nil_
  · injection h1 with h1 _ h9
    subst h1 h9
    refine RW.mk hl.symm h4 h5 (fun hn => ⟨g, 0, rfl, ?_, fun j hj => ?_⟩)
    · exact (h.lt g rfl).2
    · rw [Nat.zero_add, h.cellAt j (by omega), List.getElem?_map, List.getElem?_eq_getElem (by omega), nth_lt (by omega)]
      rfl

theorem two_one (a b : Int) : ∀ u ∈ [Value.int .u32 a, Value.int .u32 b], u.oneCell' = true := by
  intro u hu
  simp at hu
  rcases hu with rfl | rfl <;> rfl

def UnpackRel (w : World) (xs : List Nat) (n : Nat) (v i : Value) (wr : World) : Prop :=
  ∃ k, k ≤ n ∧ i = .int .i64 (k : Nat) ∧ v = .slice (some ⟨w.heap.size, 0, none⟩) (2 * k) (2 * n) ∧ wr.ownsRow w.heap.size 98 1 (.slice (some ⟨w.heap.size, 0, none⟩) (2 * k) (2 * n)) (2 * k) (u32s (halves (xs.take k))) ∧ Below w.heap.size w wr

set_option maxRecDepth 100000 in
set_option maxHeartbeats 400000 in
theorem unpack_any (A : Option Addr) (n c : Nat) (xs : List Nat) (hok : AllOk xs) (B : Nat) (w : World) (h : RW .u64 w B (.slice A n c) xs) (hB : B ≤ w.heap.size) (hn : n ≤ 1048576) :
    Calls Tryz.prog 84 #[.slice A n c] w (RetU w (val xs)) := by
  obtain ⟨i0, hi0, hz0, hz1, hz2⟩ := info_parts info32
  have hl := Lib.hid h.len
  by_cases h0 : n = 0
  · subst h0
    have hx : xs = [] := List.eq_nil_of_length_eq_zero hl.out.symm
    have HX := Lib.hid hx
    clear hx
    go_enter Tryz.func84, Tryz.ntmps84
    go_wp2
    go_ret
    refine ⟨_, _, _, rfl, ?_, Below.refl _ _⟩
    rw [HX.out, val_nil, words32_zero]
    exact RW.nil_
  · have hb0 : ((n : Int) == 0) = false := by rw [beq_eq_false_iff_ne]; omega
    go_enter Tryz.func84, Tryz.ntmps84
    go_wp2_with (at_make
                 refine wpList_make_own _ rfl (.const (.int .i64 0)) (.tmp 11) _ rfl w.heap.size 98 i0 _ 1 Tryz.underlying46 hi0 hz0 hz1 .i64 .i64 _ (2 * n) rfl rfl (by omega) (by rw [hz2]; omega) (by unfold maxLen; omega) (Nat.le_refl _) ?_
                 intro w1 hown hg1
                 have hb1 : Below w.heap.size w w1 := (Below.refl _ _).grown hg1 (Nat.le_refl _) (by simp)
                 clear hg1)
    go_loopw [3, 15] (fun v i wr => UnpackRel w xs n v i wr) (fun _ i _ => n - (intOf i).toNat)
    case atStart => exact ⟨0, Nat.zero_le _, rfl, rfl, hown, hb1⟩
    case round =>
      obtain ⟨k, hk, rfl, rfl, hr, hbr⟩ := hrel
      by_cases hlt : k < n
      · obtain ⟨b, o, rfl, hb, hcell⟩ := h.at_ (by omega)
        have hx : wr.cell? ⟨b, o + k, none⟩ = some (.int .u64 (nth xs k : Nat)) := by rw [hbr.cell (by show b < _; omega)]; exact hcell _ (by omega)
        clear hcell
        have E : u32s (halves (xs.take (k + 1))) = u32s (halves (xs.take k)) ++ [.int .u32 (↑(nth xs k) % 4294967296), .int .u32 (↑(nth xs k) / 4294967296 % 4294967296)] := by
          rw [halves_succ xs k (by rw [← hl.out]; exact hlt)]
          have hx64 : nth xs k < 18446744073709551616 := nth_ok hok k
          have e2 : ((nth xs k : Nat) : Int) / 4294967296 % 4294967296 = ((nth xs k / 4294967296 : Nat) : Int) := by omega
          rw [e2]
          simp [u32s]
        have HE := Lib.hid E
        clear E
        go_wp2_with (at_builtin
                     go_must (refine wpList_append_fits _ rfl (.tmp 19) (.tmp 25) _ rfl w.heap.size 98 i0 1 Tryz.underlying46 hi0 hz1 w.heap.size (2 * k) (2 * n) _ rfl (hr.alloc _) ⟨wr.heap.size, 0, none⟩ 2 2 [.int .u32 (↑(nth xs k) % 4294967296), .int .u32 (↑(nth xs k) / 4294967296 % 4294967296)] rfl rfl (cell_two_new _ _ _ _) (two_one _ _) (by omega) ?_)
                     intro w2 hown2 hg2
                     have hb2 : Below w.heap.size w w2 := (hbr.alloc hbr.size _).grown hg2 (by have := hbr.size; simp; omega) (by intro g h; injection h with h; omega)
                     clear hg2)
        go_roundw
        case rel =>
          refine ⟨k + 1, by omega, by go_num, rfl, ?_, hb2⟩
          rw [HE.out]
          exact hown2
        case measure => simp [intOf]; omega
      · have hkn : k = n := by omega
        have HKN := Lib.hid hkn
        clear hkn
        have hr2 := RW.of_own (k := .u32) hr
        have hc : 2 * n ≤ maxLen := hr2.cap.2
        have htop : top (halves (xs.take k)) ≤ 2 * k := by rw [hr2.len]; exact top_le _
        go_wp2_with (go_at_call 65; refine (words32_any _ _ _ _ _ _ hr2).mono ?_; rintro e w' ⟨rfl, rfl⟩)
        go_ret
        have hh : halves (xs.take k) = halves xs := by rw [List.take_of_length_le (by rw [← hl.out]; omega)]
        have h3 := (hr2.take htop)
        rw [hh, take_top32 _ (halves_ok xs hok), halves_val] at h3
        rw [hh]
        exact ⟨_, _, _, rfl, h3, hbr⟩
end Go.Proofs.YtdpmfenikomfkaaGreat

namespace Go.Proofs.YtdpmfenikomfkaaGreat
open Go.RowKit

theorem info8 : (Tryz.prog.info? 5).map (fun i => (i.zero, i.size, i.bytes)) = some (some (.int .u8 0), 1, 1) := by kernel_rfl

/-- The first k digits of m, the least significant one first. -/
def dgs (m : Nat) : Nat → List Nat
  | 0 => []
  | k + 1 => dgs m k ++ [48 + m / 10 ^ k % 10]
theorem dgs_len (m k : Nat) : (dgs m k).length = k := by
  induction k with
  | zero => rfl
  | succ k ih => unfold dgs; simp [ih]
def u8s (xs : List Nat) : List Value := xs.map (fun (x : Nat) => Value.int .u8 (x : Int))

theorem one_one (a : Int) : ∀ u ∈ [Value.int .u8 a], u.oneCell' = true := by
  intro u hu
  simp at hu
  subst hu
  rfl
theorem cell_one (w : World) (a : Value) (t : TypeId) : ∀ j u, [a][j]? = some u → (w.alloc (.cells #[a] t)).cell? ((⟨w.heap.size, 0, none⟩ : Addr).add j) = some u := by
  intro j u hu
  match j, hu with
  | 0, hu =>
    simp at hu
    subst hu
    rw [add_none, World.cell?_alloc_at _ _ _ _ rfl]
    rfl

theorem dgs_get (m : Nat) : ∀ k i, i < k → (dgs m k)[i]? = some (48 + m / 10 ^ i % 10)
  | 0, i, h => absurd h (by omega)
  | k + 1, i, h => by
    unfold dgs
    by_cases e : i = k
    · subst e
      rw [List.getElem?_append_right (by rw [dgs_len]; exact Nat.le_refl _), dgs_len, Nat.sub_self]
      rfl
    · rw [List.getElem?_append_left (by rw [dgs_len]; omega)]
      exact dgs_get m k i (by omega)

theorem reverse_one (A : Option Addr) (c : Nat) (w : World) : Calls Tryz.prog 81 #[.slice A 1 c] w fun e w' => e = .returned (.tuple #[]) ∧ w = w' := by
  go_enter Tryz.func81, Tryz.ntmps81
  go_wp2
  go_loopw [2, 3] (fun i j wr => i = .int .i64 0 ∧ j = .int .i64 0 ∧ w = wr) (fun _ _ _ => 0)
  case atStart => exact ⟨rfl, rfl, rfl⟩
  case round =>
    obtain ⟨rfl, rfl, rfl⟩ := hrel
    go_wp2
    go_end0
    exact ⟨rfl, rfl⟩

def StripRel (wr0 : World) (g cap : Nat) (d : Value) (wr : World) : Prop :=
  ∃ j, 1 ≤ j ∧ j ≤ 19 ∧ d = .slice (some ⟨g, 0, none⟩) j cap ∧ wr0 = wr

def InnerRel (w0 : World) (m : Nat) (wv d i : Value) (wr : World) : Prop :=
  ∃ k, k ≤ 19 ∧ i = .int .i64 (k : Nat) ∧ wv = .int .u64 (m / 10 ^ k : Nat) ∧ wr.ownsRow w0.heap.size 5 1 d k (u8s (dgs m k)) ∧ Below w0.heap.size w0 wr

def OuterRel (w : World) (m : Nat) (A : Option Addr) (n c : Nat) (x d : Value) (wr : World) : Prop :=
  (x = .slice A n c ∧ d = .slice none 0 0 ∧ w = wr) ∨ (∃ A' c' dv, x = .slice A' 0 c' ∧ dv = d ∧ wr.ownsRow w.heap.size 5 1 dv 19 (u8s (dgs m 19)) ∧ Below w.heap.size w wr)

def lenOf : Value → Nat
  | .slice _ n _ => n
  | _ => 0

set_option maxRecDepth 100000 in
set_option maxHeartbeats 2000000 in
theorem decimal_digit (m : Nat) (h1 : 1 ≤ m) (h9 : m ≤ 9) (A : Option Addr) (n c : Nat) (B : Nat) (w : World) (hx : RW .u64 w B (.slice A n c) (words m)) (hB : B ≤ w.heap.size) :
    Calls Tryz.prog 68 #[.slice A n c] w fun e w' => e = .returned (.string ⟨#[UInt8.ofNat (48 + m)]⟩) ∧ Below w.heap.size w w' := by
  obtain ⟨bb, hbb⟩ : ∃ bb : UInt8, bb = UInt8.ofNat (48 + m) := ⟨_, rfl⟩
  rw [← hbb]
  have HBB := Lib.hid hbb
  clear hbb
  obtain ⟨i0, hi0, hz0, hz1, hz2⟩ := info_parts info8
  have hmB : m < B64 := by unfold B64; omega
  have hn1 : n = 1 := by rw [hx.len]; exact words_len_one.2 ⟨by omega, hmB⟩
  subst hn1
  go_enter Tryz.func68, Tryz.ntmps68
  go_wp2
  go_loopw [0, 3] (fun x d wr => OuterRel w m A 1 c x d wr) (fun x _ _ => lenOf x)
  case atStart => exact Or.inl ⟨rfl, rfl, rfl⟩
  case round =>
    rcases hrel with ⟨rfl, rfl, rfl⟩ | ⟨A', c', d, rfl, rfl, hown, hbr⟩
    · go_wp2_with fail
      refine (divideWord_any A 1 c 10000000000000000000 (words m) B _ (by exact hx) (by exact hB) (words_ok m) (by omega) (by omega) (fun k hk => by rw [drop_hi hk hmB]; exact div64_zero _ _ (by omega) (nth_ok (words_ok m) k))).mono ?_
      rintro e w1 ⟨A1, n1, c1, rfl, h3, hb1⟩
      have hq : m / 10000000000000000000 = 0 := Nat.div_eq_of_lt (by omega)
      have hr : m % 10000000000000000000 = m := Nat.mod_eq_of_lt (by omega)
      rw [val_words, hq, words_zero] at h3
      rw [val_words, hr]
      have hn0 : n1 = 0 := h3.len
      subst hn0
      clear hq hr
      go_wp2
      go_loopw [3, 4, 16] (fun d wv i wr => InnerRel w m wv d i wr) (fun _ _ i _ => 19 - (intOf i).toNat)
      case atStart => exact ⟨0, by omega, rfl, by simp, World.ownsRow_nil _ _ _ _, hb1⟩
      case round =>
        obtain ⟨k, hk, rfl, rfl, hown, hbr⟩ := hrel
        by_cases hlt : k < 19
        · obtain ⟨t, ht⟩ : ∃ t, t = m / 10 ^ k := ⟨_, rfl⟩
          have ht9 : t ≤ 9 := by rw [ht]; exact Nat.le_trans (Nat.div_le_self _ _) h9
          rw [← ht]
          have HT := Lib.hid ht
          clear ht
          have e48 : (48 : Int) + (t : Int) % 10 = ((48 + t % 10 : Nat) : Int) := by omega
          have E48 := Lib.hid e48
          clear e48
          go_wp2_with (at_builtin
                       go_must (refine wpList_append_own _ rfl (.tmp 18) (.tmp 23) _ rfl w.heap.size 5 i0 (.int .u8 0) 1 1 Tryz.underlying112 hi0 hz0 hz1 hz2 rfl (by decide) _ _ _ rfl (hown.alloc _) ⟨wr.heap.size, 0, none⟩ 1 1 [.int .u8 (48 + (t : Int) % 10)] rfl rfl (cell_one _ _ _) (one_one _) (by unfold maxLen; omega) (by omega) (by have := hbr.size; simp; omega) ?_)
                       intro v' w2 hown2 hg2 _
                       have hb2 : Below w.heap.size w w2 := (hbr.alloc hbr.size _).grown hg2 (by have := hbr.size; simp; omega) (fun q hq => (hown.lt q hq).1)
                       clear hg2)
          go_roundw
          case rel =>
            refine ⟨k + 1, by omega, by go_num, ?_, ?_, hb2⟩
            · have e2 : m / 10 ^ (k + 1) = m / 10 ^ k / 10 := by rw [Nat.pow_succ, Nat.div_div_eq_div_mul]
              rw [HT.out, e2]
              rfl
            · have e : u8s (dgs m (k + 1)) = u8s (dgs m k) ++ [.int .u8 (48 + (t : Int) % 10)] := by
                rw [E48.out, HT.out]
                simp [u8s, dgs]
              rw [e]
              exact hown2
          case measure => simp [intOf] <;> omega
        · have hk19 : k = 19 := by omega
          subst hk19
          go_wp2
          go_roundw
          case rel => exact Or.inr ⟨_, _, _, rfl, rfl, hown, hbr⟩
          case measure => simp [lenOf]
    · obtain ⟨g, cap, cur, hv, hgw, hh, hc19, hcm, hcs, hct⟩ : ∃ g cap cur, d = .slice (some ⟨g, 0, none⟩) 19 cap ∧ w.heap.size ≤ g ∧ wr.heap[g]? = some (.cells cur 5 (0, 0)) ∧ 19 ≤ cap ∧ cap ≤ maxLen ∧ cur.size = cap * 1 ∧ cur.toList.take (19 * 1) = u8s (dgs m 19) := by
        rcases hown.2 with ⟨_, h⟩ | h
        · omega
        · exact h
      subst hv
      have hcell : ∀ i, i < 19 → wr.cell? ⟨g, i, none⟩ = some (.int .u8 (48 + m / 10 ^ i % 10 : Nat)) := by
        intro i hi
        rw [hown.cellAt i (by omega)]
        unfold u8s
        rw [List.getElem?_map, dgs_get m 19 i hi]
        rfl
      have hcell0 : wr.cell? ⟨g, 0, none⟩ = some (.int .u8 (48 + m : Nat)) := by
        have := hcell 0 (by omega)
        rw [Nat.pow_zero, Nat.div_one, Nat.mod_eq_of_lt (by omega)] at this
        exact this
      have hcellS : ∀ i, i < 18 → wr.cell? ⟨g, i + 1, none⟩ = some (.int .u8 48) := by
        intro i hi
        have := hcell (i + 1) (by omega)
        rw [Nat.div_eq_of_lt (Nat.lt_of_lt_of_le (by omega : m < 10 ^ 1) (Nat.pow_le_pow_right (by omega) (by omega)))] at this
        exact this
      have HC := Lib.hid (And.intro hcell0 hcellS)
      have hconv : (convert 112 9 (.slice (some ⟨g, 0, none⟩) 1 cap)).run Tryz.prog wr = .ok (.string ⟨#[bb]⟩) wr := by
        refine run_convert_bytes_back (P := Tryz.prog) wr 112 9 5 ⟨g, 0, none⟩ cap [bb] Tryz.underlying112 Tryz.underlying5 Tryz.underlying9 ?_
        intro j hj
        have hj0 : j = 0 := by simpa using hj
        subst hj0
        rw [add_none, hcell0]
        have : bb.toNat = 48 + m := by
          rw [HBB.out, UInt8.toNat_ofNat']; omega
        show _ = some (Value.int .u8 (bb.toNat : Int))
        rw [this]
      clear hcell hcell0 hcellS hh hct hcs cur hcm
      go_wp2
      go_loopw [3] (fun d' wr' => StripRel wr g cap d' wr') (fun d' _ => lenOf d')
      case atStart => exact ⟨19, by omega, by omega, rfl, rfl⟩
      case round =>
        obtain ⟨j, hj1, hj2, rfl, rfl⟩ := hrel
        by_cases hj : j = 1
        · subst hj
          have hc0 := HC.out.1
          have hne : (((48 + m : Nat) : Int) == 48) = false := by rw [beq_eq_false_iff_ne]; omega
          go_wp2_with (go_at_call 81; refine (reverse_one _ _ _).mono ?_; rintro e w' ⟨rfl, rfl⟩)
          go_ret
          exact ⟨rfl, hbr⟩
        · obtain ⟨i, rfl⟩ : ∃ i, j = i + 2 := ⟨j - 2, by omega⟩
          have hc0 := HC.out.2 i (by omega)
          go_wp2
          go_roundw
          case rel => exact ⟨i + 1, by omega, by omega, by simp, rfl⟩
          case measure => simp [lenOf]
end Go.Proofs.YtdpmfenikomfkaaGreat
