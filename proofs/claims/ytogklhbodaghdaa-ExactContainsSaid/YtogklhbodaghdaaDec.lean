/-
  The text of a number of one digit.
-/
import Derived.Test.YtogklhbodaghdaaDivw
import Derived.Test.YtogklhbodaghdaaSmall
import Derived.Test.YtogklhbodaghdaaUnpack
import Derived.Laws.IdiomStrings
namespace Go.Proofs.Ytogklhbodaghdaa
open Go.RowKit

theorem info8 : (Try.prog.info? 5).map (fun i => (i.zero, i.size, i.bytes)) = some (some (.int .u8 0), 1, 1) := by kernel_rfl

/-- The first k digits of m, the least significant one first. -/
def dgs (m : Nat) : Nat → List Nat
  | 0 => []
  | k + 1 => dgs m k ++ [48 + m / 10 ^ k % 10]
theorem dgs_len (m k : Nat) : (dgs m k).length = k := by
  induction k with
  | zero => rfl
  | succ k ih => unfold dgs; simp [ih]
def u8s (xs : List Nat) : List Value := xs.map (fun (x : Nat) => Value.int .u8 (x : Int))

theorem one_one (a : Int) : ∀ u ∈ [Value.int .u8 a], u.oneCell' = true := by
  intro u hu
  simp at hu
  subst hu
  rfl
theorem cell_one (w : World) (a : Value) (t : TypeId) : ∀ j u, [a][j]? = some u → (w.alloc (.cells #[a] t)).cell? ((⟨w.heap.size, 0, none⟩ : Addr).add j) = some u := by
  intro j u hu
  match j, hu with
  | 0, hu =>
    simp at hu
    subst hu
    rw [add_none, World.cell?_alloc_at _ _ _ _ rfl]
    rfl

theorem dgs_get (m : Nat) : ∀ k i, i < k → (dgs m k)[i]? = some (48 + m / 10 ^ i % 10)
  | 0, i, h => absurd h (by omega)
  | k + 1, i, h => by
    unfold dgs
    by_cases e : i = k
    · subst e
      rw [List.getElem?_append_right (by rw [dgs_len]; exact Nat.le_refl _), dgs_len, Nat.sub_self]
      rfl
    · rw [List.getElem?_append_left (by rw [dgs_len]; omega)]
      exact dgs_get m k i (by omega)

theorem reverse_one (A : Option Addr) (c : Nat) (w : World) : Calls Try.prog 52 #[.slice A 1 c] w fun e w' => e = .returned (.tuple #[]) ∧ w = w' := by
  go_enter Try.func52, Try.ntmps52
  go_wp2
  go_loopw [2, 3] (fun i j wr => i = .int .i64 0 ∧ j = .int .i64 0 ∧ w = wr) (fun _ _ _ => 0)
  case atStart => exact ⟨rfl, rfl, rfl⟩
  case round =>
    obtain ⟨rfl, rfl, rfl⟩ := hrel
    go_wp2
    go_end0
    exact ⟨rfl, rfl⟩

def StripRel (wr0 : World) (g cap : Nat) (d : Value) (wr : World) : Prop :=
  ∃ j, 1 ≤ j ∧ j ≤ 19 ∧ d = .slice (some ⟨g, 0, none⟩) j cap ∧ wr0 = wr

def InnerRel (w0 : World) (m : Nat) (wv d i : Value) (wr : World) : Prop :=
  ∃ k, k ≤ 19 ∧ i = .int .i64 (k : Nat) ∧ wv = .int .u64 (m / 10 ^ k : Nat) ∧ wr.ownsRow w0.heap.size 5 1 d k (u8s (dgs m k)) ∧ Below w0.heap.size w0 wr

def OuterRel (w : World) (m : Nat) (A : Option Addr) (n c : Nat) (x d : Value) (wr : World) : Prop :=
  (x = .slice A n c ∧ d = .slice none 0 0 ∧ w = wr) ∨ (∃ A' c' dv, x = .slice A' 0 c' ∧ dv = d ∧ wr.ownsRow w.heap.size 5 1 dv 19 (u8s (dgs m 19)) ∧ Below w.heap.size w wr)

def lenOf : Value → Nat
  | .slice _ n _ => n
  | _ => 0

set_option maxRecDepth 100000 in
set_option maxHeartbeats 2000000 in
theorem decimal_digit (m : Nat) (h1 : 1 ≤ m) (h9 : m ≤ 9) (A : Option Addr) (n c : Nat) (B : Nat) (w : World) (hx : RW .u64 w B (.slice A n c) (words m)) (hB : B ≤ w.heap.size) :
    Calls Try.prog 40 #[.slice A n c] w fun e w' => e = .returned (.string ⟨#[UInt8.ofNat (48 + m)]⟩) ∧ Below w.heap.size w w' := by
  obtain ⟨bb, hbb⟩ : ∃ bb : UInt8, bb = UInt8.ofNat (48 + m) := ⟨_, rfl⟩
  rw [← hbb]
  have HBB := Lib.hid hbb
  clear hbb
  obtain ⟨i0, hi0, hz0, hz1, hz2⟩ := info_parts info8
  have hmB : m < B64 := by unfold B64; omega
  have hn1 : n = 1 := by rw [hx.len]; exact words_len_one.2 ⟨by omega, hmB⟩
  subst hn1
  go_enter Try.func40, Try.ntmps40
  go_wp2
  go_loopw [0, 3] (fun x d wr => OuterRel w m A 1 c x d wr) (fun x _ _ => lenOf x)
  case atStart => exact Or.inl ⟨rfl, rfl, rfl⟩
  case round =>
    rcases hrel with ⟨rfl, rfl, rfl⟩ | ⟨A', c', d, rfl, rfl, hown, hbr⟩
    · go_wp2_with fail
      refine (divideWord_any A 1 c 10000000000000000000 (words m) B _ (by exact hx) (by exact hB) (words_ok m) (by omega) (by omega) (fun k hk => by rw [drop_hi hk hmB]; exact div64_zero _ _ (by omega) (nth_ok (words_ok m) k))).mono ?_
      rintro e w1 ⟨A1, n1, c1, rfl, h3, hb1⟩
      have hq : m / 10000000000000000000 = 0 := Nat.div_eq_of_lt (by omega)
      have hr : m % 10000000000000000000 = m := Nat.mod_eq_of_lt (by omega)
      rw [val_words, hq, words_zero] at h3
      rw [val_words, hr]
      have hn0 : n1 = 0 := h3.len
      subst hn0
      clear hq hr
      go_wp2
      go_loopw [3, 4, 16] (fun d wv i wr => InnerRel w m wv d i wr) (fun _ _ i _ => 19 - (intOf i).toNat)
      case atStart => exact ⟨0, by omega, rfl, by simp, World.ownsRow_nil _ _ _ _, hb1⟩
      case round =>
        obtain ⟨k, hk, rfl, rfl, hown, hbr⟩ := hrel
        by_cases hlt : k < 19
        · obtain ⟨t, ht⟩ : ∃ t, t = m / 10 ^ k := ⟨_, rfl⟩
          have ht9 : t ≤ 9 := by rw [ht]; exact Nat.le_trans (Nat.div_le_self _ _) h9
          rw [← ht]
          have HT := Lib.hid ht
          clear ht
          have e48 : (48 : Int) + (t : Int) % 10 = ((48 + t % 10 : Nat) : Int) := by omega
          have E48 := Lib.hid e48
          clear e48
          go_wp2_with (at_builtin
                       go_must (refine wpList_append_own _ rfl (.tmp 18) (.tmp 23) _ rfl w.heap.size 5 i0 (.int .u8 0) 1 1 Try.underlying90 hi0 hz0 hz1 hz2 rfl (by decide) _ _ _ rfl (hown.alloc _) ⟨wr.heap.size, 0, none⟩ 1 1 [.int .u8 (48 + (t : Int) % 10)] rfl rfl (cell_one _ _ _) (one_one _) (by unfold maxLen; omega) (by omega) (by have := hbr.size; simp; omega) ?_)
                       intro v' w2 hown2 hg2 _
                       have hb2 : Below w.heap.size w w2 := (hbr.alloc hbr.size _).grown hg2 (by have := hbr.size; simp; omega) (fun q hq => (hown.lt q hq).1)
                       clear hg2)
          go_roundw
          case rel =>
            refine ⟨k + 1, by omega, by go_num, ?_, ?_, hb2⟩
            · have e2 : m / 10 ^ (k + 1) = m / 10 ^ k / 10 := by rw [Nat.pow_succ, Nat.div_div_eq_div_mul]
              rw [HT.out, e2]
              rfl
            · have e : u8s (dgs m (k + 1)) = u8s (dgs m k) ++ [.int .u8 (48 + (t : Int) % 10)] := by
                rw [E48.out, HT.out]
                simp [u8s, dgs]
              rw [e]
              exact hown2
          case measure => simp [intOf] <;> omega
        · have hk19 : k = 19 := by omega
          subst hk19
          go_wp2
          go_roundw
          case rel => exact Or.inr ⟨_, _, _, rfl, rfl, hown, hbr⟩
          case measure => simp [lenOf]
    · obtain ⟨g, cap, cur, hv, hgw, hh, hc19, hcm, hcs, hct⟩ : ∃ g cap cur, d = .slice (some ⟨g, 0, none⟩) 19 cap ∧ w.heap.size ≤ g ∧ wr.heap[g]? = some (.cells cur 5 (0, 0)) ∧ 19 ≤ cap ∧ cap ≤ maxLen ∧ cur.size = cap * 1 ∧ cur.toList.take (19 * 1) = u8s (dgs m 19) := by
        rcases hown.2 with ⟨_, h⟩ | h
        · omega
        · exact h
      subst hv
      have hcell : ∀ i, i < 19 → wr.cell? ⟨g, i, none⟩ = some (.int .u8 (48 + m / 10 ^ i % 10 : Nat)) := by
        intro i hi
        rw [hown.cellAt i (by omega)]
        unfold u8s
        rw [List.getElem?_map, dgs_get m 19 i hi]
        rfl
      have hcell0 : wr.cell? ⟨g, 0, none⟩ = some (.int .u8 (48 + m : Nat)) := by
        have := hcell 0 (by omega)
        rw [Nat.pow_zero, Nat.div_one, Nat.mod_eq_of_lt (by omega)] at this
        exact this
      have hcellS : ∀ i, i < 18 → wr.cell? ⟨g, i + 1, none⟩ = some (.int .u8 48) := by
        intro i hi
        have := hcell (i + 1) (by omega)
        rw [Nat.div_eq_of_lt (Nat.lt_of_lt_of_le (by omega : m < 10 ^ 1) (Nat.pow_le_pow_right (by omega) (by omega)))] at this
        exact this
      have HC := Lib.hid (And.intro hcell0 hcellS)
      have hconv : (convert 90 9 (.slice (some ⟨g, 0, none⟩) 1 cap)).run Try.prog wr = .ok (.string ⟨#[bb]⟩) wr := by
        refine run_convert_bytes_back (P := Try.prog) wr 90 9 5 ⟨g, 0, none⟩ cap [bb] Try.underlying90 Try.underlying5 Try.underlying9 ?_
        intro j hj
        have hj0 : j = 0 := by simpa using hj
        subst hj0
        rw [add_none, hcell0]
        have : bb.toNat = 48 + m := by
          rw [HBB.out, UInt8.toNat_ofNat']; omega
        show _ = some (Value.int .u8 (bb.toNat : Int))
        rw [this]
      clear hcell hcell0 hcellS hh hct hcs cur hcm
      go_wp2
      go_loopw [3] (fun d' wr' => StripRel wr g cap d' wr') (fun d' _ => lenOf d')
      case atStart => exact ⟨19, by omega, by omega, rfl, rfl⟩
      case round =>
        obtain ⟨j, hj1, hj2, rfl, rfl⟩ := hrel
        by_cases hj : j = 1
        · subst hj
          have hc0 := HC.out.1
          have hne : (((48 + m : Nat) : Int) == 48) = false := by rw [beq_eq_false_iff_ne]; omega
          go_wp2_with (go_at_call 52; refine (reverse_one _ _ _).mono ?_; rintro e w' ⟨rfl, rfl⟩)
          go_ret
          exact ⟨rfl, hbr⟩
        · obtain ⟨i, rfl⟩ : ∃ i, j = i + 2 := ⟨j - 2, by omega⟩
          have hc0 := HC.out.2 i (by omega)
          go_wp2
          go_roundw
          case rel => exact ⟨i + 1, by omega, by omega, by simp, rfl⟩
          case measure => simp [lenOf]
end Go.Proofs.Ytogklhbodaghdaa
