/-
  The functions on words: how many words a list has, copies, single words, comparison.
  The functions of math/bits that the words use: Add64, Sub64, Mul64.
  Sums and products of lists of words.
-/
import Derived.Test.YtdpmfenikomfkaaGreatProg
import Derived.Test.YtdpmfenikomfkaaGreatE02
import Derived.WalkKit
import Derived.WalkSpells
import Derived.Lib.Hide
import Derived.Laws.CopyOwn
import Derived.Test.YtdpmfenikomfkaaGreatE01
import Derived.Lib.Mul64
import Derived.Laws.Bits64b
import Derived.Laws.Externs
namespace Go.Proofs.YtdpmfenikomfkaaGreat
open Go.RowKit

set_option maxHeartbeats 400000 in
theorem words64_any (A : Option Addr) (n c : Nat) (xs : List Nat) (B : Nat) (w : World) (h : RW .u64 w B (.slice A n c) xs) :
    Calls Tryz.prog 85 #[.slice A n c] w fun e w' => e = .returned (.int .i64 (top xs)) ∧ w = w' := by
  have hl := Lib.hid h.len
  have hc := h.cap
  have hm : n ≤ 9223372036854775807 := by have := hc.2; unfold maxLen at this; omega
  go_enter Tryz.func85, Tryz.ntmps85
  go_wp2
  go_loop [3] (fun t => ∃ m : Nat, m ≤ n ∧ t = .int .i64 m ∧ ∀ j, m ≤ j → j < n → nth xs j = 0) (fun t => (intOf t).toNat)
  case atStart => exact ⟨n, Nat.le_refl _, rfl, fun j h1 h2 => absurd h1 (by omega)⟩
  case round =>
    obtain ⟨m, hmn, rfl, hz⟩ := hrel
    have Hz := Lib.hid hz
    clear hz
    by_cases h0 : m = 0
    · subst h0
      go_wp2
      go_ret
      rw [top_unique (m := 0) (fun j hj h => Hz.out j hj (by rw [hl.out]; exact h)) (fun h => absurd h (by omega))]
      exact ⟨rfl, rfl⟩
    · obtain ⟨b, o, rfl, hb, hcell⟩ := h.at_ (by omega)
      have hx := hcell (m - 1) (by omega)
      clear hcell
      by_cases hz : nth xs (m - 1) = 0
      · have hzb : (((nth xs (m - 1) : Nat) : Int) == 0) = true := by rw [hz]; rfl
        have HZ := Lib.hid hz
        clear hz
        go_wp2
        go_round
        case rel => exact ⟨m - 1, by omega, by go_num, fun j h1 h2 => by
          by_cases e : j = m - 1
          · subst e; exact HZ.out
          · exact Hz.out j (by omega) h2⟩
        case measure => simp [intOf]; omega
      · have hzb : (((nth xs (m - 1) : Nat) : Int) == 0) = false := by
          rw [beq_eq_false_iff_ne]; omega
        have HZ := Lib.hid hz
        clear hz
        go_wp2
        go_ret
        rw [top_unique (m := m) (fun j hj h => Hz.out j hj (by rw [hl.out]; exact h)) (fun _ => HZ.out)]
        exact ⟨rfl, rfl⟩

set_option maxHeartbeats 400000 in
theorem words32_any (A : Option Addr) (n c : Nat) (xs : List Nat) (B : Nat) (w : World) (h : RW .u32 w B (.slice A n c) xs) :
    Calls Tryz.prog 65 #[.slice A n c] w fun e w' => e = .returned (.int .i64 (top xs)) ∧ w = w' := by
  have hl := Lib.hid h.len
  have hc := h.cap
  have hm : n ≤ 9223372036854775807 := by have := hc.2; unfold maxLen at this; omega
  go_enter Tryz.func65, Tryz.ntmps65
  go_wp2
  go_loop [3] (fun t => ∃ m : Nat, m ≤ n ∧ t = .int .i64 m ∧ ∀ j, m ≤ j → j < n → nth xs j = 0) (fun t => (intOf t).toNat)
  case atStart => exact ⟨n, Nat.le_refl _, rfl, fun j h1 h2 => absurd h1 (by omega)⟩
  case round =>
    obtain ⟨m, hmn, rfl, hz⟩ := hrel
    have Hz := Lib.hid hz
    clear hz
    by_cases h0 : m = 0
    · subst h0
      go_wp2
      go_ret
      rw [top_unique (m := 0) (fun j hj h => Hz.out j hj (by rw [hl.out]; exact h)) (fun h => absurd h (by omega))]
      exact ⟨rfl, rfl⟩
    · obtain ⟨b, o, rfl, hb, hcell⟩ := h.at_ (by omega)
      have hx := hcell (m - 1) (by omega)
      clear hcell
      by_cases hz : nth xs (m - 1) = 0
      · have hzb : (((nth xs (m - 1) : Nat) : Int) == 0) = true := by rw [hz]; rfl
        have HZ := Lib.hid hz
        clear hz
        go_wp2
        go_round
        case rel => exact ⟨m - 1, by omega, by go_num, fun j h1 h2 => by
          by_cases e : j = m - 1
          · subst e; exact HZ.out
          · exact Hz.out j (by omega) h2⟩
        case measure => simp [intOf]; omega
      · have hzb : (((nth xs (m - 1) : Nat) : Int) == 0) = false := by
          rw [beq_eq_false_iff_ne]; omega
        have HZ := Lib.hid hz
        clear hz
        go_wp2
        go_ret
        rw [top_unique (m := m) (fun j hj h => Hz.out j hj (by rw [hl.out]; exact h)) (fun _ => HZ.out)]
        exact ⟨rfl, rfl⟩

/-- A number of u64 words in words is handed back in memory of any age; nothing that there was has turned. -/
def RetW (w : World) (m : Nat) (e : Ending) (w' : World) : Prop :=
  ∃ A n c, e = .returned (.slice A n c) ∧ RW .u64 w' w'.heap.size (.slice A n c) (words m) ∧ Below w.heap.size w w'

theorem trim_any (A : Option Addr) (n c : Nat) (xs : List Nat) (B : Nat) (w : World) (h : RW .u64 w B (.slice A n c) xs) :
    Calls Tryz.prog 76 #[.slice A n c] w fun e w' => e = .returned (.slice A (top xs) c) ∧ w = w' := by
  have hl := Lib.hid h.len
  have hc := h.cap
  have ht : top xs ≤ n := by rw [hl.out]; exact top_le xs
  have hm : n ≤ 9223372036854775807 := by have := hc.2; unfold maxLen at this; omega
  go_enter Tryz.func76, Tryz.ntmps76
  go_wp2_with (go_at_call 85; refine (words64_any A n c xs B _ h).mono ?_; rintro e w' ⟨rfl, rfl⟩)
  go_ret
  exact ⟨rfl, rfl⟩

theorem trim_words {A : Option Addr} {n c : Nat} {xs : List Nat} {B : Nat} {w : World} (h : RW .u64 w B (.slice A n c) xs) (hok : AllOk xs) :
    RW .u64 w B (.slice A (top xs) c) (words (val xs)) :=
  (h.take (by rw [h.len]; exact top_le xs)).of_eq (take_top xs hok)

theorem single_any (x : Nat) (hx : x < B64) (w : World) :
    Calls Tryz.prog 64 #[.int .u64 x] w (RetW w x) := by
  have hr : RW .u64 (w.alloc (.cells #[.int .u64 x] 65)) (w.heap.size + 1) (.slice (some ⟨w.heap.size, 0, none⟩) 1 1) [x] :=
    RW.of_row0 (post := []) (Row.one .u64 w 65 x) rfl (Nat.le_refl _) (by simp [maxLen]) (by omega)
  go_enter Tryz.func64, Tryz.ntmps64
  go_wp2_with (go_at_call 76; refine (trim_any _ _ _ [x] _ _ hr).mono ?_; rintro e w' ⟨rfl, rfl⟩)
  go_ret
  refine ⟨_, _, _, rfl, ?_, (Below.refl _ _).alloc (Nat.le_refl _) _⟩
  have ht := trim_words hr (fun y hy => by rw [List.mem_singleton.1 hy]; exact hx)
  rw [val_cons, val_nil, Nat.mul_zero, Nat.add_zero] at ht
  exact ht.more (by simp)

theorem isOne_yes (A : Option Addr) (n c : Nat) (B : Nat) (w : World) (h : RW .u64 w B (.slice A n c) (words 1)) :
    Calls Tryz.prog 77 #[.slice A n c] w fun e w' => e = .returned (.bool true) ∧ w = w' := by
  have h1 : words 1 = [1] := words_single (by omega) (by unfold B64; omega)
  rw [h1] at h
  obtain rfl := h.len
  obtain ⟨b, o, rfl, hb, hc⟩ := h.at_ (by simp)
  have hx : w.cell? ⟨b, o, none⟩ = some (.int .u64 1) := hc 0 (by simp)
  clear hc h1
  go_enter Tryz.func77, Tryz.ntmps77
  go_wp2
  go_ret
  exact ⟨rfl, rfl⟩

theorem isOne_no (m : Nat) (hm : m ≠ 1) (A : Option Addr) (n c : Nat) (B : Nat) (w : World) (h : RW .u64 w B (.slice A n c) (words m)) :
    Calls Tryz.prog 77 #[.slice A n c] w fun e w' => e = .returned (.bool false) ∧ w = w' := by
  by_cases hn : n = 1
  · subst hn
    have hl := h.len
    obtain ⟨h0, hlt⟩ := words_len_one.1 hl.symm
    obtain ⟨b, o, rfl, hb, hc⟩ := h.at_ (by omega)
    have hx : w.cell? ⟨b, o, none⟩ = some (.int .u64 (m : Nat)) := by
      have := hc 0 (by omega)
      rw [words_single h0 hlt] at this
      exact this
    have hbn : ((m : Int) == 1) = false := by rw [beq_eq_false_iff_ne]; omega
    clear hc hl h
    go_enter Tryz.func77, Tryz.ntmps77
    go_wp2
    go_ret
    exact ⟨rfl, rfl⟩
  · have hbn : ((n : Int) == 1) = false := by rw [beq_eq_false_iff_ne]; omega
    go_enter Tryz.func77, Tryz.ntmps77
    go_wp2
    go_ret
    exact ⟨rfl, rfl⟩

theorem info64 : (Tryz.prog.info? 65).map (fun i => (i.zero, i.size, i.bytes)) = some (some (.int .u64 0), 1, 8) := by kernel_rfl
theorem size64 : (Tryz.prog.info? 65).map (·.size) = some 1 := by kernel_rfl

/-- A new block with the words L; it is the first block that the call made. -/
def RetRow (w : World) (L : List Nat) (e : Ending) (w' : World) : Prop :=
  e = .returned (.slice (some ⟨w.heap.size, 0, none⟩) L.length L.length) ∧ Row .u64 w' w.heap.size 65 L ∧ Below w.heap.size w w'

theorem extended_any (A : Option Addr) (n c m : Nat) (xs : List Nat) (B : Nat) (w : World) (h : RW .u64 w B (.slice A n c) xs) (hB : B ≤ w.heap.size) (hnm : n ≤ m) (hm : m ≤ 4294967296) :
    Calls Tryz.prog 87 #[.slice A n c, .int .i64 m] w (RetRow w (xs ++ List.replicate (m - n) 0)) := by
  obtain ⟨i0, hi0, hz0, hz1, hz2⟩ := info_parts info64
  have hl := Lib.hid h.len
  go_enter Tryz.func87, Tryz.ntmps87
  go_wp2_with (at_make
               refine wpList_make_full _ rfl (.tmp 6) (.tmp 6) _ rfl w.heap.size 65 i0 _ 1 Tryz.underlying72 hi0 hz0 hz1 .i64 .i64 m m m rfl rfl rfl rfl (by rw [hz2]; omega) (by unfold maxLen; omega) (Nat.le_refl _) ?_
               intro w1 hown hg1
               have hb1 : Below w.heap.size w w1 := (Below.refl _ _).grown hg1 (Nat.le_refl _) (by simp)
               obtain ⟨w2, hrun, hrow, hb2⟩ := run_copy_words (P := Tryz.prog) (dT := 72) (sT := 72) (ty := 3) Tryz.underlying72 size64 (row_of_made hown) (h.belowM hb1 hB) hnm
               clear hown hg1)
  go_ret
  refine ⟨?_, hrow, hb1.trans hb2⟩
  have : (xs ++ List.replicate (m - n) 0).length = m := by
    rw [List.length_append, List.length_replicate, ← hl.out]; omega
  rw [this]
  rfl
end Go.Proofs.YtdpmfenikomfkaaGreat

namespace Go.Proofs.YtdpmfenikomfkaaGreat
open Go.RowKit

/-- Low and high word of a sum of three words; of a product; the difference and the borrow. -/
def addLo (x y c : Nat) : Nat := (x + y + c) % B64
def addHi (x y c : Nat) : Nat := (x + y + c) / B64
def subLo (x y b : Nat) : Nat := (x + B64 - y - b) % B64
def subHi (x y b : Nat) : Nat := if x < y + b then 1 else 0
def mulLo (x y : Nat) : Nat := x * y % B64
def mulHi (x y : Nat) : Nat := x * y / B64

theorem add_eq (x y c : Nat) : addLo x y c + B64 * addHi x y c = x + y + c := Nat.mod_add_div _ _
theorem addLo_lt (x y c : Nat) : addLo x y c < B64 := Nat.mod_lt _ B64_pos
theorem addHi_le (x y c : Nat) (hx : x < B64) (hy : y < B64) (hc : c ≤ 1) : addHi x y c ≤ 1 := by
  unfold addHi B64 at *; omega
theorem sub_eq (x y b : Nat) (hx : x < B64) (hy : y < B64) (hb : b ≤ 1) : subLo x y b + y + b = x + B64 * subHi x y b := by
  unfold subLo subHi B64 at *; split <;> omega
theorem subLo_lt (x y b : Nat) : subLo x y b < B64 := Nat.mod_lt _ B64_pos
theorem subHi_le (x y b : Nat) : subHi x y b ≤ 1 := by unfold subHi; split <;> omega
theorem mul_eq (x y : Nat) : mulLo x y + B64 * mulHi x y = x * y := Nat.mod_add_div _ _
theorem mulLo_lt (x y : Nat) : mulLo x y < B64 := Nat.mod_lt _ B64_pos
theorem mulHi_lt (x y : Nat) (hx : x < B64) (hy : y < B64) : mulHi x y < B64 := by
  unfold mulHi
  refine Nat.div_lt_of_lt_mul ?_
  exact Nat.lt_of_le_of_lt (Nat.mul_le_mul_left x (Nat.le_of_lt hy)) (Nat.mul_lt_mul_of_pos_right hx B64_pos)

theorem add64_run (x y c : Nat) (hc : c ≤ 1) (w : World) :
    (callFunc 98 #[.int .u64 x, .int .u64 y, .int .u64 c]).run Tryz.prog w =
      .ok (.value (.tuple #[.int .u64 (addLo x y c : Nat), .int .u64 (addHi x y c : Nat)])) w := by
  rw [run_callFunc_extern Tryz.func98 (by kernel_rfl) (by kernel_rfl) (by kernel_rfl) (e := add64Entry) (by kernel_rfl), run_add64 x y c (by omega) (by omega) (by omega) (by omega)]
  simp only [Result.andThen]
  congr 5 <;> (unfold addLo addHi B64; omega)

theorem add64_run0 (x y : Nat) (w : World) :
    (callFunc 98 #[.int .u64 x, .int .u64 y, .int .u64 0]).run Tryz.prog w =
      .ok (.value (.tuple #[.int .u64 (addLo x y 0 : Nat), .int .u64 (addHi x y 0 : Nat)])) w := add64_run x y 0 (by omega) w
theorem add64_run1 (x c : Nat) (hc : c ≤ 1) (w : World) :
    (callFunc 98 #[.int .u64 x, .int .u64 0, .int .u64 c]).run Tryz.prog w =
      .ok (.value (.tuple #[.int .u64 (addLo x 0 c : Nat), .int .u64 (addHi x 0 c : Nat)])) w := add64_run x 0 c hc w

def sub64Entry : Array Value → Sem Value := fun args => do
  let (x, y, b) ← Extern.MathBitsCarry.three "Sub64" args
  pure (Extern.MathBitsCarry.pair ((x + Extern.MathBitsCarry.m64 - y - b) % Extern.MathBitsCarry.m64) (if x < y + b then 1 else 0))

theorem sub64_run (x y b : Nat) (hb : b ≤ 1) (w : World) :
    (callFunc 105 #[.int .u64 x, .int .u64 y, .int .u64 b]).run Tryz.prog w =
      .ok (.value (.tuple #[.int .u64 (subLo x y b : Nat), .int .u64 (subHi x y b : Nat)])) w := by
  have h : (sub64Entry #[.int .u64 x, .int .u64 y, .int .u64 b]).run Tryz.prog w = .ok (.tuple #[.int .u64 (subLo x y b : Nat), .int .u64 (subHi x y b : Nat)]) w := by
    have : b = 0 ∨ b = 1 := by omega
    rcases this with rfl | rfl <;> rfl
  rw [run_callFunc_extern Tryz.func105 (by kernel_rfl) (by kernel_rfl) (by kernel_rfl) (e := sub64Entry) (by kernel_rfl), h]
  rfl
theorem sub64_run0 (x y : Nat) (w : World) :
    (callFunc 105 #[.int .u64 x, .int .u64 y, .int .u64 0]).run Tryz.prog w =
      .ok (.value (.tuple #[.int .u64 (subLo x y 0 : Nat), .int .u64 (subHi x y 0 : Nat)])) w := sub64_run x y 0 (by omega) w
theorem sub64_run1 (x b : Nat) (hb : b ≤ 1) (w : World) :
    (callFunc 105 #[.int .u64 x, .int .u64 0, .int .u64 b]).run Tryz.prog w =
      .ok (.value (.tuple #[.int .u64 (subLo x 0 b : Nat), .int .u64 (subHi x 0 b : Nat)])) w := sub64_run x 0 b hb w

theorem wrap_small (x : Nat) (h : x < B64) : IntKind.u64.wrap (x : Int) = (x : Int) := by
  unfold B64 at h
  exact IntWalk.u64_in _ ⟨by omega, by omega⟩

namespace Mul64
theorem maskN (a : Nat) (ha : a < 18446744073709551616) : bits .and .u64 (a : Int) 4294967295 = ((a % 4294967296 : Nat) : Int) := by
  have h := bits_and_u64_nat a 4294967295 ha (by omega)
  have e : a &&& 4294967295 = a % 4294967296 := Nat.and_two_pow_sub_one_eq_mod a 32
  rw [e] at h
  exact h
theorem divN (a : Nat) : (a : Int) / 4294967296 = ((a / 4294967296 : Nat) : Int) := by omega
theorem mulN (a b : Nat) : (a : Int) * (b : Int) = ((a * b : Nat) : Int) := (Int.natCast_mul a b).symm
theorem addN (a b : Nat) : (a : Int) + (b : Int) = ((a + b : Nat) : Int) := (Int.natCast_add a b).symm
theorem wrapN (a : Nat) (ha : a < 18446744073709551616) : IntKind.u64.wrap (a : Int) = (a : Int) := by rw [IntKind.wrap_u64]; omega
theorem wrapM (a : Nat) : IntKind.u64.wrap (a : Int) = ((a % 18446744073709551616 : Nat) : Int) := by rw [IntKind.wrap_u64]; omega
end Mul64

set_option maxHeartbeats 1000000 in
theorem mul64_any (x y : Nat) (hx : x < B64) (hy : y < B64) (w : World) :
    Calls Tryz.prog 39 #[.int .u64 x, .int .u64 y] w fun e w' => e = .returned (.tuple #[.int .u64 (mulHi x y : Nat), .int .u64 (mulLo x y : Nat)]) ∧ w = w' := by
  unfold mulHi mulLo
  unfold B64 at *
  obtain ⟨bd, bt, bw, hhi⟩ := Lib.mul64_hi x y hx hy
  have ba := Lib.half_mul_le (a := x / 4294967296) (b := y / 4294967296) (by omega) (by omega)
  have bb := Lib.half_mul_le (a := x / 4294967296) (b := y % 4294967296) (by omega) (by omega)
  have bc := Lib.half_mul_le (a := x % 4294967296) (b := y / 4294967296) (by omega) (by omega)
  have ba' : x / 4294967296 * (y / 4294967296) < 18446744073709551616 := by omega
  have bb' : x / 4294967296 * (y % 4294967296) < 18446744073709551616 := by omega
  have bc' : x % 4294967296 * (y / 4294967296) < 18446744073709551616 := by omega
  have bh1 : x / 4294967296 * (y / 4294967296) + (x / 4294967296 * (y % 4294967296) + x % 4294967296 * (y % 4294967296) / 4294967296) / 4294967296 < 18446744073709551616 := by omega
  have bh : x / 4294967296 * (y / 4294967296) + (x / 4294967296 * (y % 4294967296) + x % 4294967296 * (y % 4294967296) / 4294967296) / 4294967296 + ((x / 4294967296 * (y % 4294967296) + x % 4294967296 * (y % 4294967296) / 4294967296) % 4294967296 + x % 4294967296 * (y / 4294967296)) / 4294967296 < 18446744073709551616 := by omega
  go_enter Tryz.func39, Tryz.ntmps39
  go_wp2
  simp only [Mul64.maskN x hx, Mul64.maskN y hy, Mul64.divN, Mul64.mulN, Mul64.addN, Mul64.wrapN _ bd, Mul64.wrapN _ bb', Mul64.wrapN _ bt, Mul64.maskN _ bt, Mul64.wrapN _ bc', Mul64.wrapN _ bw, Mul64.wrapN _ ba', Mul64.wrapN _ bh1, Mul64.wrapN _ bh, Mul64.wrapM (x * y)]
  rw [hhi]
  go_ret2
  exact ⟨rfl, rfl⟩
end Go.Proofs.YtdpmfenikomfkaaGreat

namespace Go.Proofs.YtdpmfenikomfkaaGreat
open Go.RowKit

theorem mul_bound {v x : Nat} (hv : v < B64) (hx : x < B64) : v * x ≤ 340282366920938463426481119284349108225 := by
  unfold B64 at *
  have : v * x ≤ 18446744073709551615 * 18446744073709551615 := Nat.mul_le_mul (by omega) (by omega)
  omega

theorem addTimes_step {v x up z : Nat} (hv : v < B64) (hx : x < B64) (hup : up < B64) (hz : z < B64) :
    addLo z (addLo (mulLo v x) up 0) 0 + B64 * (mulHi v x + addHi (mulLo v x) up 0 + addHi z (addLo (mulLo v x) up 0) 0) = z + v * x + up ∧
    mulHi v x + addHi (mulLo v x) up 0 < B64 ∧ mulHi v x + addHi (mulLo v x) up 0 + addHi z (addLo (mulLo v x) up 0) 0 < B64 := by
  have h1 := mul_eq v x
  have h2 := add_eq (mulLo v x) up 0
  have h3 := add_eq z (addLo (mulLo v x) up 0) 0
  have h4 := mul_bound hv hx
  have h5 := addLo_lt z (addLo (mulLo v x) up 0) 0
  generalize addLo z (addLo (mulLo v x) up 0) 0 = z' at *
  generalize addHi z (addLo (mulLo v x) up 0) 0 = c2 at *
  generalize addLo (mulLo v x) up 0 = lo at *
  generalize addHi (mulLo v x) up 0 = c at *
  generalize mulLo v x = m at *
  generalize mulHi v x = hi at *
  generalize v * x = p at *
  unfold B64 at *
  omega

theorem wrap2 (a b c : Nat) (h1 : a + b < B64) (h2 : a + b + c < B64) : IntKind.u64.wrap (IntKind.u64.wrap ((a : Int) + (b : Int)) + (c : Int)) = ((a + b + c : Nat) : Int) := by
  unfold B64 at *
  rw [IntKind.wrap_u64, IntKind.wrap_u64]
  omega

theorem step_alg {P B z v x up z2 u V Z Y : Nat} (h1 : z2 + B * u = z + v * x + up) (h2 : V + P * up = Z + x * Y) : V + P * z2 + P * B * u = Z + P * z + x * (Y + P * v) := by
  have h3 := congrArg (P * ·) h1
  simp only [Nat.mul_add] at h3
  have e : x * (P * v) = P * (v * x) := by rw [Nat.mul_left_comm, Nat.mul_comm x v]
  have e2 : P * B * u = P * (B * u) := Nat.mul_assoc _ _ _
  rw [Nat.mul_add, e, e2]
  omega

/-- Words z, in a block, with x times the words y added to them. -/
def AddT (w : World) (g : Nat) (pre zs post : List Nat) (total : Nat) (e : Ending) (w' : World) : Prop :=
  ∃ zs' up, e = .returned (.int .u64 (up : Nat)) ∧ zs'.length = zs.length ∧ AllOk zs' ∧ up < B64 ∧ val zs' + B64 ^ zs.length * up = total ∧ Row .u64 w' g 65 (pre ++ (zs' ++ post)) ∧ w.grownBy w' (some g)

def AddTRel (w : World) (g : Nat) (pre zs post ys : List Nat) (n x : Nat) (u i : Value) (wr : World) : Prop :=
  ∃ k zs' up, k ≤ n ∧ i = .int .i64 (k : Nat) ∧ u = .int .u64 (up : Nat) ∧ up < B64 ∧ zs'.length = n ∧ AllOk zs' ∧ Row .u64 wr g 65 (pre ++ (zs' ++ post)) ∧ w.grownBy wr (some g) ∧
    (val (zs'.take k) + B64 ^ k * up = val (zs.take k) + x * val (ys.take k) ∧ (∀ j, k ≤ j → nth zs' j = nth zs j))

theorem RW.grownTo {k : IntKind} {w w' : World} {g B : Nat} {v : Value} {xs : List Nat} (h : RW k w B v xs) (hg : w.grownBy w' (some g)) (hB : B ≤ g) (hs : B ≤ w.heap.size) : RW k w' B v xs :=
  h.keep fun p hp => World.cell?_of_block (hg.block p.block (by omega) (fun e => by injection e; omega))

theorem grown_trans {a b c : World} {r : Option Nat} (h : a.grownBy b r) (k : b.grownBy c r) : a.grownBy c r :=
  ⟨k.os.trans h.os, k.tape.trans h.tape, k.output.trans h.output, Nat.le_trans h.size k.size, fun i hi hn => (k.block i (Nat.lt_of_lt_of_le hi h.size) hn).trans (h.block i hi hn)⟩
theorem grown_set {w wr : World} {g : Nat} (h : w.grownBy wr (some g)) (i : Nat) (u : Value) : w.grownBy (wr.setCell ⟨g, i, none⟩ u) (some g) :=
  grown_trans h ⟨rfl, rfl, rfl, by simp [World.setCell], fun k _ hn => Below.heap_setCell _ _ _ _ (by rintro rfl; exact hn rfl)⟩
theorem grown_drew {w wr : World} {r : Option Nat} (h : w.grownBy wr r) : w.grownBy wr.drew r := ⟨h.os, h.tape, h.output, h.size, h.block⟩

theorem set_mid (pre zs post : List Nat) (k x : Nat) (h : k < zs.length) : (pre ++ (zs ++ post)).set (pre.length + k) x = pre ++ (zs.set k x ++ post) := by
  rw [List.set_append_right _ _ (Nat.le_add_right _ _), Nat.add_sub_cancel_left, List.set_append_left _ _ h]

theorem Row.cellMid {k : IntKind} {w : World} {g : Nat} {e : TypeId} {pre zs post : List Nat} (h : Row k w g e (pre ++ (zs ++ post))) {i : Nat} (hi : i < zs.length) : w.cell? ⟨g, pre.length + i, none⟩ = some (.int k (nth zs i : Nat)) := by
  rw [h.cell (by rw [List.length_append, List.length_append]; omega), nth_append_right, nth_append_left hi]

set_option maxRecDepth 100000 in
set_option maxHeartbeats 1000000 in
theorem addTimes_any (g : Nat) (pre zs post ys : List Nat) (n cz c x : Nat) (A : Option Addr) (w : World) (hz : Row .u64 w g 65 (pre ++ (zs ++ post))) (hzl : n = zs.length) (hzc : n ≤ cz) (hcz : cz ≤ 1099511627776)
    (hy : RW .u64 w g (.slice A n c) ys) (hzo : AllOk zs) (hyo : AllOk ys) (hx : x < B64) :
    Calls Tryz.prog 83 #[.slice (some ⟨g, pre.length, none⟩) n cz, .slice A n c, .int .u64 x] w (AddT w g pre zs post (val zs + x * val ys)) := by
  have HZL := Lib.hid hzl
  have HYL := Lib.hid hy.len
  have hgs : g ≤ w.heap.size := Nat.le_of_lt hz.lt
  obtain ⟨p, hp⟩ : ∃ p, p = pre.length := ⟨_, rfl⟩
  have HP := Lib.hid hp
  rw [← hp]
  clear hp hzl
  have A0 := add64_run0
  go_enter Tryz.func83, Tryz.ntmps83
  go_wp2
  go_loopw [7, 15] (fun u i wr => AddTRel w g pre zs post ys n x u i wr) (fun _ i _ => n - (intOf i).toNat)
  case atStart => exact ⟨0, zs, 0, Nat.zero_le _, rfl, rfl, B64_pos, HZL.out.symm, hzo, hz, ⟨rfl, rfl, rfl, Nat.le_refl _, fun _ _ _ => rfl⟩, by simp [val_nil], fun _ _ => rfl⟩
  case round =>
    obtain ⟨k, zs', up, hk, rfl, rfl, hup, hzl', hzo', hr, hgr, hKK⟩ := hrel
    have HK := Lib.hid hKK
    have HZ' := Lib.hid hzl'
    clear hKK hzl'
    by_cases hlt : k < n
    · have hyr := hy.grownTo hgr (Nat.le_refl _) hgs
      obtain ⟨b, o, hA, hb, hcell⟩ := hyr.at_ (by omega)
      subst hA
      have hxc : wr.cell? ⟨b, o + k, none⟩ = some (.int .u64 (nth ys k : Nat)) := hcell _ hlt
      have hzc' : wr.cell? ⟨g, p + k, none⟩ = some (.int .u64 (nth zs' k : Nat)) := by rw [HP.out]; exact hr.cellMid (by rw [HZ'.out]; exact hlt)
      have hf : wr.frozen? ⟨g, p + k, none⟩ = false := hr.frozen _
      have hv := nth_ok hyo k
      have hzk := nth_ok hzo' k
      clear hcell hyr
      go_wp2_with (go_at_call 39; refine (mul64_any _ _ hv hx _).mono ?_; rintro e w' ⟨rfl, rfl⟩)
      go_roundw
      case rel =>
        obtain ⟨q1, q2, q3⟩ := addTimes_step (z := nth zs' k) hv hx hup hzk
        obtain ⟨g1, g2⟩ := HK.out
        rw [wrap2 _ _ _ q2 q3]
        refine ⟨k + 1, zs'.set k (addLo (nth zs' k) (addLo (mulLo (nth ys k) x) up 0) 0), _, by omega, by go_num, rfl, q3, by rw [List.length_set]; exact HZ'.out, hzo'.set (addLo_lt _ _ _), ?_, grown_set hgr _ _, ?_, ?_⟩
        · have hs := hr.set (p + k) (addLo (nth zs' k) (addLo (mulLo (nth ys k) x) up 0) 0)
          rw [HP.out] at hs ⊢
          rw [set_mid _ _ _ _ _ (by rw [HZ'.out]; exact hlt)] at hs
          exact hs
        · rw [val_set_succ _ _ _ (by rw [HZ'.out]; exact hlt), val_take_succ zs k (by rw [← HZL.out]; exact hlt), val_take_succ ys k (by rw [← HYL.out]; exact hlt), Nat.pow_succ]
          rw [g2 k (Nat.le_refl _)] at q1 ⊢
          exact step_alg q1 g1
        · intro j hj
          rw [nth_set, if_neg (by omega)]
          exact g2 j (by omega)
      case measure => simp [intOf]; omega
    · have hkn : k = n := by omega
      have HKN := Lib.hid hkn
      clear hkn
      go_wp2
      go_ret
      obtain ⟨g1, g2⟩ := HK.out
      have hkn := HKN.out
      subst hkn
      refine ⟨zs', up, rfl, by rw [HZ'.out, HZL.out], hzo', hup, ?_, hr, hgr⟩
      rw [List.take_of_length_le (by rw [HZ'.out]; exact Nat.le_refl _), List.take_of_length_le (by rw [← HZL.out]; exact Nat.le_refl _), List.take_of_length_le (by rw [← HYL.out]; exact Nat.le_refl _)] at g1
      rw [← HZL.out]
      exact g1
end Go.Proofs.YtdpmfenikomfkaaGreat
