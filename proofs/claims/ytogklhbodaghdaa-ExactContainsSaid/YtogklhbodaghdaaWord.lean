/-
  The functions on words: how many words a list has, copies, single words, comparison.
-/
import Derived.Test.YtogklhbodaghdaaProg
import Derived.Test.YtogklhbodaghdaaMem
import Derived.WalkKit
import Derived.WalkSpells
import Derived.Lib.Hide
import Derived.Laws.CopyOwn
namespace Go.Proofs.Ytogklhbodaghdaa
open Go.RowKit

set_option maxHeartbeats 400000 in
theorem words64_any (A : Option Addr) (n c : Nat) (xs : List Nat) (B : Nat) (w : World) (h : RW .u64 w B (.slice A n c) xs) :
    Calls Try.prog 56 #[.slice A n c] w fun e w' => e = .returned (.int .i64 (top xs)) ∧ w = w' := by
  have hl := Lib.hid h.len
  have hc := h.cap
  have hm : n ≤ 9223372036854775807 := by have := hc.2; unfold maxLen at this; omega
  go_enter Try.func56, Try.ntmps56
  go_wp2
  go_loop [3] (fun t => ∃ m : Nat, m ≤ n ∧ t = .int .i64 m ∧ ∀ j, m ≤ j → j < n → nth xs j = 0) (fun t => (intOf t).toNat)
  case atStart => exact ⟨n, Nat.le_refl _, rfl, fun j h1 h2 => absurd h1 (by omega)⟩
  case round =>
    obtain ⟨m, hmn, rfl, hz⟩ := hrel
    have Hz := Lib.hid hz
    clear hz
    by_cases h0 : m = 0
    · subst h0
      go_wp2
      go_ret
      rw [top_unique (m := 0) (fun j hj h => Hz.out j hj (by rw [hl.out]; exact h)) (fun h => absurd h (by omega))]
      exact ⟨rfl, rfl⟩
    · obtain ⟨b, o, rfl, hb, hcell⟩ := h.at_ (by omega)
      have hx := hcell (m - 1) (by omega)
      clear hcell
      by_cases hz : nth xs (m - 1) = 0
      · have hzb : (((nth xs (m - 1) : Nat) : Int) == 0) = true := by rw [hz]; rfl
        have HZ := Lib.hid hz
        clear hz
        go_wp2
        go_round
        case rel => exact ⟨m - 1, by omega, by go_num, fun j h1 h2 => by
          by_cases e : j = m - 1
          · subst e; exact HZ.out
          · exact Hz.out j (by omega) h2⟩
        case measure => simp [intOf]; omega
      · have hzb : (((nth xs (m - 1) : Nat) : Int) == 0) = false := by
          rw [beq_eq_false_iff_ne]; omega
        have HZ := Lib.hid hz
        clear hz
        go_wp2
        go_ret
        rw [top_unique (m := m) (fun j hj h => Hz.out j hj (by rw [hl.out]; exact h)) (fun _ => HZ.out)]
        exact ⟨rfl, rfl⟩

set_option maxHeartbeats 400000 in
theorem words32_any (A : Option Addr) (n c : Nat) (xs : List Nat) (B : Nat) (w : World) (h : RW .u32 w B (.slice A n c) xs) :
    Calls Try.prog 37 #[.slice A n c] w fun e w' => e = .returned (.int .i64 (top xs)) ∧ w = w' := by
  have hl := Lib.hid h.len
  have hc := h.cap
  have hm : n ≤ 9223372036854775807 := by have := hc.2; unfold maxLen at this; omega
  go_enter Try.func37, Try.ntmps37
  go_wp2
  go_loop [3] (fun t => ∃ m : Nat, m ≤ n ∧ t = .int .i64 m ∧ ∀ j, m ≤ j → j < n → nth xs j = 0) (fun t => (intOf t).toNat)
  case atStart => exact ⟨n, Nat.le_refl _, rfl, fun j h1 h2 => absurd h1 (by omega)⟩
  case round =>
    obtain ⟨m, hmn, rfl, hz⟩ := hrel
    have Hz := Lib.hid hz
    clear hz
    by_cases h0 : m = 0
    · subst h0
      go_wp2
      go_ret
      rw [top_unique (m := 0) (fun j hj h => Hz.out j hj (by rw [hl.out]; exact h)) (fun h => absurd h (by omega))]
      exact ⟨rfl, rfl⟩
    · obtain ⟨b, o, rfl, hb, hcell⟩ := h.at_ (by omega)
      have hx := hcell (m - 1) (by omega)
      clear hcell
      by_cases hz : nth xs (m - 1) = 0
      · have hzb : (((nth xs (m - 1) : Nat) : Int) == 0) = true := by rw [hz]; rfl
        have HZ := Lib.hid hz
        clear hz
        go_wp2
        go_round
        case rel => exact ⟨m - 1, by omega, by go_num, fun j h1 h2 => by
          by_cases e : j = m - 1
          · subst e; exact HZ.out
          · exact Hz.out j (by omega) h2⟩
        case measure => simp [intOf]; omega
      · have hzb : (((nth xs (m - 1) : Nat) : Int) == 0) = false := by
          rw [beq_eq_false_iff_ne]; omega
        have HZ := Lib.hid hz
        clear hz
        go_wp2
        go_ret
        rw [top_unique (m := m) (fun j hj h => Hz.out j hj (by rw [hl.out]; exact h)) (fun _ => HZ.out)]
        exact ⟨rfl, rfl⟩

/-- A number of u64 words in words is handed back in memory of any age; nothing that there was has turned. -/
def RetW (w : World) (m : Nat) (e : Ending) (w' : World) : Prop :=
  ∃ A n c, e = .returned (.slice A n c) ∧ RW .u64 w' w'.heap.size (.slice A n c) (words m) ∧ Below w.heap.size w w'

theorem trim_any (A : Option Addr) (n c : Nat) (xs : List Nat) (B : Nat) (w : World) (h : RW .u64 w B (.slice A n c) xs) :
    Calls Try.prog 47 #[.slice A n c] w fun e w' => e = .returned (.slice A (top xs) c) ∧ w = w' := by
  have hl := Lib.hid h.len
  have hc := h.cap
  have ht : top xs ≤ n := by rw [hl.out]; exact top_le xs
  have hm : n ≤ 9223372036854775807 := by have := hc.2; unfold maxLen at this; omega
  go_enter Try.func47, Try.ntmps47
  go_wp2_with (go_at_call 56; refine (words64_any A n c xs B _ h).mono ?_; rintro e w' ⟨rfl, rfl⟩)
  go_ret
  exact ⟨rfl, rfl⟩

theorem trim_words {A : Option Addr} {n c : Nat} {xs : List Nat} {B : Nat} {w : World} (h : RW .u64 w B (.slice A n c) xs) (hok : AllOk xs) :
    RW .u64 w B (.slice A (top xs) c) (words (val xs)) :=
  (h.take (by rw [h.len]; exact top_le xs)).of_eq (take_top xs hok)

theorem single_any (x : Nat) (hx : x < B64) (w : World) :
    Calls Try.prog 36 #[.int .u64 x] w (RetW w x) := by
  have hr : RW .u64 (w.alloc (.cells #[.int .u64 x] 66)) (w.heap.size + 1) (.slice (some ⟨w.heap.size, 0, none⟩) 1 1) [x] :=
    RW.of_row0 (post := []) (Row.one .u64 w 66 x) rfl (Nat.le_refl _) (by simp [maxLen]) (by omega)
  go_enter Try.func36, Try.ntmps36
  go_wp2_with (go_at_call 47; refine (trim_any _ _ _ [x] _ _ hr).mono ?_; rintro e w' ⟨rfl, rfl⟩)
  go_ret
  refine ⟨_, _, _, rfl, ?_, (Below.refl _ _).alloc (Nat.le_refl _) _⟩
  have ht := trim_words hr (fun y hy => by rw [List.mem_singleton.1 hy]; exact hx)
  rw [val_cons, val_nil, Nat.mul_zero, Nat.add_zero] at ht
  exact ht.more (by simp)

theorem isOne_yes (A : Option Addr) (n c : Nat) (B : Nat) (w : World) (h : RW .u64 w B (.slice A n c) (words 1)) :
    Calls Try.prog 48 #[.slice A n c] w fun e w' => e = .returned (.bool true) ∧ w = w' := by
  have h1 : words 1 = [1] := words_single (by omega) (by unfold B64; omega)
  rw [h1] at h
  obtain rfl := h.len
  obtain ⟨b, o, rfl, hb, hc⟩ := h.at_ (by simp)
  have hx : w.cell? ⟨b, o, none⟩ = some (.int .u64 1) := hc 0 (by simp)
  clear hc h1
  go_enter Try.func48, Try.ntmps48
  go_wp2
  go_ret
  exact ⟨rfl, rfl⟩

theorem isOne_no (m : Nat) (hm : m ≠ 1) (A : Option Addr) (n c : Nat) (B : Nat) (w : World) (h : RW .u64 w B (.slice A n c) (words m)) :
    Calls Try.prog 48 #[.slice A n c] w fun e w' => e = .returned (.bool false) ∧ w = w' := by
  by_cases hn : n = 1
  · subst hn
    have hl := h.len
    obtain ⟨h0, hlt⟩ := words_len_one.1 hl.symm
    obtain ⟨b, o, rfl, hb, hc⟩ := h.at_ (by omega)
    have hx : w.cell? ⟨b, o, none⟩ = some (.int .u64 (m : Nat)) := by
      have := hc 0 (by omega)
      rw [words_single h0 hlt] at this
      exact this
    have hbn : ((m : Int) == 1) = false := by rw [beq_eq_false_iff_ne]; omega
    clear hc hl h
    go_enter Try.func48, Try.ntmps48
    go_wp2
    go_ret
    exact ⟨rfl, rfl⟩
  · have hbn : ((n : Int) == 1) = false := by rw [beq_eq_false_iff_ne]; omega
    go_enter Try.func48, Try.ntmps48
    go_wp2
    go_ret
    exact ⟨rfl, rfl⟩

theorem info64 : (Try.prog.info? 66).map (fun i => (i.zero, i.size, i.bytes)) = some (some (.int .u64 0), 1, 8) := by kernel_rfl
theorem size64 : (Try.prog.info? 66).map (·.size) = some 1 := by kernel_rfl

/-- A new block with the words L; it is the first block that the call made. -/
def RetRow (w : World) (L : List Nat) (e : Ending) (w' : World) : Prop :=
  e = .returned (.slice (some ⟨w.heap.size, 0, none⟩) L.length L.length) ∧ Row .u64 w' w.heap.size 66 L ∧ Below w.heap.size w w'

theorem extended_any (A : Option Addr) (n c m : Nat) (xs : List Nat) (B : Nat) (w : World) (h : RW .u64 w B (.slice A n c) xs) (hB : B ≤ w.heap.size) (hnm : n ≤ m) (hm : m ≤ 4294967296) :
    Calls Try.prog 58 #[.slice A n c, .int .i64 m] w (RetRow w (xs ++ List.replicate (m - n) 0)) := by
  obtain ⟨i0, hi0, hz0, hz1, hz2⟩ := info_parts info64
  have hl := Lib.hid h.len
  go_enter Try.func58, Try.ntmps58
  go_wp2_with (at_make
               refine wpList_make_full _ rfl (.tmp 6) (.tmp 6) _ rfl w.heap.size 66 i0 _ 1 Try.underlying53 hi0 hz0 hz1 .i64 .i64 m m m rfl rfl rfl rfl (by rw [hz2]; omega) (by unfold maxLen; omega) (Nat.le_refl _) ?_
               intro w1 hown hg1
               have hb1 : Below w.heap.size w w1 := (Below.refl _ _).grown hg1 (Nat.le_refl _) (by simp)
               obtain ⟨w2, hrun, hrow, hb2⟩ := run_copy_words (P := Try.prog) (dT := 53) (sT := 53) (ty := 3) Try.underlying53 size64 (row_of_made hown) (h.belowM hb1 hB) hnm
               clear hown hg1)
  go_ret
  refine ⟨?_, hrow, hb1.trans hb2⟩
  have : (xs ++ List.replicate (m - n) 0).length = m := by
    rw [List.length_append, List.length_replicate, ← hl.out]; omega
  rw [this]
  rfl
end Go.Proofs.Ytogklhbodaghdaa
