/-
  A number's words of 32 bits, without most significant words 0.
-/
import Derived.Test.YtogklhbodaghdaaPack
import Derived.WalkSmall
namespace Go.Proofs.Ytogklhbodaghdaa
open Go.RowKit

/-- A number of u32 words is handed back. -/
def RetU (w : World) (m : Nat) (e : Ending) (w' : World) : Prop :=
  ∃ A n c, e = .returned (.slice A n c) ∧ RW .u32 w' w'.heap.size (.slice A n c) (words32 m) ∧ Below w.heap.size w w'

def halves : List Nat → List Nat
  | [] => []
  | x :: xs => x % 4294967296 :: x / 4294967296 :: halves xs
theorem halves_len : ∀ xs, (halves xs).length = 2 * xs.length
  | [] => rfl
  | x :: xs => by unfold halves; simp [halves_len xs]; omega
theorem halves_val : ∀ xs, val32 (halves xs) = val xs
  | [] => rfl
  | x :: xs => by
    unfold halves
    rw [val32_cons, val32_cons, halves_val xs, val_cons]
    unfold B32 B64
    omega
theorem halves_ok : ∀ xs, AllOk xs → AllOk32 (halves xs)
  | [], _ => AllOk32.nil
  | x :: xs, h => by
    obtain ⟨hx, hxs⟩ := h.cons
    intro y hy
    unfold halves at hy
    unfold B64 at hx
    unfold B32
    rcases List.mem_cons.1 hy with rfl | hy
    · omega
    · rcases List.mem_cons.1 hy with rfl | hy
      · omega
      · exact halves_ok xs hxs y hy
theorem halves_cons (x : Nat) (xs : List Nat) : halves (x :: xs) = x % 4294967296 :: x / 4294967296 :: halves xs := rfl
theorem halves_append : ∀ xs ys, halves (xs ++ ys) = halves xs ++ halves ys
  | [], ys => rfl
  | x :: xs, ys => by
    rw [List.cons_append, halves_cons, halves_cons, halves_append xs ys]
    rfl
theorem halves_succ (xs : List Nat) (k : Nat) (h : k < xs.length) : halves (xs.take (k + 1)) = halves (xs.take k) ++ [nth xs k % 4294967296, nth xs k / 4294967296] := by
  rw [List.take_succ_eq_append_getElem h, halves_append, nth_lt h]
  rfl

theorem info32 : (Try.prog.info? 24).map (fun i => (i.zero, i.size, i.bytes)) = some (some (.int .u32 0), 1, 4) := by kernel_rfl

def u32s (xs : List Nat) : List Value := xs.map (fun (x : Nat) => Value.int .u32 (x : Int))
theorem u32s_one (xs : List Nat) : ∀ u ∈ u32s xs, u.oneCell' = true := by
  intro u hu
  obtain ⟨y, _, rfl⟩ := List.mem_map.1 hu
  rfl

theorem RW.of_own {k : IntKind} {w : World} {base : Nat} {e : TypeId} {A : Option Addr} {n c : Nat} {xs : List Nat} (h : w.ownsRow base e 1 (.slice A n c) n (xs.map (fun (x : Nat) => Value.int k (x : Int)))) : RW k w w.heap.size (.slice A n c) xs := by
  have hl : xs.length = n := by simpa using h.1
  rcases h.2 with ⟨h1, h2⟩ | ⟨g, cap, cur, h1, h2, h3, h4, h5, h6, h7⟩
  · injection h1 with h1 h8 h9
    subst h1 h8 h9
    have : xs = [] := List.eq_nil_of_length_eq_zero hl
    subst this
    exact RW.nil_
  · injection h1 with h1 _ h9
    subst h1 h9
    refine RW.mk hl.symm h4 h5 (fun hn => ⟨g, 0, rfl, ?_, fun j hj => ?_⟩)
    · exact (h.lt g rfl).2
    · rw [Nat.zero_add, h.cellAt j (by omega), List.getElem?_map, List.getElem?_eq_getElem (by omega), nth_lt (by omega)]
      rfl

theorem two_one (a b : Int) : ∀ u ∈ [Value.int .u32 a, Value.int .u32 b], u.oneCell' = true := by
  intro u hu
  simp at hu
  rcases hu with rfl | rfl <;> rfl

def UnpackRel (w : World) (xs : List Nat) (n : Nat) (v i : Value) (wr : World) : Prop :=
  ∃ k, k ≤ n ∧ i = .int .i64 (k : Nat) ∧ v = .slice (some ⟨w.heap.size, 0, none⟩) (2 * k) (2 * n) ∧ wr.ownsRow w.heap.size 24 1 (.slice (some ⟨w.heap.size, 0, none⟩) (2 * k) (2 * n)) (2 * k) (u32s (halves (xs.take k))) ∧ Below w.heap.size w wr

set_option maxRecDepth 100000 in
set_option maxHeartbeats 400000 in
theorem unpack_any (A : Option Addr) (n c : Nat) (xs : List Nat) (hok : AllOk xs) (B : Nat) (w : World) (h : RW .u64 w B (.slice A n c) xs) (hB : B ≤ w.heap.size) (hn : n ≤ 1048576) :
    Calls Try.prog 55 #[.slice A n c] w (RetU w (val xs)) := by
  obtain ⟨i0, hi0, hz0, hz1, hz2⟩ := info_parts info32
  have hl := Lib.hid h.len
  by_cases h0 : n = 0
  · subst h0
    have hx : xs = [] := List.eq_nil_of_length_eq_zero hl.out.symm
    have HX := Lib.hid hx
    clear hx
    go_enter Try.func55, Try.ntmps55
    go_wp2
    go_ret
    refine ⟨_, _, _, rfl, ?_, Below.refl _ _⟩
    rw [HX.out, val_nil, words32_zero]
    exact RW.nil_
  · have hb0 : ((n : Int) == 0) = false := by rw [beq_eq_false_iff_ne]; omega
    go_enter Try.func55, Try.ntmps55
    go_wp2_with (at_make
                 refine wpList_make_own _ rfl (.const (.int .i64 0)) (.tmp 11) _ rfl w.heap.size 24 i0 _ 1 Try.underlying36 hi0 hz0 hz1 .i64 .i64 _ (2 * n) rfl rfl (by omega) (by rw [hz2]; omega) (by unfold maxLen; omega) (Nat.le_refl _) ?_
                 intro w1 hown hg1
                 have hb1 : Below w.heap.size w w1 := (Below.refl _ _).grown hg1 (Nat.le_refl _) (by simp)
                 clear hg1)
    go_loopw [3, 15] (fun v i wr => UnpackRel w xs n v i wr) (fun _ i _ => n - (intOf i).toNat)
    case atStart => exact ⟨0, Nat.zero_le _, rfl, rfl, hown, hb1⟩
    case round =>
      obtain ⟨k, hk, rfl, rfl, hr, hbr⟩ := hrel
      by_cases hlt : k < n
      · obtain ⟨b, o, rfl, hb, hcell⟩ := h.at_ (by omega)
        have hx : wr.cell? ⟨b, o + k, none⟩ = some (.int .u64 (nth xs k : Nat)) := by rw [hbr.cell (by show b < _; omega)]; exact hcell _ (by omega)
        clear hcell
        have E : u32s (halves (xs.take (k + 1))) = u32s (halves (xs.take k)) ++ [.int .u32 (↑(nth xs k) % 4294967296), .int .u32 (↑(nth xs k) / 4294967296 % 4294967296)] := by
          rw [halves_succ xs k (by rw [← hl.out]; exact hlt)]
          have hx64 : nth xs k < 18446744073709551616 := nth_ok hok k
          have e2 : ((nth xs k : Nat) : Int) / 4294967296 % 4294967296 = ((nth xs k / 4294967296 : Nat) : Int) := by omega
          rw [e2]
          simp [u32s]
        have HE := Lib.hid E
        clear E
        go_wp2_with (at_builtin
                     go_must (refine wpList_append_fits _ rfl (.tmp 19) (.tmp 25) _ rfl w.heap.size 24 i0 1 Try.underlying36 hi0 hz1 w.heap.size (2 * k) (2 * n) _ rfl (hr.alloc _) ⟨wr.heap.size, 0, none⟩ 2 2 [.int .u32 (↑(nth xs k) % 4294967296), .int .u32 (↑(nth xs k) / 4294967296 % 4294967296)] rfl rfl (cell_two_new _ _ _ _) (two_one _ _) (by omega) ?_)
                     intro w2 hown2 hg2
                     have hb2 : Below w.heap.size w w2 := (hbr.alloc hbr.size _).grown hg2 (by have := hbr.size; simp; omega) (by intro g h; injection h with h; omega)
                     clear hg2)
        go_roundw
        case rel =>
          refine ⟨k + 1, by omega, by go_num, rfl, ?_, hb2⟩
          rw [HE.out]
          exact hown2
        case measure => simp [intOf]; omega
      · have hkn : k = n := by omega
        have HKN := Lib.hid hkn
        clear hkn
        have hr2 := RW.of_own (k := .u32) hr
        have hc : 2 * n ≤ maxLen := hr2.cap.2
        have htop : top (halves (xs.take k)) ≤ 2 * k := by rw [hr2.len]; exact top_le _
        go_wp2_with (go_at_call 37; refine (words32_any _ _ _ _ _ _ hr2).mono ?_; rintro e w' ⟨rfl, rfl⟩)
        go_ret
        have hh : halves (xs.take k) = halves xs := by rw [List.take_of_length_le (by rw [← hl.out]; omega)]
        have h3 := (hr2.take htop)
        rw [hh, take_top32 _ (halves_ok xs hok), halves_val] at h3
        rw [hh]
        exact ⟨_, _, _, rfl, h3, hbr⟩
end Go.Proofs.Ytogklhbodaghdaa
