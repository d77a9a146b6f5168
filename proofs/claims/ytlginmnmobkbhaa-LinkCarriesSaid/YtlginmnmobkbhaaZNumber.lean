/-
  Number, the program's; the check at the end of every statement.
-/
import Derived.Test.YtlginmnmobkbhaaZMem
namespace Go.Proofs.Ytlginmnmobkbhaa
open Go.RowKit

def intOf1 : Value → Int
  | .int _ n => n
  | _ => 0

def enc7 (n : Nat) : List Nat := if _h : n < 128 then [n] else (n % 128 + 128) :: enc7 (n / 128)
termination_by n
decreasing_by omega
theorem enc7_small {n : Nat} (h : n < 128) : enc7 n = [n] := by rw [enc7]; simp [h]
theorem enc7_big {n : Nat} (h : ¬ n < 128) : enc7 n = (n % 128 + 128) :: enc7 (n / 128) := by rw [enc7]; simp [h]
theorem enc7_pos (n : Nat) : 1 ≤ (enc7 n).length := by
  by_cases h : n < 128
  · rw [enc7_small h]; simp
  · rw [enc7_big h]; simp
theorem enc7_len : ∀ (k n : Nat), n < 128 ^ (k + 1) → (enc7 n).length ≤ k + 1
  | 0, n, h => by rw [enc7_small (by omega)]; simp
  | k + 1, n, h => by
    by_cases hs : n < 128
    · rw [enc7_small hs]; simp
    · rw [enc7_big hs, List.length_cons]
      have := enc7_len k (n / 128) (by rw [Nat.div_lt_iff_lt_mul (by omega), ← Nat.pow_succ]; exact h)
      omega
theorem enc7_len9 {n : Nat} (h : n ≤ 4611686018427387903) : (enc7 n).length ≤ 9 := enc7_len 8 n (by
  have : (128 : Nat) ^ (8 + 1) = 9223372036854775808 := by decide
  omega)

def RetNum (w : World) (L : List Nat) (e : Ending) (w' : World) : Prop := ∃ v, e = .returned (.tuple #[v, .int .i64 0]) ∧ w'.ownsRow w.heap.size 5 1 v L.length (bys L) ∧ Below w.heap.size w w'

def NumRel (w : World) (L : List Nat) (N : Nat) (nv zv : Value) (wr : World) : Prop :=
  ∃ (m : Nat) (E : List Nat), nv = .int .i64 (m : Int) ∧ m ≤ 4611686018427387903 ∧ Hid (enc7 N = E ++ enc7 m) ∧ zv = .slice (some ⟨w.heap.size, 0, none⟩) (L.length + E.length) (L.length + 9) ∧
    wr.ownsRow w.heap.size 5 1 (.slice (some ⟨w.heap.size, 0, none⟩) (L.length + E.length) (L.length + 9)) (L.length + E.length) (bys (L ++ E)) ∧ Below w.heap.size w wr

theorem infoB : (Try.prog.info? 5).map (fun i => (i.zero, i.size, i.bytes)) = some (some (.int .u8 0), 1, 1) := by kernel_rfl
theorem infoS : (Try.prog.info? 5).map (·.size) = some 1 := by kernel_rfl
theorem grown_below {w wr w1 : World} {g : Nat} (hb : Below w.heap.size w wr) (hg : wr.grownBy w1 (some g)) (h : w.heap.size ≤ g) : Below w.heap.size w w1 :=
  hb.trans ⟨hg.os, hg.tape, hg.output, hg.size, fun k hk => hg.block k (Nat.lt_of_lt_of_le hk hb.size) (by simp; omega)⟩

theorem one_cell (wr : World) (e : TypeId) (x : Value) : ∀ j u, [x][j]? = some u → (wr.alloc (.cells #[x] e)).cell? ((⟨wr.heap.size, 0, none⟩ : Addr).add j) = some u := by
  intro j u hj
  match j, hj with
  | 0, hj => simp at hj; subst hj; simp [Addr.add]

set_option maxRecDepth 100000 in
set_option maxHeartbeats 400000 in
theorem number_ok (L : List Nat) (N : Nat) (hN : N ≤ 4611686018427387903) (A : Option Addr) (n c B : Nat) (hn64 : n ≤ 1048576) (w : World) (hx : RW .u8 w B (.slice A n c) L) (hBw : B ≤ w.heap.size) :
    Calls Try.prog 38 #[.slice A n c, .int .i64 (N : Int)] w (RetNum w (L ++ enc7 N)) := by
  obtain ⟨i0, hi0, hz0, hz1, hz2⟩ := info_parts infoB
  have HXL := Lib.hid hx.len
  have HN := Lib.hid hN
  go_enter Try.func38, Try.ntmps38
  go_wp2_with (at_make
               refine wpList_make_room _ rfl (.tmp 14) (.tmp 17) _ rfl 5 i0 Try.underlying33 hi0 hz0 hz1 .i64 .i64 _ _ n (n + 9) rfl rfl (by rfl) (by omega) (by omega) (by rw [hz2]; omega) (by omega) ?_)
  intro w1 hrow hb1 hs1
  obtain ⟨w2, hcp, hrow2, hb2⟩ := run_copy_room (P := Try.prog) (dT := 33) (sT := 33) (ty := 3) (m := n) Try.underlying33 infoS hrow (hx.belowM hb1 hBw) (Nat.le_refl _) (by omega)
  have HB2 := Lib.hid (hb1.trans hb2)
  have HR2 := Lib.hid hrow2
  clear hrow hb1 hs1 hrow2 hb2
  go_wp2
  go_loopw [1, 6] (fun nv zv wr => NumRel w L N nv zv wr) (fun nv _ _ => (intOf1 nv).toNat)
  case atStart =>
    have hl := HXL.out
    refine ⟨N, [], rfl, HN.out, by simp [Hid], by simp [hl], ?_, HB2.out⟩
    have := owns_of_row (n := n) (c := n + 9) (base := w.heap.size) HR2.out (Nat.le_refl _) hl (by simp; omega) (by unfold maxLen; omega)
    simpa [← hl] using this
  case round =>
    obtain ⟨m, E, rfl, hm, HE, rfl, hown, hbw⟩ := hrel
    have hE9 : E.length + 1 ≤ 9 := by
      have h1 := congrArg List.length HE.out
      rw [List.length_append] at h1
      have h2 := enc7_len9 HN.out
      have h3 := enc7_pos m
      omega
    have hfit : L.length + E.length + 1 ≤ L.length + 9 := by omega
    have hszw := hbw.size
    have hln : L.length ≤ 1048576 := by rw [← HXL.out]; exact hn64
    by_cases h128 : m < 128
    · have hmi : IntKind.u8.wrap (m : Int) = (m : Int) := by rw [IntKind.wrap_u8]; omega
      have OC := one_cell wr 5 (.int .u8 (m : Int))
      go_wp2_with (at_builtin
                   refine wpList_append_fits _ rfl (.tmp 33) (.tmp 36) _ rfl w.heap.size 5 i0 1 Try.underlying33 hi0 hz1 w.heap.size (L.length + E.length) (L.length + 9) _ rfl (hown.alloc _) ⟨wr.heap.size, 0, none⟩ 1 1 [.int .u8 (m : Int)] rfl rfl OC (by intro u hu; simp at hu; subst hu; rfl) hfit ?_)
      intro w3 hown3 hg3
      go_wp2
      go_ret2
      refine ⟨_, rfl, ?_, grown_below (hbw.alloc hbw.size _) hg3 (Nat.le_refl _)⟩
      have e : L ++ enc7 N = (L ++ E) ++ [m] := by rw [HE.out, enc7_small h128, List.append_assoc]
      rw [e, List.length_append, List.length_append, bys_append]
      exact hown3
    · have hmi : IntKind.u8.wrap ((m : Int) % 128) = (m : Int) % 128 := by rw [IntKind.wrap_u8]; omega
      have hor : bits .or .u8 ((m : Int) % 128) 128 = ((m % 128 + 128 : Nat) : Int) := by rw [u8_or128_right _ (by omega) (by omega)]; omega
      have OC := one_cell wr 5 (.int .u8 ((m % 128 + 128 : Nat) : Int))
      have h128i : (128 : Int) ≤ (m : Int) := by omega
      go_wp2_with (at_builtin
                   refine wpList_append_fits _ rfl (.tmp 26) (.tmp 31) _ rfl w.heap.size 5 i0 1 Try.underlying33 hi0 hz1 w.heap.size (L.length + E.length) (L.length + 9) _ rfl (hown.alloc _) ⟨wr.heap.size, 0, none⟩ 1 1 [.int .u8 ((m % 128 + 128 : Nat) : Int)] rfl rfl OC (by intro u hu; simp at hu; subst hu; rfl) hfit ?_)
      intro w3 hown3 hg3
      go_wp2
      go_roundw
      case rel =>
        refine ⟨m / 128, E ++ [m % 128 + 128], by go_num, by omega, ?_, ?_, ?_, grown_below (hbw.alloc hbw.size _) hg3 (Nat.le_refl _)⟩
        · show enc7 N = _
          rw [HE.out, enc7_big h128, List.append_assoc]; rfl
        · rw [List.length_append]; rfl
        · rw [List.length_append, ← List.append_assoc, bys_append]
          exact hown3
      case measure => simp [intOf1]; omega

/-- Out of its reach a number is refused. -/
theorem number_bad (N : Int) (hN : N < 0 ∨ 4611686018427387903 < N) (A : Option Addr) (n c : Nat) (w : World) :
    Calls Try.prog 38 #[.slice A n c, .int .i64 N] w fun e w' => e = .returned (.tuple #[.slice none 0 0, .int .i64 2]) ∧ w = w' := by
  rcases hN with h | h
  · go_enter Try.func38, Try.ntmps38
    go_wp2
    go_ret2
    exact ⟨rfl, rfl⟩
  · have h0 : ¬ N < 0 := by omega
    go_enter Try.func38, Try.ntmps38
    go_wp2
    go_ret2
    exact ⟨rfl, rfl⟩

end Go.Proofs.Ytlginmnmobkbhaa
