/-
  The document's Number.
-/
import Derived.Test.YtfalhfgnobjfgaaZJoin
namespace Go.Proofs.Ytfalhfgnobjfgaa
open Go.RowKit

def NumRelR (w : World) (L : List Nat) (N : Nat) (nv zv : Value) (wr : World) : Prop :=
  ∃ (m : Nat) (E : List Nat), nv = .int .i64 (m : Int) ∧ m ≤ 4611686018427387903 ∧ Hid (enc7 N = E ++ enc7 m) ∧
    wr.ownsRow w.heap.size 5 1 zv (L.length + E.length) (bys (L ++ E)) ∧ Below w.heap.size w wr

set_option maxRecDepth 100000 in
set_option maxHeartbeats 400000 in
theorem refNumber_ok (L : List Nat) (N : Nat) (hN : N ≤ 4611686018427387903) (v : Value) (B : Nat) (hn64 : L.length ≤ 1048576) (w : World) (hx : RB w B v L) (hBw : B ≤ w.heap.size) :
    Calls Try.prog 29 #[v, .int .i64 (N : Int)] w (RetNum w (L ++ enc7 N)) := by
  obtain ⟨A, c, rfl⟩ := hx.form
  have HN := Lib.hid hN
  go_enter Try.func29, Try.ntmps29
  go_wp2_with fail
  refine (joined_one _ L B w hx hBw (by omega)).mono ?_
  rintro e w1 ⟨z, rfl, hown0, hb1⟩
  have HOW0 := Lib.hid hown0
  have HB1 := Lib.hid hb1
  clear hown0 hb1
  go_wp2
  go_loopw [1, 6] (fun nv zv wr => NumRelR w L N nv zv wr) (fun nv _ _ => (intOf1 nv).toNat)
  case atStart => exact ⟨N, [], rfl, HN.out, by simp [Hid], by simpa using HOW0.out, HB1.out⟩
  case round =>
    obtain ⟨m, E, rfl, hm, HE, hown, hbw⟩ := hrel
    have hE9 : E.length + 1 ≤ 9 := by
      have h1 := congrArg List.length HE.out
      rw [List.length_append] at h1
      have h2 := enc7_len9 HN.out
      have h3 := enc7_pos m
      omega
    have hszw := hbw.size
    by_cases h128 : m < 128
    · have hmi : IntKind.u8.wrap (m : Int) = (m : Int) := by rw [IntKind.wrap_u8]; omega
      have OC : RB (wr.alloc (.cells #[.int .u8 (m : Int)] 5)) (wr.heap.size + 1) (.slice (some ⟨wr.heap.size, 0, none⟩) 1 1) [m] := rb_one wr _ m
      go_wp2_with (at_builtin
                   refine wpList_append_bytes rfl (.tmp 27) (.tmp 30) rfl w.heap.size (wr.heap.size + 1) _ _ (L ++ E) rfl (hown.alloc _) _ [m] rfl OC (by simp; omega) (by simp; omega) ?_)
      intro v3 w3 hown3 hg3
      go_wp2
      go_ret2
      refine ⟨_, rfl, ?_, grown_below' (hbw.alloc hbw.size _) hg3 (ownBlock_ge hown)⟩
      have e : L ++ enc7 N = L ++ (E ++ [m]) := by rw [HE.out, enc7_small h128]
      have hl : (L ++ (E ++ [m])).length = L.length + E.length + 1 := by simp; omega
      rw [e, hl]
      exact hown3
    · obtain ⟨x, hxe⟩ : ∃ x, x = m % 128 + 128 := ⟨_, rfl⟩
      have hmi : (m : Int) % 128 + 128 = (x : Int) := by omega
      have hx256 : x < 256 := by omega
      have HXE := Lib.hid hxe
      clear hxe
      have OC : RB (wr.alloc (.cells #[.int .u8 (x : Int)] 5)) (wr.heap.size + 1) (.slice (some ⟨wr.heap.size, 0, none⟩) 1 1) [x] := rb_one wr _ _
      have h128i : (128 : Int) ≤ (m : Int) := by omega
      go_wp2_with (at_builtin
                   refine wpList_append_bytes rfl (.tmp 18) (.tmp 23) rfl w.heap.size (wr.heap.size + 1) _ _ (L ++ E) rfl (hown.alloc _) _ [x] rfl OC (by simp; omega) (by simp; omega) ?_)
      intro v3 w3 hown3 hg3
      go_wp2
      go_roundw
      case rel =>
        refine ⟨m / 128, E ++ [x], by go_num, by omega, ?_, ?_, grown_below' (hbw.alloc hbw.size _) hg3 (ownBlock_ge hown)⟩
        · show enc7 N = _
          rw [HE.out, enc7_big h128, List.append_assoc, HXE.out]; rfl
        · rw [show L.length + (E ++ [x]).length = L.length + E.length + 1 from by simp; omega]
          exact hown3
      case measure => simp [intOf1]; omega
theorem refNumber_bad (N : Int) (hN : N < 0 ∨ 4611686018427387903 < N) (A : Option Addr) (n c : Nat) (w : World) :
    Calls Try.prog 29 #[.slice A n c, .int .i64 N] w fun e w' => e = .returned (.tuple #[.slice none 0 0, .int .i64 2]) ∧ w = w' := by
  rcases hN with h | h
  · go_enter Try.func29, Try.ntmps29
    go_wp2
    go_ret2
    exact ⟨rfl, rfl⟩
  · have h0 : ¬ N < 0 := by omega
    go_enter Try.func29, Try.ntmps29
    go_wp2
    go_ret2
    exact ⟨rfl, rfl⟩
end Go.Proofs.Ytfalhfgnobjfgaa
