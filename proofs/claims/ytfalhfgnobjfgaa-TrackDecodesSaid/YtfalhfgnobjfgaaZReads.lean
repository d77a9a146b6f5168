/-
  ReadSigned, both.
-/
import Derived.Test.YtfalhfgnobjfgaaZReadr
namespace Go.Proofs.Ytfalhfgnobjfgaa
open Go.RowKit

def RetR3 (a b c : Int) (w : World) (e : Ending) (w' : World) : Prop := e = .returned (.tuple #[.int .i64 a, .int .i64 b, .int .i64 c]) ∧ w = w'
theorem retR3 {a b c x y z : Int} {w : World} (hx : x = a) (hy : y = b) (hz : z = c) : RetR3 a b c w (.returned (.tuple #[.int .i64 x, .int .i64 y, .int .i64 z])) w := by
  subst hx hy hz; exact ⟨rfl, rfl⟩
def half (n : Nat) : Int := if n % 2 = 1 then -(((n + 1) / 2 : Nat) : Int) else ((n / 2 : Nat) : Int)
theorem half_odd {n : Nat} (h : n % 2 = 1) : half n = -(((n + 1) / 2 : Nat) : Int) := by unfold half; rw [if_pos h]
theorem half_even {n : Nat} (h : ¬ n % 2 = 1) : half n = ((n / 2 : Nat) : Int) := by unfold half; rw [if_neg h]
theorem rd_err {L : List Nat} {s : Nat} (h : rdE L s ≠ 0) : rdN L s = 0 ∧ rdS L s = 0 := by
  unfold rdE at h
  unfold rdN rdS
  split at h
  · omega
  · rename_i h2; simp [h2]

set_option maxRecDepth 100000 in
set_option maxHeartbeats 400000 in
theorem readSigned_any (L : List Nat) (s : Nat) (hs : Lead L s) (A : Option Addr) (n c B : Nat) (w : World) (hx : RW .u8 w B (.slice A n c) L) :
    Calls Try.prog 24 #[.slice A n c] w (RetR3 (half (rdN L s)) (rdS L s) (rdE L s) w) := by
  have HR := Lib.hid (readNumber_any L s hs A n c B w hx)
  have hle := rdN_le L s
  have hsl := rdS_le L s
  unfold RetRd at HR
  generalize rdN L s = x at *
  generalize rdS L s = y at *
  generalize rdE L s = z at *
  clear hx hs
  by_cases hp : x % 2 = 1
  · rw [half_odd hp]
    have hpi : (x : Int) % 2 = 1 := by omega
    go_enter Try.func24, Try.ntmps24
    go_wp2_with fail
    refine HR.out.mono ?_
    rintro e w' ⟨rfl, rfl⟩
    go_wp2
    go_ret3
    refine retR3 ?_ rfl rfl
    rw [Int.tdiv_eq_ediv_of_nonneg (by omega)]
    unfold wrap64
    omega
  · rw [half_even hp]
    have hpi : ¬ (x : Int) % 2 = 1 := by omega
    go_enter Try.func24, Try.ntmps24
    go_wp2_with fail
    refine HR.out.mono ?_
    rintro e w' ⟨rfl, rfl⟩
    go_wp2
    go_ret3
    refine retR3 ?_ rfl rfl
    omega

set_option maxRecDepth 100000 in
set_option maxHeartbeats 400000 in
theorem refReadSigned_any (L : List Nat) (hb : AllB L) (s : Nat) (hs : Lead L s) (A : Option Addr) (n c B : Nat) (w : World) (hx : RW .u8 w B (.slice A n c) L) :
    Calls Try.prog 35 #[.slice A n c] w (RetR3 (half (rdN L s)) (rdS L s) (rdE L s) w) := by
  have HR := Lib.hid (refReadNumber_any L hb s hs A n c B w hx)
  have hle := rdN_le L s
  have hsl := rdS_le L s
  have he := @rd_err L s
  unfold RetRd at HR
  generalize rdN L s = x at *
  generalize rdS L s = y at *
  generalize rdE L s = z at *
  clear hx hs hb
  by_cases hz : z = 0
  · subst hz
    clear he
    by_cases hp : x % 2 = 1
    · rw [half_odd hp]
      have hpi : (x : Int) % 2 = 1 := by omega
      go_enter Try.func35, Try.ntmps35
      go_wp2_with fail
      refine HR.out.mono ?_
      rintro e w' ⟨rfl, rfl⟩
      go_wp2
      go_ret3
      refine retR3 ?_ rfl rfl
      omega
    · rw [half_even hp]
      have hpi : (x : Int) % 2 = 0 := by omega
      go_enter Try.func35, Try.ntmps35
      go_wp2_with fail
      refine HR.out.mono ?_
      rintro e w' ⟨rfl, rfl⟩
      go_wp2
      go_ret3
      refine retR3 ?_ rfl rfl
      omega
  · obtain ⟨rfl, rfl⟩ := he hz
    have hzi : ((z : Int) == 0) = false := by simpa using hz
    have hzn : ((z : Int) != 0) = true := by simpa using hz
    go_enter Try.func35, Try.ntmps35
    go_wp2_with fail
    refine HR.out.mono ?_
    rintro e w' ⟨rfl, rfl⟩
    go_wp2
    go_ret3
    exact retR3 rfl rfl rfl
end Go.Proofs.Ytfalhfgnobjfgaa
