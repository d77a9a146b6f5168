/-
  ReadNumber, the program's.
  Numbers of a fixed size, the most significant byte first: fixed, big.
-/
import Derived.Test.YtkakbeiehggkiaaH01
import Derived.Test.YtkakbeiehggkiaaH02
import Derived.Laws.BitsAllLaws
import Derived.OwnWalk
import Derived.Test.YtkakbeiehggkiaaH15
namespace Go.Proofs.Ytkakbeiehggkiaa
open Go.RowKit

def intOf : Value → Int
  | .int _ n => n
  | _ => 0

theorem i64_or_nat (a b : Nat) (ha : a < 9223372036854775808) (hb : b < 9223372036854775808) : bits .or .i64 (a : Int) (b : Int) = ((a ||| b : Nat) : Int) := by
  have hx : a ||| b < 2 ^ 63 := Nat.or_lt_two_pow (by omega) (by omega)
  show IntKind.i64.wrap ((BitVec.ofInt 64 (a : Int) ||| BitVec.ofInt 64 (b : Int)).toNat : Int) = _
  rw [BitVec.toNat_or, ofInt_u64 a (by omega), ofInt_u64 b (by omega), IntKind.wrap_i64]
  omega

theorem or_add (a b k : Nat) (h : a < 2 ^ k) : a ||| (b * 2 ^ k) = a + b * 2 ^ k := by
  rw [Nat.or_comm, Nat.mul_comm b, ← Nat.two_pow_add_eq_or_of_lt h, Nat.add_comm]

/-- One group more. -/
theorem group_in (L : List Nat) (k : Nat) (hk : k < L.length) (h9 : k < 9) :
    bits .or .i64 ((val7 (L.take k) : Nat) : Int) (wrap64 (((nth L k % 128 : Nat) : Int) * 2 ^ (7 * k))) = ((val7 (L.take (k + 1)) : Nat) : Int) := by
  have h1 := val7_lt (L.take k)
  rw [List.length_take, Nat.min_eq_left (by omega)] at h1
  have e1 : (128 : Nat) ^ k = 2 ^ (7 * k) := by rw [Nat.pow_mul]
  have hm : nth L k % 128 < 128 := Nat.mod_lt _ (by omega)
  have h2 : nth L k % 128 * 2 ^ (7 * k) + 2 ^ (7 * k) ≤ 2 ^ (7 * k + 7) := by
    rw [Nat.pow_add]
    calc nth L k % 128 * 2 ^ (7 * k) + 2 ^ (7 * k) = (nth L k % 128 + 1) * 2 ^ (7 * k) := by rw [Nat.add_mul, Nat.one_mul]
      _ ≤ 2 ^ 7 * 2 ^ (7 * k) := Nat.mul_le_mul_right _ (by omega)
      _ = 2 ^ (7 * k) * 2 ^ 7 := Nat.mul_comm _ _
  have h3 : 2 ^ (7 * k + 7) ≤ (9223372036854775808 : Nat) := by
    calc 2 ^ (7 * k + 7) ≤ 2 ^ 63 := Nat.pow_le_pow_right (by omega) (by omega)
      _ = 9223372036854775808 := by decide
  have hp : 0 < 2 ^ (7 * k) := Nat.pow_pos (by omega)
  have e2 : ((nth L k % 128 : Nat) : Int) * 2 ^ (7 * k) = ((nth L k % 128 * 2 ^ (7 * k) : Nat) : Int) := by simp
  have h5 : val7 (L.take k) < 9223372036854775808 := by
    have : 2 ^ (7 * k) ≤ 2 ^ 63 := Nat.pow_le_pow_right (by omega) (by omega)
    rw [e1] at h1
    have e63 : (2:Nat) ^ 63 = 9223372036854775808 := by decide
    omega
  rw [e2, wrap_i64_id' (by omega), i64_or_nat _ _ h5 (by omega), or_add _ _ _ (by rw [← e1]; exact h1), val7_take_succ L k hk, e1, Nat.mul_comm (2 ^ (7 * k))]
where
  wrap_i64_id' {x : Nat} (h : x < 9223372036854775808) : wrap64 (x : Int) = (x : Int) := by unfold wrap64; omega

def RetRd (L : List Nat) (s : Nat) (w : World) (e : Ending) (w' : World) : Prop := e = .returned (.tuple #[.int .i64 (rdN L s : Nat), .int .i64 (rdS L s : Nat), .int .i64 (rdE L s : Nat)]) ∧ w = w'

def RdRel (L : List Nat) (m : Nat) (n i : Value) : Prop := ∃ k : Nat, k ≤ m ∧ i = .int .i64 (k : Int) ∧ n = .int .i64 (val7 (L.take k) : Nat) ∧ Hid (∀ j, j < k → 128 ≤ nth L j)


theorem group_in' (L : List Nat) (k : Nat) (hk : k < L.length) (h9 : k < 9) :
    bits .or .i64 ((val7 (L.take k) : Nat) : Int) (wrap64 ((nth L k : Int) % 128 * 2 ^ (7 * k))) = ((val7 (L.take (k + 1)) : Nat) : Int) := by
  have e : (nth L k : Int) % 128 = ((nth L k % 128 : Nat) : Int) := by omega
  rw [e]
  exact group_in L k hk h9
theorem group_0 (x : Nat) (hx : x < 128) : bits .or .i64 ((val7 [] : Nat) : Int) ((x : Int) % 128) = (x : Int) := by
  have e : (x : Int) % 128 = (x : Int) := by omega
  rw [e]
  have := i64_or_nat 0 x (by omega) (by omega)
  rw [Nat.zero_or] at this
  exact this
theorem group_00 : bits .or .i64 ((val7 [] : Nat) : Int) (wrap64 0) = 0 := by
  have e : wrap64 0 = ((0 : Nat) : Int) % 128 := by unfold wrap64; omega
  rw [e]
  exact group_0 0 (by omega)

theorem lead_of {L : List Nat} {k n : Nat} (hn : n = L.length) (hkn : k < n) (h9 : k < 9) (hK : ∀ j, j < k → 128 ≤ nth L j) (hc : nth L k < 128) : Lead L k := ⟨by omega, by omega, hK, Or.inr (Or.inr hc)⟩
theorem rd0 {L : List Nat} {s n : Nat} (hs : Lead L s) (hn : n = L.length) (h0 : 0 < n) (hc : nth L 0 < 128) : rdN L s = nth L 0 ∧ rdS L s = 1 ∧ rdE L s = 0 := by
  have e := lead_unique hs (lead_of hn h0 (by omega) (fun j hj => by omega) hc)
  subst e
  have hv : rdV L 0 = nth L 0 := by
    unfold rdV
    rw [val7_take_succ L 0 (by omega)]
    simp [val7]; omega
  have := rd_ok (L := L) (s := 0) ⟨by omega, by omega, Or.inl rfl, by rw [hv]; omega⟩
  rw [hv] at this
  exact this
theorem rdk_zero {L : List Nat} {s n k : Nat} (hs : Lead L s) (hn : n = L.length) (hkn : k < n) (h9 : k < 9) (h0 : 0 < k) (hK : ∀ j, j < k → 128 ≤ nth L j) (hc : nth L k = 0) : rdN L s = 0 ∧ rdS L s = 0 ∧ rdE L s = 4 := by
  have e := lead_unique hs (lead_of hn hkn h9 hK (by omega))
  subst e
  exact rd_bad (by unfold RdOk; omega) (by omega)
theorem rdk_big {L : List Nat} {s n k : Nat} (hs : Lead L s) (hn : n = L.length) (hkn : k < n) (h9 : k < 9) (hK : ∀ j, j < k → 128 ≤ nth L j) (hc : nth L k < 128) (hv : 4611686018427387903 < val7 (L.take (k + 1))) : rdN L s = 0 ∧ rdS L s = 0 ∧ rdE L s = 4 := by
  have e := lead_unique hs (lead_of hn hkn h9 hK (by omega))
  subst e
  exact rd_bad (by unfold RdOk rdV; omega) (by omega)
theorem rdk_ok {L : List Nat} {s n k : Nat} (hs : Lead L s) (hn : n = L.length) (hkn : k < n) (h9 : k < 9) (hK : ∀ j, j < k → 128 ≤ nth L j) (hc : nth L k < 128) (hne : nth L k ≠ 0) (hv : ¬ 4611686018427387903 < val7 (L.take (k + 1))) : rdN L s = val7 (L.take (k + 1)) ∧ rdS L s = k + 1 ∧ rdE L s = 0 := by
  have e := lead_unique hs (lead_of hn hkn h9 hK (by omega))
  subst e
  exact rd_ok ⟨by omega, by omega, Or.inr hne, by unfold rdV; omega⟩
theorem rd_end9 {L : List Nat} {s n : Nat} (hs : Lead L s) (hn : n = L.length) (h9 : 9 ≤ n) (hK : ∀ j, j < 9 → 128 ≤ nth L j) : rdN L s = 0 ∧ rdS L s = 0 ∧ rdE L s = 4 := by
  have e := lead_unique hs ⟨by omega, Nat.le_refl 9, hK, Or.inl rfl⟩
  subst e
  exact rd_bad (by unfold RdOk; omega) (by omega)
theorem rd_endS {L : List Nat} {s n : Nat} (hs : Lead L s) (hn : n = L.length) (h9 : n < 9) (hK : ∀ j, j < n → 128 ≤ nth L j) : rdN L s = 0 ∧ rdS L s = 0 ∧ rdE L s = 21 := by
  have e := lead_unique hs ⟨by omega, by omega, hK, Or.inr (Or.inl hn)⟩
  subst e
  exact rd_short ⟨by omega, by omega⟩

theorem retRd {L : List Nat} {s : Nat} {a b c : Nat} {x y z : Int} {w : World} (h : rdN L s = a ∧ rdS L s = b ∧ rdE L s = c) (hx : x = a) (hy : y = b) (hz : z = c) : RetRd L s w (.returned (.tuple #[.int .i64 x, .int .i64 y, .int .i64 z])) w := by
  subst hx hy hz
  obtain ⟨h1, h2, h3⟩ := h
  exact ⟨by rw [h1, h2, h3], rfl⟩

set_option maxRecDepth 100000 in
set_option maxHeartbeats 400000 in
theorem readNumber_le (L : List Nat) (s : Nat) (hs : Lead L s) (A : Option Addr) (n c B : Nat) (h9 : n ≤ 9) (w : World) (hx : RW .u8 w B (.slice A n c) L) :
    Calls Try.prog 34 #[.slice A n c] w (RetRd L s w) := by
  have HXL := Lib.hid hx.len
  have hcap := hx.cap
  unfold maxLen at hcap
  have HS := Lib.hid hs
  clear hs
  go_enter Try.func34, Try.ntmps34
  go_wp2
  go_loop [5, 14] (fun v i => RdRel L n v i) (fun _ i => n - (intOf i).toNat)
  case atStart => exact ⟨0, by omega, rfl, rfl, fun j hj => by omega⟩
  case round =>
    obtain ⟨k, hk, rfl, rfl, HK⟩ := hrel
    by_cases hkm : k < n
    · obtain ⟨b, o, rfl, hbB, hcell⟩ := hx.at_ (by omega)
      have hc1 : w.cell? ⟨b, o + k, none⟩ = some (.int .u8 (nth L k : Nat)) := hcell k (by omega)
      have hgg := group_in' L k (by rw [← HXL.out]; omega) (by omega)
      clear hcell
      by_cases hgo : 128 ≤ nth L k
      · obtain ⟨v, hv⟩ : ∃ v, v = val7 (L.take (k + 1)) := ⟨_, rfl⟩
        rw [← hv] at hgg
        have HV := Lib.hid hv
        have HC := Lib.hid hgo
        clear hv
        go_wp2
        go_round
        case rel =>
          refine ⟨k + 1, by omega, by go_num, by rw [← HV.out], fun j hj => ?_⟩
          by_cases e : j = k
          · subst e; exact HC.out
          · exact HK.out j (by omega)
        case measure => simp [intOf]; omega
      · have hlt : nth L k < 128 := by omega
        clear hgo
        by_cases hk0 : k = 0
        · subst hk0
          clear hgg
          rw [Nat.add_zero] at hc1
          have R := Lib.hid (rd0 HS.out HXL.out (by omega) hlt)
          by_cases hz : nth L 0 = 0
          · have g00 := group_00
            have HZ := Lib.hid hz
            go_wp2
            go_ret3
            exact retRd R.out (by rw [HZ.out]; rfl) rfl rfl
          · have g0 := group_0 (nth L 0) hlt
            have hsm : ((nth L 0 : Nat) : Int) ≤ 4611686018427387903 := by omega
            go_wp2
            go_ret3
            exact retRd R.out rfl rfl rfl
        · have hkp : 0 < k := by omega
          by_cases hz : nth L k = 0
          · have R := Lib.hid (rdk_zero HS.out HXL.out (by omega) (by omega) hkp HK.out hz)
            clear hgg
            go_wp2
            go_ret3
            exact retRd R.out rfl rfl rfl
          · by_cases hbig : 4611686018427387903 < val7 (L.take (k + 1))
            · have R := Lib.hid (rdk_big HS.out HXL.out (by omega) (by omega) HK.out hlt hbig)
              obtain ⟨v, hv⟩ : ∃ v, v = val7 (L.take (k + 1)) := ⟨_, rfl⟩
              rw [← hv] at hgg hbig
              clear hv
              go_wp2
              go_ret3
              exact retRd R.out rfl rfl rfl
            · have R := Lib.hid (rdk_ok HS.out HXL.out (by omega) (by omega) HK.out hlt hz hbig)
              obtain ⟨v, hv⟩ : ∃ v, v = val7 (L.take (k + 1)) := ⟨_, rfl⟩
              rw [← hv] at hgg hbig
              have HV := Lib.hid hv
              clear hv
              go_wp2
              go_ret3
              exact retRd R.out (by rw [← HV.out]) (by simp) rfl
    · obtain rfl : n = k := by omega
      have HKn := HK
      by_cases h99 : n < 9
      · go_wp2
        go_ret3
        exact retRd (rd_endS HS.out HXL.out h99 HKn.out) rfl rfl rfl
      · obtain rfl : n = 9 := by omega
        go_wp2
        go_ret3
        exact retRd (rd_end9 HS.out HXL.out (Nat.le_refl _) HKn.out) rfl rfl rfl

set_option maxRecDepth 100000 in
set_option maxHeartbeats 400000 in
theorem readNumber_gt (L : List Nat) (s : Nat) (hs : Lead L s) (A : Option Addr) (n c B : Nat) (h9 : 9 < n) (w : World) (hx : RW .u8 w B (.slice A n c) L) :
    Calls Try.prog 34 #[.slice A n c] w (RetRd L s w) := by
  have HXL := Lib.hid hx.len
  have hcap := hx.cap
  unfold maxLen at hcap
  have HS := Lib.hid hs
  clear hs
  go_enter Try.func34, Try.ntmps34
  go_wp2
  go_loop [5, 14] (fun v i => RdRel L 9 v i) (fun _ i => 9 - (intOf i).toNat)
  case atStart => exact ⟨0, by omega, rfl, rfl, fun j hj => by omega⟩
  case round =>
    obtain ⟨k, hk, rfl, rfl, HK⟩ := hrel
    by_cases hkm : k < 9
    · obtain ⟨b, o, rfl, hbB, hcell⟩ := hx.at_ (by omega)
      have hc1 : w.cell? ⟨b, o + k, none⟩ = some (.int .u8 (nth L k : Nat)) := hcell k (by omega)
      have hgg := group_in' L k (by rw [← HXL.out]; omega) (by omega)
      clear hcell
      by_cases hgo : 128 ≤ nth L k
      · obtain ⟨v, hv⟩ : ∃ v, v = val7 (L.take (k + 1)) := ⟨_, rfl⟩
        rw [← hv] at hgg
        have HV := Lib.hid hv
        have HC := Lib.hid hgo
        clear hv
        go_wp2
        go_round
        case rel =>
          refine ⟨k + 1, by omega, by go_num, by rw [← HV.out], fun j hj => ?_⟩
          by_cases e : j = k
          · subst e; exact HC.out
          · exact HK.out j (by omega)
        case measure => simp [intOf]; omega
      · have hlt : nth L k < 128 := by omega
        clear hgo
        by_cases hk0 : k = 0
        · subst hk0
          clear hgg
          rw [Nat.add_zero] at hc1
          have R := Lib.hid (rd0 HS.out HXL.out (by omega) hlt)
          by_cases hz : nth L 0 = 0
          · have g00 := group_00
            have HZ := Lib.hid hz
            go_wp2
            go_ret3
            exact retRd R.out (by rw [HZ.out]; rfl) rfl rfl
          · have g0 := group_0 (nth L 0) hlt
            have hsm : ((nth L 0 : Nat) : Int) ≤ 4611686018427387903 := by omega
            go_wp2
            go_ret3
            exact retRd R.out rfl rfl rfl
        · have hkp : 0 < k := by omega
          by_cases hz : nth L k = 0
          · have R := Lib.hid (rdk_zero HS.out HXL.out (by omega) (by omega) hkp HK.out hz)
            clear hgg
            go_wp2
            go_ret3
            exact retRd R.out rfl rfl rfl
          · by_cases hbig : 4611686018427387903 < val7 (L.take (k + 1))
            · have R := Lib.hid (rdk_big HS.out HXL.out (by omega) (by omega) HK.out hlt hbig)
              obtain ⟨v, hv⟩ : ∃ v, v = val7 (L.take (k + 1)) := ⟨_, rfl⟩
              rw [← hv] at hgg hbig
              clear hv
              go_wp2
              go_ret3
              exact retRd R.out rfl rfl rfl
            · have R := Lib.hid (rdk_ok HS.out HXL.out (by omega) (by omega) HK.out hlt hz hbig)
              obtain ⟨v, hv⟩ : ∃ v, v = val7 (L.take (k + 1)) := ⟨_, rfl⟩
              rw [← hv] at hgg hbig
              have HV := Lib.hid hv
              clear hv
              go_wp2
              go_ret3
              exact retRd R.out (by rw [← HV.out]) (by simp) rfl
    · obtain rfl : k = 9 := by omega
      have HKn := HK
      go_wp2
      go_ret3
      exact retRd (rd_end9 HS.out HXL.out (by omega) HKn.out) rfl rfl rfl

theorem readNumber_any (L : List Nat) (s : Nat) (hs : Lead L s) (A : Option Addr) (n c B : Nat) (w : World) (hx : RW .u8 w B (.slice A n c) L) :
    Calls Try.prog 34 #[.slice A n c] w (RetRd L s w) := by
  rcases Nat.lt_or_ge 9 n with h | h
  · exact readNumber_gt L s hs A n c B h w hx
  · exact readNumber_le L s hs A n c B h w hx
end Go.Proofs.Ytkakbeiehggkiaa

namespace Go.Proofs.Ytkakbeiehggkiaa
open Go.RowKit

def be (L : List Nat) : Nat := L.foldl (fun n x => n * 256 + x) 0
theorem be_take (L : List Nat) (k : Nat) (h : k < L.length) : be (L.take (k + 1)) = be (L.take k) * 256 + nth L k := by
  unfold be
  rw [List.take_succ_eq_append_getElem h, List.foldl_append, nth_lt h]; rfl
theorem be_lt (L : List Nat) (hb : AllB L) : ∀ k, k ≤ L.length → be (L.take k) < 256 ^ k
  | 0, _ => by simp [be]
  | k + 1, h => by
    have ih := be_lt L hb k (by omega)
    have hx := hb.nth k
    rw [be_take L k (by omega), Nat.pow_succ]
    omega
theorem be_bd (L : List Nat) (hb : AllB L) (k : Nat) (hk : k ≤ L.length) (h4 : k ≤ 4) : be (L.take k) < 4294967296 := by
  have h1 := be_lt L hb k hk
  have h2 : 256 ^ k ≤ 256 ^ 4 := Nat.pow_le_pow_right (by omega) h4
  have h3 : 256 ^ 4 = 4294967296 := by decide
  omega
theorem or_byte (v x : Nat) (hv : v < 4294967296) (hx : x < 256) : bits .or .i64 ((v : Int) * 256) (x : Int) = ((v * 256 + x : Nat) : Int) := by
  have e : (v : Int) * 256 = ((v * 256 : Nat) : Int) := by omega
  rw [e, i64_or_nat _ _ (by omega) (by omega)]
  have h := Nat.two_pow_add_eq_or_of_lt (i := 8) (b := x) (by omega) v
  rw [show v * 256 = 2 ^ 8 * v from by omega, ← h]

def BeRel (L : List Nat) (n : Nat) (kd : IntKind) (sv iv : Value) : Prop := ∃ k : Nat, k ≤ n ∧ iv = .int .i64 (k : Int) ∧ sv = .int kd (be (L.take k) : Nat)

set_option maxRecDepth 100000 in
set_option maxHeartbeats 400000 in
theorem fixed_any (L : List Nat) (hb : AllB L) (A : Option Addr) (n c B : Nat) (h4 : n ≤ 4) (w : World) (hx : RW .u8 w B (.slice A n c) L) :
    Calls Try.prog 94 #[.slice A n c] w fun e w' => e = .returned (.int .i64 (be L : Nat)) ∧ w = w' := by
  have HXL := Lib.hid hx.len
  have hcap := hx.cap
  unfold maxLen at hcap
  have HB := Lib.hid hb
  go_enter Try.func94, Try.ntmps94
  go_wp2
  go_loop [3, 8] (fun sv iv => BeRel L n .i64 sv iv) (fun _ iv => n - (intOf1 iv).toNat)
  case atStart => exact ⟨0, Nat.zero_le _, rfl, rfl⟩
  case round =>
    obtain ⟨k, hk, rfl, rfl⟩ := hrel
    have hbd := be_bd L HB.out k (by rw [← HXL.out]; exact hk) (by omega)
    by_cases hkn : k < n
    · obtain ⟨b, o, rfl, _, hc⟩ := hx.at_ (by omega)
      have hc1 : w.cell? ⟨b, o + k, none⟩ = some (.int .u8 (nth L k : Nat)) := hc k hkn
      clear hc
      obtain ⟨v, hv⟩ : ∃ v, v = be (L.take k) := ⟨_, rfl⟩
      obtain ⟨x, hxx⟩ : ∃ x, x = nth L k := ⟨_, rfl⟩
      have hx256 : x < 256 := by rw [hxx]; exact HB.out.nth k
      rw [← hv]
      rw [← hv] at hbd
      rw [← hxx] at hc1
      have HS := Lib.hid (And.intro hv hxx)
      clear hv hxx
      have hor := or_byte v x hbd hx256
      go_wp2
      go_round
      case rel => exact ⟨k + 1, by omega, by go_num, by rw [be_take L k (by rw [← HXL.out]; exact hkn), ← HS.out.1, ← HS.out.2]; go_num⟩
      case measure => simp [intOf1]; omega
    · obtain rfl : k = n := by omega
      obtain ⟨v, hv⟩ : ∃ v, v = be (L.take k) := ⟨_, rfl⟩
      rw [← hv]
      rw [← hv] at hbd
      have HS := Lib.hid hv
      clear hv
      go_wp2
      go_ret
      have : L.take k = L := List.take_of_length_le (by rw [← HXL.out]; exact Nat.le_refl _)
      refine ⟨?_, rfl⟩
      rw [← this, ← HS.out]
      rfl

set_option maxRecDepth 100000 in
set_option maxHeartbeats 400000 in
theorem big_any (L : List Nat) (hb : AllB L) (A : Option Addr) (n c B : Nat) (h4 : n ≤ 4) (w : World) (hx : RW .u8 w B (.slice A n c) L) :
    Calls Try.prog 92 #[.slice A n c] w fun e w' => e = .returned (.int .u64 (be L : Nat)) ∧ w = w' := by
  have HXL := Lib.hid hx.len
  have hcap := hx.cap
  unfold maxLen at hcap
  have HB := Lib.hid hb
  go_enter Try.func92, Try.ntmps92
  go_wp2
  go_loop [3, 7] (fun sv iv => BeRel L n .u64 sv iv) (fun _ iv => n - (intOf1 iv).toNat)
  case atStart => exact ⟨0, Nat.zero_le _, rfl, rfl⟩
  case round =>
    obtain ⟨k, hk, rfl, rfl⟩ := hrel
    have hbd := be_bd L HB.out k (by rw [← HXL.out]; exact hk) (by omega)
    by_cases hkn : k < n
    · obtain ⟨b, o, rfl, _, hc⟩ := hx.at_ (by omega)
      have hc1 : w.cell? ⟨b, o + k, none⟩ = some (.int .u8 (nth L k : Nat)) := hc k hkn
      clear hc
      obtain ⟨v, hv⟩ : ∃ v, v = be (L.take k) := ⟨_, rfl⟩
      obtain ⟨x, hxx⟩ : ∃ x, x = nth L k := ⟨_, rfl⟩
      have hx256 : x < 256 := by rw [hxx]; exact HB.out.nth k
      rw [← hv]
      rw [← hv] at hbd
      rw [← hxx] at hc1
      have HS := Lib.hid (And.intro hv hxx)
      clear hv hxx
      go_wp2
      go_round
      case rel => exact ⟨k + 1, by omega, by go_num, by rw [be_take L k (by rw [← HXL.out]; exact hkn), ← HS.out.1, ← HS.out.2]; go_num⟩
      case measure => simp [intOf1]; omega
    · obtain rfl : k = n := by omega
      obtain ⟨v, hv⟩ : ∃ v, v = be (L.take k) := ⟨_, rfl⟩
      rw [← hv]
      rw [← hv] at hbd
      have HS := Lib.hid hv
      clear hv
      go_wp2
      go_ret
      have : L.take k = L := List.take_of_length_le (by rw [← HXL.out]; exact Nat.le_refl _)
      refine ⟨?_, rfl⟩
      rw [← this, ← HS.out]
      rfl
end Go.Proofs.Ytkakbeiehggkiaa
