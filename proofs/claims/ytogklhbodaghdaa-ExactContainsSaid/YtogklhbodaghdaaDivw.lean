/-
  Division by one word.
-/
import Derived.Test.YtogklhbodaghdaaCmp
import Derived.Test.YtogklhbodaghdaaBits
import Derived.WalkSmall
namespace Go.Proofs.Ytogklhbodaghdaa
open Go.RowKit

/-- The quotient and the rest of two words by one. -/
def dq (hi lo y : Nat) : Nat := (hi * B64 + lo) / y
def dr (hi lo y : Nat) : Nat := (hi * B64 + lo) % y

def Div64At (hi lo y : Nat) : Prop := ∀ w : World, Calls Try.prog 67 #[.int .u64 (hi : Nat), .int .u64 (lo : Nat), .int .u64 (y : Nat)] w fun e w' =>
  e = .returned (.tuple #[.int .u64 (dq hi lo y : Nat), .int .u64 (dr hi lo y : Nat)]) ∧ ∃ q, w' = w.drewN q

theorem div64_zero (lo y : Nat) (hy : 0 < y) (hlo : lo < B64) : Div64At 0 lo y := by
  intro w
  have h1 : ((y : Int) == 0) = false := by rw [beq_eq_false_iff_ne]; omega
  have e1 : dq 0 lo y = lo / y := by unfold dq; rw [Nat.zero_mul, Nat.zero_add]
  have e2 : dr 0 lo y = lo % y := by unfold dr; rw [Nat.zero_mul, Nat.zero_add]
  rw [e1, e2]
  clear e1 e2
  have hw : IntKind.u64.wrap ((lo : Int) / (y : Int)) = (lo : Int) / (y : Int) := wrap_small (lo / y) (Nat.lt_of_le_of_lt (Nat.div_le_self _ _) hlo)
  go_enter Try.func67, Try.ntmps67
  go_wp2
  go_region
  all_goals
    go_wp2
    go_ret2
    exact ⟨by simp [hw], 1, rfl⟩

/-- A quotient in words and a rest of one word. -/
def RetD (w : World) (q r : Nat) (e : Ending) (w' : World) : Prop :=
  ∃ A n c, e = .returned (.tuple #[.slice A n c, .int .u64 (r : Nat)]) ∧ RW .u64 w' w'.heap.size (.slice A n c) (words q) ∧ Below w.heap.size w w'

def DivwRel (w : World) (xs : List Nat) (n d : Nat) (r i : Value) (wr : World) : Prop :=
  ∃ (k : Nat) (L : List Nat), k ≤ n ∧ i = .int .i64 ((k : Int) - 1) ∧ r = .int .u64 (val (xs.drop k) % d : Nat) ∧ L.length = n ∧ AllOk L ∧ Row .u64 wr w.heap.size 66 L ∧ Below w.heap.size w wr ∧ val (L.drop k) = val (xs.drop k) / d

theorem divw_step {d x X : Nat} (hd : 0 < d) (hx : x < B64) : (x + B64 * X) / d = dq (X % d) x d + B64 * (X / d) ∧ (x + B64 * X) % d = dr (X % d) x d ∧ dq (X % d) x d < B64 := by
  have e : x + B64 * X = ((X % d) * B64 + x) + d * (B64 * (X / d)) := by
    have h := congrArg (B64 * ·) (Nat.mod_add_div X d)
    simp only [Nat.mul_add] at h
    rw [Nat.mul_left_comm B64 d] at h
    rw [Nat.mul_comm (X % d)]
    omega
  unfold dq dr
  refine ⟨?_, ?_, ?_⟩
  · rw [e, Nat.add_mul_div_left _ _ hd]
  · rw [e, Nat.add_mul_mod_self_left]
  · refine Nat.div_lt_of_lt_mul ?_
    have h1 : X % d + 1 ≤ d := Nat.mod_lt _ hd
    have h2 := Nat.mul_le_mul_right B64 h1
    rw [Nat.add_mul] at h2
    omega

set_option maxRecDepth 100000 in
set_option maxHeartbeats 1000000 in
theorem divideWord_any (A : Option Addr) (n c d : Nat) (xs : List Nat) (B : Nat) (w : World) (hx : RW .u64 w B (.slice A n c) xs) (hB : B ≤ w.heap.size) (hxo : AllOk xs) (hd : 0 < d) (hn : n ≤ 65536)
    (hD : ∀ k, k < xs.length → Div64At (val (xs.drop (k + 1)) % d) (nth xs k) d) :
    Calls Try.prog 51 #[.slice A n c, .int .u64 (d : Nat)] w (RetD w (val xs / d) (val xs % d)) := by
  obtain ⟨i0, hi0, hz0, hz1, hz2⟩ := info_parts info64
  have HXL := Lib.hid hx.len
  have HD := Lib.hid hD
  clear hD
  go_enter Try.func51, Try.ntmps51
  go_wp2_with (at_make
               refine wpList_make_full _ rfl (.tmp 10) (.tmp 10) _ rfl w.heap.size 66 i0 _ 1 Try.underlying53 hi0 hz0 hz1 .i64 .i64 _ _ n rfl rfl (by omega) (by omega) (by rw [hz2]; omega) (by unfold maxLen; omega) (Nat.le_refl _) ?_
               intro w1 hown hg1
               have hb1 : Below w.heap.size w w1 := (Below.refl _ _).grown hg1 (Nat.le_refl _) (by simp)
               have hrow := row_of_made hown
               clear hown hg1)
  go_loopw [7, 8] (fun r i wr => DivwRel w xs n d r i wr) (fun _ i _ => (intOf i + 1).toNat)
  case atStart =>
    refine ⟨n, _, Nat.le_refl _, rfl, ?_, by simp, AllOk.zeros _, hrow, hb1, ?_⟩
    · rw [List.drop_of_length_le (by rw [← HXL.out]; exact Nat.le_refl _)]; simp [val_nil]
    · rw [List.drop_of_length_le (l := xs) (by rw [← HXL.out]; exact Nat.le_refl _), List.drop_of_length_le (by simp)]; simp [val_nil]
  case round =>
    obtain ⟨k, L, hk, rfl, rfl, hLl, hLo, hr, hbr, hKK⟩ := hrel
    have HK := Lib.hid hKK
    have HL := Lib.hid hLl
    clear hKK hLl
    by_cases h0 : k = 0
    · subst h0
      have hrw : RW .u64 wr wr.heap.size (.slice (some ⟨w.heap.size, 0, none⟩) n n) L := RW.of_row0 (post := []) (hr.of_eq (by simp)) HL.out.symm (Nat.le_refl _) (by unfold maxLen; omega) hr.lt
      go_wp2_with (go_at_call 47; refine (trim_any _ _ _ _ _ _ hrw).mono ?_; rintro e w' ⟨rfl, rfl⟩)
      go_ret2
      have h3 := trim_words hrw hLo
      have hK := HK.out
      rw [List.drop_zero, List.drop_zero] at hK
      rw [hK] at h3
      exact ⟨_, _, _, rfl, h3, hbr⟩
    · obtain ⟨k, rfl⟩ : ∃ t, k = t + 1 := ⟨k - 1, by omega⟩
      have hxr := hx.belowM hbr hB
      obtain ⟨b, o, hA, hb, hcell⟩ := hxr.at_ (by omega)
      subst hA
      have hxc : wr.cell? ⟨b, o + k, none⟩ = some (.int .u64 (nth xs k : Nat)) := hcell _ (by omega)
      have hzc : wr.cell? ⟨w.heap.size, k, none⟩ = some (.int .u64 (nth L k : Nat)) := hr.cell (by rw [HL.out]; omega)
      have hf : wr.frozen? ⟨w.heap.size, k, none⟩ = false := hr.frozen _
      have hkx : k < xs.length := by rw [← HXL.out]; omega
      have hc := Lib.hid (HD.out k hkx)
      have ek : ((k + 1 : Nat) : Int) - 1 = (k : Int) := by omega
      rw [ek]
      clear hcell hxr ek
      go_wp2_with (go_at_call 67; refine (hc.out _).mono ?_; rintro e w' ⟨rfl, q, rfl⟩)
      go_roundw
      case rel =>
        obtain ⟨s1, s2, s3⟩ := divw_step (X := val (xs.drop (k + 1))) hd (nth_ok hxo k)
        refine ⟨k, L.set k (dq (val (xs.drop (k + 1)) % d) (nth xs k) d), by omega, rfl, ?_, by rw [List.length_set]; exact HL.out, hLo.set s3, hr.set _ _, (below_drewN hbr q).setCell (Nat.le_refl _) _, ?_⟩
        · rw [List.drop_eq_getElem_cons hkx, val_cons, ← nth_lt hkx, s2]
        · have hkL : k < L.length := by rw [HL.out]; omega
          rw [List.drop_eq_getElem_cons hkx, val_cons, ← nth_lt hkx, s1, List.drop_eq_getElem_cons (by rw [List.length_set]; exact hkL), val_cons, List.getElem_set_self, List.drop_set_of_lt (by omega), HK.out]
      case measure => simp [intOf] <;> omega
end Go.Proofs.Ytogklhbodaghdaa
