/-
  Sums and products of lists of words.
-/
import Derived.Test.YtogklhbodaghdaaWord
import Derived.Test.YtogklhbodaghdaaBits
namespace Go.Proofs.Ytogklhbodaghdaa
open Go.RowKit

theorem mul_bound {v x : Nat} (hv : v < B64) (hx : x < B64) : v * x ≤ 340282366920938463426481119284349108225 := by
  unfold B64 at *
  have : v * x ≤ 18446744073709551615 * 18446744073709551615 := Nat.mul_le_mul (by omega) (by omega)
  omega

theorem addTimes_step {v x up z : Nat} (hv : v < B64) (hx : x < B64) (hup : up < B64) (hz : z < B64) :
    addLo z (addLo (mulLo v x) up 0) 0 + B64 * (mulHi v x + addHi (mulLo v x) up 0 + addHi z (addLo (mulLo v x) up 0) 0) = z + v * x + up ∧
    mulHi v x + addHi (mulLo v x) up 0 < B64 ∧ mulHi v x + addHi (mulLo v x) up 0 + addHi z (addLo (mulLo v x) up 0) 0 < B64 := by
  have h1 := mul_eq v x
  have h2 := add_eq (mulLo v x) up 0
  have h3 := add_eq z (addLo (mulLo v x) up 0) 0
  have h4 := mul_bound hv hx
  have h5 := addLo_lt z (addLo (mulLo v x) up 0) 0
  generalize addLo z (addLo (mulLo v x) up 0) 0 = z' at *
  generalize addHi z (addLo (mulLo v x) up 0) 0 = c2 at *
  generalize addLo (mulLo v x) up 0 = lo at *
  generalize addHi (mulLo v x) up 0 = c at *
  generalize mulLo v x = m at *
  generalize mulHi v x = hi at *
  generalize v * x = p at *
  unfold B64 at *
  omega

theorem wrap2 (a b c : Nat) (h1 : a + b < B64) (h2 : a + b + c < B64) : IntKind.u64.wrap (IntKind.u64.wrap ((a : Int) + (b : Int)) + (c : Int)) = ((a + b + c : Nat) : Int) := by
  unfold B64 at *
  rw [IntKind.wrap_u64, IntKind.wrap_u64]
  omega

theorem step_alg {P B z v x up z2 u V Z Y : Nat} (h1 : z2 + B * u = z + v * x + up) (h2 : V + P * up = Z + x * Y) : V + P * z2 + P * B * u = Z + P * z + x * (Y + P * v) := by
  have h3 := congrArg (P * ·) h1
  simp only [Nat.mul_add] at h3
  have e : x * (P * v) = P * (v * x) := by rw [Nat.mul_left_comm, Nat.mul_comm x v]
  have e2 : P * B * u = P * (B * u) := Nat.mul_assoc _ _ _
  rw [Nat.mul_add, e, e2]
  omega

/-- Words z, in a block, with x times the words y added to them. -/
def AddT (w : World) (g : Nat) (pre zs post : List Nat) (total : Nat) (e : Ending) (w' : World) : Prop :=
  ∃ zs' up, e = .returned (.int .u64 (up : Nat)) ∧ zs'.length = zs.length ∧ AllOk zs' ∧ up < B64 ∧ val zs' + B64 ^ zs.length * up = total ∧ Row .u64 w' g 66 (pre ++ (zs' ++ post)) ∧ w.grownBy w' (some g)

def AddTRel (w : World) (g : Nat) (pre zs post ys : List Nat) (n x : Nat) (u i : Value) (wr : World) : Prop :=
  ∃ k zs' up, k ≤ n ∧ i = .int .i64 (k : Nat) ∧ u = .int .u64 (up : Nat) ∧ up < B64 ∧ zs'.length = n ∧ AllOk zs' ∧ Row .u64 wr g 66 (pre ++ (zs' ++ post)) ∧ w.grownBy wr (some g) ∧
    (val (zs'.take k) + B64 ^ k * up = val (zs.take k) + x * val (ys.take k) ∧ (∀ j, k ≤ j → nth zs' j = nth zs j))

theorem RW.grownTo {k : IntKind} {w w' : World} {g B : Nat} {v : Value} {xs : List Nat} (h : RW k w B v xs) (hg : w.grownBy w' (some g)) (hB : B ≤ g) (hs : B ≤ w.heap.size) : RW k w' B v xs :=
  h.keep fun p hp => World.cell?_of_block (hg.block p.block (by omega) (fun e => by injection e; omega))

theorem grown_trans {a b c : World} {r : Option Nat} (h : a.grownBy b r) (k : b.grownBy c r) : a.grownBy c r :=
  ⟨k.os.trans h.os, k.tape.trans h.tape, k.output.trans h.output, Nat.le_trans h.size k.size, fun i hi hn => (k.block i (Nat.lt_of_lt_of_le hi h.size) hn).trans (h.block i hi hn)⟩
theorem grown_set {w wr : World} {g : Nat} (h : w.grownBy wr (some g)) (i : Nat) (u : Value) : w.grownBy (wr.setCell ⟨g, i, none⟩ u) (some g) :=
  grown_trans h ⟨rfl, rfl, rfl, by simp [World.setCell], fun k _ hn => Below.heap_setCell _ _ _ _ (by rintro rfl; exact hn rfl)⟩
theorem grown_drew {w wr : World} {r : Option Nat} (h : w.grownBy wr r) : w.grownBy wr.drew r := ⟨h.os, h.tape, h.output, h.size, h.block⟩

theorem set_mid (pre zs post : List Nat) (k x : Nat) (h : k < zs.length) : (pre ++ (zs ++ post)).set (pre.length + k) x = pre ++ (zs.set k x ++ post) := by
  rw [List.set_append_right _ _ (Nat.le_add_right _ _), Nat.add_sub_cancel_left, List.set_append_left _ _ h]

theorem Row.cellMid {k : IntKind} {w : World} {g : Nat} {e : TypeId} {pre zs post : List Nat} (h : Row k w g e (pre ++ (zs ++ post))) {i : Nat} (hi : i < zs.length) : w.cell? ⟨g, pre.length + i, none⟩ = some (.int k (nth zs i : Nat)) := by
  rw [h.cell (by rw [List.length_append, List.length_append]; omega), nth_append_right, nth_append_left hi]

set_option maxRecDepth 100000 in
set_option maxHeartbeats 1000000 in
theorem addTimes_any (g : Nat) (pre zs post ys : List Nat) (n cz c x : Nat) (A : Option Addr) (w : World) (hz : Row .u64 w g 66 (pre ++ (zs ++ post))) (hzl : n = zs.length) (hzc : n ≤ cz) (hcz : cz ≤ 1099511627776)
    (hy : RW .u64 w g (.slice A n c) ys) (hzo : AllOk zs) (hyo : AllOk ys) (hx : x < B64) :
    Calls Try.prog 54 #[.slice (some ⟨g, pre.length, none⟩) n cz, .slice A n c, .int .u64 x] w (AddT w g pre zs post (val zs + x * val ys)) := by
  have HZL := Lib.hid hzl
  have HYL := Lib.hid hy.len
  have hgs : g ≤ w.heap.size := Nat.le_of_lt hz.lt
  obtain ⟨p, hp⟩ : ∃ p, p = pre.length := ⟨_, rfl⟩
  have HP := Lib.hid hp
  rw [← hp]
  clear hp hzl
  have A0 := add64_run0
  go_enter Try.func54, Try.ntmps54
  go_wp2
  go_loopw [7, 15] (fun u i wr => AddTRel w g pre zs post ys n x u i wr) (fun _ i _ => n - (intOf i).toNat)
  case atStart => exact ⟨0, zs, 0, Nat.zero_le _, rfl, rfl, B64_pos, HZL.out.symm, hzo, hz, ⟨rfl, rfl, rfl, Nat.le_refl _, fun _ _ _ => rfl⟩, by simp [val_nil], fun _ _ => rfl⟩
  case round =>
    obtain ⟨k, zs', up, hk, rfl, rfl, hup, hzl', hzo', hr, hgr, hKK⟩ := hrel
    have HK := Lib.hid hKK
    have HZ' := Lib.hid hzl'
    clear hKK hzl'
    by_cases hlt : k < n
    · have hyr := hy.grownTo hgr (Nat.le_refl _) hgs
      obtain ⟨b, o, hA, hb, hcell⟩ := hyr.at_ (by omega)
      subst hA
      have hxc : wr.cell? ⟨b, o + k, none⟩ = some (.int .u64 (nth ys k : Nat)) := hcell _ hlt
      have hzc' : wr.cell? ⟨g, p + k, none⟩ = some (.int .u64 (nth zs' k : Nat)) := by rw [HP.out]; exact hr.cellMid (by rw [HZ'.out]; exact hlt)
      have hf : wr.frozen? ⟨g, p + k, none⟩ = false := hr.frozen _
      have hv := nth_ok hyo k
      have hzk := nth_ok hzo' k
      clear hcell hyr
      go_wp2_with (go_at_call 32; refine (mul64_any _ _ hv hx _).mono ?_; rintro e w' ⟨rfl, rfl⟩)
      go_roundw
      case rel =>
        obtain ⟨q1, q2, q3⟩ := addTimes_step (z := nth zs' k) hv hx hup hzk
        obtain ⟨g1, g2⟩ := HK.out
        rw [wrap2 _ _ _ q2 q3]
        refine ⟨k + 1, zs'.set k (addLo (nth zs' k) (addLo (mulLo (nth ys k) x) up 0) 0), _, by omega, by go_num, rfl, q3, by rw [List.length_set]; exact HZ'.out, hzo'.set (addLo_lt _ _ _), ?_, grown_set hgr _ _, ?_, ?_⟩
        · have hs := hr.set (p + k) (addLo (nth zs' k) (addLo (mulLo (nth ys k) x) up 0) 0)
          rw [HP.out] at hs ⊢
          rw [set_mid _ _ _ _ _ (by rw [HZ'.out]; exact hlt)] at hs
          exact hs
        · rw [val_set_succ _ _ _ (by rw [HZ'.out]; exact hlt), val_take_succ zs k (by rw [← HZL.out]; exact hlt), val_take_succ ys k (by rw [← HYL.out]; exact hlt), Nat.pow_succ]
          rw [g2 k (Nat.le_refl _)] at q1 ⊢
          exact step_alg q1 g1
        · intro j hj
          rw [nth_set, if_neg (by omega)]
          exact g2 j (by omega)
      case measure => simp [intOf]; omega
    · have hkn : k = n := by omega
      have HKN := Lib.hid hkn
      clear hkn
      go_wp2
      go_ret
      obtain ⟨g1, g2⟩ := HK.out
      have hkn := HKN.out
      subst hkn
      refine ⟨zs', up, rfl, by rw [HZ'.out, HZL.out], hzo', hup, ?_, hr, hgr⟩
      rw [List.take_of_length_le (by rw [HZ'.out]; exact Nat.le_refl _), List.take_of_length_le (by rw [← HZL.out]; exact Nat.le_refl _), List.take_of_length_le (by rw [← HYL.out]; exact Nat.le_refl _)] at g1
      rw [← HZL.out]
      exact g1
end Go.Proofs.Ytogklhbodaghdaa
