/-
  The sum of two numbers.
  denominator, FromInt, Neg of fractions.
  The methods of fractions that first uses.
-/
import Derived.Test.YtdpmfenikomfkaaGreatE15
import Derived.Test.YtdpmfenikomfkaaGreatE16
import Derived.WalkSmall
import Derived.Test.YtdpmfenikomfkaaGreatE20
import Derived.Deep.RegionHeld3
namespace Go.Proofs.YtdpmfenikomfkaaGreat
open Go.RowKit

theorem add_alg {P B z y c z2 u V Z Y : Nat} (h1 : z2 + B * u = z + y + c) (h2 : V + P * c = Z + Y) : V + P * z2 + P * B * u = Z + P * z + (Y + P * y) := by
  have h3 := congrArg (P * ·) h1
  simp only [Nat.mul_add] at h3
  have e2 : P * B * u = P * (B * u) := Nat.mul_assoc _ _ _
  rw [e2]
  omega

/-- Words z, in a block, with the words y added to them. -/
def AddC (w : World) (g : Nat) (pre zs post : List Nat) (total : Nat) (e : Ending) (w' : World) : Prop :=
  ∃ zs' c, e = .returned (.int .u64 (c : Nat)) ∧ zs'.length = zs.length ∧ AllOk zs' ∧ c ≤ 1 ∧ val zs' + B64 ^ zs.length * c = total ∧ Row .u64 w' g 65 (pre ++ (zs' ++ post)) ∧ w.grownBy w' (some g)

def AddRel1 (w : World) (g : Nat) (pre zs post ys : List Nat) (n m : Nat) (c i : Value) (wr : World) : Prop :=
  ∃ k zs' cy, k ≤ m ∧ i = .int .i64 (k : Nat) ∧ c = .int .u64 (cy : Nat) ∧ cy ≤ 1 ∧ zs'.length = n ∧ AllOk zs' ∧ Row .u64 wr g 65 (pre ++ (zs' ++ post)) ∧ w.grownBy wr (some g) ∧
    (val (zs'.take k) + B64 ^ k * cy = val (zs.take k) + val (ys.take k) ∧ (∀ j, k ≤ j → nth zs' j = nth zs j))
def AddRel2 (w : World) (g : Nat) (pre zs post ys : List Nat) (n m : Nat) (c i : Value) (wr : World) : Prop :=
  ∃ k zs' cy, m ≤ k ∧ k ≤ n ∧ i = .int .i64 (k : Nat) ∧ c = .int .u64 (cy : Nat) ∧ cy ≤ 1 ∧ zs'.length = n ∧ AllOk zs' ∧ Row .u64 wr g 65 (pre ++ (zs' ++ post)) ∧ w.grownBy wr (some g) ∧
    (val (zs'.take k) + B64 ^ k * cy = val (zs.take k) + val ys ∧ (∀ j, k ≤ j → nth zs' j = nth zs j))

theorem drop_eq_of_nth {xs ys : List Nat} {k : Nat} (hl : xs.length = ys.length) (h : ∀ j, k ≤ j → nth xs j = nth ys j) : xs.drop k = ys.drop k := by
  refine list_ext_nth (by simp [hl]) (fun j _ => ?_)
  rw [nth_drop, nth_drop]
  exact h _ (by omega)

theorem add_fin {zs zs' ys : List Nat} {n k cy : Nat} (hl : n = zs.length) (hl' : zs'.length = n) (hk : k ≤ n) (h1 : val (zs'.take k) + B64 ^ k * cy = val (zs.take k) + val ys) (h2 : ∀ j, k ≤ j → nth zs' j = nth zs j) (h : k = n ∨ cy = 0) :
    val zs' + B64 ^ zs.length * cy = val zs + val ys := by
  rw [← hl]
  rcases h with h | h
  · subst h
    rw [List.take_of_length_le (by omega), List.take_of_length_le (by omega)] at h1
    exact h1
  · subst h
    have hd := drop_eq_of_nth (by omega) h2
    have e1 : val zs' = val (zs'.take k) + B64 ^ k * val (zs'.drop k) := by
      conv => lhs; rw [← List.take_append_drop k zs']
      rw [val_append, List.length_take, Nat.min_eq_left (by omega)]
    have e2 : val zs = val (zs.take k) + B64 ^ k * val (zs.drop k) := by
      conv => lhs; rw [← List.take_append_drop k zs]
      rw [val_append, List.length_take, Nat.min_eq_left (by omega)]
    rw [e1, e2, hd]
    rw [Nat.mul_zero] at *
    omega

set_option maxRecDepth 100000 in
set_option maxHeartbeats 1000000 in
theorem addTo_any (g : Nat) (pre zs post ys : List Nat) (n m cz c : Nat) (A : Option Addr) (w : World) (hz : Row .u64 w g 65 (pre ++ (zs ++ post))) (hzl : n = zs.length) (hzc : n ≤ cz) (hcz : cz ≤ 1099511627776)
    (hy : RW .u64 w g (.slice A m c) ys) (hmn : m ≤ n) (hzo : AllOk zs) (hyo : AllOk ys) :
    Calls Tryz.prog 97 #[.slice (some ⟨g, pre.length, none⟩) n cz, .slice A m c] w (AddC w g pre zs post (val zs + val ys)) := by
  have HZL := Lib.hid hzl
  have HYL := Lib.hid hy.len
  have hgs : g ≤ w.heap.size := Nat.le_of_lt hz.lt
  obtain ⟨p, hp⟩ : ∃ p, p = pre.length := ⟨_, rfl⟩
  have HP := Lib.hid hp
  rw [← hp]
  clear hp hzl
  go_enter Tryz.func97, Tryz.ntmps97
  go_wp2
  go_loopw [5, 11] (fun c i wr => AddRel1 w g pre zs post ys n m c i wr) (fun _ i _ => m - (intOf i).toNat)
  case atStart => exact ⟨0, zs, 0, Nat.zero_le _, rfl, rfl, by omega, HZL.out.symm, hzo, hz, ⟨rfl, rfl, rfl, Nat.le_refl _, fun _ _ _ => rfl⟩, by simp [val_nil], fun _ _ => rfl⟩
  case round =>
    obtain ⟨k, zs', cy, hk, rfl, rfl, hcy, hzl', hzo', hr, hgr, hKK⟩ := hrel
    have HK := Lib.hid hKK
    have HZ' := Lib.hid hzl'
    clear hKK hzl'
    by_cases hlt : k < m
    · have hyr := hy.grownTo hgr (Nat.le_refl _) hgs
      obtain ⟨b, o, hA, hb, hcell⟩ := hyr.at_ (by omega)
      subst hA
      have hxc : wr.cell? ⟨b, o + k, none⟩ = some (.int .u64 (nth ys k : Nat)) := hcell _ hlt
      have hzc' : wr.cell? ⟨g, p + k, none⟩ = some (.int .u64 (nth zs' k : Nat)) := by rw [HP.out]; exact hr.cellMid (by rw [HZ'.out]; omega)
      have hf : wr.frozen? ⟨g, p + k, none⟩ = false := hr.frozen _
      have A0 := add64_run (nth zs' k) (nth ys k) cy hcy
      clear hcell hyr
      go_wp2
      go_roundw
      case rel =>
        have q1 := add_eq (nth zs' k) (nth ys k) cy
        obtain ⟨g1, g2⟩ := HK.out
        refine ⟨k + 1, zs'.set k (addLo (nth zs' k) (nth ys k) cy), _, by omega, by go_num, rfl, addHi_le _ _ _ (nth_ok hzo' k) (nth_ok hyo k) hcy, by rw [List.length_set]; exact HZ'.out, hzo'.set (addLo_lt _ _ _), ?_, grown_set hgr _ _, ?_, ?_⟩
        · have hs := hr.set (p + k) (addLo (nth zs' k) (nth ys k) cy)
          rw [HP.out] at hs ⊢
          rw [set_mid _ _ _ _ _ (by rw [HZ'.out]; omega)] at hs
          exact hs
        · rw [val_set_succ _ _ _ (by rw [HZ'.out]; omega), val_take_succ zs k (by rw [← HZL.out]; omega), val_take_succ ys k (by rw [← HYL.out]; omega), Nat.pow_succ]
          rw [g2 k (Nat.le_refl _)] at q1 ⊢
          exact add_alg q1 g1
        · intro j hj
          rw [nth_set, if_neg (by omega)]
          exact g2 j (by omega)
      case measure => simp [intOf] <;> omega
    · have hkn : k = m := by omega
      obtain ⟨g1, g2⟩ := HK.out
      rw [hkn, List.take_of_length_le (l := ys) (by rw [← HYL.out]; exact Nat.le_refl _)] at g1
      rw [hkn] at g2
      have HK2 := Lib.hid (And.intro g1 g2)
      clear g1 g2 hkn HK
      go_wp2
      go_loopw [5, 8] (fun c i wr => AddRel2 w g pre zs post ys n m c i wr) (fun _ i _ => n - (intOf i).toNat)
      case atStart => exact ⟨m, zs', cy, Nat.le_refl _, hmn, rfl, rfl, hcy, HZ'.out, hzo', hr, hgr, HK2.out⟩
      case round =>
        clear hr hgr hzo' hcy hk hlt HZ' HK2
        obtain ⟨k, zs', cy, hmk, hkn, rfl, rfl, hcy, hzl', hzo', hr, hgr, hKK⟩ := hrel
        have HK := Lib.hid hKK
        have HZ' := Lib.hid hzl'
        clear hKK hzl'
        by_cases hlt : k < n
        · by_cases hc0 : cy = 0
          · have hcb : ((cy : Int) != 0) = false := by rw [hc0]; rfl
            have HC0 := Lib.hid hc0
            clear hc0
            go_wp2
            go_ret
            obtain ⟨g1, g2⟩ := HK.out
            exact ⟨zs', cy, rfl, by rw [HZ'.out, HZL.out], hzo', hcy, add_fin HZL.out HZ'.out hkn g1 g2 (Or.inr HC0.out), hr, hgr⟩
          · have hcb : ((cy : Int) != 0) = true := by rw [bne_iff_ne]; omega
            have hzc' : wr.cell? ⟨g, p + k, none⟩ = some (.int .u64 (nth zs' k : Nat)) := by rw [HP.out]; exact hr.cellMid (by rw [HZ'.out]; exact hlt)
            have hf : wr.frozen? ⟨g, p + k, none⟩ = false := hr.frozen _
            have A0 := add64_run1 (nth zs' k) cy hcy
            clear hc0
            go_wp2
            go_roundw
            case rel =>
              have q1 := add_eq (nth zs' k) 0 cy
              obtain ⟨g1, g2⟩ := HK.out
              refine ⟨k + 1, zs'.set k (addLo (nth zs' k) 0 cy), _, by omega, by omega, by go_num, rfl, addHi_le _ _ _ (nth_ok hzo' k) B64_pos hcy, by rw [List.length_set]; exact HZ'.out, hzo'.set (addLo_lt _ _ _), ?_, grown_set hgr _ _, ?_, ?_⟩
              · have hs := hr.set (p + k) (addLo (nth zs' k) 0 cy)
                rw [HP.out] at hs ⊢
                rw [set_mid _ _ _ _ _ (by rw [HZ'.out]; exact hlt)] at hs
                exact hs
              · rw [val_set_succ _ _ _ (by rw [HZ'.out]; exact hlt), val_take_succ zs k (by rw [← HZL.out]; exact hlt), Nat.pow_succ]
                rw [g2 k (Nat.le_refl _)] at q1 ⊢
                have := add_alg q1 g1
                rw [Nat.mul_zero, Nat.add_zero] at this
                exact this
              · intro j hj
                rw [nth_set, if_neg (by omega)]
                exact g2 j (by omega)
            case measure => simp [intOf] <;> omega
        · go_wp2
          go_ret
          obtain ⟨g1, g2⟩ := HK.out
          exact ⟨zs', cy, rfl, by rw [HZ'.out, HZL.out], hzo', hcy, add_fin HZL.out HZ'.out hkn g1 g2 (Or.inl (by omega)), hr, hgr⟩

theorem plus_core {x y n : Nat} (hx : (words x).length ≤ n) (hy : y ≤ x ∨ (words y).length ≤ n) : x + y < B64 ^ (n + 1) := by
  have h1 := Nat.lt_of_lt_of_le (words_lt x) (Nat.pow_le_pow_right B64_pos hx)
  have h2 : y < B64 ^ n := by
    rcases hy with h | h
    · omega
    · exact Nat.lt_of_lt_of_le (words_lt y) (Nat.pow_le_pow_right B64_pos h)
  rw [Nat.pow_succ]
  have : B64 ^ n * 2 ≤ B64 ^ n * B64 := Nat.mul_le_mul_left _ (by unfold B64; omega)
  omega

set_option maxRecDepth 100000 in
set_option maxHeartbeats 1000000 in
theorem plus_ge (x y : Nat) (A1 A2 : Option Addr) (n m c1 c2 : Nat) (B : Nat) (w : World) (hx : RW .u64 w B (.slice A1 n c1) (words x)) (hy : RW .u64 w B (.slice A2 m c2) (words y)) (hB : B ≤ w.heap.size) (hmn : m ≤ n) (hn : n ≤ 65536) :
    Calls Tryz.prog 82 #[.slice A1 n c1, .slice A2 m c2] w (RetW w (x + y)) := by
  have HXL := Lib.hid hx.len
  have HYL := Lib.hid hy.len
  go_enter Tryz.func82, Tryz.ntmps82
  go_wp2_with fail
  refine (extended_any A1 n c1 (n + 1) (words x) B _ (by exact hx) hB (by omega) (by omega)).mono ?_
  rintro e w1 ⟨rfl, hr1, hb1⟩
  have hlen : (words x ++ List.replicate (n + 1 - n) 0).length = n + 1 := by rw [List.length_append, List.length_replicate, ← HXL.out]; omega
  rw [hlen]
  have hrow : Row .u64 w1 w.heap.size 65 ([] ++ ((words x ++ List.replicate (n + 1 - n) 0) ++ [])) := hr1.of_eq (by simp)
  have hcall := Lib.hid (And.intro (addTo_any w.heap.size [] (words x ++ List.replicate (n + 1 - n) 0) [] (words y) (n + 1) m (n + 1) c2 A2 w1 hrow hlen.symm (Nat.le_refl _) (by omega) ((hy.belowM hb1 hB).more hB) (by omega) ((words_ok x).append (AllOk.zeros _)) (words_ok y)) trivial)
  clear hrow
  have HL := Lib.hid hlen
  clear hlen hr1
  go_wp2_with fail
  refine hcall.out.1.mono ?_
  rintro e w2 ⟨zs', cy, rfl, hzl, hzo, hcy, hval, hrow2, hg2⟩
  rw [HL.out] at hzl hval
  have hb2 : Below w.heap.size w w2 := hb1.grown hg2 hb1.size (by intro q hq; injection hq with hq; omega)
  have hrw : RW .u64 w2 w2.heap.size (.slice (some ⟨w.heap.size, 0, none⟩) (n + 1) (n + 1)) zs' := RW.of_row0 (post := []) (hrow2.of_eq (by simp)) hzl.symm (Nat.le_refl _) (by unfold maxLen; omega) hrow2.lt
  have HV := Lib.hid (And.intro hzl hval)
  clear hzl hval hrow2
  go_wp2_with (go_at_call 76; refine (trim_any _ _ _ _ _ _ hrw).mono ?_; rintro e w' ⟨rfl, rfl⟩)
  go_ret
  obtain ⟨hzl, hval⟩ := HV.out
  rw [val_append, val_zeros_n, Nat.mul_zero, Nat.add_zero, val_words, val_words] at hval
  have h3 := trim_words hrw hzo
  have hlt := plus_core (x := x) (y := y) (n := n) (by rw [← HXL.out]; exact Nat.le_refl _) (Or.inr (by rw [← HYL.out]; exact hmn))
  have hc0 : cy = 0 := by
    rcases Nat.eq_zero_or_pos cy with h | h
    · exact h
    · have : B64 ^ (n + 1) * 1 ≤ B64 ^ (n + 1) * cy := Nat.mul_le_mul_left _ h
      omega
  rw [hc0, Nat.mul_zero, Nat.add_zero] at hval
  rw [hval] at h3
  exact ⟨_, _, _, rfl, h3, hb2⟩

set_option maxRecDepth 100000 in
set_option maxHeartbeats 1000000 in
theorem plus_lt (x y : Nat) (A1 A2 : Option Addr) (n m c1 c2 : Nat) (B : Nat) (w : World) (hx : RW .u64 w B (.slice A1 n c1) (words x)) (hy : RW .u64 w B (.slice A2 m c2) (words y)) (hB : B ≤ w.heap.size) (hmn' : m < n) (hn : n ≤ 65536) :
    Calls Tryz.prog 82 #[.slice A2 m c2, .slice A1 n c1] w (RetW w (x + y)) := by
  have HXL := Lib.hid hx.len
  have HYL := Lib.hid hy.len
  have hmn : m ≤ n := by omega
  go_enter Tryz.func82, Tryz.ntmps82
  go_wp2_with fail
  refine (extended_any A1 n c1 (n + 1) (words x) B _ (by exact hx) hB (by omega) (by omega)).mono ?_
  rintro e w1 ⟨rfl, hr1, hb1⟩
  have hlen : (words x ++ List.replicate (n + 1 - n) 0).length = n + 1 := by rw [List.length_append, List.length_replicate, ← HXL.out]; omega
  rw [hlen]
  have hrow : Row .u64 w1 w.heap.size 65 ([] ++ ((words x ++ List.replicate (n + 1 - n) 0) ++ [])) := hr1.of_eq (by simp)
  have hcall := Lib.hid (And.intro (addTo_any w.heap.size [] (words x ++ List.replicate (n + 1 - n) 0) [] (words y) (n + 1) m (n + 1) c2 A2 w1 hrow hlen.symm (Nat.le_refl _) (by omega) ((hy.belowM hb1 hB).more hB) (by omega) ((words_ok x).append (AllOk.zeros _)) (words_ok y)) trivial)
  clear hrow
  have HL := Lib.hid hlen
  clear hlen hr1
  go_wp2_with fail
  refine hcall.out.1.mono ?_
  rintro e w2 ⟨zs', cy, rfl, hzl, hzo, hcy, hval, hrow2, hg2⟩
  rw [HL.out] at hzl hval
  have hb2 : Below w.heap.size w w2 := hb1.grown hg2 hb1.size (by intro q hq; injection hq with hq; omega)
  have hrw : RW .u64 w2 w2.heap.size (.slice (some ⟨w.heap.size, 0, none⟩) (n + 1) (n + 1)) zs' := RW.of_row0 (post := []) (hrow2.of_eq (by simp)) hzl.symm (Nat.le_refl _) (by unfold maxLen; omega) hrow2.lt
  have HV := Lib.hid (And.intro hzl hval)
  clear hzl hval hrow2
  go_wp2_with (go_at_call 76; refine (trim_any _ _ _ _ _ _ hrw).mono ?_; rintro e w' ⟨rfl, rfl⟩)
  go_ret
  obtain ⟨hzl, hval⟩ := HV.out
  rw [val_append, val_zeros_n, Nat.mul_zero, Nat.add_zero, val_words, val_words] at hval
  have h3 := trim_words hrw hzo
  have hlt := plus_core (x := x) (y := y) (n := n) (by rw [← HXL.out]; exact Nat.le_refl _) (Or.inr (by rw [← HYL.out]; exact hmn))
  have hc0 : cy = 0 := by
    rcases Nat.eq_zero_or_pos cy with h | h
    · exact h
    · have : B64 ^ (n + 1) * 1 ≤ B64 ^ (n + 1) * cy := Nat.mul_le_mul_left _ h
      omega
  rw [hc0, Nat.mul_zero, Nat.add_zero] at hval
  rw [hval] at h3
  exact ⟨_, _, _, rfl, h3, hb2⟩

theorem plus_any (x y : Nat) (A1 A2 : Option Addr) (n m c1 c2 : Nat) (B : Nat) (w : World) (hx : RW .u64 w B (.slice A1 n c1) (words x)) (hy : RW .u64 w B (.slice A2 m c2) (words y)) (hB : B ≤ w.heap.size) (hn : n ≤ 65536) (hm : m ≤ 65536) :
    Calls Tryz.prog 82 #[.slice A1 n c1, .slice A2 m c2] w (RetW w (x + y)) := by
  by_cases h : m ≤ n
  · exact plus_ge x y A1 A2 n m c1 c2 B w hx hy hB h hn
  · rw [Nat.add_comm]
    exact plus_lt y x A2 A1 m n c2 c1 B w hy hx hB (by omega) hm
end Go.Proofs.YtdpmfenikomfkaaGreat

namespace Go.Proofs.YtdpmfenikomfkaaGreat
open Go.RowKit

theorem dd_len {d : Nat} (hd : d ≠ 0) : (words (dd d)).length = 0 ↔ d = 1 := by
  rw [words_len_zero]
  unfold dd
  split <;> omega

set_option maxRecDepth 100000 in
set_option maxHeartbeats 400000 in
theorem denominator_any (neg : Bool) (d : Nat) (hd : d ≠ 0) (A1 A2 : Option Addr) (n1 n2 c1 c2 : Nat) (B : Nat) (w : World) (hy : RW .u64 w B (.slice A2 n2 c2) (words (dd d))) (hB : B ≤ w.heap.size) :
    Calls Tryz.prog 74 #[.agg #[.bool neg, .slice A1 n1 c1, .slice A2 n2 c2]] w (RetW w d) := by
  have HYL := Lib.hid hy.len
  by_cases h1 : d = 1
  · have hn0 : ((n2 : Int) == 0) = true := by
      have : n2 = 0 := by rw [HYL.out]; exact (dd_len hd).2 h1
      rw [this]; rfl
    have H1 := Lib.hid h1
    clear h1
    go_enter Tryz.func74, Tryz.ntmps74
    go_wp2_with fail
    refine (single_any 1 (by unfold B64; omega) _).mono ?_
    rintro e w1 ⟨A3, n3, c3, rfl, h3, hb3⟩
    go_wp2
    go_ret
    rw [H1.out]
    exact ⟨_, _, _, rfl, h3, ((Below.refl _ _).alloc (Nat.le_refl _) _).trans (hb3.mono (by simp))⟩
  · have hn0 : ((n2 : Int) == 0) = false := by
      have : n2 ≠ 0 := by rw [HYL.out]; exact fun h => h1 ((dd_len hd).1 h)
      rw [beq_eq_false_iff_ne]; omega
    have H1 := Lib.hid h1
    go_enter Tryz.func74, Tryz.ntmps74
    go_wp2
    go_ret
    rw [dd_ne h1] at hy
    exact ⟨_, _, _, rfl, (hy.alloc hB _).more (by simp; omega), (Below.refl _ _).alloc (Nat.le_refl _) _⟩

set_option maxRecDepth 100000 in
set_option maxHeartbeats 400000 in
theorem fromInt_any (a : Int) (h1 : -9223372036854775808 ≤ a) (h2 : a ≤ 9223372036854775807) (w : World) :
    Calls Tryz.prog 43 #[.int .i64 a] w (RetF w (decide (a < 0)) a.natAbs 1) := by
  have hab : a.natAbs < B64 := by unfold B64; omega
  by_cases h0 : a < 0
  · have hd : decide (a < 0) = true := by simpa using h0
    have e : IntKind.u64.wrap (-IntKind.u64.wrap a) = ((a.natAbs : Nat) : Int) := by rw [IntKind.wrap_u64, IntKind.wrap_u64]; omega
    have HE := Lib.hid e
    rw [hd]
    clear e hd
    go_enter Tryz.func43, Tryz.ntmps43
    go_wp2_with fail
    rw [HE.out]
    refine (single_any a.natAbs hab _).mono ?_
    rintro e w1 ⟨A3, n3, c3, rfl, h3, hb3⟩
    obtain ⟨m0, m1, m2, mf⟩ := fr_cellsG (heap_alloc_new w _) hb3
    obtain ⟨f1, f2⟩ := fr_storeG (heap_alloc_new w _) ((Below.refl w.heap.size w).alloc (Nat.le_refl _) _) (Nat.le_refl _) hb3 (.bool true) (.slice A3 n3 c3) (.slice none 0 0)
    have F := Lib.hid (And.intro f1 f2)
    clear f1 f2
    go_wp2
    obtain ⟨f1, f2⟩ := F.out
    refine bodyPost_ret (v := .agg #[.bool true, .slice A3 n3 c3, .slice none 0 0]) (by simp [results, Tryz.results43, go_sem, m0, m1, m2]) rfl ⟨.agg #[.bool true, .slice A3 n3 c3, .slice none 0 0], rfl, ?_, f1⟩
    exact FR.mk (f2 _ _ _ h3) rw_one
  · have hd : decide (a < 0) = false := by simpa using h0
    rw [hd]
    obtain ⟨k, rfl⟩ := Int.eq_ofNat_of_zero_le (show 0 ≤ a by omega)
    rw [Int.natAbs_natCast] at *
    clear hd
    go_enter Tryz.func43, Tryz.ntmps43
    go_wp2_with fail
    refine (single_any k hab _).mono ?_
    rintro e w1 ⟨A3, n3, c3, rfl, h3, hb3⟩
    obtain ⟨m0, m1, m2, mf⟩ := fr_cellsG (heap_alloc_new w _) hb3
    obtain ⟨f1, f2⟩ := fr_storeG (heap_alloc_new w _) ((Below.refl w.heap.size w).alloc (Nat.le_refl _) _) (Nat.le_refl _) hb3 (.bool false) (.slice A3 n3 c3) (.slice none 0 0)
    have F := Lib.hid (And.intro f1 f2)
    clear f1 f2
    go_wp2
    obtain ⟨f1, f2⟩ := F.out
    refine bodyPost_ret (v := .agg #[.bool false, .slice A3 n3 c3, .slice none 0 0]) (by simp [results, Tryz.results43, go_sem, m0, m1, m2]) rfl ⟨.agg #[.bool false, .slice A3 n3 c3, .slice none 0 0], rfl, ?_, f1⟩
    exact FR.mk (f2 _ _ _ h3) rw_one

theorem RW.len0 {w : World} {B n c : Nat} {A : Option Addr} {m : Nat} (h : RW .u64 w B (.slice A n c) (words m)) : n = 0 ↔ m = 0 := by
  rw [h.len, words_len_zero]

set_option maxRecDepth 100000 in
set_option maxHeartbeats 400000 in
theorem neg_any (neg : Bool) (n d : Nat) (A1 A2 : Option Addr) (n1 n2 c1 c2 : Nat) (B : Nat) (w : World) (hx : RW .u64 w B (.slice A1 n1 c1) (words n)) (hy : RW .u64 w B (.slice A2 n2 c2) (words (dd d))) (hB : B ≤ w.heap.size) :
    Calls Tryz.prog 70 #[.agg #[.bool neg, .slice A1 n1 c1, .slice A2 n2 c2]] w (RetF w (!neg && decide (0 < n)) n d) := by
  have h0 := hx.len0
  have hm := hx.cap
  unfold maxLen at hm
  cases neg with
  | true =>
    go_enter Tryz.func70, Tryz.ntmps70
    go_wp2
    refine bodyPost_ret (v := .agg #[.bool false, .slice A1 n1 c1, .slice A2 n2 c2]) (by simp [results, Tryz.results70, go_sem]) rfl ⟨.agg #[.bool false, .slice A1 n1 c1, .slice A2 n2 c2], rfl, ?_, ((Below.refl _ _).alloc (Nat.le_refl _) _).alloc (by simp) _⟩
    exact FR.mk (((hx.alloc hB _).alloc (by simp; omega) _).more (by simp; omega)) (((hy.alloc hB _).alloc (by simp; omega) _).more (by simp; omega))
  | false =>
    by_cases hn : n1 = 0
    · have hb : decide (0 < n) = false := by simp [h0.1 hn]
      have hg : decide ((0 : Int) < (n1 : Int)) = false := by simp [hn]
      have HB := Lib.hid hb
      have HN := Lib.hid hn
      clear hb h0 hn
      go_enter Tryz.func70, Tryz.ntmps70
      go_wp2
      refine bodyPost_ret (v := .agg #[.bool false, .slice A1 n1 c1, .slice A2 n2 c2]) (by simp [results, Tryz.results70, go_sem]; exact HN.out) rfl ⟨.agg #[.bool false, .slice A1 n1 c1, .slice A2 n2 c2], rfl, ?_, ((Below.refl _ _).alloc (Nat.le_refl _) _).alloc (by simp) _⟩
      rw [HB.out]
      exact FR.mk (((hx.alloc hB _).alloc (by simp; omega) _).more (by simp; omega)) (((hy.alloc hB _).alloc (by simp; omega) _).more (by simp; omega))
    · have hb : decide (0 < n) = true := by simp; exact Nat.pos_of_ne_zero fun h => hn (h0.2 h)
      have hp : 0 < n1 := by omega
      have HB := Lib.hid hb
      clear hb h0 hn
      go_enter Tryz.func70, Tryz.ntmps70
      go_wp2
      refine bodyPost_ret (v := .agg #[.bool true, .slice A1 n1 c1, .slice A2 n2 c2]) (by simp [results, Tryz.results70, go_sem]) rfl ⟨.agg #[.bool true, .slice A1 n1 c1, .slice A2 n2 c2], rfl, ?_, ((Below.refl _ _).alloc (Nat.le_refl _) _).alloc (by simp) _⟩
      rw [HB.out]
      exact FR.mk (((hx.alloc hB _).alloc (by simp; omega) _).more (by simp; omega)) (((hy.alloc hB _).alloc (by simp; omega) _).more (by simp; omega))
end Go.Proofs.YtdpmfenikomfkaaGreat

namespace Go.Proofs.YtdpmfenikomfkaaGreat
open Go.RowKit

/-- A Rat: its sign and two lists of words of 32 bits. -/
def UR (w : World) (B : Nat) (v : Value) (neg : Bool) (n d : Nat) : Prop :=
  ∃ A1 n1 c1 A2 n2 c2, v = .agg #[.bool neg, .slice A1 n1 c1, .slice A2 n2 c2] ∧ RW .u32 w B (.slice A1 n1 c1) (words32 n) ∧ RW .u32 w B (.slice A2 n2 c2) (words32 (dd d))
def RetUR (w : World) (neg : Bool) (n d : Nat) (e : Ending) (w' : World) : Prop :=
  ∃ v, e = .returned v ∧ UR w' w'.heap.size v neg n d ∧ Below w.heap.size w w'

set_option maxRecDepth 100000 in
set_option maxHeartbeats 400000 in
theorem rat_any (neg : Bool) (n d : Nat) (A1 A2 : Option Addr) (n1 n2 c1 c2 : Nat) (B : Nat) (w : World) (hx : RW .u64 w B (.slice A1 n1 c1) (words n)) (hy : RW .u64 w B (.slice A2 n2 c2) (words (dd d))) (hB : B ≤ w.heap.size) (hn : n1 ≤ 65536) (hm : n2 ≤ 65536) :
    Calls Tryz.prog 75 #[.agg #[.bool neg, .slice A1 n1 c1, .slice A2 n2 c2]] w (RetUR w neg n d) := by
  obtain ⟨W0, hW0⟩ : ∃ W0, W0 = (w.alloc (.cells #[.bool neg, .slice A1 n1 c1, .slice A2 n2 c2] 74)).alloc (.cells #[.bool false, .slice none 0 0, .slice none 0 0] 48) := ⟨_, rfl⟩
  have HW0 := Lib.hid hW0
  clear hW0
  go_enter Tryz.func75, Tryz.ntmps75
  go_wp2
  rw [← HW0.out]
  have hx0 : RW .u64 W0 B (.slice A1 n1 c1) (words n) := by rw [HW0.out]; exact (hx.alloc hB _).alloc (by simp; omega) _
  have hy0 : RW .u64 W0 B (.slice A2 n2 c2) (words (dd d)) := by rw [HW0.out]; exact (hy.alloc hB _).alloc (by simp; omega) _
  have hs0 : w.heap.size + 1 < W0.heap.size := by rw [HW0.out]; simp
  have hB0 : B ≤ W0.heap.size := by omega
  have g0 : W0.heap[w.heap.size]? = some (.cells #[.bool neg, .slice A1 n1 c1, .slice A2 n2 c2] 74 (0, 0)) := by rw [HW0.out]; exact heap_alloc2_old _ _ _
  have g1 : W0.heap[w.heap.size + 1]? = some (.cells #[.bool false, .slice none 0 0, .slice none 0 0] 48 (0, 0)) := by rw [HW0.out]; exact heap_alloc2_new _ _ _
  have G1 := Lib.hid g1
  have G0 := Lib.hid g0
  have hw0 : Below w.heap.size w W0 := by rw [HW0.out]; exact ((Below.refl _ _).alloc (Nat.le_refl _) _).alloc (by simp) _
  obtain ⟨k0, k1, k2, _⟩ := fr_cellsG g0 (Below.refl _ _)
  clear g0 g1
  have tok1 : True := trivial
  go_region_held3 (fun w' => w'.cell? ⟨w.heap.size, 0, none⟩ = some (.bool neg) ∧ w'.cell? ⟨w.heap.size, 1, none⟩ = some (.slice A1 n1 c1) ∧ w'.cell? ⟨w.heap.size, 2, none⟩ = some (.slice A2 n2 c2))
    (first | exact ⟨r0, r1, r2⟩ | exact ⟨q0, q1, q2⟩ | exact ⟨k0, k1, k2⟩ | go_keep)
    (first
      | (go_at_call 84
         have _t := tok1
         refine (unpack_any A1 n1 c1 (words n) (words_ok n) B _ (by exact hx0) (by exact hB0) (by omega)).mono ?_
         rintro e w1 ⟨A3, n3, c3, rfl, h3, hb3'⟩
         have hb3 : Below W0.heap.size W0 w1 := by first | exact hb3' | exact below_un hb3' | exact below_unN hb3'
         clear hb3'
         obtain ⟨q0, q1, q2, _⟩ := fr_cellsG G0.out hb3
         have hy1 : RW .u64 w1 B (.slice A2 n2 c2) (words (dd d)) := hy0.belowM hb3 hB0
         have hB1 : B ≤ w1.heap.size := Nat.le_trans hB0 hb3.size
         clear tok1 _t)
      | (go_at_call 84
         refine (unpack_any A2 n2 c2 (words (dd d)) (words_ok _) B _ (by exact hy1) (by exact hB1) (by omega)).mono ?_
         rintro e w2 ⟨A4, n4, c4, rfl, h4, hb4'⟩
         have hb4 : Below w1.heap.size w1 w2 := by first | exact hb4' | exact below_un hb4' | exact below_unN hb4'
         clear hb4'
         have hb5 : Below W0.heap.size W0 w2 := hb3.trans (hb4.mono hb3.size)
         obtain ⟨r0, r1, r2, _⟩ := fr_cellsG G0.out hb5
         obtain ⟨m0, m1, m2, mf⟩ := fr_cellsG G1.out hb5))
  all_goals
    rw [val_words] at h3 h4
    obtain ⟨f1, f2⟩ := fr_storeG G1.out hw0 (Nat.le_succ _) hb5 (.bool neg) (.slice A3 n3 c3) (.slice A4 n4 c4)
    have F := Lib.hid (And.intro f1 f2)
    clear f1 f2
    go_wp2
    obtain ⟨f1, f2⟩ := F.out
    refine bodyPost_ret (v := .agg #[.bool neg, .slice A3 n3 c3, .slice A4 n4 c4]) (by simp [results, Tryz.results75, go_sem, m0, m1, m2]) rfl ⟨.agg #[.bool neg, .slice A3 n3 c3, .slice A4 n4 c4], rfl, ?_, f1⟩
    exact ⟨_, _, _, _, _, _, rfl, f2 _ _ _ ((h3.below hb4).more hb4.size), f2 _ _ _ h4⟩
end Go.Proofs.YtdpmfenikomfkaaGreat
