/-
  The sum of two numbers.
-/
import Derived.Test.YtogklhbodaghdaaArith
import Derived.Test.YtogklhbodaghdaaCmp
import Derived.WalkSmall
namespace Go.Proofs.Ytogklhbodaghdaa
open Go.RowKit

theorem add_alg {P B z y c z2 u V Z Y : Nat} (h1 : z2 + B * u = z + y + c) (h2 : V + P * c = Z + Y) : V + P * z2 + P * B * u = Z + P * z + (Y + P * y) := by
  have h3 := congrArg (P * ·) h1
  simp only [Nat.mul_add] at h3
  have e2 : P * B * u = P * (B * u) := Nat.mul_assoc _ _ _
  rw [e2]
  omega

/-- Words z, in a block, with the words y added to them. -/
def AddC (w : World) (g : Nat) (pre zs post : List Nat) (total : Nat) (e : Ending) (w' : World) : Prop :=
  ∃ zs' c, e = .returned (.int .u64 (c : Nat)) ∧ zs'.length = zs.length ∧ AllOk zs' ∧ c ≤ 1 ∧ val zs' + B64 ^ zs.length * c = total ∧ Row .u64 w' g 66 (pre ++ (zs' ++ post)) ∧ w.grownBy w' (some g)

def AddRel1 (w : World) (g : Nat) (pre zs post ys : List Nat) (n m : Nat) (c i : Value) (wr : World) : Prop :=
  ∃ k zs' cy, k ≤ m ∧ i = .int .i64 (k : Nat) ∧ c = .int .u64 (cy : Nat) ∧ cy ≤ 1 ∧ zs'.length = n ∧ AllOk zs' ∧ Row .u64 wr g 66 (pre ++ (zs' ++ post)) ∧ w.grownBy wr (some g) ∧
    (val (zs'.take k) + B64 ^ k * cy = val (zs.take k) + val (ys.take k) ∧ (∀ j, k ≤ j → nth zs' j = nth zs j))
def AddRel2 (w : World) (g : Nat) (pre zs post ys : List Nat) (n m : Nat) (c i : Value) (wr : World) : Prop :=
  ∃ k zs' cy, m ≤ k ∧ k ≤ n ∧ i = .int .i64 (k : Nat) ∧ c = .int .u64 (cy : Nat) ∧ cy ≤ 1 ∧ zs'.length = n ∧ AllOk zs' ∧ Row .u64 wr g 66 (pre ++ (zs' ++ post)) ∧ w.grownBy wr (some g) ∧
    (val (zs'.take k) + B64 ^ k * cy = val (zs.take k) + val ys ∧ (∀ j, k ≤ j → nth zs' j = nth zs j))

theorem drop_eq_of_nth {xs ys : List Nat} {k : Nat} (hl : xs.length = ys.length) (h : ∀ j, k ≤ j → nth xs j = nth ys j) : xs.drop k = ys.drop k := by
  refine list_ext_nth (by simp [hl]) (fun j _ => ?_)
  rw [nth_drop, nth_drop]
  exact h _ (by omega)

theorem add_fin {zs zs' ys : List Nat} {n k cy : Nat} (hl : n = zs.length) (hl' : zs'.length = n) (hk : k ≤ n) (h1 : val (zs'.take k) + B64 ^ k * cy = val (zs.take k) + val ys) (h2 : ∀ j, k ≤ j → nth zs' j = nth zs j) (h : k = n ∨ cy = 0) :
    val zs' + B64 ^ zs.length * cy = val zs + val ys := by
  rw [← hl]
  rcases h with h | h
  · subst h
    rw [List.take_of_length_le (by omega), List.take_of_length_le (by omega)] at h1
    exact h1
  · subst h
    have hd := drop_eq_of_nth (by omega) h2
    have e1 : val zs' = val (zs'.take k) + B64 ^ k * val (zs'.drop k) := by
      conv => lhs; rw [← List.take_append_drop k zs']
      rw [val_append, List.length_take, Nat.min_eq_left (by omega)]
    have e2 : val zs = val (zs.take k) + B64 ^ k * val (zs.drop k) := by
      conv => lhs; rw [← List.take_append_drop k zs]
      rw [val_append, List.length_take, Nat.min_eq_left (by omega)]
    rw [e1, e2, hd]
    rw [Nat.mul_zero] at *
    omega

set_option maxRecDepth 100000 in
set_option maxHeartbeats 1000000 in
theorem addTo_any (g : Nat) (pre zs post ys : List Nat) (n m cz c : Nat) (A : Option Addr) (w : World) (hz : Row .u64 w g 66 (pre ++ (zs ++ post))) (hzl : n = zs.length) (hzc : n ≤ cz) (hcz : cz ≤ 1099511627776)
    (hy : RW .u64 w g (.slice A m c) ys) (hmn : m ≤ n) (hzo : AllOk zs) (hyo : AllOk ys) :
    Calls Try.prog 68 #[.slice (some ⟨g, pre.length, none⟩) n cz, .slice A m c] w (AddC w g pre zs post (val zs + val ys)) := by
  have HZL := Lib.hid hzl
  have HYL := Lib.hid hy.len
  have hgs : g ≤ w.heap.size := Nat.le_of_lt hz.lt
  obtain ⟨p, hp⟩ : ∃ p, p = pre.length := ⟨_, rfl⟩
  have HP := Lib.hid hp
  rw [← hp]
  clear hp hzl
  go_enter Try.func68, Try.ntmps68
  go_wp2
  go_loopw [5, 11] (fun c i wr => AddRel1 w g pre zs post ys n m c i wr) (fun _ i _ => m - (intOf i).toNat)
  case atStart => exact ⟨0, zs, 0, Nat.zero_le _, rfl, rfl, by omega, HZL.out.symm, hzo, hz, ⟨rfl, rfl, rfl, Nat.le_refl _, fun _ _ _ => rfl⟩, by simp [val_nil], fun _ _ => rfl⟩
  case round =>
    obtain ⟨k, zs', cy, hk, rfl, rfl, hcy, hzl', hzo', hr, hgr, hKK⟩ := hrel
    have HK := Lib.hid hKK
    have HZ' := Lib.hid hzl'
    clear hKK hzl'
    by_cases hlt : k < m
    · have hyr := hy.grownTo hgr (Nat.le_refl _) hgs
      obtain ⟨b, o, hA, hb, hcell⟩ := hyr.at_ (by omega)
      subst hA
      have hxc : wr.cell? ⟨b, o + k, none⟩ = some (.int .u64 (nth ys k : Nat)) := hcell _ hlt
      have hzc' : wr.cell? ⟨g, p + k, none⟩ = some (.int .u64 (nth zs' k : Nat)) := by rw [HP.out]; exact hr.cellMid (by rw [HZ'.out]; omega)
      have hf : wr.frozen? ⟨g, p + k, none⟩ = false := hr.frozen _
      have A0 := add64_run (nth zs' k) (nth ys k) cy hcy
      clear hcell hyr
      go_wp2
      go_roundw
      case rel =>
        have q1 := add_eq (nth zs' k) (nth ys k) cy
        obtain ⟨g1, g2⟩ := HK.out
        refine ⟨k + 1, zs'.set k (addLo (nth zs' k) (nth ys k) cy), _, by omega, by go_num, rfl, addHi_le _ _ _ (nth_ok hzo' k) (nth_ok hyo k) hcy, by rw [List.length_set]; exact HZ'.out, hzo'.set (addLo_lt _ _ _), ?_, grown_set hgr _ _, ?_, ?_⟩
        · have hs := hr.set (p + k) (addLo (nth zs' k) (nth ys k) cy)
          rw [HP.out] at hs ⊢
          rw [set_mid _ _ _ _ _ (by rw [HZ'.out]; omega)] at hs
          exact hs
        · rw [val_set_succ _ _ _ (by rw [HZ'.out]; omega), val_take_succ zs k (by rw [← HZL.out]; omega), val_take_succ ys k (by rw [← HYL.out]; omega), Nat.pow_succ]
          rw [g2 k (Nat.le_refl _)] at q1 ⊢
          exact add_alg q1 g1
        · intro j hj
          rw [nth_set, if_neg (by omega)]
          exact g2 j (by omega)
      case measure => simp [intOf] <;> omega
    · have hkn : k = m := by omega
      obtain ⟨g1, g2⟩ := HK.out
      rw [hkn, List.take_of_length_le (l := ys) (by rw [← HYL.out]; exact Nat.le_refl _)] at g1
      rw [hkn] at g2
      have HK2 := Lib.hid (And.intro g1 g2)
      clear g1 g2 hkn HK
      go_wp2
      go_loopw [5, 8] (fun c i wr => AddRel2 w g pre zs post ys n m c i wr) (fun _ i _ => n - (intOf i).toNat)
      case atStart => exact ⟨m, zs', cy, Nat.le_refl _, hmn, rfl, rfl, hcy, HZ'.out, hzo', hr, hgr, HK2.out⟩
      case round =>
        clear hr hgr hzo' hcy hk hlt HZ' HK2
        obtain ⟨k, zs', cy, hmk, hkn, rfl, rfl, hcy, hzl', hzo', hr, hgr, hKK⟩ := hrel
        have HK := Lib.hid hKK
        have HZ' := Lib.hid hzl'
        clear hKK hzl'
        by_cases hlt : k < n
        · by_cases hc0 : cy = 0
          · have hcb : ((cy : Int) != 0) = false := by rw [hc0]; rfl
            have HC0 := Lib.hid hc0
            clear hc0
            go_wp2
            go_ret
            obtain ⟨g1, g2⟩ := HK.out
            exact ⟨zs', cy, rfl, by rw [HZ'.out, HZL.out], hzo', hcy, add_fin HZL.out HZ'.out hkn g1 g2 (Or.inr HC0.out), hr, hgr⟩
          · have hcb : ((cy : Int) != 0) = true := by rw [bne_iff_ne]; omega
            have hzc' : wr.cell? ⟨g, p + k, none⟩ = some (.int .u64 (nth zs' k : Nat)) := by rw [HP.out]; exact hr.cellMid (by rw [HZ'.out]; exact hlt)
            have hf : wr.frozen? ⟨g, p + k, none⟩ = false := hr.frozen _
            have A0 := add64_run1 (nth zs' k) cy hcy
            clear hc0
            go_wp2
            go_roundw
            case rel =>
              have q1 := add_eq (nth zs' k) 0 cy
              obtain ⟨g1, g2⟩ := HK.out
              refine ⟨k + 1, zs'.set k (addLo (nth zs' k) 0 cy), _, by omega, by omega, by go_num, rfl, addHi_le _ _ _ (nth_ok hzo' k) B64_pos hcy, by rw [List.length_set]; exact HZ'.out, hzo'.set (addLo_lt _ _ _), ?_, grown_set hgr _ _, ?_, ?_⟩
              · have hs := hr.set (p + k) (addLo (nth zs' k) 0 cy)
                rw [HP.out] at hs ⊢
                rw [set_mid _ _ _ _ _ (by rw [HZ'.out]; exact hlt)] at hs
                exact hs
              · rw [val_set_succ _ _ _ (by rw [HZ'.out]; exact hlt), val_take_succ zs k (by rw [← HZL.out]; exact hlt), Nat.pow_succ]
                rw [g2 k (Nat.le_refl _)] at q1 ⊢
                have := add_alg q1 g1
                rw [Nat.mul_zero, Nat.add_zero] at this
                exact this
              · intro j hj
                rw [nth_set, if_neg (by omega)]
                exact g2 j (by omega)
            case measure => simp [intOf] <;> omega
        · go_wp2
          go_ret
          obtain ⟨g1, g2⟩ := HK.out
          exact ⟨zs', cy, rfl, by rw [HZ'.out, HZL.out], hzo', hcy, add_fin HZL.out HZ'.out hkn g1 g2 (Or.inl (by omega)), hr, hgr⟩

theorem plus_core {x y n : Nat} (hx : (words x).length ≤ n) (hy : y ≤ x ∨ (words y).length ≤ n) : x + y < B64 ^ (n + 1) := by
  have h1 := Nat.lt_of_lt_of_le (words_lt x) (Nat.pow_le_pow_right B64_pos hx)
  have h2 : y < B64 ^ n := by
    rcases hy with h | h
    · omega
    · exact Nat.lt_of_lt_of_le (words_lt y) (Nat.pow_le_pow_right B64_pos h)
  rw [Nat.pow_succ]
  have : B64 ^ n * 2 ≤ B64 ^ n * B64 := Nat.mul_le_mul_left _ (by unfold B64; omega)
  omega

set_option maxRecDepth 100000 in
set_option maxHeartbeats 1000000 in
theorem plus_ge (x y : Nat) (A1 A2 : Option Addr) (n m c1 c2 : Nat) (B : Nat) (w : World) (hx : RW .u64 w B (.slice A1 n c1) (words x)) (hy : RW .u64 w B (.slice A2 m c2) (words y)) (hB : B ≤ w.heap.size) (hmn : m ≤ n) (hn : n ≤ 65536) :
    Calls Try.prog 53 #[.slice A1 n c1, .slice A2 m c2] w (RetW w (x + y)) := by
  have HXL := Lib.hid hx.len
  have HYL := Lib.hid hy.len
  go_enter Try.func53, Try.ntmps53
  go_wp2_with fail
  refine (extended_any A1 n c1 (n + 1) (words x) B _ (by exact hx) hB (by omega) (by omega)).mono ?_
  rintro e w1 ⟨rfl, hr1, hb1⟩
  have hlen : (words x ++ List.replicate (n + 1 - n) 0).length = n + 1 := by rw [List.length_append, List.length_replicate, ← HXL.out]; omega
  rw [hlen]
  have hrow : Row .u64 w1 w.heap.size 66 ([] ++ ((words x ++ List.replicate (n + 1 - n) 0) ++ [])) := hr1.of_eq (by simp)
  have hcall := Lib.hid (And.intro (addTo_any w.heap.size [] (words x ++ List.replicate (n + 1 - n) 0) [] (words y) (n + 1) m (n + 1) c2 A2 w1 hrow hlen.symm (Nat.le_refl _) (by omega) ((hy.belowM hb1 hB).more hB) (by omega) ((words_ok x).append (AllOk.zeros _)) (words_ok y)) trivial)
  clear hrow
  have HL := Lib.hid hlen
  clear hlen hr1
  go_wp2_with fail
  refine hcall.out.1.mono ?_
  rintro e w2 ⟨zs', cy, rfl, hzl, hzo, hcy, hval, hrow2, hg2⟩
  rw [HL.out] at hzl hval
  have hb2 : Below w.heap.size w w2 := hb1.grown hg2 hb1.size (by intro q hq; injection hq with hq; omega)
  have hrw : RW .u64 w2 w2.heap.size (.slice (some ⟨w.heap.size, 0, none⟩) (n + 1) (n + 1)) zs' := RW.of_row0 (post := []) (hrow2.of_eq (by simp)) hzl.symm (Nat.le_refl _) (by unfold maxLen; omega) hrow2.lt
  have HV := Lib.hid (And.intro hzl hval)
  clear hzl hval hrow2
  go_wp2_with (go_at_call 47; refine (trim_any _ _ _ _ _ _ hrw).mono ?_; rintro e w' ⟨rfl, rfl⟩)
  go_ret
  obtain ⟨hzl, hval⟩ := HV.out
  rw [val_append, val_zeros_n, Nat.mul_zero, Nat.add_zero, val_words, val_words] at hval
  have h3 := trim_words hrw hzo
  have hlt := plus_core (x := x) (y := y) (n := n) (by rw [← HXL.out]; exact Nat.le_refl _) (Or.inr (by rw [← HYL.out]; exact hmn))
  have hc0 : cy = 0 := by
    rcases Nat.eq_zero_or_pos cy with h | h
    · exact h
    · have : B64 ^ (n + 1) * 1 ≤ B64 ^ (n + 1) * cy := Nat.mul_le_mul_left _ h
      omega
  rw [hc0, Nat.mul_zero, Nat.add_zero] at hval
  rw [hval] at h3
  exact ⟨_, _, _, rfl, h3, hb2⟩

set_option maxRecDepth 100000 in
set_option maxHeartbeats 1000000 in
theorem plus_lt (x y : Nat) (A1 A2 : Option Addr) (n m c1 c2 : Nat) (B : Nat) (w : World) (hx : RW .u64 w B (.slice A1 n c1) (words x)) (hy : RW .u64 w B (.slice A2 m c2) (words y)) (hB : B ≤ w.heap.size) (hmn' : m < n) (hn : n ≤ 65536) :
    Calls Try.prog 53 #[.slice A2 m c2, .slice A1 n c1] w (RetW w (x + y)) := by
  have HXL := Lib.hid hx.len
  have HYL := Lib.hid hy.len
  have hmn : m ≤ n := by omega
  go_enter Try.func53, Try.ntmps53
  go_wp2_with fail
  refine (extended_any A1 n c1 (n + 1) (words x) B _ (by exact hx) hB (by omega) (by omega)).mono ?_
  rintro e w1 ⟨rfl, hr1, hb1⟩
  have hlen : (words x ++ List.replicate (n + 1 - n) 0).length = n + 1 := by rw [List.length_append, List.length_replicate, ← HXL.out]; omega
  rw [hlen]
  have hrow : Row .u64 w1 w.heap.size 66 ([] ++ ((words x ++ List.replicate (n + 1 - n) 0) ++ [])) := hr1.of_eq (by simp)
  have hcall := Lib.hid (And.intro (addTo_any w.heap.size [] (words x ++ List.replicate (n + 1 - n) 0) [] (words y) (n + 1) m (n + 1) c2 A2 w1 hrow hlen.symm (Nat.le_refl _) (by omega) ((hy.belowM hb1 hB).more hB) (by omega) ((words_ok x).append (AllOk.zeros _)) (words_ok y)) trivial)
  clear hrow
  have HL := Lib.hid hlen
  clear hlen hr1
  go_wp2_with fail
  refine hcall.out.1.mono ?_
  rintro e w2 ⟨zs', cy, rfl, hzl, hzo, hcy, hval, hrow2, hg2⟩
  rw [HL.out] at hzl hval
  have hb2 : Below w.heap.size w w2 := hb1.grown hg2 hb1.size (by intro q hq; injection hq with hq; omega)
  have hrw : RW .u64 w2 w2.heap.size (.slice (some ⟨w.heap.size, 0, none⟩) (n + 1) (n + 1)) zs' := RW.of_row0 (post := []) (hrow2.of_eq (by simp)) hzl.symm (Nat.le_refl _) (by unfold maxLen; omega) hrow2.lt
  have HV := Lib.hid (And.intro hzl hval)
  clear hzl hval hrow2
  go_wp2_with (go_at_call 47; refine (trim_any _ _ _ _ _ _ hrw).mono ?_; rintro e w' ⟨rfl, rfl⟩)
  go_ret
  obtain ⟨hzl, hval⟩ := HV.out
  rw [val_append, val_zeros_n, Nat.mul_zero, Nat.add_zero, val_words, val_words] at hval
  have h3 := trim_words hrw hzo
  have hlt := plus_core (x := x) (y := y) (n := n) (by rw [← HXL.out]; exact Nat.le_refl _) (Or.inr (by rw [← HYL.out]; exact hmn))
  have hc0 : cy = 0 := by
    rcases Nat.eq_zero_or_pos cy with h | h
    · exact h
    · have : B64 ^ (n + 1) * 1 ≤ B64 ^ (n + 1) * cy := Nat.mul_le_mul_left _ h
      omega
  rw [hc0, Nat.mul_zero, Nat.add_zero] at hval
  rw [hval] at h3
  exact ⟨_, _, _, rfl, h3, hb2⟩

theorem plus_any (x y : Nat) (A1 A2 : Option Addr) (n m c1 c2 : Nat) (B : Nat) (w : World) (hx : RW .u64 w B (.slice A1 n c1) (words x)) (hy : RW .u64 w B (.slice A2 m c2) (words y)) (hB : B ≤ w.heap.size) (hn : n ≤ 65536) (hm : m ≤ 65536) :
    Calls Try.prog 53 #[.slice A1 n c1, .slice A2 m c2] w (RetW w (x + y)) := by
  by_cases h : m ≤ n
  · exact plus_ge x y A1 A2 n m c1 c2 B w hx hy hB h hn
  · rw [Nat.add_comm]
    exact plus_lt y x A2 A1 m n c2 c1 B w hy hx hB (by omega) hm
end Go.Proofs.Ytogklhbodaghdaa
