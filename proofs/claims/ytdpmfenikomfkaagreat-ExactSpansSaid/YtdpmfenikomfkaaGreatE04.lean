/-
  The document's numbers on limbs of 16 bits: sums.
-/
import Derived.Test.YtdpmfenikomfkaaGreatE03
import Derived.Laws.AppendOwn
import Derived.Laws.AppendOwnNone
import Derived.Maps.AppendAt
import Derived.OwnWalk
namespace Go.Proofs.YtdpmfenikomfkaaGreat
open Go.RowKit

/-- Numbers as cells. -/
def qs (L : List Nat) : List Value := L.map fun (x : Nat) => Value.int .i64 (x : Int)
/-- A list of numbers of the call's own. -/
def QO (w : World) (base : Nat) (v : Value) (O : List Nat) : Prop := w.ownsRow base 3 1 v O.length (qs O)
theorem infoQ : (Tryz.prog.info? 3).map (fun i => (i.zero, i.size, i.bytes)) = some (some (.int .i64 0), 1, 8) := by kernel_rfl
theorem QO.nil_ (w : World) (base : Nat) : QO w base (.slice none 0 0) [] := World.ownsRow_nil _ _ _ _
theorem QO.lt {w : World} {base : Nat} {v : Value} {O : List Nat} (h : QO w base v O) : ∀ b, v.ownBlock = some b → base ≤ b ∧ b < w.heap.size := fun b hb => World.ownsRow.lt h b hb
theorem QO.reads {w : World} {base : Nat} {v : Value} {O : List Nat} (h : QO w base v O) : RW .i64 w w.heap.size v O := by
  have hl := h.lt
  rcases h.2 with ⟨h1, h2⟩ | ⟨g, cap, cur, h1, h2, h3, h4, h5, _⟩
  · subst h1
    obtain rfl : O = [] := List.eq_nil_of_length_eq_zero h2
    exact RW.nil_
  · subst h1
    refine RW.mk rfl h4 h5 (fun _ => ⟨g, 0, rfl, (hl g rfl).2, fun j hj => ?_⟩)
    rw [Nat.zero_add]
    have := World.ownsRow.cellAt h j (by simpa using hj)
    rw [this, qs, List.getElem?_map, List.getElem?_eq_getElem hj, nth_lt hj]
    rfl
theorem growq {base : Nat} {w wr w1 : World} {row : Option Nat} (hb : Below base w wr) (hbs : base ≤ w.heap.size) (hg : wr.grownBy w1 row) (h : ∀ k, row = some k → base ≤ k) : Below base w w1 :=
  hb.trans ⟨hg.os, hg.tape, hg.output, hg.size, fun k hk => hg.block k (Nat.lt_of_lt_of_le hk (Nat.le_trans hbs hb.size)) (fun e => by have := h _ e.symm; omega)⟩
theorem QO.grows {w wr w1 : World} {v v' : Value} {O : List Nat} {x : Nat} {F : List Value} {L : Nat} (h : QO wr w.heap.size v O) (hbw : Below w.heap.size w wr) (o : Obj) (hL : O.length = L ∧ qs O = F)
    (ho : w1.ownsRow w.heap.size 3 1 v' (L + 1) (F ++ [.int .i64 (x : Int)])) (hg : (wr.alloc o).grownBy w1 v.ownBlock) : QO w1 w.heap.size v' (O ++ [x]) ∧ Below w.heap.size w w1 := by
  obtain ⟨rfl, rfl⟩ := hL
  refine ⟨?_, growq (hbw.alloc hbw.size o) (Nat.le_refl _) hg (fun k hk => (h.lt k hk).1)⟩
  unfold QO
  have e1 : (O ++ [x]).length = O.length + 1 := by simp
  have e2 : qs (O ++ [x]) = qs O ++ [.int .i64 (x : Int)] := by simp [qs]
  rw [e1, e2]
  exact ho
theorem laidq (w : World) (e : TypeId) (x : Nat) : ∀ j u, [Value.int .i64 (x : Int)][j]? = some u → (w.alloc (.cells #[.int .i64 (x : Int)] e)).cell? ((⟨w.heap.size, 0, none⟩ : Addr).add j) = some u := fun j u hj => by
  match j, hj with
  | 0, hj =>
    simp at hj
    subst hj
    simp [Addr.add]

theorem val16_take_any (xs : List Nat) (k : Nat) : val16 (xs.take (k + 1)) = val16 (xs.take k) + B16 ^ k * nth xs k := by
  rcases Nat.lt_or_ge k xs.length with h | h
  · exact val16_take_succ xs k h
  · rw [List.take_of_length_le (by omega), List.take_of_length_le h, nth_ge h, Nat.mul_zero, Nat.add_zero]
/-- One limb of a sum. -/
theorem plus_step {X Y O : List Nat} {k cy s : Nat} (hO : O.length = k) (h : val16 O + B16 ^ k * cy = val16 (X.take k) + val16 (Y.take k)) (hs : s = cy + nth X k + nth Y k) :
    val16 (O ++ [s % B16]) + B16 ^ (k + 1) * (s / B16) = val16 (X.take (k + 1)) + val16 (Y.take (k + 1)) := by
  rw [val16_append, hO, val16_take_any, val16_take_any, val16_cons, val16_nil, Nat.mul_zero, Nat.add_zero, Nat.pow_succ, Nat.mul_assoc, Nat.add_assoc, ← Nat.mul_add, Nat.mod_add_div, hs, Nat.mul_add, Nat.mul_add]
  omega
theorem plus_end {X Y O : List Nat} {k cy : Nat} (hO : O.length = k) (h : val16 O + B16 ^ k * cy = val16 (X.take k) + val16 (Y.take k)) (hX : AllOk16 X) (hY : AllOk16 Y) (h1 : X.length < k) (h2 : Y.length < k) : cy = 0 := by
  rw [List.take_of_length_le (by omega), List.take_of_length_le (by omega)] at h
  have a := val16_lt X hX
  have b := val16_lt Y hY
  obtain ⟨i, rfl⟩ : ∃ i, k = i + 1 := ⟨k - 1, by omega⟩
  have e1 : B16 ^ X.length ≤ B16 ^ i := Nat.pow_le_pow_right B16_pos (by omega)
  have e2 : B16 ^ Y.length ≤ B16 ^ i := Nat.pow_le_pow_right B16_pos (by omega)
  have e3 : B16 ^ (i + 1) = B16 ^ i * 65536 := by rw [Nat.pow_succ, B16_eq]
  rcases Nat.eq_zero_or_pos cy with h0 | h0
  · exact h0
  · have : B16 ^ (i + 1) * 1 ≤ B16 ^ (i + 1) * cy := Nat.mul_le_mul_left _ h0
    omega

def RetQn (w : World) (n : Nat) (e : Ending) (w' : World) : Prop := ∃ A m c, e = .returned (.slice A m c) ∧ RW .i64 w' w'.heap.size (.slice A m c) (words16 n) ∧ ((A = none → c = 0) ∧ ∀ ad, A = some ad → w.heap.size ≤ ad.block) ∧ Below w.heap.size w w'
theorem QO.form {w : World} {base : Nat} {v : Value} {O : List Nat} (h : QO w base v O) : ∃ A c, v = .slice A O.length c ∧ (A = none → c = 0) ∧ ∀ ad, A = some ad → base ≤ ad.block := by
  rcases h.2 with ⟨h1, h2⟩ | ⟨g, cap, cur, h1, hbg, _⟩
  · exact ⟨none, 0, by rw [h1, h2], fun _ => rfl, fun _ h => by cases h⟩
  · exact ⟨_, cap, h1, (fun h => by cases h), fun ad h => by injection h with h; rw [← h]; exact hbg⟩

def PlR (X Y : List Nat) (w : World) (ov cv iv : Value) (wr : World) : Prop :=
  ∃ (k cy : Nat) (O : List Nat), iv = .int .i64 (k : Int) ∧ cv = .int .i64 (cy : Int) ∧ k ≤ max X.length Y.length + 1 ∧ cy ≤ 1 ∧
    Hid (QO wr w.heap.size ov O ∧ O.length = k ∧ AllOk16 O ∧ val16 O + B16 ^ k * cy = val16 (X.take k) + val16 (Y.take k)) ∧ Below w.heap.size w wr

set_option maxRecDepth 100000 in
set_option maxHeartbeats 2000000 in
theorem dplus_any (a b : Nat) (A1 A2 : Option Addr) (n m c1 c2 B : Nat) (w : World) (hx : RW .i64 w B (.slice A1 n c1) (words16 a)) (hy : RW .i64 w B (.slice A2 m c2) (words16 b)) (hB : B ≤ w.heap.size) (hn : n ≤ 1000000) (hm : m ≤ 1000000) :
    Calls Tryz.prog 54 #[.slice A1 n c1, .slice A2 m c2] w (RetQn w (a + b)) := by
  obtain ⟨i0, hi0, hz0, hz1, hz2⟩ := info_parts infoQ
  have HXL := Lib.hid hx.len
  have HYL := Lib.hid hy.len
  have HX := Lib.hid (And.intro hx hy)
  clear hx hy
  go_enter Tryz.func54, Tryz.ntmps54
  go_wp2
  go_loopw [5, 6, 7] (fun ov cv iv wr => PlR (words16 a) (words16 b) w ov cv iv wr) (fun _ _ iv _ => max n m + 1 - (numQ iv).toNat)
  case atStart => exact ⟨0, 0, [], rfl, rfl, by omega, by omega, Lib.hid ⟨QO.nil_ _ _, rfl, AllOk16.nil, by simp [val16_nil]⟩, Below.refl _ _⟩
  case round =>
    obtain ⟨k, cy, O, rfl, rfl, hk, hcy, hT, hbr⟩ := hrel
    have hk2 : k ≤ max n m + 1 := by rw [HXL.out, HYL.out]; exact hk
    clear hk
    obtain ⟨x, hxx⟩ : ∃ x, nth (words16 a) k = x := ⟨_, rfl⟩
    obtain ⟨y, hyy⟩ : ∃ y, nth (words16 b) k = y := ⟨_, rfl⟩
    have hxb : x < 65536 := by rw [← hxx]; exact nth_ok16 (words16_ok a) k
    have hyb : y < 65536 := by rw [← hyy]; exact nth_ok16 (words16_ok b) k
    have HXY := Lib.hid (And.intro hxx hyy)
    clear hxx hyy
    by_cases hkn : k < n
    · by_cases hkm : k < m
      · skip
        obtain ⟨b1, o1, rfl, hb1, hc1⟩ := HX.out.1.at_ (by omega)
        have hx1 := (hbr.cell (p := ⟨b1, o1 + k, none⟩) (by show b1 < w.heap.size; omega)).trans (hc1 k hkn)
        rw [HXY.out.1] at hx1
        clear hc1
        obtain ⟨b2, o2, rfl, hb2, hc2⟩ := HX.out.2.at_ (by omega)
        have hy1 := (hbr.cell (p := ⟨b2, o2 + k, none⟩) (by show b2 < w.heap.size; omega)).trans (hc2 k hkm)
        rw [HXY.out.2] at hy1
        clear hc2
        obtain ⟨s, hs⟩ : ∃ s, s = cy + x + y := ⟨_, rfl⟩
        have hsum : (cy : Int) + (x : Int) + (y : Int) = (s : Int) := by omega
        have HS := Lib.hid (show s = cy + nth (words16 a) k + nth (words16 b) k by rw [HXY.out.1, HXY.out.2]; omega)
        have hsb : s ≤ 131071 := by omega
        have hmod : (s : Int) % 65536 = ((s % 65536 : Nat) : Int) := by omega
        have hdiv : (s : Int) / 65536 = ((s / 65536 : Nat) : Int) := by omega
        obtain ⟨lo, hlo⟩ : ∃ lo, s % 65536 = lo := ⟨_, rfl⟩
        obtain ⟨hi, hhi⟩ : ∃ hi, s / 65536 = hi := ⟨_, rfl⟩
        have hlob : lo < 65536 := by omega
        have hhib : hi ≤ 1 := by omega
        rw [hlo] at hmod
        rw [hhi] at hdiv
        have HLH := Lib.hid (And.intro hlo hhi)
        have hbs := hbr.size
        have hown : wr.ownsRow w.heap.size 3 1 u5 O.length (qs O) := hT.out.1
        obtain ⟨F, hF⟩ : ∃ F, qs O = F := ⟨_, rfl⟩
        rw [hT.out.2.1, hF] at hown
        have HF := Lib.hid (And.intro hT.out.2.1 hF)
        have HBR := Lib.hid hbr
        have HC := Lib.hid (laidq wr 3 lo)
        clear hs hlo hhi hF hbr
        go_wp2_with (at_builtin
                     refine wpList_append_own_at _ rfl (.tmp 46) (.tmp 49) _ rfl w.heap.size 3 i0 _ 1 8 Tryz.underlying36 hi0 hz0 hz1 hz2 rfl (by decide) _ k _ rfl (hown.alloc _) ⟨wr.heap.size, 0, none⟩ 1 1 [.int .i64 (lo : Int)] rfl rfl HC.out (by intro u hu; simp at hu; subst hu; rfl) (by unfold maxLen; omega) (by omega) (by simp; omega) ?_)
        intro v' w2 ho hg _ _
        have HG := Lib.hid (QO.grows hT.out.1 HBR.out _ HF.out ho hg)
        clear ho hg hown
        go_wp2
        go_roundw
        case rel =>
          refine ⟨k + 1, hi, O ++ [lo], by simp, rfl, by have h1 := HXL.out; have h2 := HYL.out; omega, hhib, Lib.hid ⟨HG.out.1, by rw [List.length_append, HF.out.1]; rfl, hT.out.2.2.1.append (fun z hz => by rw [List.mem_singleton.1 hz, B16_eq]; exact hlob), ?_⟩, HG.out.2⟩
          have := plus_step HF.out.1 hT.out.2.2.2 HS.out
          rwa [show s % B16 = lo from HLH.out.1, show s / B16 = hi from HLH.out.2] at this
        case measure => simp [numQ]; omega
      · skip
        obtain ⟨b1, o1, rfl, hb1, hc1⟩ := HX.out.1.at_ (by omega)
        have hx1 := (hbr.cell (p := ⟨b1, o1 + k, none⟩) (by show b1 < w.heap.size; omega)).trans (hc1 k hkn)
        rw [HXY.out.1] at hx1
        clear hc1
        have hy0 : y = 0 := by rw [← HXY.out.2]; exact nth_ge (by rw [← HYL.out]; omega)
        obtain ⟨s, hs⟩ : ∃ s, s = cy + x := ⟨_, rfl⟩
        have hsum : (cy : Int) + (x : Int) = (s : Int) := by omega
        have HS := Lib.hid (show s = cy + nth (words16 a) k + nth (words16 b) k by rw [HXY.out.1, HXY.out.2]; omega)
        have hsb : s ≤ 131071 := by omega
        have hmod : (s : Int) % 65536 = ((s % 65536 : Nat) : Int) := by omega
        have hdiv : (s : Int) / 65536 = ((s / 65536 : Nat) : Int) := by omega
        obtain ⟨lo, hlo⟩ : ∃ lo, s % 65536 = lo := ⟨_, rfl⟩
        obtain ⟨hi, hhi⟩ : ∃ hi, s / 65536 = hi := ⟨_, rfl⟩
        have hlob : lo < 65536 := by omega
        have hhib : hi ≤ 1 := by omega
        rw [hlo] at hmod
        rw [hhi] at hdiv
        have HLH := Lib.hid (And.intro hlo hhi)
        have hbs := hbr.size
        have hown : wr.ownsRow w.heap.size 3 1 u5 O.length (qs O) := hT.out.1
        obtain ⟨F, hF⟩ : ∃ F, qs O = F := ⟨_, rfl⟩
        rw [hT.out.2.1, hF] at hown
        have HF := Lib.hid (And.intro hT.out.2.1 hF)
        have HBR := Lib.hid hbr
        have HC := Lib.hid (laidq wr 3 lo)
        clear hs hlo hhi hF hbr hy0
        go_wp2_with (at_builtin
                     refine wpList_append_own_at _ rfl (.tmp 46) (.tmp 49) _ rfl w.heap.size 3 i0 _ 1 8 Tryz.underlying36 hi0 hz0 hz1 hz2 rfl (by decide) _ k _ rfl (hown.alloc _) ⟨wr.heap.size, 0, none⟩ 1 1 [.int .i64 (lo : Int)] rfl rfl HC.out (by intro u hu; simp at hu; subst hu; rfl) (by unfold maxLen; omega) (by omega) (by simp; omega) ?_)
        intro v' w2 ho hg _ _
        have HG := Lib.hid (QO.grows hT.out.1 HBR.out _ HF.out ho hg)
        clear ho hg hown
        go_wp2
        go_roundw
        case rel =>
          refine ⟨k + 1, hi, O ++ [lo], by simp, rfl, by have h1 := HXL.out; have h2 := HYL.out; omega, hhib, Lib.hid ⟨HG.out.1, by rw [List.length_append, HF.out.1]; rfl, hT.out.2.2.1.append (fun z hz => by rw [List.mem_singleton.1 hz, B16_eq]; exact hlob), ?_⟩, HG.out.2⟩
          have := plus_step HF.out.1 hT.out.2.2.2 HS.out
          rwa [show s % B16 = lo from HLH.out.1, show s / B16 = hi from HLH.out.2] at this
        case measure => simp [numQ]; omega
    · by_cases hkm : k < m
      · skip
        have hx0 : x = 0 := by rw [← HXY.out.1]; exact nth_ge (by rw [← HXL.out]; omega)
        obtain ⟨b2, o2, rfl, hb2, hc2⟩ := HX.out.2.at_ (by omega)
        have hy1 := (hbr.cell (p := ⟨b2, o2 + k, none⟩) (by show b2 < w.heap.size; omega)).trans (hc2 k hkm)
        rw [HXY.out.2] at hy1
        clear hc2
        obtain ⟨s, hs⟩ : ∃ s, s = cy + y := ⟨_, rfl⟩
        have hsum : (cy : Int) + (y : Int) = (s : Int) := by omega
        have HS := Lib.hid (show s = cy + nth (words16 a) k + nth (words16 b) k by rw [HXY.out.1, HXY.out.2]; omega)
        have hsb : s ≤ 131071 := by omega
        have hmod : (s : Int) % 65536 = ((s % 65536 : Nat) : Int) := by omega
        have hdiv : (s : Int) / 65536 = ((s / 65536 : Nat) : Int) := by omega
        obtain ⟨lo, hlo⟩ : ∃ lo, s % 65536 = lo := ⟨_, rfl⟩
        obtain ⟨hi, hhi⟩ : ∃ hi, s / 65536 = hi := ⟨_, rfl⟩
        have hlob : lo < 65536 := by omega
        have hhib : hi ≤ 1 := by omega
        rw [hlo] at hmod
        rw [hhi] at hdiv
        have HLH := Lib.hid (And.intro hlo hhi)
        have hbs := hbr.size
        have hown : wr.ownsRow w.heap.size 3 1 u5 O.length (qs O) := hT.out.1
        obtain ⟨F, hF⟩ : ∃ F, qs O = F := ⟨_, rfl⟩
        rw [hT.out.2.1, hF] at hown
        have HF := Lib.hid (And.intro hT.out.2.1 hF)
        have HBR := Lib.hid hbr
        have HC := Lib.hid (laidq wr 3 lo)
        clear hs hlo hhi hF hbr hx0
        go_wp2_with (at_builtin
                     refine wpList_append_own_at _ rfl (.tmp 46) (.tmp 49) _ rfl w.heap.size 3 i0 _ 1 8 Tryz.underlying36 hi0 hz0 hz1 hz2 rfl (by decide) _ k _ rfl (hown.alloc _) ⟨wr.heap.size, 0, none⟩ 1 1 [.int .i64 (lo : Int)] rfl rfl HC.out (by intro u hu; simp at hu; subst hu; rfl) (by unfold maxLen; omega) (by omega) (by simp; omega) ?_)
        intro v' w2 ho hg _ _
        have HG := Lib.hid (QO.grows hT.out.1 HBR.out _ HF.out ho hg)
        clear ho hg hown
        go_wp2
        go_roundw
        case rel =>
          refine ⟨k + 1, hi, O ++ [lo], by simp, rfl, by have h1 := HXL.out; have h2 := HYL.out; omega, hhib, Lib.hid ⟨HG.out.1, by rw [List.length_append, HF.out.1]; rfl, hT.out.2.2.1.append (fun z hz => by rw [List.mem_singleton.1 hz, B16_eq]; exact hlob), ?_⟩, HG.out.2⟩
          have := plus_step HF.out.1 hT.out.2.2.2 HS.out
          rwa [show s % B16 = lo from HLH.out.1, show s / B16 = hi from HLH.out.2] at this
        case measure => simp [numQ]; omega
      · by_cases hc0 : cy = 0
        · have H0 := Lib.hid hc0
          have hi1 : ¬ (0 : Int) < (cy : Int) := by omega
          have hT2 := hT.out
          have hO := hT2.1.reads
          obtain ⟨AO, cO, hvO, hnz⟩ := hT2.1.form
          subst hvO
          have HO := Lib.hid hO
          have HNZ := Lib.hid hnz
          clear hnz
          have HBR := Lib.hid hbr
          have HV : Hid (val16 O = a + b) := by
            have h := hT2.2.2.2
            rw [H0.out, Nat.mul_zero, Nat.add_zero, List.take_of_length_le (by rw [← HXL.out]; omega), List.take_of_length_le (by rw [← HYL.out]; omega), val16_words16, val16_words16] at h
            exact h
          have HOK := Lib.hid hT2.2.2.1
          clear hT2 hO hc0 hbr
          go_wp2_with fail
          refine (dtrim_any O AO O.length cO wr.heap.size _ HO.out).mono ?_
          rintro en w2 ⟨rfl, rfl⟩
          go_wp2
          go_ret
          refine ⟨_, _, _, rfl, ?_, HNZ.out, HBR.out⟩
          have := dtrim_limbs HO.out HOK.out
          rwa [HV.out] at this
        · have hc1 : cy = 1 := by omega
          have hi1 : (0 : Int) < (cy : Int) := by omega
          have hkk : k ≤ max n m := by
            by_cases h : k ≤ max n m
            · exact h
            · exact absurd (plus_end hT.out.2.1 hT.out.2.2.2 (words16_ok a) (words16_ok b) (by rw [← HXL.out]; omega) (by rw [← HYL.out]; omega)) hc0
          clear hc1 hc0
          have hx0 : x = 0 := by rw [← HXY.out.1]; exact nth_ge (by rw [← HXL.out]; omega)
          have hy0 : y = 0 := by rw [← HXY.out.2]; exact nth_ge (by rw [← HYL.out]; omega)
          obtain ⟨s, hs⟩ : ∃ s, s = cy := ⟨_, rfl⟩
          have hsum : (cy : Int) = (s : Int) := by omega
          have HS := Lib.hid (show s = cy + nth (words16 a) k + nth (words16 b) k by rw [HXY.out.1, HXY.out.2]; omega)
          have hsb : s ≤ 131071 := by omega
          have hmod : (s : Int) % 65536 = ((s % 65536 : Nat) : Int) := by omega
          have hdiv : (s : Int) / 65536 = ((s / 65536 : Nat) : Int) := by omega
          obtain ⟨lo, hlo⟩ : ∃ lo, s % 65536 = lo := ⟨_, rfl⟩
          obtain ⟨hi, hhi⟩ : ∃ hi, s / 65536 = hi := ⟨_, rfl⟩
          have hlob : lo < 65536 := by omega
          have hhib : hi ≤ 1 := by omega
          rw [hlo] at hmod
          rw [hhi] at hdiv
          have HLH := Lib.hid (And.intro hlo hhi)
          have hbs := hbr.size
          have hown : wr.ownsRow w.heap.size 3 1 u5 O.length (qs O) := hT.out.1
          obtain ⟨F, hF⟩ : ∃ F, qs O = F := ⟨_, rfl⟩
          rw [hT.out.2.1, hF] at hown
          have HF := Lib.hid (And.intro hT.out.2.1 hF)
          have HBR := Lib.hid hbr
          have HC := Lib.hid (laidq wr 3 lo)
          clear hs hlo hhi hF hbr hx0 hy0
          go_wp2_with (at_builtin
                       refine wpList_append_own_at _ rfl (.tmp 46) (.tmp 49) _ rfl w.heap.size 3 i0 _ 1 8 Tryz.underlying36 hi0 hz0 hz1 hz2 rfl (by decide) _ k _ rfl (hown.alloc _) ⟨wr.heap.size, 0, none⟩ 1 1 [.int .i64 (lo : Int)] rfl rfl HC.out (by intro u hu; simp at hu; subst hu; rfl) (by unfold maxLen; omega) (by omega) (by simp; omega) ?_)
          intro v' w2 ho hg _ _
          have HG := Lib.hid (QO.grows hT.out.1 HBR.out _ HF.out ho hg)
          clear ho hg hown
          go_wp2
          go_roundw
          case rel =>
            refine ⟨k + 1, hi, O ++ [lo], by simp, rfl, by have h1 := HXL.out; have h2 := HYL.out; omega, hhib, Lib.hid ⟨HG.out.1, by rw [List.length_append, HF.out.1]; rfl, hT.out.2.2.1.append (fun z hz => by rw [List.mem_singleton.1 hz, B16_eq]; exact hlob), ?_⟩, HG.out.2⟩
            have := plus_step HF.out.1 hT.out.2.2.2 HS.out
            rwa [show s % B16 = lo from HLH.out.1, show s / B16 = hi from HLH.out.2] at this
          case measure => simp [numQ]; omega
end Go.Proofs.YtdpmfenikomfkaaGreat
