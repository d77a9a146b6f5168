/-
  The document's numbers on limbs of 16 bits: division by one limb.
  The document's numbers on limbs of 16 bits: division: arithmetic, append of a slice that reads as numbers.
  The document's integers: those of an int.
-/
import Derived.Test.YtdpmfenikomfkaaGreatE05
namespace Go.Proofs.YtdpmfenikomfkaaGreat
open Go.RowKit

theorem val16_drop (xs : List Nat) (k : Nat) (h : k < xs.length) : val16 (xs.drop k) = nth xs k + B16 * val16 (xs.drop (k + 1)) := by
  rw [List.drop_eq_getElem_cons h, val16_cons, nth_lt h]
theorem short_step {X L : List Nat} {d k rest s : Nat} (hx : k < X.length) (hl : k < L.length) (h : val16 (X.drop (k + 1)) = val16 (L.drop (k + 1)) * d + rest) (hs : s = rest * B16 + nth X k) :
    val16 (X.drop k) = val16 ((L.set k (s / d)).drop k) * d + s % d := by
  have hd : (L.set k (s / d)).drop (k + 1) = L.drop (k + 1) := by
    refine listq_ext (by simp) (fun j hj => ?_)
    rw [nthq_drop, nthq_drop, nth_set, if_neg (by omega)]
  have e1 : val16 ((L.set k (s / d)).drop k) = s / d + B16 * val16 (L.drop (k + 1)) := by
    rw [val16_drop _ _ (by simpa using hl), hd, nth_set, if_pos ⟨rfl, hl⟩]
  rw [val16_drop X k hx, h, e1, Nat.add_mul]
  have e2 := Nat.div_add_mod s d
  have e3 : B16 * (val16 (L.drop (k + 1)) * d + rest) = B16 * val16 (L.drop (k + 1)) * d + rest * B16 := by
    rw [Nat.mul_add, Nat.mul_assoc, Nat.mul_comm B16 rest]
  have e4 : d * (s / d) = s / d * d := Nat.mul_comm _ _
  omega
theorem short_lt {d rest x s : Nat} (h : rest < d) (hx : x < B16) (hs : s = rest * B16 + x) : s / d < B16 := by
  have hd : 0 < d := by omega
  refine (Nat.div_lt_iff_lt_mul hd).2 ?_
  have : (rest + 1) * B16 ≤ d * B16 := Nat.mul_le_mul_right _ h
  rw [Nat.add_mul, Nat.one_mul] at this
  rw [Nat.mul_comm B16 d]
  omega

def RetSh (w : World) (q r : Nat) (e : Ending) (w' : World) : Prop := ∃ A m c, e = .returned (.tuple #[.slice A m c, .int .i64 (r : Int)]) ∧ RW .i64 w' w'.heap.size (.slice A m c) (words16 q) ∧ (A = none → c = 0) ∧ (∀ ad, A = some ad → w.heap.size ≤ ad.block) ∧ Below w.heap.size w w'

def ShR (X : List Nat) (d n : Nat) (w : World) (rv iv : Value) (wr : World) : Prop :=
  ∃ (k rest : Nat) (L : List Nat), k ≤ n ∧ iv = .int .i64 ((k : Int) - 1) ∧ rv = .int .i64 (rest : Int) ∧ rest < d ∧
    Hid (L.length = n ∧ AllOk16 L ∧ Row .i64 wr w.heap.size 3 L ∧ val16 (X.drop k) = val16 (L.drop k) * d + rest) ∧ Below w.heap.size w wr

set_option maxRecDepth 100000 in
set_option maxHeartbeats 2000000 in
theorem dshort_any (a d : Nat) (hd : 0 < d) (hd2 : d ≤ 65536) (A1 : Option Addr) (n c1 B : Nat) (w : World) (hx : RW .i64 w B (.slice A1 n c1) (words16 a)) (hB : B ≤ w.heap.size) (hn : n ≤ 1000000) :
    Calls Tryz.prog 72 #[.slice A1 n c1, .int .i64 (d : Int)] w (RetSh w (a / d) (a % d)) := by
  obtain ⟨i0, hi0, hz0, hz1, hz2⟩ := info_parts infoQ
  have HXL := Lib.hid hx.len
  have HX := Lib.hid hx
  have hd3 : (1 : Int) ≤ (d : Int) := by omega
  clear hx
  go_enter Tryz.func72, Tryz.ntmps72
  go_wp2_with (at_make
               refine wpList_make_full _ rfl (.tmp 11) (.tmp 11) _ rfl w.heap.size 3 i0 _ 1 Tryz.underlying36 hi0 hz0 hz1 .i64 .i64 _ _ n rfl rfl (by omega) (by omega) (by rw [hz2]; omega) (by unfold maxLen; omega) (Nat.le_refl _) ?_
               intro w1 hown hg1
               have hb1 : Below w.heap.size w w1 := (Below.refl _ _).grown hg1 (Nat.le_refl _) (by simp)
               have hrow := row_of_made hown
               have HRO := Lib.hid (And.intro hrow hb1)
               clear hown hg1 hrow hb1)
  go_loopw [7, 8] (fun rv iv wr => ShR (words16 a) d n w rv iv wr) (fun _ iv _ => (numQ iv + 1).toNat)
  case atStart =>
    refine ⟨n, 0, _, Nat.le_refl _, rfl, rfl, hd, Lib.hid ⟨by simp, AllOk16.zeros _, HRO.out.1, ?_⟩, HRO.out.2⟩
    rw [List.drop_of_length_le (by rw [← HXL.out]; omega), List.drop_of_length_le (by simp)]
    simp [val16_nil]
  case round =>
    obtain ⟨k, rest, L, hk, rfl, rfl, hrest, hT, hbr⟩ := hrel
    by_cases h0 : k = 0
    · obtain ⟨t1, t2, t3, t4⟩ := hT.out
      subst h0
      have hrw : RW .i64 wr wr.heap.size (.slice (some ⟨w.heap.size, 0, none⟩) n n) L := RW.of_row0 (post := []) (t3.of_eq (by simp)) t1.symm (Nat.le_refl _) (by unfold maxLen; omega) t3.lt
      have HRW := Lib.hid hrw
      rw [List.drop_zero, List.drop_zero, val16_words16] at t4
      have HV : Hid (val16 L = a / d ∧ rest = a % d) := by
        constructor
        · rw [t4, Nat.mul_comm, Nat.mul_add_div hd, Nat.div_eq_of_lt hrest, Nat.add_zero]
        · rw [t4, Nat.mul_comm, Nat.mul_add_mod, Nat.mod_eq_of_lt hrest]
      have HOK := Lib.hid t2
      have HBR := Lib.hid hbr
      clear hrw t1 t2 t3 t4 hbr
      go_wp2_with fail
      refine (dtrim_any L _ n n wr.heap.size _ HRW.out).mono ?_
      rintro en w2 ⟨rfl, rfl⟩
      go_wp2
      go_ret2
      refine ⟨_, _, _, by rw [HV.out.2]; rfl, ?_, (fun h => by cases h), (fun ad h => by injection h with h; subst h; exact Nat.le_refl _), HBR.out⟩
      have := dtrim_limbs HRW.out HOK.out
      rwa [HV.out.1] at this
    · obtain ⟨k, rfl⟩ : ∃ t, k = t + 1 := ⟨k - 1, by omega⟩
      obtain ⟨x, hxx⟩ : ∃ x, nth (words16 a) k = x := ⟨_, rfl⟩
      have hxb : x < 65536 := by rw [← hxx]; exact nth_ok16 (words16_ok a) k
      obtain ⟨b1, o1, rfl, hb1, hc1⟩ := HX.out.at_ (by omega)
      have hx1 := (hbr.cell (p := ⟨b1, o1 + k, none⟩) (by show b1 < w.heap.size; omega)).trans (hc1 k (by omega))
      rw [hxx] at hx1
      have ek : ((k + 1 : Nat) : Int) - 1 = (k : Int) := by omega
      rw [ek]
      obtain ⟨s, hs⟩ : ∃ s, rest * B16 + nth (words16 a) k = s := ⟨_, rfl⟩
      have hsn : rest * 65536 + x = s := by rw [← hs, hxx, B16_eq]
      have hsi : (rest : Int) * 65536 + (x : Int) = (s : Int) := by omega
      have hsb : s < 4294967296 := by omega
      obtain ⟨q, hq⟩ : ∃ q, s / d = q := ⟨_, rfl⟩
      obtain ⟨r, hr⟩ : ∃ r, s % d = r := ⟨_, rfl⟩
      have hqb : q < 65536 := by rw [← hq]; exact short_lt hrest (by rw [B16_eq]; exact hxb) (by rw [B16_eq]; omega)
      have hrd : r < d := by rw [← hr]; exact Nat.mod_lt _ hd
      have hdiv : (s : Int) / (d : Int) = (q : Int) := by rw [← hq]; exact (Int.natCast_ediv s d).symm
      have hmod : (s : Int) % (d : Int) = (r : Int) := by rw [← hr]; exact (Int.natCast_emod s d).symm
      have hkl : k < L.length := by rw [hT.out.1]; omega
      have hlc := hT.out.2.2.1.cell hkl
      have hgs := hT.out.2.2.1.frozen
      have HS := Lib.hid (And.intro hs.symm (And.intro hq (And.intro hr hkl)))
      have HBR := Lib.hid hbr
      clear hxx hc1 ek hs hsn hq hr hkl hbr
      go_wp2
      go_roundw
      case rel =>
        obtain ⟨t1, t2, t3, t4⟩ := hT.out
        refine ⟨k, r, L.set k q, by omega, by first | rfl | trivial, by first | rfl | trivial | rw [hmod], hrd, Lib.hid ⟨by rw [List.length_set]; exact t1, t2.set (by rw [B16_eq]; exact hqb), t3.set k q, ?_⟩, Below.setCell (p := ⟨w.heap.size, k, none⟩) HBR.out (Nat.le_refl _) _⟩
        have h := short_step (by rw [← HXL.out]; omega) HS.out.2.2.2 t4 HS.out.1
        rw [HS.out.2.1, HS.out.2.2.1] at h
        exact h
      case measure => simp [numQ]
end Go.Proofs.YtdpmfenikomfkaaGreat

namespace Go.Proofs.YtdpmfenikomfkaaGreat
open Go.RowKit

theorem val16_drop_div (xs : List Nat) (h : AllOk16 xs) : ∀ k, val16 (xs.drop k) = val16 xs / B16 ^ k := by
  intro k
  rcases Nat.lt_or_ge k xs.length with hk | hk
  · have e := val16_append (xs.take k) (xs.drop k)
    rw [List.take_append_drop, List.length_take, Nat.min_eq_left (by omega)] at e
    have hlt := val16_lt (xs.take k) (h.take k)
    rw [List.length_take, Nat.min_eq_left (by omega)] at hlt
    rw [e, Nat.add_mul_div_left _ _ (Nat.pow_pos B16_pos), Nat.div_eq_of_lt hlt, Nat.zero_add]
  · rw [List.drop_of_length_le hk, val16_nil, Nat.div_eq_of_lt]
    exact Nat.lt_of_lt_of_le (val16_lt xs h) (Nat.pow_le_pow_right B16_pos hk)
/-- The two upper limbs that the guess reads. -/
theorem upper_one {R m : Nat} (h : (words16 R).length = m + 1) : nth (words16 R) m = R / B16 ^ m := by
  have e := val16_drop_div (words16 R) (words16_ok R) m
  rw [val16_drop _ _ (by omega), List.drop_of_length_le (by omega), val16_nil, Nat.mul_zero, Nat.add_zero, val16_words16] at e
  exact e
theorem upper_two {R m : Nat} (h : (words16 R).length = m + 2) : nth (words16 R) (m + 1) * B16 + nth (words16 R) m = R / B16 ^ m := by
  have e := val16_drop_div (words16 R) (words16_ok R) m
  rw [val16_drop _ _ (by omega), val16_drop _ _ (by omega), List.drop_of_length_le (by omega), val16_nil, Nat.mul_zero, Nat.add_zero, val16_words16] at e
  rw [← e, Nat.mul_comm B16]
  omega
theorem upper_none {R m : Nat} (h : (words16 R).length ≤ m) : R < B16 ^ m := Nat.lt_of_lt_of_le (words16_lt R) (Nat.pow_le_pow_right B16_pos h)
theorem top16_le {V m : Nat} (h : (words16 V).length = m + 1) : nth (words16 V) m * B16 ^ m ≤ V ∧ 0 < nth (words16 V) m := by
  have e := upper_one h
  have hv : V ≠ 0 := fun h0 => by rw [h0, words16_zero] at h; cases h
  have hg := words16_ge V hv
  rw [h, Nat.add_sub_cancel] at hg
  rw [e]
  exact ⟨Nat.div_mul_le_self V _, Nat.div_pos hg (Nat.pow_pos B16_pos)⟩
theorem len_of_top {V m R : Nat} (h : (words16 V).length = m + 1) (hR : R < V * B16) : (words16 R).length ≤ m + 2 := by
  refine words16_length_le R (m + 2) (Nat.lt_of_lt_of_le hR ?_)
  have := words16_lt V
  rw [h] at this
  rw [Nat.pow_succ]
  exact Nat.mul_le_mul_right _ (by omega)
/-- The guess is never below the digit. -/
theorem guess_high {V R t m : Nat} (hv : t * B16 ^ m ≤ V) (ht : 0 < t) (hV : 0 < V) : R / V ≤ R / B16 ^ m / t := by
  have hp : 0 < B16 ^ m := Nat.pow_pos B16_pos
  rw [Nat.div_div_eq_div_mul, Nat.mul_comm]
  exact Nat.div_le_div_left hv (Nat.mul_pos ht hp)
theorem guess_lt {V R : Nat} (hR : R < V * B16) : R / V ≤ B16 - 1 := by
  have : R / V < B16 := Nat.div_lt_of_lt_mul hR
  omega
theorem digit_next {V R g : Nat} (hV : 0 < V) (h : R / V ≤ g) : R < V * (g + 1) := by
  have := (Nat.div_lt_iff_lt_mul hV).1 (Nat.lt_succ_of_le h)
  rw [Nat.mul_comm]
  exact this
/-- One digit more. -/
theorem div_step {U L : List Nat} {V k R g rest : Nat} (hu : k < U.length) (hl : k < L.length) (h : val16 (U.drop (k + 1)) = val16 (L.drop (k + 1)) * V + rest) (hR : R = nth U k + B16 * rest) (hg : V * g ≤ R) :
    val16 (U.drop k) = val16 ((L.set k g).drop k) * V + (R - V * g) := by
  have hd : (L.set k g).drop (k + 1) = L.drop (k + 1) := by
    refine listq_ext (by simp) (fun j hj => ?_)
    rw [nthq_drop, nthq_drop, nth_set, if_neg (by omega)]
  have e1 : val16 ((L.set k g).drop k) = g + B16 * val16 (L.drop (k + 1)) := by
    rw [val16_drop _ _ (by simpa using hl), hd, nth_set, if_pos ⟨rfl, hl⟩]
  rw [val16_drop U k hu, h, e1, Nat.add_mul, Nat.mul_add, Nat.mul_assoc, Nat.mul_comm g V]
  omega
/-- What the last division by the factor leaves. -/
theorem div_end {a b f q rest : Nat} (hf : 0 < f) (hb : 0 < b) (h : a * f = q * (b * f) + rest) (hr : rest < b * f) : q = a / b ∧ rest / f = a % b := by
  have e1 : a * f / (b * f) = a / b := Nat.mul_div_mul_right a b hf
  have e2 : a * f % (b * f) = a % b * f := Nat.mul_mod_mul_right f a b
  have e3 : a * f / (b * f) = q := by
    rw [h, Nat.mul_comm q, Nat.mul_add_div (Nat.mul_pos hb hf), Nat.div_eq_of_lt hr, Nat.add_zero]
  have e4 : a * f % (b * f) = rest := by
    rw [h, Nat.mul_comm q, Nat.mul_add_mod, Nat.mod_eq_of_lt hr]
  refine ⟨by rw [← e3, e1], ?_⟩
  rw [← e4, e2, Nat.mul_div_cancel _ hf]

set_option maxRecDepth 100000 in
/-- append(own, x...) where x reads as numbers, nil or not. -/
theorem wpList_append_words {w : World} {ops : Array Oper} {rest : List Oper} {o : Oper} {a : Act} {Q : Exit → Act → World → Prop} (hgd : o.guard = none) (s x : Operand) (t : TypeId)
    (ho : o.op = .call { callee := .builtin .append, args := #[s, x], argTypes := #[t, t] }) (base : Nat) (ht : Tryz.prog.underlying t = some (.slice 3))
    (v : Value) (O : List Nat) (hs : a.eval s = v) (hown : QO w base v O) (A : Option Addr) (n c B : Nat) (X : List Nat) (hx : a.eval x = .slice A n c) (hX : RW .i64 w B (.slice A n c) X) (hnz : A = none → c = 0)
    (hlen : O.length + n ≤ 2000000) (hbase : base ≤ w.heap.size)
    (h : ∀ v' w', QO w' base v' (O ++ X) → w.grownBy w' v.ownBlock → wpList Tryz.prog ops Q rest (a.put o.dst v') w') : wpList Tryz.prog ops Q (o :: rest) a w := by
  obtain ⟨i0, hi0, hz0, hz1, hz2⟩ := info_parts infoQ
  have hl := hX.len
  cases A with
  | none =>
    have hc := hnz rfl
    subst hc
    have hn : n = 0 := by have := hX.cap.1; omega
    subst hn
    obtain rfl : X = [] := List.eq_nil_of_length_eq_zero hl.symm
    refine wpList_append_own_none hgd s x t ho base 3 i0 1 ht hi0 v O.length (qs O) hs hown hx (h v w (by rw [List.append_nil]; exact hown) ?_)
    exact ⟨rfl, rfl, rfl, Nat.le_refl _, fun _ _ _ => rfl⟩
  | some ad =>
    refine wpList_append_own_at w hgd s x t ho base 3 i0 _ 1 8 ht hi0 hz0 hz1 hz2 rfl (by omega) v O.length (qs O) hs hown ad n c (qs X) hx (by simp [qs, hl]) (fun j u hj => ?_) (fun u hu => ?_) (by unfold maxLen; omega) (by omega) hbase (fun v' w' h1 h2 _ _ => h v' w' ?_ h2)
    · have hjn : j < X.length := by
        have := (List.getElem?_eq_some_iff.1 hj).1
        simpa [qs] using this
      obtain ⟨b, o', ha, hb, hc⟩ := hX.at_ (by omega)
      injection ha with ha
      subst ha
      rw [add_none, hc j (by omega), ← hj, qs, List.getElem?_map, List.getElem?_eq_getElem hjn, nth_lt hjn]
      rfl
    · obtain ⟨y, _, rfl⟩ := List.mem_map.1 hu
      rfl
    · unfold QO
      rw [List.length_append, ← hl]
      have e : qs (O ++ X) = qs O ++ qs X := by simp [qs]
      rw [e]
      exact h1
end Go.Proofs.YtdpmfenikomfkaaGreat

namespace Go.Proofs.YtdpmfenikomfkaaGreat
open Go.RowKit

theorem qblk_cell {W0 w1 : World} {g : Nat} {cs : Array Value} {T : TypeId} (hblk : W0.heap[g]? = some (.cells cs T (0, 0))) (h : Below W0.heap.size W0 w1) (j : Nat) (v : Value) (hj : cs[j]? = some v) :
    w1.cell? ⟨g, j, none⟩ = some v := by
  have hlt : g < W0.heap.size := (Array.getElem?_eq_some_iff.1 hblk).1
  have hb : w1.heap[g]? = some (.cells cs T (0, 0)) := (h.block g hlt).trans hblk
  obtain ⟨hj1, hj2⟩ := Array.getElem?_eq_some_iff.1 hj
  rw [← hj]
  exact cell_of_row _ _ _ _ _ _ hb
theorem qblk_frozen {W0 w1 : World} {g : Nat} {cs : Array Value} {T : TypeId} (hblk : W0.heap[g]? = some (.cells cs T (0, 0))) (h : Below W0.heap.size W0 w1) : ∀ i, w1.frozen? ⟨g, i, none⟩ = false := by
  have hlt : g < W0.heap.size := (Array.getElem?_eq_some_iff.1 hblk).1
  exact fun i => frozen_of_row _ _ _ _ _ ((h.block g hlt).trans hblk)
theorem qbel {w W w1 : World} (h0 : Below w.heap.size w W) (h : Below W.heap.size W w1) : Below w.heap.size w w1 := h0.trans (h.mono h0.size)
theorem qbox1 (w : World) (ca : Array Value) (T : TypeId) : ∃ W0, Hid (W0 = w.alloc (.cells ca T)) ∧ Hid (Below w.heap.size w W0) ∧ Hid (W0.heap[w.heap.size]? = some (.cells ca T (0, 0))) :=
  ⟨_, rfl, (Below.refl _ _).alloc (Nat.le_refl _) _, heap_alloc_new _ _⟩

/-- An integer of the document. -/
def IN (w : World) (B : Nat) (v : Value) (z : Int) : Prop := ∃ A m c, v = .agg #[.bool (decide (z < 0)), .slice A m c] ∧ RW .i64 w B (.slice A m c) (words16 z.natAbs) ∧ (A = none → c = 0)
def RetIn (w : World) (z : Int) (e : Ending) (w' : World) : Prop := ∃ v, e = .returned v ∧ IN w' w'.heap.size v z ∧ Below w.heap.size w w'

theorem sm_neg {z : Int} (h1 : -9223372036854775808 ≤ z) (h : z < 0) : IntKind.u64.wrap (-(IntKind.u64.wrap z)) = ((z.natAbs : Nat) : Int) := by
  rw [IntKind.wrap_u64, IntKind.wrap_u64]
  omega
theorem sm_pos {z : Int} (h1 : 0 ≤ z) (h : z ≤ 9223372036854775807) : IntKind.u64.wrap z = ((z.natAbs : Nat) : Int) := by
  rw [IntKind.wrap_u64]
  omega

theorem QO.reads_low {w w' : World} {base : Nat} {v : Value} {O : List Nat} (h : QO w base v O) (hk : ∀ b, base ≤ b → ∀ o, w'.cell? ⟨b, o, none⟩ = w.cell? ⟨b, o, none⟩) (hs : w.heap.size ≤ w'.heap.size) : RW .i64 w' w'.heap.size v O := by
  have hl := h.lt
  rcases h.2 with ⟨h1, h2⟩ | ⟨g, cap, cur, h1, h2, h3, h4, h5, _⟩
  · subst h1
    obtain rfl : O = [] := List.eq_nil_of_length_eq_zero h2
    exact RW.nil_
  · subst h1
    refine RW.mk rfl h4 h5 (fun _ => ⟨g, 0, rfl, Nat.lt_of_lt_of_le (hl g rfl).2 hs, fun j hj => ?_⟩)
    rw [Nat.zero_add, hk g h2]
    have := World.ownsRow.cellAt h j (by simpa using hj)
    rw [this, qs, List.getElem?_map, List.getElem?_eq_getElem hj, nth_lt hj]
    rfl
theorem set2_far (w : World) (g b o : Nat) (x y : Value) (h : g ≠ b) : ((w.setCell ⟨g, 0, none⟩ x).setCell ⟨g, 1, none⟩ y).cell? ⟨b, o, none⟩ = w.cell? ⟨b, o, none⟩ := by
  have h1 : (⟨g, 1, none⟩ : Addr) ≠ ⟨b, o, none⟩ := by intro e; injection e with e1; exact h e1
  have h0 : (⟨g, 0, none⟩ : Addr) ≠ ⟨b, o, none⟩ := by intro e; injection e with e1; exact h e1
  exact (World.cell?_setCell_other (h := h1) ..).trans (World.cell?_setCell_other (h := h0) ..)

def SmR (N : Nat) (W0 : World) (uv lv : Value) (wr : World) : Prop :=
  ∃ (U : Nat) (O : List Nat), uv = .int .u64 (U : Int) ∧ U < 18446744073709551616 ∧ Hid (QO wr W0.heap.size lv O ∧ O ++ words16 U = words16 N) ∧ Below W0.heap.size W0 wr

set_option maxRecDepth 100000 in
set_option maxHeartbeats 1000000 in
theorem dsmall_any (z : Int) (h1 : -9223372036854775808 ≤ z) (h2 : z ≤ 9223372036854775807) (w : World) :
    Calls Tryz.prog 29 #[.int .i64 z] w (RetIn w z) := by
  obtain ⟨i0, hi0, hz0, hz1, hz2⟩ := info_parts infoQ
  obtain ⟨W0, HW0, HW, HG⟩ := qbox1 w #[.bool false, .slice none 0 0] 39
  obtain ⟨N, hN⟩ : ∃ N, z.natAbs = N := ⟨_, rfl⟩
  have hNb : N < 18446744073709551616 := by omega
  have HN := Lib.hid hN
  have hlN : (words16 N).length ≤ 4 := words16_length_le N 4 (by rw [B16_eq]; omega)
  have HST : Hid (SmR N W0 (.int .u64 (N : Int)) (.slice none 0 0) W0) := ⟨N, [], rfl, hNb, Lib.hid ⟨QO.nil_ _ _, rfl⟩, Below.refl _ _⟩
  have REST : True := trivial
  by_cases hneg : z < 0
  · have e1 := sm_neg h1 hneg
    rw [hN] at e1
    clear hN
    go_enter Tryz.func29, Tryz.ntmps29
    go_wp2
    rw [← HW0.out]
    go_loopw [3, 4] (fun uv lv wr => SmR N W0 uv lv wr) (fun uv _ _ => (numQ uv).toNat)
    case atStart => exact HST.out
    case round =>
      obtain ⟨U, O, rfl, hUb, hT, hbr⟩ := hrel
      by_cases hU : U = 0
      · subst hU
        have c0 := qblk_cell HG.out hbr 0 (.bool false) rfl
        have c1 := qblk_cell HG.out hbr 1 (.slice none 0 0) rfl
        have cf := qblk_frozen HG.out hbr
        obtain ⟨t1, t2⟩ := hT.out
        have hO := t1.reads
        obtain ⟨AO, cO, hvO, hnz⟩ := t1.form
        subst hvO
        rw [words16_zero, List.append_nil] at t2
        have HO := Lib.hid (And.intro hO t2)
        have HNZ := Lib.hid hnz
        clear hnz
        have HBR := Lib.hid hbr
        clear t1 t2 hO hbr
        go_wp2
        refine bodyPost_ret (v := .agg #[.bool true, .slice AO O.length cO]) (by simp [results, Tryz.results29, go_sem, c0, c1, hneg]) rfl ⟨_, rfl, ⟨AO, O.length, cO, by first | (simp [hneg]; done) | (simp; omega), ?_, HNZ.out.1⟩, ?_⟩
        · have e : words16 z.natAbs = O := by rw [HN.out]; exact HO.out.2.symm
          rw [e]
          exact QO.reads_low hT.out.1 (fun b hb o => set2_far wr w.heap.size b o _ _ (by have := (Array.getElem?_eq_some_iff.1 HG.out).1; omega)) (by simp)
        · exact Below.setCell (p := ⟨w.heap.size, 1, none⟩) (Below.setCell (p := ⟨w.heap.size, 0, none⟩) (qbel HW.out HBR.out) (Nat.le_refl _) _) (Nat.le_refl _) _
      · have hUp : (0 : Int) < (U : Int) := by omega
        obtain ⟨lo, hlo⟩ : ∃ lo, U % 65536 = lo := ⟨_, rfl⟩
        obtain ⟨hi, hhi⟩ : ∃ hi, U / 65536 = hi := ⟨_, rfl⟩
        have hlob : lo < 65536 := by omega
        have hmod : (U : Int) % 65536 = (lo : Int) := by omega
        have hdiv : (U : Int) / 65536 = (hi : Int) := by omega
        have hhib : hi < U := by omega
        obtain ⟨t1, t2⟩ := hT.out
        have hOl : O.length ≤ 4 := by
          have := congrArg List.length t2
          rw [List.length_append] at this
          omega
        have hnx : (O ++ [lo]) ++ words16 hi = words16 N := by
          rw [← t2, words16_pos hU, show U % B16 = lo from hlo, show U / B16 = hi from hhi]
          simp
        have hbs := hbr.size
        obtain ⟨k, hk⟩ : ∃ k, O.length = k := ⟨_, rfl⟩
        have hown : wr.ownsRow W0.heap.size 3 1 u4 O.length (qs O) := t1
        obtain ⟨F, hF⟩ : ∃ F, qs O = F := ⟨_, rfl⟩
        rw [hk, hF] at hown
        rw [hk] at hOl
        have HF := Lib.hid (And.intro hk hF)
        have HBR := Lib.hid hbr
        have HC := Lib.hid (laidq wr 3 lo)
        have HNX := Lib.hid hnx
        have HT1 := Lib.hid t1
        clear hlo hhi t1 t2 hnx hk hF hbr hU
        go_wp2_with (at_builtin
                     refine wpList_append_own_at _ rfl (.tmp 13) (.tmp 17) _ rfl W0.heap.size 3 i0 _ 1 8 Tryz.underlying36 hi0 hz0 hz1 hz2 rfl (by decide) _ k _ rfl (hown.alloc _) ⟨wr.heap.size, 0, none⟩ 1 1 [.int .i64 (lo : Int)] rfl rfl HC.out (by intro u hu; simp at hu; subst hu; rfl) (by unfold maxLen; omega) (by omega) (by simp; omega) ?_)
        intro v' w2 ho hg _ _
        have HGr := Lib.hid (QO.grows HT1.out HBR.out _ HF.out ho hg)
        clear ho hg hown
        go_wp2
        go_roundw
        case rel => exact ⟨hi, O ++ [lo], by first | rfl | trivial, by omega, Lib.hid ⟨HGr.out.1, HNX.out⟩, HGr.out.2⟩
        case measure => simp [numQ]; omega
  · have e1 := sm_pos (by omega) h2
    rw [hN] at e1
    clear hN
    go_enter Tryz.func29, Tryz.ntmps29
    go_wp2
    rw [← HW0.out]
    go_loopw [3, 4] (fun uv lv wr => SmR N W0 uv lv wr) (fun uv _ _ => (numQ uv).toNat)
    case atStart => exact HST.out
    case round =>
      obtain ⟨U, O, rfl, hUb, hT, hbr⟩ := hrel
      by_cases hU : U = 0
      · subst hU
        have c0 := qblk_cell HG.out hbr 0 (.bool false) rfl
        have c1 := qblk_cell HG.out hbr 1 (.slice none 0 0) rfl
        have cf := qblk_frozen HG.out hbr
        obtain ⟨t1, t2⟩ := hT.out
        have hO := t1.reads
        obtain ⟨AO, cO, hvO, hnz⟩ := t1.form
        subst hvO
        rw [words16_zero, List.append_nil] at t2
        have HO := Lib.hid (And.intro hO t2)
        have HNZ := Lib.hid hnz
        clear hnz
        have HBR := Lib.hid hbr
        clear t1 t2 hO hbr
        go_wp2
        refine bodyPost_ret (v := .agg #[.bool false, .slice AO O.length cO]) (by simp [results, Tryz.results29, go_sem, c0, c1, hneg]) rfl ⟨_, rfl, ⟨AO, O.length, cO, by first | (simp [hneg]; done) | (simp; omega), ?_, HNZ.out.1⟩, ?_⟩
        · have e : words16 z.natAbs = O := by rw [HN.out]; exact HO.out.2.symm
          rw [e]
          exact QO.reads_low hT.out.1 (fun b hb o => set2_far wr w.heap.size b o _ _ (by have := (Array.getElem?_eq_some_iff.1 HG.out).1; omega)) (by simp)
        · exact Below.setCell (p := ⟨w.heap.size, 1, none⟩) (Below.setCell (p := ⟨w.heap.size, 0, none⟩) (qbel HW.out HBR.out) (Nat.le_refl _) _) (Nat.le_refl _) _
      · have hUp : (0 : Int) < (U : Int) := by omega
        obtain ⟨lo, hlo⟩ : ∃ lo, U % 65536 = lo := ⟨_, rfl⟩
        obtain ⟨hi, hhi⟩ : ∃ hi, U / 65536 = hi := ⟨_, rfl⟩
        have hlob : lo < 65536 := by omega
        have hmod : (U : Int) % 65536 = (lo : Int) := by omega
        have hdiv : (U : Int) / 65536 = (hi : Int) := by omega
        have hhib : hi < U := by omega
        obtain ⟨t1, t2⟩ := hT.out
        have hOl : O.length ≤ 4 := by
          have := congrArg List.length t2
          rw [List.length_append] at this
          omega
        have hnx : (O ++ [lo]) ++ words16 hi = words16 N := by
          rw [← t2, words16_pos hU, show U % B16 = lo from hlo, show U / B16 = hi from hhi]
          simp
        have hbs := hbr.size
        obtain ⟨k, hk⟩ : ∃ k, O.length = k := ⟨_, rfl⟩
        have hown : wr.ownsRow W0.heap.size 3 1 u4 O.length (qs O) := t1
        obtain ⟨F, hF⟩ : ∃ F, qs O = F := ⟨_, rfl⟩
        rw [hk, hF] at hown
        rw [hk] at hOl
        have HF := Lib.hid (And.intro hk hF)
        have HBR := Lib.hid hbr
        have HC := Lib.hid (laidq wr 3 lo)
        have HNX := Lib.hid hnx
        have HT1 := Lib.hid t1
        clear hlo hhi t1 t2 hnx hk hF hbr hU
        go_wp2_with (at_builtin
                     refine wpList_append_own_at _ rfl (.tmp 13) (.tmp 17) _ rfl W0.heap.size 3 i0 _ 1 8 Tryz.underlying36 hi0 hz0 hz1 hz2 rfl (by decide) _ k _ rfl (hown.alloc _) ⟨wr.heap.size, 0, none⟩ 1 1 [.int .i64 (lo : Int)] rfl rfl HC.out (by intro u hu; simp at hu; subst hu; rfl) (by unfold maxLen; omega) (by omega) (by simp; omega) ?_)
        intro v' w2 ho hg _ _
        have HGr := Lib.hid (QO.grows HT1.out HBR.out _ HF.out ho hg)
        clear ho hg hown
        go_wp2
        go_roundw
        case rel => exact ⟨hi, O ++ [lo], by first | rfl | trivial, by omega, Lib.hid ⟨HGr.out.1, HNX.out⟩, HGr.out.2⟩
        case measure => simp [numQ]; omega
end Go.Proofs.YtdpmfenikomfkaaGreat
