/-
  Words of 32 bits packed to words of 64 bits, and back.
-/
import Derived.Test.YtogklhbodaghdaaWord
import Derived.Test.YtogklhbodaghdaaMathA
import Derived.Test.YtogklhbodaghdaaBits
import Derived.Laws.BitsAllLaws
namespace Go.Proofs.Ytogklhbodaghdaa
open Go.RowKit

theorem b64_b32 (q : Nat) : B64 ^ q = B32 ^ (2 * q) := by
  rw [Nat.pow_mul]; rfl

theorem pack_even {L xs : List Nat} {q t m : Nat} (ht : t = top xs) (hlt : 2 * q < t) (hm : m = (t + 1) / 2) (hok : AllOk32 xs) (hL : AllOk L)
    (hk : L.length = m ∧ val L = val32 (xs.take (2 * q)) ∧ (∀ j, 2 * q ≤ 2 * j → nth L j = 0)) :
    AllOk (L.set q (nth xs (2 * q))) ∧ val (L.set q (nth xs (2 * q))) = val32 (xs.take (2 * q + 1)) ∧ (∀ j, 2 * q + 1 ≤ 2 * j → nth (L.set q (nth xs (2 * q))) j = 0) ∧ nth (L.set q (nth xs (2 * q))) q < B32 := by
  obtain ⟨h1, h2, h3⟩ := hk
  have hx := nth_ok32 hok (2 * q)
  have hxl : 2 * q < xs.length := by have := top_le xs; omega
  have hb : nth xs (2 * q) < B64 := Nat.lt_trans hx (by unfold B32 B64; omega)
  refine ⟨hL.set hb, ?_, fun j hj => ?_, ?_⟩
  · have hv := val_set L q (nth xs (2 * q)) (by omega)
    rw [h3 q (Nat.le_refl _), Nat.mul_zero, Nat.add_zero] at hv
    rw [hv, h2, val32_take_succ _ _ hxl, b64_b32]
  · rw [nth_set, if_neg (by omega)]; exact h3 j (by omega)
  · rw [nth_set, if_pos ⟨rfl, by omega⟩]; exact hx

theorem pack_odd {L xs : List Nat} {q t m : Nat} (ht : t = top xs) (hlt : 2 * q + 1 < t) (hm : m = (t + 1) / 2) (hok : AllOk32 xs) (hL : AllOk L)
    (hk : L.length = m ∧ val L = val32 (xs.take (2 * q + 1)) ∧ (∀ j, 2 * q + 1 ≤ 2 * j → nth L j = 0) ∧ nth L q < B32) :
    AllOk (L.set q (nth L q + nth xs (2 * q + 1) * B32)) ∧ val (L.set q (nth L q + nth xs (2 * q + 1) * B32)) = val32 (xs.take (2 * q + 2)) ∧ (∀ j, 2 * q + 2 ≤ 2 * j → nth (L.set q (nth L q + nth xs (2 * q + 1) * B32)) j = 0) := by
  obtain ⟨h1, h2, h3, h4⟩ := hk
  have hx := nth_ok32 hok (2 * q + 1)
  have hxl : 2 * q + 1 < xs.length := by have := top_le xs; omega
  have hb : nth L q + nth xs (2 * q + 1) * B32 < B64 := by
    unfold B32 B64 at *; omega
  refine ⟨hL.set hb, ?_, fun j hj => ?_⟩
  · have hv := val_set L q (nth L q + nth xs (2 * q + 1) * B32) (by omega)
    rw [Nat.mul_add, b64_b32] at hv
    have e : B32 ^ (2 * q + 1) * nth xs (2 * q + 1) = B32 ^ (2 * q) * (nth xs (2 * q + 1) * B32) := by
      rw [Nat.pow_succ, Nat.mul_assoc, Nat.mul_comm B32]
    rw [val32_take_succ _ _ hxl, e]
    omega
  · rw [nth_set, if_neg (by omega)]; exact h3 j (by omega)

theorem pack_end {L xs : List Nat} {t : Nat} (ht : t = top xs) (hok : AllOk32 xs) (hL : AllOk L) (hl : L.length = (t + 1) / 2) (hv : val L = val32 (xs.take t)) : L = words (val32 xs) := by
  subst ht
  rw [take_top32 xs hok, val32_words32] at hv
  rw [← hv]
  refine (words_of_ge L hL (fun h0 => ?_)).symm
  have hn : val32 xs ≠ 0 := by
    intro h
    have := top_eq_len32 xs hok
    rw [h, words32_zero] at this
    simp at this
    omega
  have hg := words32_ge _ hn
  rw [← top_eq_len32 xs hok] at hg
  rw [hv, b64_b32]
  exact Nat.le_trans (Nat.pow_le_pow_right B32_pos (by omega)) hg

theorem or_high (y x : Nat) (h : y < B32) : y ||| (x * 4294967296) = y + x * B32 := by
  unfold B32 at *
  have := Nat.shiftLeft_add_eq_or_of_lt (b := y) (i := 32) h x
  rw [Nat.shiftLeft_eq] at this
  rw [Nat.or_comm, show x * 4294967296 = x * 2 ^ 32 from rfl, ← this]
  omega

def PackRel (w : World) (t : Nat) (xs : List Nat) (m : Nat) (i : Value) (wr : World) : Prop :=
  ∃ k L, k ≤ t ∧ i = .int .i64 (k : Nat) ∧ Row .u64 wr w.heap.size 66 L ∧ L.length = m ∧ AllOk L ∧ val L = val32 (xs.take k) ∧ (∀ j, k ≤ 2 * j → nth L j = 0) ∧ (k % 2 = 1 → nth L (k / 2) < B32) ∧ Below w.heap.size w wr

set_option maxRecDepth 100000 in
set_option maxHeartbeats 400000 in
theorem pack_any (A : Option Addr) (n c : Nat) (xs : List Nat) (hok : AllOk32 xs) (B : Nat) (w : World) (h : RW .u32 w B (.slice A n c) xs) (hB : B ≤ w.heap.size) (ht : top xs ≤ 65536) :
    Calls Try.prog 38 #[.slice A n c] w (RetW w (val32 xs)) := by
  obtain ⟨i0, hi0, hz0, hz1, hz2⟩ := info_parts info64
  have hl := Lib.hid h.len
  have hc := h.cap
  have hm : n ≤ 9223372036854775807 := by have := hc.2; unfold maxLen at this; omega
  have htn : top xs ≤ n := by rw [hl.out]; exact top_le xs
  obtain ⟨t, ht0⟩ : ∃ t, t = top xs := ⟨_, rfl⟩
  have HT := Lib.hid ht0
  rw [← ht0] at ht htn
  have h32 := h.take htn
  clear ht0
  go_enter Try.func38, Try.ntmps38
  go_wp2_with (first
    | (go_at_call 37; refine (words32_any A n c xs B _ h).mono ?_; rw [← HT.out]; rintro e w' ⟨rfl, rfl⟩)
    | (at_make
       refine wpList_make_full _ rfl (.tmp 13) (.tmp 13) _ rfl w.heap.size 66 i0 _ 1 Try.underlying53 hi0 hz0 hz1 .i64 .i64 _ _ ((t + 1) / 2) rfl rfl (by omega) (by omega) (by rw [hz2]; omega) (by unfold maxLen; omega) (Nat.le_refl _) ?_
       intro w1 hown hg1
       have hb1 : Below w.heap.size w w1 := (Below.refl _ _).grown hg1 (Nat.le_refl _) (by simp)
       have hrow := row_of_made hown
       clear hown hg1))
  go_loopw [17] (fun i wr => PackRel w t xs ((t + 1) / 2) i wr) (fun i _ => t - (intOf i).toNat)
  case atStart => 
    refine ⟨0, _, Nat.zero_le _, rfl, hrow, by simp, AllOk.zeros _, ?_, ?_, ?_, hb1⟩
    · rw [val_zeros_n]; rfl
    · intro j _; unfold nth; simp [List.getD_eq_getElem?_getD, List.getElem?_replicate]; split <;> rfl
    · intro h; omega
  case round =>
    obtain ⟨k, L, hk, rfl, hr, hLl, hLok, hLv, hz, hodd, hbr⟩ := hrel
    have HK := Lib.hid (And.intro hLl (And.intro hLv (And.intro hz hodd)))
    have HO := Lib.hid hLok
    clear hLv hz hodd hLok
    by_cases hlt : k < t
    · obtain ⟨q, hq⟩ : ∃ q, k = 2 * q ∨ k = 2 * q + 1 := ⟨k / 2, by omega⟩
      rcases hq with rfl | rfl
      · obtain ⟨b, o, rfl, hb, hcell⟩ := h32.at_ (by omega)
        have hx : wr.cell? ⟨b, o + 2 * q, none⟩ = some (.int .u32 (nth (xs.take t) (2 * q) : Nat)) := by rw [hbr.cell (by show b < _; omega)]; exact hcell _ (by omega)
        have hy : wr.cell? ⟨w.heap.size, q, none⟩ = some (.int .u64 (nth L q : Nat)) := hr.cell (by omega)
        have hf : wr.frozen? ⟨w.heap.size, q, none⟩ = false := hr.frozen _
        clear hcell hLl
        go_wp2
        go_region
        go_wp2
        go_roundw
        case rel =>
          obtain ⟨g1, g2, g3, _⟩ := HK.out
          obtain ⟨p1, p2, p3, p4⟩ := pack_even HT.out hlt rfl hok HO.out ⟨g1, g2, g3⟩
          have e1 : nth (xs.take t) (2 * q) = nth xs (2 * q) := nth_take (by omega)
          have hb : nth xs (2 * q) < B64 := Nat.lt_trans (nth_ok32 hok (2 * q)) (by unfold B32 B64; omega)
          rw [e1, wrap_small _ hb, wrap_small _ hb, g3 q (Nat.le_refl _), u64_or_nat _ _ (by omega) hb, Nat.zero_or]
          exact ⟨2 * q + 1, _, by omega, by go_num, (hr.set q _).drew, by rw [List.length_set]; exact g1, p1, p2, p3, fun _ => by rw [show (2 * q + 1) / 2 = q from by omega]; exact p4, (hbr.setCell (Nat.le_refl _) _).drew⟩
        case measure => simp [intOf]; omega
      · obtain ⟨b, o, rfl, hb, hcell⟩ := h32.at_ (by omega)
        have hx : wr.cell? ⟨b, o + (2 * q + 1), none⟩ = some (.int .u32 (nth (xs.take t) (2 * q + 1) : Nat)) := by rw [hbr.cell (by show b < _; omega)]; exact hcell _ (by omega)
        have hy : wr.cell? ⟨w.heap.size, (2 * q + 1) / 2, none⟩ = some (.int .u64 (nth L q : Nat)) := by rw [show (2 * q + 1) / 2 = q from by omega]; exact hr.cell (by omega)
        have hf : wr.frozen? ⟨w.heap.size, (2 * q + 1) / 2, none⟩ = false := hr.frozen _
        clear hcell hLl
        go_wp2
        go_region
        go_wp2
        go_roundw
        case rel =>
          obtain ⟨g1, g2, g3, g4⟩ := HK.out
          have g5 : nth L q < B32 := by have := g4 (by omega); rwa [show (2 * q + 1) / 2 = q from by omega] at this
          obtain ⟨p1, p2, p3⟩ := pack_odd HT.out hlt rfl hok HO.out ⟨g1, g2, g3, g5⟩
          have e1 : nth (xs.take t) (2 * q + 1) = nth xs (2 * q + 1) := nth_take (by omega)
          have hx32 := nth_ok32 hok (2 * q + 1)
          have hb : nth xs (2 * q + 1) < B64 := Nat.lt_trans hx32 (by unfold B32 B64; omega)
          have hb2 : nth xs (2 * q + 1) * 4294967296 < B64 := by unfold B32 at hx32; unfold B64; omega
          have e2 : bits BinOp.or IntKind.u64 (nth L q : Int) ((nth xs (2 * q + 1) * 4294967296 : Nat) : Int) = ((nth L q + nth xs (2 * q + 1) * B32 : Nat) : Int) := by
            have hy64 : nth L q < B64 := nth_ok HO.out q
            rw [u64_or_nat _ _ hy64 hb2, or_high (nth L q) (nth xs (2 * q + 1)) g5]
          have e3 : (nth xs (2 * q + 1) : Int) * 4294967296 = ((nth xs (2 * q + 1) * 4294967296 : Nat) : Int) := by omega
          rw [e1, wrap_small _ hb, e3, wrap_small _ hb2, e2, show (2 * q + 1) / 2 = q from by omega]
          exact ⟨2 * q + 2, _, by omega, by go_num, (hr.set q _).drew, by rw [List.length_set]; exact g1, p1, p2, p3, fun h => absurd h (by omega), (hbr.setCell (Nat.le_refl _) _).drew⟩
        case measure => simp [intOf]; omega
    · have hkt : k = t := by omega
      have HKT := Lib.hid hkt
      clear hkt hLl
      go_wp2
      go_ret
      have hke := HKT.out
      subst hke
      obtain ⟨g1, g2, _⟩ := HK.out
      have hL := pack_end HT.out hok HO.out g1 g2
      rw [hL] at hr g1
      exact ⟨_, _, _, rfl, RW.of_row0 (post := []) (hr.of_eq (by simp)) g1.symm (Nat.le_refl _) (by unfold maxLen; omega) hr.lt, hbr⟩
end Go.Proofs.Ytogklhbodaghdaa
