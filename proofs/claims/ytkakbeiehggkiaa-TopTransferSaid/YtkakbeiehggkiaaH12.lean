/-
  joined: the bytes of lists behind one another.
  The document's receiver: Take and GiveUp.
  Ranging over a map of the call's own, keyed by int; maps with the same keys have as many entries.
-/
import Derived.Test.YtkakbeiehggkiaaH03
import Derived.Test.YtkakbeiehggkiaaH11
import Derived.Test.YtkakbeiehggkiaaH07
import Derived.Deep.RegionHeld3
import Derived.Maps.RangeWalk
namespace Go.Proofs.Ytkakbeiehggkiaa
open Go.RowKit

def flat (X : Nat → List Nat) : Nat → List Nat
  | 0 => []
  | k + 1 => flat X k ++ X k
theorem flat_mono (X : Nat → List Nat) : ∀ (j k : Nat), j ≤ k → (flat X j).length ≤ (flat X k).length
  | j, 0, h => by have : j = 0 := by omega
                  subst this; exact Nat.le_refl _
  | j, k + 1, h => by
    by_cases e : j = k + 1
    · subst e; exact Nat.le_refl _
    · have := flat_mono X j k (by omega)
      simp [flat]; omega

def JoinRel (w : World) (X : Nat → List Nat) (K : Nat) (ov iv : Value) (wr : World) : Prop :=
  ∃ k : Nat, k ≤ K ∧ iv = .int .i64 (k : Int) ∧ wr.ownsRow w.heap.size 5 1 ov (flat X k).length (bys (flat X k)) ∧ Below w.heap.size w wr

theorem ownBlock_ge {w : World} {base n : Nat} {e : TypeId} {v : Value} {xs : List Value} (h : w.ownsRow base e 1 v n xs) : ∀ k, v.ownBlock = some k → base ≤ k := fun k hk => (World.ownsRow.lt h k hk).1

set_option maxRecDepth 100000 in
set_option maxHeartbeats 400000 in
theorem joined_any (K g B c : Nat) (V : Nat → Value) (X : Nat → List Nat) (w : World) (hcell : ∀ j, j < K → w.cell? ⟨g, j, none⟩ = some (V j)) (hx : ∀ j, j < K → RB w B (V j) (X j)) (hB : B ≤ w.heap.size) (hg : g < w.heap.size)
    (hK : K ≤ 1024) (hKc : K ≤ c) (hl : (flat X K).length ≤ 1099511627776) :
    Calls Try.prog 59 #[.slice (some ⟨g, 0, none⟩) K c] w (RetOwn w (flat X K)) := by
  have HC := Lib.hid (And.intro hcell hx)
  have HL := Lib.hid hl
  clear hcell hx hl
  go_enter Try.func59, Try.ntmps59
  go_wp2
  go_loopw [3, 7] (fun ov iv wr => JoinRel w X K ov iv wr) (fun _ iv _ => K - (intOf1 iv).toNat)
  case atStart => exact ⟨0, Nat.zero_le _, rfl, owns_nil _ _ _, Below.refl _ _⟩
  case round =>
    obtain ⟨k, hk, rfl, hown, hbw⟩ := hrel
    have hszw := hbw.size
    by_cases hkK : k < K
    · have hc1 : wr.cell? ⟨g, k, none⟩ = some (V k) := (hbw.cell (p := ⟨g, k, none⟩) hg).trans (HC.out.1 k hkK)
      have hx1 : RB wr B (V k) (X k) := (HC.out.2 k hkK).belowM hbw hB
      have hlen : (flat X k).length + (X k).length ≤ 1099511627776 := by
        have h1 := flat_mono X (k + 1) K hkK
        have h2 := HL.out
        simp [flat] at h1; omega
      have HX1 := Lib.hid hx1
      have HOW := Lib.hid hown
      clear hx1 hown
      go_wp2_with (at_builtin
                   refine wpList_append_bytes rfl (.tmp 10) (.tmp 14) rfl w.heap.size B _ _ (flat X k) rfl HOW.out _ (X k) rfl HX1.out (by omega) hszw ?_)
      intro v' w' ho hg'
      go_wp2
      go_roundw
      case rel => exact ⟨k + 1, by omega, by go_num, by simpa [flat] using ho, grown_below' hbw hg' (ownBlock_ge HOW.out)⟩
      case measure => simp [intOf1]; omega
    · obtain rfl : k = K := by omega
      go_wp2
      go_ret
      exact ⟨_, rfl, hown, hbw⟩

/-- The cells of a list that stands in a new block. -/
theorem built_cells (w : World) (cs : Array Value) (e : TypeId) (j : Nat) (v : Value) (h : cs[j]? = some v) : (w.alloc (.cells cs e)).cell? ⟨w.heap.size, j, none⟩ = some v := by
  rw [cell_of_row _ _ j cs e (0, 0) (heap_alloc_new w _), h]

set_option maxRecDepth 100000 in
set_option maxHeartbeats 400000 in
theorem joined_one (v : Value) (L : List Nat) (B : Nat) (w : World) (hx : RB w B v L) (hB : B ≤ w.heap.size) (hl : L.length ≤ 1099511627776) :
    Calls Try.prog 59 #[.slice (some ⟨w.heap.size, 0, none⟩) 1 1] (w.alloc (.cells #[v] 33)) (RetOwn w L) := by
  refine (joined_any 1 w.heap.size B 1 (fun _ => v) (fun _ => L) (w.alloc (.cells #[v] 33)) (fun j hj => ?_) (fun j hj => hx.alloc hB _) (by simp; omega) (by simp) (by omega) (by omega) (by simpa [flat] using hl)).mono ?_
  · obtain rfl : j = 0 := by omega
    exact built_cells w #[v] _ 0 v rfl
  · rintro e w' ⟨v', rfl, ho, hb⟩
    refine ⟨v', rfl, ?_, ((Below.refl w.heap.size w).alloc (Nat.le_refl _) (.cells #[v] 33)).trans (hb.mono (by simp))⟩
    have e : flat (fun _ => L) 1 = L := by simp [flat]
    rw [e] at ho
    exact owns_base ho (by simp)

theorem rb_one (wr : World) (e : TypeId) (x : Nat) : RB (wr.alloc (.cells #[.int .u8 (x : Int)] e)) (wr.heap.size + 1) (.slice (some ⟨wr.heap.size, 0, none⟩) 1 1) [x] := by
  refine ⟨RW.mk rfl (Nat.le_refl _) (by simp [maxLen]) (fun _ => ⟨wr.heap.size, 0, rfl, by omega, fun j hj => ?_⟩), nz_some⟩
  obtain rfl : j = 0 := by omega
  exact built_cells wr #[.int .u8 (x : Int)] e 0 _ rfl

end Go.Proofs.Ytkakbeiehggkiaa

namespace Go.Proofs.Ytkakbeiehggkiaa
open Go.RowKit Go.Maps
attribute [local go_sem ↓] Go.wp_at_zero Go.wp_at_succ

/-- What keep, Take and GiveUp leave. -/
def KpC (w : World) (g base : Nat) (st win nx : Int) (F : Hf) (ce : Int) (v : Value) (w' : World) : Prop :=
  (ce ≠ 0 ∧ v = .slice none 0 0 ∧ Below w.heap.size w w') ∨ (ce = 0 ∧ ∃ (m : Nat) (Ds : List Dl), (∀ i : Nat, i < m → F (nx + i) ≠ none) ∧ F (nx + m) = none ∧ (m : Int) ≤ win ∧ DsF Ds (cutF F (nx + m)) ∧ Ds.length ≤ 1024 ∧ Rrc w' g base st win (nx + m) Ds ∧
    DlS w' w.heap.size v (dsOf F nx m) ∧ Only (fun k => k = g ∨ lB w g k) w w')
def RetKpC (w : World) (g base : Nat) (st win nx : Int) (F : Hf) (ce : Int) (e : Ending) (w' : World) : Prop :=
  ∃ v, e = .returned (.tuple #[v, .int .i64 ce]) ∧ KpC w g base st win nx F ce v w'

theorem lB_of {w : World} {g base k : Nat} {st win nx : Int} {Ds : List Dl} (h : Rrc w g base st win nx Ds) (hk : lB w g k) : base ≤ k ∧ k < w.heap.size ∧ ∃ cs, w.heap[k]? = some (.cells cs 85 (0, 0)) := by
  obtain ⟨hv, h1, vs, _, h3, _⟩ := h
  obtain ⟨hv', h4, h5⟩ := hk
  have e := cell_of_row _ g 3 _ _ _ h1
  rw [h4] at e
  injection e with e
  subst e
  exact own_block h3 h5
theorem kpC_only {w w' : World} {g base : Nat} {st win nx : Int} {F : Hf} {ce : Int} {v : Value} (h : KpC w g base st win nx F ce v w') : Only (fun k => k = g ∨ lB w g k) w w' := by
  rcases h with ⟨_, _, h⟩ | ⟨_, _, _, _, _, _, _, _, _, _, h⟩
  · exact only_below h
  · exact h
theorem lB_not {w : World} {g base k : Nat} {st win nx : Int} {Ds : List Dl} {cs : Array Value} {T : TypeId} (h : Rrc w g base st win nx Ds) (hk : w.heap[k]? = some (.cells cs T (0, 0))) (hT : T ≠ 85) : ¬ lB w g k := fun e => by
  obtain ⟨_, _, cs', hc⟩ := lB_of h e
  rw [hc] at hk
  injection hk with hk
  injection hk with _ hk
  exact hT hk.symm

theorem lB_below {w w' : World} {g k : Nat} (hb : Below w.heap.size w w') (hg : g < w.heap.size) : lB w' g k ↔ lB w g k := by
  unfold lB
  rw [show w'.cell? ⟨g, 3, none⟩ = w.cell? ⟨g, 3, none⟩ from hb.cell (p := ⟨g, 3, none⟩) hg]
theorem kpC_from {w w1 : World} {g base : Nat} {st win nx : Int} {F : Hf} {ce : Int} {v : Value} {w' : World} (hb : Below w.heap.size w w1) (hg : g < w.heap.size) (h : KpC w1 g base st win nx F ce v w') : KpC w g base st win nx F ce v w' := by
  rcases h with ⟨h0, h1, h2⟩ | ⟨h0, m, Ds, h1, h2, h3, h4, h5, h6, h7, h8⟩
  · exact .inl ⟨h0, h1, hb.trans (h2.mono hb.size)⟩
  · exact .inr ⟨h0, m, Ds, h1, h2, h3, h4, h5, h6, dls_base h7 hb.size, (only_below hb).trans (h8.mono (fun k hk e => e.elim Or.inl (fun e => .inr ((lB_below hb hg).1 e))))⟩

theorem keep_any (g base : Nat) (st win nx sq : Int) (F : Hf) (Ds : List Dl) (X : List Nat) (l : Bool) (A : Option Addr) (n c : Nat) (w : World) (h : Rrc w g base st win nx Ds) (hD : DsF Ds F) (hF : InW F nx win) (hl : Ds.length ≤ 1000) (hnx : 0 ≤ nx ∧ nx ≤ 4294967296) (hw : 1 ≤ win ∧ win ≤ 64)
    (hsq : 0 ≤ sq ∧ sq ≤ 4294967295) (hX : Bd w (.slice A n c) X) (hbase : base ≤ w.heap.size) (ce : Int) (hce : holdE win nx F sq = ce) :
    Calls Try.prog 58 #[.pointer (some ⟨g, 0, none⟩), .agg #[.int .i64 sq, .slice A n c, .bool l]] w (RetKpC w g base st win nx (putH F sq X l) ce) := by
  by_cases h0 : ce = 0
  · subst h0
    have h1 : nx ≤ sq := by
      apply Int.not_lt.1
      intro h
      simp [holdE, h] at hce
    have h2 : F sq = none := by
      apply Classical.byContradiction
      intro h
      simp [holdE, h, Int.not_lt.2 h1] at hce
    have h3 : sq < nx + win := by
      apply Int.not_le.1
      intro h
      simp [holdE, h, Int.not_lt.2 h1, h2] at hce
    refine (keep_ok g base st win nx sq F Ds X l A n c w h hD hF hl hnx hw hsq h1 h2 h3 hX hbase).mono ?_
    rintro e w' ⟨v, m, Ds', rfl, q⟩
    exact ⟨v, rfl, .inr ⟨rfl, m, Ds', q⟩⟩
  · refine (keep_err g base st win nx sq F Ds l A n c w h hD (by omega) hnx hw hsq ce hce h0).mono ?_
    rintro e w' ⟨rfl, q⟩
    exact ⟨_, rfl, .inl ⟨h0, rfl, q⟩⟩


set_option maxRecDepth 100000 in
set_option maxHeartbeats 1000000 in
theorem rgive_any (g base : Nat) (st win nx sq : Int) (F : Hf) (Ds : List Dl) (w : World) (h : Rrc w g base st win nx Ds) (hD : DsF Ds F) (hF : InW F nx win) (hl : Ds.length ≤ 1000) (hnx : 0 ≤ nx ∧ nx ≤ 4294967296) (hw : 1 ≤ win ∧ win ≤ 64)
    (hbase : base ≤ w.heap.size) (ce : Int) (hce : giveE win nx F sq = ce) :
    Calls Try.prog 16 #[.pointer (some ⟨g, 0, none⟩), .int .i64 sq] w (RetKpC w g base st win nx (putH F sq [] true) ce) := by
  unfold giveE at hce
  by_cases h1 : 0 ≤ sq ∧ sq ≤ 4294967295
  · rw [if_pos h1] at hce
    have HH := Lib.hid (keep_any g base st win nx sq F Ds [] true none 0 0 w h hD hF hl hnx hw h1 (bd_nil w) hbase ce hce)
    clear hce h hD hF
    have i1 : ¬ sq < 0 := by omega
    have i2 : ¬ 4294967295 < sq := by omega
    go_enter Try.func16, Try.ntmps16
    go_wp2_with fail
    refine HH.out.mono ?_
    rintro e w2 ⟨v, rfl, q⟩
    have HQ := Lib.hid q
    clear q
    go_wp2
    go_ret2
    exact ⟨_, rfl, HQ.out⟩
  · rw [if_neg h1] at hce
    subst hce
    clear h hD hF
    by_cases h2 : sq < 0
    · go_enter Try.func16, Try.ntmps16
      go_wp2_with fail
      go_ret2
      exact ⟨_, rfl, .inl ⟨by omega, rfl, Below.refl _ _⟩⟩
    · have h3 : 4294967295 < sq := by omega
      go_enter Try.func16, Try.ntmps16
      go_wp2_with fail
      go_ret2
      exact ⟨_, rfl, .inl ⟨by omega, rfl, Below.refl _ _⟩⟩

set_option maxRecDepth 100000 in
set_option maxHeartbeats 2000000 in
theorem rtake_any (g base : Nat) (st win nx fst sq : Int) (F : Hf) (Ds : List Dl) (X : List Nat) (A : Option Addr) (n c B : Nat) (w : World) (h : Rrc w g base st win nx Ds) (hD : DsF Ds F) (hF : InW F nx win) (hl : Ds.length ≤ 1000) (hnx : 0 ≤ nx ∧ nx ≤ 4294967296) (hw : 1 ≤ win ∧ win ≤ 64)
    (hx : RB w B (.slice A n c) X) (hB : B ≤ w.heap.size) (hbase : base ≤ w.heap.size) (ce : Int) (hce : takeE st win nx F fst sq n = ce) :
    Calls Try.prog 14 #[.pointer (some ⟨g, 0, none⟩), .agg #[.int .i64 fst, .int .i64 sq, .slice A n c]] w (RetKpC w g base st win nx (putH F sq X false) ce) := by
  obtain ⟨W0, HW0, hw0, HG, z0⟩ := F0ex w fst sq (.slice A n c)
  obtain ⟨k0, k1, k2, kf⟩ := fr_blk HG.out (Below.refl _ _)
  have hR0 := rrc_below h hw0
  have hglw : g < w.heap.size := by obtain ⟨_, _, _, _, _, _, _, _, h, _⟩ := rrc_cells h; exact h
  have HXL := Lib.hid hx.1.len
  have HX := Lib.hid (And.intro (hx.belowM hw0 hB) (Nat.le_trans hB hw0.size))
  have HR0 := Lib.hid (And.intro hR0 (And.intro hD hF))
  clear hx h hR0 hD hF
  unfold takeE at hce
  by_cases hok : okF fst sq n
  · rw [if_pos hok] at hce
    have HV := Lib.hid (refValidP true fst sq A n c (by rw [if_pos rfl]; exact hok) W0)
    by_cases hs : fst = st
    · subst hs
      rw [if_pos rfl] at hce
      have HC := Lib.hid hce
      have HOK := Lib.hid hok
      clear hce hok
      go_enter Try.func14, Try.ntmps14
      go_wp2_with fail
      rw [← HW0.out]
      refine HV.out.mono ?_
      rintro e w1 ⟨rfl, b1⟩
      have hR1 := rrc_below HR0.out.1 b1
      obtain ⟨RA, rc, c0, c1, c2, c3, hcap, cf, hgl, hel⟩ := rrc_cells hR1
      obtain ⟨k0', k1', k2', kf'⟩ := fr_blk HG.out b1
      have HB1 := Lib.hid b1
      have KK := Lib.hid (fun (w' : World) (hb : Below w1.heap.size w1 w') => (⟨(hb.cell (p := ⟨w.heap.size, 1, none⟩) (Nat.lt_of_lt_of_le z0 b1.size)).trans k1', (hb.cell (p := ⟨w.heap.size, 2, none⟩) (Nat.lt_of_lt_of_le z0 b1.size)).trans k2'⟩ : w'.cell? ⟨w.heap.size, 1, none⟩ = some (.int .i64 sq) ∧ w'.cell? ⟨w.heap.size, 2, none⟩ = some (.slice A n c)))
      have HR1 := Lib.hid hR1
      clear hcap cf hel b1 k0 k1 k2 kf kf' c1 c2 c3 hR1
      go_wp2_with fail
      go_region
      clear c0 k0' k1' k2'
      go_wp2_with fail
      have K1 := Lib.hid (KK.out w1.drew.drew (Below.refl _ _).drew.drew)
      have HX1 := Lib.hid (HX.out.1.belowM HB1.out HX.out.2)
      obtain ⟨k1c, k2c⟩ := K1.out
      go_region_held3 (fun w' => w'.cell? ⟨w.heap.size, 1, none⟩ = some (.int .i64 sq) ∧ w'.cell? ⟨w.heap.size, 2, none⟩ = some (.slice A n c))
        (first | with_reducible exact K5.out | with_reducible exact K3.out | with_reducible exact K1.out | exact KK.out _ ((Below.refl _ _).drew.alloc (Nat.le_refl _) _) | exact KK.out _ ((Below.refl _ _).alloc (Nat.le_refl _) _).drew | exact KK.out _ ((Below.refl _ _).drew.drew.alloc (Nat.le_refl _) _) | exact KK.out _ (Below.refl _ _).drew.drew | go_keep)
        (first
          | (go_at_call 59
             refine (joined_one (.slice A n c) X B _ (by exact ⟨HX1.out.1.drew.drew, HX1.out.2⟩) (by exact Nat.le_trans HX.out.2 HB1.out.size) (by have := HOK.out.2.2.2.2; have := HXL.out; omega)).mono ?_
             rintro e w3 ⟨v3, rfl, o3, b3⟩
             have f3 : Below w1.heap.size w1 w3 := below_un (below_un b3)
             obtain ⟨A3, c3', e3⟩ := (rb_of_owns o3).2.form
             subst e3
             have F3 := Lib.hid f3
             have K3 := Lib.hid (KK.out w3 F3.out)
             have O3 := Lib.hid (bd_owns o3)
             clear o3 b3 f3)
          | (go_at_call 58
             refine (keep_any g base fst win nx sq F Ds X false A3 _ c3' _ (rrc_below HR1.out F3.out) HR0.out.2.1 HR0.out.2.2 hl hnx hw ⟨HOK.out.2.2.1, HOK.out.2.2.2.1⟩ O3.out (by have := HB1.out.size; have := F3.out.size; have := hw0.size; omega) ce HC.out).mono ?_
             rintro e w5 ⟨v5, rfl, q5⟩
             have hO5 := kpC_only q5
             have hz3 : w.heap.size < w3.heap.size := Nat.lt_of_lt_of_le z0 (Nat.le_trans HB1.out.size F3.out.size)
             have hG3 := (F3.out.block w.heap.size (Nat.lt_of_lt_of_le z0 HB1.out.size)).trans ((HB1.out.block w.heap.size z0).trans HG.out)
             have hn5 : ¬ (w.heap.size = g ∨ lB w3 g w.heap.size) := fun e => e.elim (fun e => by omega) (lB_not (rrc_below HR1.out F3.out) hG3 (by decide))
             have K5 := Lib.hid (And.intro ((hO5.cell (p := ⟨w.heap.size, 1, none⟩) hz3 hn5).trans K3.out.1) ((hO5.cell (p := ⟨w.heap.size, 2, none⟩) hz3 hn5).trans K3.out.2))
             have Q5 := Lib.hid q5
             clear q5 hO5 hz3 hG3 hn5))
      go_wp2
      go_ret2
      exact ⟨_, rfl, kpC_from (hw0.trans ((HB1.out.mono hw0.size).trans (F3.out.mono (Nat.le_trans hw0.size HB1.out.size)))) hglw Q5.out⟩
    · rw [if_neg hs] at hce
      subst hce
      have hd : (fst != st) = true := by simpa using hs
      clear hok
      go_enter Try.func14, Try.ntmps14
      go_wp2_with fail
      rw [← HW0.out]
      refine HV.out.mono ?_
      rintro e w1 ⟨rfl, b1⟩
      have hR1 := rrc_below HR0.out.1 b1
      obtain ⟨RA, rc, c0, c1, c2, c3, hcap, cf, hgl, hel⟩ := rrc_cells hR1
      obtain ⟨k0', k1', k2', kf'⟩ := fr_blk HG.out b1
      have HB1 := Lib.hid (hw0.trans (b1.mono hw0.size))
      clear hcap cf hel b1 k0 k1 k2 kf kf' c1 c2 c3 hR1
      go_wp2_with fail
      go_region
      go_wp2
      go_ret2
      exact ⟨_, rfl, .inl ⟨by omega, rfl, HB1.out.drew⟩⟩
  · rw [if_neg hok] at hce
    subst hce
    have HV := Lib.hid (refValidP false fst sq A n c (by simpa using hok) W0)
    clear hok
    go_enter Try.func14, Try.ntmps14
    go_wp2_with fail
    rw [← HW0.out]
    refine HV.out.mono ?_
    rintro e w1 ⟨rfl, b1⟩
    have HB1 := Lib.hid (hw0.trans (b1.mono hw0.size))
    clear b1
    go_wp2
    go_ret2
    exact ⟨_, rfl, .inl ⟨by omega, rfl, HB1.out⟩⟩
end Go.Proofs.Ytkakbeiehggkiaa

namespace Go.Proofs.Ytkakbeiehggkiaa
open Go.Maps Go.RowKit Go.ChangeMaps Go.MapKept
open Go.WideElems (Fit rd rg pl rd_val elemAt)

/-- A loop over the map in block b is under way (its iterator: block r): the keys of L are still to come. -/
def RngF (P : Program) (K : TypeId) (w : World) (b r n : Nat) (f : Int → Option Value) (L : Int → Bool) (cnt : Nat) : Prop :=
  ∃ (D : DataW Value) (left : Lit → Bool), w.ranges P K rawR b r n D left cnt ∧ Maps.size D = n ∧ (∀ k : Int, match f k with
    | none => Maps.has D (litI k) = false
    | some v => Maps.has D (litI k) = true ∧ ∀ z, D.atKey (litI k) z = .held v) ∧ ∀ k, left (litI k) = L k

section
variable {P : Program} {K E T : TypeId} {w w' : World} {b r n cnt : Nat} {f : Int → Option Value} {L : Int → Bool} {ops : Array Oper} {rest : List Oper} {o : Oper} {a : Act} {Q : Exit → Act → World → Prop}
theorem RngF.map (h : RngF P K w b r n f L cnt) : MapF P K w b n f := by obtain ⟨D, left, h, hs, hf, _⟩ := h; exact ⟨D, h.owns, hs, hf⟩
theorem RngF.left_eq (h : RngF P K w b r n f L cnt) : w.rangeLeft b r = cnt := by obtain ⟨D, left, h, _⟩ := h; exact h.left_eq
theorem RngF.iter (h : RngF P K w b r n f L cnt) : ∃ m s e c, w.heap[r]? = some (.mapIter m s e c) := by obtain ⟨D, left, ⟨es, clock, since, seen, c0, h1, h2, h3, h4, h5, h6⟩, h7⟩ := h; exact ⟨_, _, _, _, h5⟩
theorem RngF.ne (h : RngF P K w b r n f L cnt) : r ≠ b := by obtain ⟨D, left, h, _⟩ := h; exact h.ne
theorem RngF.lt (h : RngF P K w b r n f L cnt) : r < w.heap.size := by obtain ⟨D, left, h, _⟩ := h; exact h.lt
theorem RngF.only {S : Nat → Prop} (h : RngF P K w b r n f L cnt) (ho : Only S w w') (hb : ¬ S b) (hr : ¬ S r) : RngF P K w' b r n f L cnt := by
  obtain ⟨D, left, ⟨es, clock, since, seen, c0, h1, h2, h3, h4, h5, h6⟩, h7⟩ := h
  exact ⟨D, left, ⟨es, clock, since, seen, c0, (ho.block b (Array.getElem?_eq_some_iff.1 h1).1 hb).trans h1, h2, h3, h4, (ho.block r (Array.getElem?_eq_some_iff.1 h5).1 hr).trans h5, h6⟩, h7⟩

theorem wpList_range_raw (hg : o.guard = none) (m : Operand) (hop : o.op = Op.range T m) (hK : P.underlying K = some (.int .i64)) (ht : P.underlying T = some (.map K E)) (hm : a.eval m = .map (some b)) (hown : MapF P K w b n f)
    (h : ∀ w' L, RngF P K w' b w.heap.size n f L n → (∀ k, L k = (f k).isSome) → w.grownBy w' none → w'.heap.size = w.heap.size + 1 → wpList P ops Q rest (a.put o.dst (.pointer (some ⟨w.heap.size, 0, none⟩))) w') :
    wpList P ops Q (o :: rest) a w := by
  obtain ⟨D, ho, hs, hf⟩ := hown
  refine wpList_range_own w hg m T hop K E (int_keyed hK) ht rawR b n D hm ho ?_
  intro w1 hr hg1 hs1
  refine h w1 (fun k => Maps.has D (litI k)) ⟨D, _, by rw [hs] at hr; exact hr, hs, hf, fun k => rfl⟩ (fun k => ?_) hg1 hs1
  have hk := hf k
  cases e : f k with
  | none => rw [e] at hk; simpa using hk
  | some v => rw [e] at hk; simpa using hk.1

theorem sameKey_litI (k x : Int) : (litI k).sameKey (litI x) = decide (k = x) := by
  by_cases e : k = x
  · subst e
    rw [WideAt.sameKey_self (litI_key k)]
    simp
  · rw [decide_eq_false e]
    cases h : (litI k).sameKey (litI x) with
    | false => rfl
    | true => exact absurd (WideAt.sameKey_eq h) (litI_ne e)

theorem wpList_next_raw (hg : o.guard = none) (it : Operand) (hop : o.op = Op.next it false) (hK : P.underlying K = some (.int .i64)) (hit : a.eval it = .pointer (some ⟨r, 0, none⟩)) (h : RngF P K w b r n f L cnt)
    (hDone : cnt = 0 → (∀ k, L k = false) → wpList P ops Q rest (a.put o.dst (.tuple #[.bool false])) w)
    (hMore : ∀ (x : Int) (c : Value) (w' : World) (cnt' : Nat), (Lit.int .i64 x).wf = true → L x = true → f x = some c → RngF P K w' b r n f (fun k => if k = x then false else L k) cnt' → cnt' < cnt → w.grownBy w' (some r) → w'.heap.size = w.heap.size →
      (Instr.entry (.pointer (some ⟨r, 0, none⟩))).run P w' = .ok (.tuple #[.int .i64 x, c]) w' → wpList P ops Q rest (a.put o.dst (.tuple #[.bool true, .int .i64 x, c])) w') :
    wpList P ops Q (o :: rest) a w := by
  obtain ⟨D, left, hrg, hs, hf, hL⟩ := h
  refine wpList_next_ranges w hg it hop K (int_keyed hK) rawR (Value.int .i64) id (fun key kl hkey => by obtain ⟨x, rfl, _⟩ := Maps.keyOf_int_inv hK hkey; exact ⟨x, rfl⟩) (fun v y _ => ⟨v, rfl⟩) b r n D left cnt hit hrg (fun h0 hl => hDone h0 (fun k => by rw [← hL k]; exact hl _)) ?_
  intro x c kl y w1 cnt1 hkey hlk hv hat hrg1 hlt hgr hsz hen
  obtain ⟨x', ex, rfl, hwx⟩ := Maps.keyOf_int_inv hK hkey
  cases ex
  simp only [rawR, id, Option.some.injEq] at hv
  subst hv
  have hx := hf x
  have hfx : f x = some c := by
    cases e : f x with
    | none =>
      rw [e] at hx
      simp only at hx
      have h1 := Maps.atKey_of_not_has hx (.map [])
      have h2 := hat (.map [])
      rw [show (Lit.int .i64 x) = litI x from rfl, h1] at h2
      cases h2
    | some v =>
      rw [e] at hx
      simp only at hx
      have h1 := hx.2 (.map [])
      have h2 := hat (.map [])
      rw [show (Lit.int .i64 x) = litI x from rfl, h1] at h2
      injection h2 with h2
      rw [h2]
  refine hMore x c w1 cnt1 hwx (by rw [← hL x]; exact hlk) hfx ⟨D, _, hrg1, hs, hf, fun k => ?_⟩ hlt hgr hsz hen
  show (left (litI k) && !(litI k).sameKey (litI x)) = _
  rw [sameKey_litI, hL k]
  by_cases e : k = x
  · subst e
    simp
  · simp [e]

theorem len_sub : ∀ (l l' : List Lit), l.Pairwise (fun x y => x ≠ y) → (∀ x ∈ l, x ∈ l') → l.length ≤ l'.length
  | [], _, _, _ => Nat.zero_le _
  | x :: t, l', hp, hm => by
    obtain ⟨s, u, rfl⟩ := List.append_of_mem (hm x (List.mem_cons_self ..))
    rw [List.pairwise_cons] at hp
    have ih := len_sub t (s ++ u) hp.2 (fun y hy => by
      have h1 := hm y (List.mem_cons_of_mem _ hy)
      have h2 := hp.1 y hy
      simp only [List.mem_append, List.mem_cons] at h1 ⊢
      rcases h1 with h1 | h1 | h1
      · exact .inl h1
      · exact absurd h1.symm h2
      · exact .inr h1)
    simp only [List.length_append, List.length_cons] at ih ⊢
    omega

theorem MapF.keys (h : MapF P K w b n f) (hK : P.underlying K = some (.int .i64)) : ∃ ks : List Lit, ks.length = n ∧ ks.Pairwise (fun x y => x ≠ y) ∧ (∀ x ∈ ks, ∃ k, x = litI k ∧ f k ≠ none) ∧ ∀ k, f k ≠ none → litI k ∈ ks := by
  obtain ⟨D, ho, hs, hf⟩ := h
  obtain ⟨es', e', hp⟩ := ho.tidy (int_keyed hK)
  obtain ⟨es, clock, hb, F, _, hD⟩ := ho
  have he : es' = (es.toList.map (rg P K rawR)).foldr DataW.insert [] := by
    have := e'.symm.trans hD
    injection this
  have hmem : ∀ p ∈ es', ∃ k, p.1 = litI k := by
    intro p hp
    rw [he] at hp
    obtain ⟨x, hx, rfl⟩ := List.mem_map.1 (mem_sorted.1 hp)
    obtain ⟨y, hy⟩ := F.reads x hx
    obtain ⟨k, _, e, _⟩ := Maps.keyOf_int_inv hK (WideElems.rd_key hy)
    exact ⟨k, by rw [WideElems.rg_of hy]; exact e⟩
  subst e'
  refine ⟨es'.map (·.1), by simpa [Maps.size] using hs, ?_, ?_, ?_⟩
  · rw [List.pairwise_map]
    exact hp
  · intro x hx
    obtain ⟨p, hp, rfl⟩ := List.mem_map.1 hx
    obtain ⟨k, hk⟩ := hmem p hp
    refine ⟨k, hk, fun e => ?_⟩
    have hk2 := hf k
    rw [e] at hk2
    simp only at hk2
    have : Maps.has (DataW.map es') (litI k) = true := List.any_eq_true.2 ⟨p, hp, by rw [hk]; exact WideAt.sameKey_self (litI_key k)⟩
    rw [hk2] at this
    cases this
  · intro k hk
    have hk2 := hf k
    cases e : f k with
    | none => exact absurd e hk
    | some v =>
      rw [e] at hk2
      simp only at hk2
      obtain ⟨p, hp, hs⟩ := List.any_eq_true.1 hk2.1
      exact List.mem_map.2 ⟨p, hp, WideAt.sameKey_eq hs⟩

theorem mapF_len_le {b' n' : Nat} {f' : Int → Option Value} (h : MapF P K w b n f) (h' : MapF P K w' b' n' f') (hK : P.underlying K = some (.int .i64)) (e : ∀ k, f k ≠ none → f' k ≠ none) : n ≤ n' := by
  obtain ⟨ks, e1, p1, m1, _⟩ := h.keys hK
  obtain ⟨ks', e2, _, _, m2⟩ := h'.keys hK
  rw [← e1, ← e2]
  exact len_sub ks ks' p1 (fun x hx => by
    obtain ⟨k, rfl, hk⟩ := m1 x hx
    exact m2 k (e k hk))
end
end Go.Proofs.Ytkakbeiehggkiaa
