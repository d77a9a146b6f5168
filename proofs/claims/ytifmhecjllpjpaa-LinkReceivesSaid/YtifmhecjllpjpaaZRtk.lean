/-
  The document's receiver: Take and GiveUp.
-/
import Derived.Test.YtifmhecjllpjpaaZKeep4
import Derived.Test.YtifmhecjllpjpaaZTake
import Derived.Test.YtifmhecjllpjpaaZJoin
import Derived.Deep.RegionHeld3
namespace Go.Proofs.Ytifmhecjllpjpaa
open Go.RowKit Go.Maps
attribute [local go_sem ↓] Go.wp_at_zero Go.wp_at_succ

/-- What keep, Take and GiveUp leave. -/
def KpC (w : World) (g base : Nat) (st win nx : Int) (F : Hf) (ce : Int) (v : Value) (w' : World) : Prop :=
  (ce ≠ 0 ∧ v = .slice none 0 0 ∧ Below w.heap.size w w') ∨ (ce = 0 ∧ ∃ (m : Nat) (Ds : List Dl), (∀ i : Nat, i < m → F (nx + i) ≠ none) ∧ F (nx + m) = none ∧ (m : Int) ≤ win ∧ DsF Ds (cutF F (nx + m)) ∧ Ds.length ≤ 1024 ∧ Rrc w' g base st win (nx + m) Ds ∧
    DlS w' w.heap.size v (dsOf F nx m) ∧ Only (fun k => k = g ∨ lB w g k) w w')
def RetKpC (w : World) (g base : Nat) (st win nx : Int) (F : Hf) (ce : Int) (e : Ending) (w' : World) : Prop :=
  ∃ v, e = .returned (.tuple #[v, .int .i64 ce]) ∧ KpC w g base st win nx F ce v w'

theorem lB_of {w : World} {g base k : Nat} {st win nx : Int} {Ds : List Dl} (h : Rrc w g base st win nx Ds) (hk : lB w g k) : base ≤ k ∧ k < w.heap.size ∧ ∃ cs, w.heap[k]? = some (.cells cs 71 (0, 0)) := by
  obtain ⟨hv, h1, vs, _, h3, _⟩ := h
  obtain ⟨hv', h4, h5⟩ := hk
  have e := cell_of_row _ g 3 _ _ _ h1
  rw [h4] at e
  injection e with e
  subst e
  exact own_block h3 h5
theorem kpC_only {w w' : World} {g base : Nat} {st win nx : Int} {F : Hf} {ce : Int} {v : Value} (h : KpC w g base st win nx F ce v w') : Only (fun k => k = g ∨ lB w g k) w w' := by
  rcases h with ⟨_, _, h⟩ | ⟨_, _, _, _, _, _, _, _, _, _, h⟩
  · exact only_below h
  · exact h
theorem lB_not {w : World} {g base k : Nat} {st win nx : Int} {Ds : List Dl} {cs : Array Value} {T : TypeId} (h : Rrc w g base st win nx Ds) (hk : w.heap[k]? = some (.cells cs T (0, 0))) (hT : T ≠ 71) : ¬ lB w g k := fun e => by
  obtain ⟨_, _, cs', hc⟩ := lB_of h e
  rw [hc] at hk
  injection hk with hk
  injection hk with _ hk
  exact hT hk.symm

theorem lB_below {w w' : World} {g k : Nat} (hb : Below w.heap.size w w') (hg : g < w.heap.size) : lB w' g k ↔ lB w g k := by
  unfold lB
  rw [show w'.cell? ⟨g, 3, none⟩ = w.cell? ⟨g, 3, none⟩ from hb.cell (p := ⟨g, 3, none⟩) hg]
theorem kpC_from {w w1 : World} {g base : Nat} {st win nx : Int} {F : Hf} {ce : Int} {v : Value} {w' : World} (hb : Below w.heap.size w w1) (hg : g < w.heap.size) (h : KpC w1 g base st win nx F ce v w') : KpC w g base st win nx F ce v w' := by
  rcases h with ⟨h0, h1, h2⟩ | ⟨h0, m, Ds, h1, h2, h3, h4, h5, h6, h7, h8⟩
  · exact .inl ⟨h0, h1, hb.trans (h2.mono hb.size)⟩
  · exact .inr ⟨h0, m, Ds, h1, h2, h3, h4, h5, h6, dls_base h7 hb.size, (only_below hb).trans (h8.mono (fun k hk e => e.elim Or.inl (fun e => .inr ((lB_below hb hg).1 e))))⟩

theorem keep_any (g base : Nat) (st win nx sq : Int) (F : Hf) (Ds : List Dl) (X : List Nat) (l : Bool) (A : Option Addr) (n c : Nat) (w : World) (h : Rrc w g base st win nx Ds) (hD : DsF Ds F) (hF : InW F nx win) (hl : Ds.length ≤ 1000) (hnx : 0 ≤ nx ∧ nx ≤ 4294967296) (hw : 1 ≤ win ∧ win ≤ 64)
    (hsq : 0 ≤ sq ∧ sq ≤ 4294967295) (hX : Bd w (.slice A n c) X) (hbase : base ≤ w.heap.size) (ce : Int) (hce : holdE win nx F sq = ce) :
    Calls Try.prog 48 #[.pointer (some ⟨g, 0, none⟩), .agg #[.int .i64 sq, .slice A n c, .bool l]] w (RetKpC w g base st win nx (putH F sq X l) ce) := by
  by_cases h0 : ce = 0
  · subst h0
    have h1 : nx ≤ sq := by
      apply Int.not_lt.1
      intro h
      simp [holdE, h] at hce
    have h2 : F sq = none := by
      apply Classical.byContradiction
      intro h
      simp [holdE, h, Int.not_lt.2 h1] at hce
    have h3 : sq < nx + win := by
      apply Int.not_le.1
      intro h
      simp [holdE, h, Int.not_lt.2 h1, h2] at hce
    refine (keep_ok g base st win nx sq F Ds X l A n c w h hD hF hl hnx hw hsq h1 h2 h3 hX hbase).mono ?_
    rintro e w' ⟨v, m, Ds', rfl, q⟩
    exact ⟨v, rfl, .inr ⟨rfl, m, Ds', q⟩⟩
  · refine (keep_err g base st win nx sq F Ds l A n c w h hD (by omega) hnx hw hsq ce hce h0).mono ?_
    rintro e w' ⟨rfl, q⟩
    exact ⟨_, rfl, .inl ⟨h0, rfl, q⟩⟩


set_option maxRecDepth 100000 in
set_option maxHeartbeats 1000000 in
theorem rgive_any (g base : Nat) (st win nx sq : Int) (F : Hf) (Ds : List Dl) (w : World) (h : Rrc w g base st win nx Ds) (hD : DsF Ds F) (hF : InW F nx win) (hl : Ds.length ≤ 1000) (hnx : 0 ≤ nx ∧ nx ≤ 4294967296) (hw : 1 ≤ win ∧ win ≤ 64)
    (hbase : base ≤ w.heap.size) (ce : Int) (hce : giveE win nx F sq = ce) :
    Calls Try.prog 18 #[.pointer (some ⟨g, 0, none⟩), .int .i64 sq] w (RetKpC w g base st win nx (putH F sq [] true) ce) := by
  unfold giveE at hce
  by_cases h1 : 0 ≤ sq ∧ sq ≤ 4294967295
  · rw [if_pos h1] at hce
    have HH := Lib.hid (keep_any g base st win nx sq F Ds [] true none 0 0 w h hD hF hl hnx hw h1 (bd_nil w) hbase ce hce)
    clear hce h hD hF
    have i1 : ¬ sq < 0 := by omega
    have i2 : ¬ 4294967295 < sq := by omega
    go_enter Try.func18, Try.ntmps18
    go_wp2_with fail
    refine HH.out.mono ?_
    rintro e w2 ⟨v, rfl, q⟩
    have HQ := Lib.hid q
    clear q
    go_wp2
    go_ret2
    exact ⟨_, rfl, HQ.out⟩
  · rw [if_neg h1] at hce
    subst hce
    clear h hD hF
    by_cases h2 : sq < 0
    · go_enter Try.func18, Try.ntmps18
      go_wp2_with fail
      go_ret2
      exact ⟨_, rfl, .inl ⟨by omega, rfl, Below.refl _ _⟩⟩
    · have h3 : 4294967295 < sq := by omega
      go_enter Try.func18, Try.ntmps18
      go_wp2_with fail
      go_ret2
      exact ⟨_, rfl, .inl ⟨by omega, rfl, Below.refl _ _⟩⟩

set_option maxRecDepth 100000 in
set_option maxHeartbeats 2000000 in
theorem rtake_any (g base : Nat) (st win nx fst sq : Int) (F : Hf) (Ds : List Dl) (X : List Nat) (A : Option Addr) (n c B : Nat) (w : World) (h : Rrc w g base st win nx Ds) (hD : DsF Ds F) (hF : InW F nx win) (hl : Ds.length ≤ 1000) (hnx : 0 ≤ nx ∧ nx ≤ 4294967296) (hw : 1 ≤ win ∧ win ≤ 64)
    (hx : RB w B (.slice A n c) X) (hB : B ≤ w.heap.size) (hbase : base ≤ w.heap.size) (ce : Int) (hce : takeE st win nx F fst sq n = ce) :
    Calls Try.prog 16 #[.pointer (some ⟨g, 0, none⟩), .agg #[.int .i64 fst, .int .i64 sq, .slice A n c]] w (RetKpC w g base st win nx (putH F sq X false) ce) := by
  obtain ⟨W0, HW0, hw0, HG, z0⟩ := F0ex w fst sq (.slice A n c)
  obtain ⟨k0, k1, k2, kf⟩ := fr_blk HG.out (Below.refl _ _)
  have hR0 := rrc_below h hw0
  have hglw : g < w.heap.size := by obtain ⟨_, _, _, _, _, _, _, _, h, _⟩ := rrc_cells h; exact h
  have HXL := Lib.hid hx.1.len
  have HX := Lib.hid (And.intro (hx.belowM hw0 hB) (Nat.le_trans hB hw0.size))
  have HR0 := Lib.hid (And.intro hR0 (And.intro hD hF))
  clear hx h hR0 hD hF
  unfold takeE at hce
  by_cases hok : okF fst sq n
  · rw [if_pos hok] at hce
    have HV := Lib.hid (refValidP true fst sq A n c (by rw [if_pos rfl]; exact hok) W0)
    by_cases hs : fst = st
    · subst hs
      rw [if_pos rfl] at hce
      have HC := Lib.hid hce
      have HOK := Lib.hid hok
      clear hce hok
      go_enter Try.func16, Try.ntmps16
      go_wp2_with fail
      rw [← HW0.out]
      refine HV.out.mono ?_
      rintro e w1 ⟨rfl, b1⟩
      have hR1 := rrc_below HR0.out.1 b1
      obtain ⟨RA, rc, c0, c1, c2, c3, hcap, cf, hgl, hel⟩ := rrc_cells hR1
      obtain ⟨k0', k1', k2', kf'⟩ := fr_blk HG.out b1
      have HB1 := Lib.hid b1
      have KK := Lib.hid (fun (w' : World) (hb : Below w1.heap.size w1 w') => (⟨(hb.cell (p := ⟨w.heap.size, 1, none⟩) (Nat.lt_of_lt_of_le z0 b1.size)).trans k1', (hb.cell (p := ⟨w.heap.size, 2, none⟩) (Nat.lt_of_lt_of_le z0 b1.size)).trans k2'⟩ : w'.cell? ⟨w.heap.size, 1, none⟩ = some (.int .i64 sq) ∧ w'.cell? ⟨w.heap.size, 2, none⟩ = some (.slice A n c)))
      have HR1 := Lib.hid hR1
      clear hcap cf hel b1 k0 k1 k2 kf kf' c1 c2 c3 hR1
      go_wp2_with fail
      go_region
      clear c0 k0' k1' k2'
      go_wp2_with fail
      have K1 := Lib.hid (KK.out w1.drew.drew (Below.refl _ _).drew.drew)
      have HX1 := Lib.hid (HX.out.1.belowM HB1.out HX.out.2)
      obtain ⟨k1c, k2c⟩ := K1.out
      go_region_held3 (fun w' => w'.cell? ⟨w.heap.size, 1, none⟩ = some (.int .i64 sq) ∧ w'.cell? ⟨w.heap.size, 2, none⟩ = some (.slice A n c))
        (first | with_reducible exact K5.out | with_reducible exact K3.out | with_reducible exact K1.out | exact KK.out _ ((Below.refl _ _).drew.alloc (Nat.le_refl _) _) | exact KK.out _ ((Below.refl _ _).alloc (Nat.le_refl _) _).drew | exact KK.out _ ((Below.refl _ _).drew.drew.alloc (Nat.le_refl _) _) | exact KK.out _ (Below.refl _ _).drew.drew | go_keep)
        (first
          | (go_at_call 39
             refine (joined_one (.slice A n c) X B _ (by exact ⟨HX1.out.1.drew.drew, HX1.out.2⟩) (by exact Nat.le_trans HX.out.2 HB1.out.size) (by have := HOK.out.2.2.2.2; have := HXL.out; omega)).mono ?_
             rintro e w3 ⟨v3, rfl, o3, b3⟩
             have f3 : Below w1.heap.size w1 w3 := below_un (below_un b3)
             obtain ⟨A3, c3', e3⟩ := (rb_of_owns o3).2.form
             subst e3
             have F3 := Lib.hid f3
             have K3 := Lib.hid (KK.out w3 F3.out)
             have O3 := Lib.hid (bd_owns o3)
             clear o3 b3 f3)
          | (go_at_call 48
             refine (keep_any g base fst win nx sq F Ds X false A3 _ c3' _ (rrc_below HR1.out F3.out) HR0.out.2.1 HR0.out.2.2 hl hnx hw ⟨HOK.out.2.2.1, HOK.out.2.2.2.1⟩ O3.out (by have := HB1.out.size; have := F3.out.size; have := hw0.size; omega) ce HC.out).mono ?_
             rintro e w5 ⟨v5, rfl, q5⟩
             have hO5 := kpC_only q5
             have hz3 : w.heap.size < w3.heap.size := Nat.lt_of_lt_of_le z0 (Nat.le_trans HB1.out.size F3.out.size)
             have hG3 := (F3.out.block w.heap.size (Nat.lt_of_lt_of_le z0 HB1.out.size)).trans ((HB1.out.block w.heap.size z0).trans HG.out)
             have hn5 : ¬ (w.heap.size = g ∨ lB w3 g w.heap.size) := fun e => e.elim (fun e => by omega) (lB_not (rrc_below HR1.out F3.out) hG3 (by decide))
             have K5 := Lib.hid (And.intro ((hO5.cell (p := ⟨w.heap.size, 1, none⟩) hz3 hn5).trans K3.out.1) ((hO5.cell (p := ⟨w.heap.size, 2, none⟩) hz3 hn5).trans K3.out.2))
             have Q5 := Lib.hid q5
             clear q5 hO5 hz3 hG3 hn5))
      go_wp2
      go_ret2
      exact ⟨_, rfl, kpC_from (hw0.trans ((HB1.out.mono hw0.size).trans (F3.out.mono (Nat.le_trans hw0.size HB1.out.size)))) hglw Q5.out⟩
    · rw [if_neg hs] at hce
      subst hce
      have hd : (fst != st) = true := by simpa using hs
      clear hok
      go_enter Try.func16, Try.ntmps16
      go_wp2_with fail
      rw [← HW0.out]
      refine HV.out.mono ?_
      rintro e w1 ⟨rfl, b1⟩
      have hR1 := rrc_below HR0.out.1 b1
      obtain ⟨RA, rc, c0, c1, c2, c3, hcap, cf, hgl, hel⟩ := rrc_cells hR1
      obtain ⟨k0', k1', k2', kf'⟩ := fr_blk HG.out b1
      have HB1 := Lib.hid (hw0.trans (b1.mono hw0.size))
      clear hcap cf hel b1 k0 k1 k2 kf kf' c1 c2 c3 hR1
      go_wp2_with fail
      go_region
      go_wp2
      go_ret2
      exact ⟨_, rfl, .inl ⟨by omega, rfl, HB1.out.drew⟩⟩
  · rw [if_neg hok] at hce
    subst hce
    have HV := Lib.hid (refValidP false fst sq A n c (by simpa using hok) W0)
    clear hok
    go_enter Try.func16, Try.ntmps16
    go_wp2_with fail
    rw [← HW0.out]
    refine HV.out.mono ?_
    rintro e w1 ⟨rfl, b1⟩
    have HB1 := Lib.hid (hw0.trans (b1.mono hw0.size))
    clear b1
    go_wp2
    go_ret2
    exact ⟨_, rfl, .inl ⟨by omega, rfl, HB1.out⟩⟩
end Go.Proofs.Ytifmhecjllpjpaa
