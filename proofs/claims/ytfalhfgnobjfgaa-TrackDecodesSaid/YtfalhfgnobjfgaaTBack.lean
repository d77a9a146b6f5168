/-
  What is written is read back; two records that are the same.
-/
import Derived.Test.YtfalhfgnobjfgaaTDec
import Derived.Test.YtfalhfgnobjfgaaTEnp
namespace Go.Proofs.Ytfalhfgnobjfgaa
open Go.RowKit Go.Maps
attribute [local go_sem] eqArr4a eqArr3a eqArr4b eqArr3b

theorem rd_nm (sg : Bool) (z : Int) (T : List Nat) (h : nmOk sg z) : rv sg (nmE sg z ++ T) = z ∧ rk (nmE sg z ++ T) = (nmE sg z).length ∧ re (nmE sg z ++ T) = 0 := by
  cases sg with
  | true =>
    obtain ⟨h1, h2⟩ := (show -2305843009213693952 ≤ z ∧ z ≤ 2305843009213693951 from h)
    obtain ⟨s, l1, l2, l3, l4⟩ := rd_enc (zig z) (zig_le h1 h2) T
    have e : sL (enc7 (zig z) ++ T) = s := lead_unique (sL_lead _) l1
    show half (rdN (enc7 (zig z) ++ T) (sL (enc7 (zig z) ++ T))) = z ∧ rdS (enc7 (zig z) ++ T) (sL (enc7 (zig z) ++ T)) = (enc7 (zig z)).length ∧ rdE (enc7 (zig z) ++ T) (sL (enc7 (zig z) ++ T)) = 0
    rw [e, l2, l3, l4]
    exact ⟨half_zig z, rfl, rfl⟩
  | false =>
    obtain ⟨h1, h2⟩ := (show 0 ≤ z ∧ z ≤ 4611686018427387903 from h)
    obtain ⟨s, l1, l2, l3, l4⟩ := rd_enc z.toNat (by omega) T
    have e : sL (enc7 z.toNat ++ T) = s := lead_unique (sL_lead _) l1
    show ((rdN (enc7 z.toNat ++ T) (sL (enc7 z.toNat ++ T)) : Nat) : Int) = z ∧ rdS (enc7 z.toNat ++ T) (sL (enc7 z.toNat ++ T)) = (enc7 z.toNat).length ∧ rdE (enc7 z.toNat ++ T) (sL (enc7 z.toNat ++ T)) = 0
    rw [e, l2, l3, l4]
    exact ⟨by omega, rfl, rfl⟩
def allE : List (Bool × Int) → List Nat
  | [] => []
  | p :: ps => nmE p.1 p.2 ++ allE ps
theorem all_back : ∀ (j : Nat) (ps : List (Bool × Int)), (∀ p ∈ ps, nmOk p.1 p.2) → j ≤ ps.length → rest (allE ps) j = allE (ps.drop j) ∧ okR (allE ps) j = true
  | 0, ps, _, _ => ⟨rfl, rfl⟩
  | j + 1, ps, h, hj => by
    obtain ⟨h1, h2⟩ := all_back j ps h (by omega)
    have e : ps.drop j = ps[j] :: ps.drop (j + 1) := List.drop_eq_getElem_cons (by omega)
    have hp := h ps[j] (List.getElem_mem _)
    obtain ⟨r1, r2, r3⟩ := rd_nm ps[j].1 ps[j].2 (allE (ps.drop (j + 1))) hp
    have e2 : rest (allE ps) j = nmE ps[j].1 ps[j].2 ++ allE (ps.drop (j + 1)) := by rw [h1, e]; rfl
    refine ⟨?_, ?_⟩
    · show (rest (allE ps) j).drop (rk (rest (allE ps) j)) = _
      rw [e2, r2, List.drop_left]
    · show (okR (allE ps) j && decide (re (rest (allE ps) j) = 0)) = true
      rw [h2, e2, r3]
      rfl
theorem all_val (j : Nat) (ps : List (Bool × Int)) (h : ∀ p ∈ ps, nmOk p.1 p.2) (hj : j < ps.length) : rv ps[j].1 (rest (allE ps) j) = ps[j].2 := by
  rw [(all_back j ps h (by omega)).1, List.drop_eq_getElem_cons hj]
  exact (rd_nm ps[j].1 ps[j].2 (allE (ps.drop (j + 1))) (h ps[j] (List.getElem_mem _))).1

theorem syncL_all (sc nv er : Int) : syncL sc nv er = allE [(false, sc), (false, nv), (false, er)] := by
  simp [syncL, encs, syncN, allE]
theorem fixL_all (t x y z e a b c d tl : Int) : fixL t x y z e a b c d tl = allE [(false, t), (true, x), (true, y), (true, z), (false, e), (true, a), (true, b), (true, c), (true, d), (false, tl)] := by
  simp [fixL, encs, oneN, posN, quatN, allE]

theorem back_sync (t x y z e a b c d tl sc nv er : Int) (h : recE true t x y z e a b c d tl sc nv er = 0) {nav : Value} {ce : Int} (hd : DecR (encL true t x y z e a b c d tl sc nv er) nav ce) : nav = .agg #[.bool true, .int .i64 t, .int .i64 x, .int .i64 y, .int .i64 z, .int .i64 e, .int .i64 a, .int .i64 b, .int .i64 c, .int .i64 d, .int .i64 tl, .int .i64 sc, .int .i64 nv, .int .i64 er] ∧ ce = 0 := by
  have hok : okSync sc nv er := by
    apply Classical.byContradiction
    intro hn
    simp [recE, hn] at h
  have hz : fixZ t x y z e a b c d tl := by
    apply Classical.byContradiction
    intro hn
    simp [recE, hn, hok] at h
  obtain ⟨rfl, rfl, rfl, rfl, rfl, rfl, rfl, rfl, rfl, rfl⟩ := hz
  obtain ⟨g1, g2, g3⟩ := sync_ok hok
  have hps : ∀ p ∈ [(false, sc), (false, nv), (false, er)], nmOk p.1 p.2 := by
    intro p hp
    simp at hp
    rcases hp with rfl | rfl | rfl <;> assumption
  have hd' : DecR (1 :: syncL sc nv er) nav ce := hd
  rw [syncL_all] at hd'
  have v0 : rv false (rest (allE [(false, sc), (false, nv), (false, er)]) 0) = sc := all_val 0 _ hps (by simp)
  have v1 : rv false (rest (allE [(false, sc), (false, nv), (false, er)]) 1) = nv := all_val 1 _ hps (by simp)
  have v2 : rv false (rest (allE [(false, sc), (false, nv), (false, er)]) 2) = er := all_val 2 _ hps (by simp)
  have hb := all_back 3 _ hps (by simp)
  have hg : goodS (allE [(false, sc), (false, nv), (false, er)]) := ⟨hb.2, hb.1, by rw [v0, v1, v2]; exact hok⟩
  have hq := (hd'.1 rfl).1 hg
  refine ⟨hq.1.trans ?_, hq.2⟩
  unfold navS
  rw [v0, v1, v2]
theorem back_fix (t x y z e a b c d tl sc nv er : Int) (h : recE false t x y z e a b c d tl sc nv er = 0) {nav : Value} {ce : Int} (hd : DecR (encL false t x y z e a b c d tl sc nv er) nav ce) : nav = .agg #[.bool false, .int .i64 t, .int .i64 x, .int .i64 y, .int .i64 z, .int .i64 e, .int .i64 a, .int .i64 b, .int .i64 c, .int .i64 d, .int .i64 tl, .int .i64 sc, .int .i64 nv, .int .i64 er] ∧ ce = 0 := by
  have hok : okFix t x y z e a b c d tl := by
    apply Classical.byContradiction
    intro hn
    simp [recE, hn] at h
  have hz : syncZ sc nv er := by
    apply Classical.byContradiction
    intro hn
    simp [recE, hn, hok] at h
  obtain ⟨rfl, rfl, rfl⟩ := hz
  obtain ⟨g0, ⟨g1, g2, g3⟩, g4, ⟨g5, g6, g7, g8⟩, g9⟩ := fix_ok hok
  have hps : ∀ p ∈ [(false, t), (true, x), (true, y), (true, z), (false, e), (true, a), (true, b), (true, c), (true, d), (false, tl)], nmOk p.1 p.2 := by
    intro p hp
    simp at hp
    rcases hp with rfl | rfl | rfl | rfl | rfl | rfl | rfl | rfl | rfl | rfl <;> assumption
  have hd' : DecR (0 :: fixL t x y z e a b c d tl) nav ce := hd
  rw [fixL_all] at hd'
  obtain ⟨X, hX⟩ : ∃ X, X = allE [(false, t), (true, x), (true, y), (true, z), (false, e), (true, a), (true, b), (true, c), (true, d), (false, tl)] := ⟨_, rfl⟩
  rw [← hX] at hd'
  have v0 : rv false (rest X 0) = t := by rw [hX]; exact all_val 0 _ hps (by simp)
  have v1 : rv true (rest X 1) = x := by rw [hX]; exact all_val 1 _ hps (by simp)
  have v2 : rv true (rest X 2) = y := by rw [hX]; exact all_val 2 _ hps (by simp)
  have v3 : rv true (rest X 3) = z := by rw [hX]; exact all_val 3 _ hps (by simp)
  have v4 : rv false (rest X 4) = e := by rw [hX]; exact all_val 4 _ hps (by simp)
  have v5 : rv true (rest X 5) = a := by rw [hX]; exact all_val 5 _ hps (by simp)
  have v6 : rv true (rest X 6) = b := by rw [hX]; exact all_val 6 _ hps (by simp)
  have v7 : rv true (rest X 7) = c := by rw [hX]; exact all_val 7 _ hps (by simp)
  have v8 : rv true (rest X 8) = d := by rw [hX]; exact all_val 8 _ hps (by simp)
  have v9 : rv false (rest X 9) = tl := by rw [hX]; exact all_val 9 _ hps (by simp)
  have hb := all_back 10 _ hps (by simp)
  rw [← hX] at hb
  have hg : goodF X := ⟨hb.2, hb.1, by rw [v0, v1, v2, v3, v4, v5, v6, v7, v8, v9]; exact hok⟩
  have hq := (hd'.2.1 rfl).1 hg
  refine ⟨hq.1.trans ?_, hq.2⟩
  unfold navF
  rw [v0, v1, v2, v3, v4, v5, v6, v7, v8, v9]

set_option maxRecDepth 100000 in
theorem eqNav (s : Bool) (t x y z e a b c d tl sc nv er : Int) (w : World) : (Op.equalIn 10000 29 (.agg #[.bool s, .int .i64 t, .int .i64 x, .int .i64 y, .int .i64 z, .int .i64 e, .int .i64 a, .int .i64 b, .int .i64 c, .int .i64 d, .int .i64 tl, .int .i64 sc, .int .i64 nv, .int .i64 er]) (.agg #[.bool s, .int .i64 t, .int .i64 x, .int .i64 y, .int .i64 z, .int .i64 e, .int .i64 a, .int .i64 b, .int .i64 c, .int .i64 d, .int .i64 tl, .int .i64 sc, .int .i64 nv, .int .i64 er])).run Try.prog w = .ok true w := by
  rw [show (10000 : Nat) = 9999 + 1 from rfl, Op.equalIn]
  simp only [Sem.run_bind, run_underlying Try.underlying29, Result.andThen_ok]
  go_simp
end Go.Proofs.Ytfalhfgnobjfgaa
