/-
  The program's damage: a bit is flipped; nothing.
-/
import Derived.Test.YtlginmnmobkbhaaCDmg3
namespace Go.Proofs.Ytlginmnmobkbhaa
open Go.RowKit

/-- A datagram's block. -/
theorem el_blk {w : World} {base : Nat} {p : Value × List Nat} (h : El w base p) (h0 : 0 < p.2.length) : ∃ (b cp : Nat) (cur : Array Value), p.1 = .slice (some ⟨b, 0, none⟩) p.2.length cp ∧ base ≤ b ∧ w.heap[b]? = some (.cells cur 5 (0, 0)) ∧ p.2.length ≤ cp ∧ cur.size = cp ∧ cp ≤ maxLen ∧ ∀ (j x : Nat), p.2[j]? = some x → cur[j]? = some (Value.int .u8 (x : Int)) := by
  obtain ⟨⟨_, h2⟩, _, _⟩ := h
  rcases h2 with ⟨_, e⟩ | ⟨b, cp, cur, e, hb, hh, hn, hc, hs, ht⟩
  · omega
  · refine ⟨b, cp, cur, e, hb, hh, hn, by omega, hc, fun j x hx => ?_⟩
    have hj : j < p.2.length := (List.getElem?_eq_some_iff.1 hx).1
    have : (cur.toList.take (p.2.length * 1))[j]? = (bys p.2)[j]? := by rw [ht]
    rw [List.getElem?_take, if_pos (by omega), Array.getElem?_toList] at this
    rw [this]
    simp [bys, hx]

/-- A byte with one bit flipped. -/
def flB (x m : Nat) : Nat := (bits .xor .u8 (x : Int) (2 ^ (m % 8) % 256)).toNat
theorem flB_int (x m : Nat) : bits .xor .u8 (x : Int) (2 ^ (m % 8) % 256) = ((flB x m : Nat) : Int) := by
  have h := (bits_within .xor .u8 (x : Int) (2 ^ (m % 8) % 256)).1
  have e : IntKind.u8.min = 0 := by decide
  rw [e] at h
  unfold flB
  omega
theorem flB_lt (x m : Nat) : flB x m < 256 := by
  have h := (bits_within .xor .u8 (x : Int) (2 ^ (m % 8) % 256)).2
  have e : IntKind.u8.max = 255 := by decide
  rw [e, flB_int] at h
  omega

theorem el_put {w : World} {base b cp : Nat} {X : List Nat} (h : El w base (.slice (some ⟨b, 0, none⟩) X.length cp, X)) (k y : Nat) (hy : y < 256) : El (w.setCell ⟨b, k, none⟩ (.int .u8 (y : Int))) base (.slice (some ⟨b, 0, none⟩) X.length cp, X.set k y) := by
  obtain ⟨⟨h1, h2⟩, h3, h4⟩ := h
  have hl : (X.set k y).length = X.length := List.length_set
  refine ⟨⟨?_, ?_⟩, fun x hx => ?_, by show (X.set k y).length ≤ _; rw [hl]; exact h4⟩
  · show (bys (X.set k y)).length = (X.set k y).length * 1
    simp [bys]
  · rcases h2 with ⟨e, _⟩ | ⟨b', cap, cur, e, hb, hh, hn, hc, hs, ht⟩
    · exact absurd e (by simp)
    · injection e with e1 e2 e3
      injection e1 with e1
      injection e1 with e1
      subst e1
      subst e3
      refine .inr ⟨b, cp, cur.setIfInBounds k (.int .u8 (y : Int)), ?_, hb, heap_setCell_same w b k cur _ _ hh, ?_, hc, ?_, ?_⟩
      · show Value.slice _ X.length cp = .slice _ (X.set k y).length cp
        rw [hl]
      · show (X.set k y).length ≤ cp
        rw [hl]
        exact hn
      · rw [Array.size_setIfInBounds]
        exact hs
      · show (cur.setIfInBounds k (.int .u8 (y : Int))).toList.take ((X.set k y).length * 1) = bys (X.set k y)
        have ht' : cur.toList.take (X.length * 1) = bys X := ht
        rw [hl, Array.toList_setIfInBounds, List.take_set, ht']
        simp [bys, List.map_set]
  · rcases List.mem_or_eq_of_mem_set hx with hx | rfl
    · exact h3 x hx
    · exact hy

theorem chs_flip {w : World} {base g n c : Nat} {ps : List (Value × List Nat)} (h : Chs w base (.slice (some ⟨g, 0, none⟩) n c) ps) (i : Nat) (hi : i < ps.length) (b cp : Nat) (X : List Nat) (hX : X = (ps[i]'hi).2) (hf : (ps[i]'hi).1 = .slice (some ⟨b, 0, none⟩) X.length cp) (k y : Nat) (hy : y < 256) :
    Chs (w.setCell ⟨b, k, none⟩ (.int .u8 (y : Int))) base (.slice (some ⟨g, 0, none⟩) n c) (ps.set i ((ps[i]'hi).1, X.set k y)) := by
  obtain ⟨⟨g', c', cur, e, hbg, hg, hs, hn, hc, hcur⟩, hels, hap⟩ := h
  injection e with e1 e2 e3
  injection e1 with e1
  injection e1 with e1
  subst e1
  subst e2
  subst e3
  have hO : Only (fun k => k = b) w (w.setCell ⟨b, k, none⟩ (.int .u8 (y : Int))) := only_set (S := fun k => k = b) _ rfl
  have hel := hels _ (List.getElem_mem hi)
  have hown : (ps[i]'hi).1.ownBlock = some b := by rw [hf]; rfl
  have hbg2 : ¬ b = g := el_not hel hg b hown
  have hpe : ps[i]'hi = (.slice (some ⟨b, 0, none⟩) X.length cp, X) := by
    rw [← hf, hX]
  refine ⟨⟨g, c, cur, by rw [List.length_set], hbg, (hO.block g (Array.getElem?_eq_some_iff.1 hg).1 (fun e => hbg2 e.symm)).trans hg, hs, by rw [List.length_set]; exact hn, hc, fun j hj => ?_⟩, fun p hp => ?_, apart_set hap i hi _ (fun p ha b hb1 hb2 => ha b hb1 hb2)⟩
  · rw [List.length_set] at hj
    by_cases h1 : j = i
    · subst h1
      rw [List.getElem?_set_self hi, hcur j hi, List.getElem?_eq_getElem hi]
      rfl
    · rw [List.getElem?_set_ne (fun e => h1 e.symm), hcur j hj]
  · obtain ⟨j, hj, hje⟩ := List.mem_iff_getElem.1 hp
    rw [List.length_set] at hj
    by_cases h1 : j = i
    · subst h1
      rw [List.getElem_set_self] at hje
      rw [← hje, hf]
      exact el_put (by rw [← hpe]; exact hel) k y hy
    · rw [List.getElem_set_ne (fun e => h1 e.symm)] at hje
      rw [← hje]
      refine (hels _ (List.getElem_mem hj)).only hO (fun q hq hqb => ?_)
      have hpw := List.pairwise_iff_getElem.1 hap
      rcases Nat.lt_or_gt_of_ne h1 with h2 | h2
      · exact hpw j i hj hi h2 q hq (by rw [hown, hqb])
      · exact hpw i j hi hj h2 b hown (by rw [hq, hqb])

set_option maxRecDepth 100000 in
set_option maxHeartbeats 1000000 in
theorem damage_flip {w : World} {base : Nat} {v : Value} {ps : List (Value × List Nat)} (h : Chs w base v ps) (hb : base ≤ w.heap.size) (i : Nat) (hi : i < ps.length) (m x : Nat) (hx : (ps[i]'hi).2[m / 8]? = some x) :
    Calls Try.prog 67 #[v, .agg #[.int .i64 4, .int .i64 (i : Int), .int .i64 (m : Int)]] w (RetChs w base (ps.set i ((ps[i]'hi).1, (ps[i]'hi).2.set (m / 8) (flB x m)))) := by
  obtain ⟨g, c, hv⟩ := chs_form h
  subst hv
  obtain ⟨W0, hW0⟩ : ∃ W0, W0 = w.alloc (.cells #[.int .i64 4, .int .i64 (i : Int), .int .i64 (m : Int)] 106) := ⟨_, rfl⟩
  have hb0 : Below w.heap.size w W0 := by rw [hW0]; exact (Below.refl _ _).alloc (Nat.le_refl _) _
  have z0 : w.heap.size < W0.heap.size := by rw [hW0]; simp
  have hG : W0.heap[w.heap.size]? = some (.cells #[.int .i64 4, .int .i64 (i : Int), .int .i64 (m : Int)] 106 (0, 0)) := by rw [hW0]; exact heap_alloc_new w _
  have h0 := chs_below h hb0
  have hcell := chs_at h0 i hi
  have hel := h0.els _ (List.getElem_mem hi)
  have hm : m / 8 < (ps[i]'hi).2.length := (List.getElem?_eq_some_iff.1 hx).1
  obtain ⟨b, cp, cur, hform, hbb, hblk, hcap, hcs, hcm, hget⟩ := el_blk hel (by omega)
  obtain ⟨X, hX⟩ : ∃ X, X = (ps[i]'hi).2 := ⟨_, rfl⟩
  obtain ⟨k0, k1, k2, kf⟩ := fr_blk hG (Below.refl _ _)
  have hbw : ¬ b = w.heap.size := fun e => by
    have hel' := h.els _ (List.getElem_mem hi)
    have := (own_block hel'.1 (k := b) (by rw [hform]; rfl)).2.1
    omega
  rw [← hX] at hform hget hm hcap hx ⊢
  rw [hform] at hcell
  have hcellA := hcell
  rw [hW0] at hcellA
  have hxc : W0.cell? ⟨b, m / 8, none⟩ = some (.int .u8 (x : Int)) := (cell_of_row _ _ _ _ _ _ hblk).trans (hget _ _ hx)
  have hxf : ∀ j, W0.frozen? ⟨b, j, none⟩ = false := fun j => by simp [World.frozen?, hblk]
  have hXl : X.length ≤ 1048576 := by rw [hX]; exact hel.2.2
  have hgne : ¬ g = w.heap.size := fun e => by
    have := chs_lt h
    omega
  have H0 := Lib.hid (And.intro h0 (And.intro hb0 hG))
  have HL := Lib.hid hX
  have HF := Lib.hid hform
  have HW := Lib.hid hW0
  have HR := Lib.hid hel
  have HB := Lib.hid (And.intro hbb (And.intro hblk (And.intro hcap (And.intro hcs (And.intro hcm hget)))))
  have i1 : (i : Int) < (ps.length : Int) := by omega
  have i2 : (m : Int).tdiv 8 = ((m / 8 : Nat) : Int) := by rw [Int.tdiv_eq_ediv_of_nonneg (by omega)]; omega
  have i3 : (m : Int).tmod 8 = ((m % 8 : Nat) : Int) := by rw [Int.tmod_eq_emod_of_nonneg (by omega)]; omega
  have i4 : ((m / 8 : Nat) : Int) < (X.length : Int) := by omega
  have i5 : ((m : Int) / 8).toNat = m / 8 := by omega
  have i6 : ((m : Int) % 8).toNat = m % 8 := by omega
  have i7 : (0 : Int) ≤ (m : Int) / 8 := by omega
  have i8 : (0 : Int) ≤ (m : Int) % 8 := by omega
  have i9 : (m : Int) / 8 < (X.length : Int) := by omega
  clear h0 hb0 h hel hG hform hX hbb hblk hcap hcs hcm hget
  go_enter Try.func67, Try.ntmps67
  clear hW0
  go_wp2_with fail
  rw [← HW.out]
  go_region
  rw [flB_int]
  go_wp2
  go_ret
  exact ⟨_, rfl, chs_below (chs_flip H0.out.1 i hi b cp X HL.out HF.out (m / 8) (flB x m) (flB_lt x m)) (Below.refl _ _).drew,
    (H0.out.2.1.mono hb).trans (((only_set (S := fun k => k = b) (p := ⟨b, m / 8, none⟩) _ rfl).below (Nat.le_trans hb H0.out.2.1.size) (fun k e => e ▸ HB.out.1)).trans (Below.refl _ _).drew)⟩
end Go.Proofs.Ytlginmnmobkbhaa
