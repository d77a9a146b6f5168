/-
  For any datagrams and faults the law LinkCarries returns true and leaves its arguments as they were: no condition.
-/
import Derived.Test.YtlginmnmobkbhaaZAwake
import Derived.Test.YtlginmnmobkbhaaCDoc9
import Derived.Test.YtlginmnmobkbhaaZLong
import Derived.Test.YtlginmnmobkbhaaZOpenW
import Derived.Test.YtlginmnmobkbhaaZStrEq
import Derived.Lib.SmallJoins
namespace Go.Proofs.Ytlginmnmobkbhaa.linkCarries
open Go.Proofs.Ytlginmnmobkbhaa
open Go.ChangeShapes Go.WideShapes Go.ChangeAt Go.RowKit Go.Joins Go.Maps
set_option linter.unusedVariables false
attribute [local go_sem ↓] Go.wp_at_zero Go.wp_at_succ

theorem belS {w W w1 : World} (h0 : Below w.heap.size w W) (h : Below W.heap.size W w1) : Below w.heap.size w w1 := h0.trans (h.mono h0.size)

theorem cellsFt : Try.prog.cellsOf 106 = 3 := by kernel_rfl
/-- Fault i of a list at A. -/
def FtIn (w : World) (A : Option Addr) (i : Nat) : Prop :=
  ∃ f : Ft, ∃ b o, A = some ⟨b, o, none⟩ ∧ b < w.heap.size ∧ w.cell? ⟨b, o + i * 3, none⟩ = some (.int .i64 f.1) ∧ w.cell? ⟨b, o + i * 3 + 1, none⟩ = some (.int .i64 f.2.1) ∧ w.cell? ⟨b, o + i * 3 + 2, none⟩ = some (.int .i64 f.2.2) ∧ f.2.2 ≤ 9223372036854775807

set_option maxRecDepth 100000 in
theorem open_faults {H : Type} {enc : TypeId × Value → H} {W : World} {b : Nat} {v : Value} {d : DataW H} {ps : List MemPlace}
    (hok : Value.okWide Try.prog W .any b 75 v) (h : DataW.Trod enc Try.prog W 0 (fun _ => true) true 75 v d ps) :
    ∃ A n c, v = .slice A n c ∧ ∀ i, i < n → FtIn W A i := by
  obtain ⟨a0, n, c, rfl⟩ := WideShapes.okWide_slice Try.underlying75 hok
  obtain ⟨fuel, hf0⟩ := h
  have hf : DataW.trod enc Try.prog W 0 (fun _ => true) true fuel 75 [.slice a0 n c] = some (d, ps) := by simpa [Value.cells] using hf0
  refine ⟨a0, n, c, rfl, ?_⟩
  rcases Go.Deep.open_slice Try.underlying75 hf with ⟨hcs, _⟩ | ⟨a, len, cap, m, k, D, Pl, hcs, hb, hl, hm, hmm, hx, hel⟩
  · simp only [List.cons.injEq, and_true] at hcs
    injection hcs with e1 e2 e3
    subst e2
    exact fun i hi => absurd hi (by omega)
  · simp only [List.cons.injEq, and_true] at hcs
    injection hcs with e1 e2 e3
    subst e1 e2 e3
    intro i hi
    have hsp : a.spot = none := by
      obtain ⟨cs0, h1, _⟩ := hel 0 (by rw [hmm]; split <;> omega)
      rw [cellsFt] at h1
      obtain ⟨_, hlen, hcell⟩ := World.cells?_some h1
      have h0 := hcell 0 (by omega)
      rw [List.getElem?_eq_getElem (by omega)] at h0
      simpa [Addr.add] using World.cell?_spot h0
    obtain ⟨cs', h1, h2⟩ := hel i (by rw [hmm]; split <;> omega)
    rw [cellsFt] at h1
    obtain ⟨_, hlen, hcell⟩ := World.cells?_some h1
    have ci : Try.prog.cellsOf 3 = 1 := by kernel_rfl
    obtain ⟨y0, y1, y2, k', hx', _, g0, g1, g2⟩ := Go.Deep.trod_struct3 Try.underlying106 h2
    match cs', hlen with
    | [u0, u1, u2], _ =>
      simp only [ci, List.drop_zero, List.drop_succ_cons, List.take_succ_cons, List.take_zero] at g0 g1 g2
      obtain ⟨kd, e0, _, _⟩ := DataW.trod_int Try.underlying3 g0
      obtain ⟨fa, e1, _, _⟩ := DataW.trod_int Try.underlying3 g1
      obtain ⟨fn, e2, _, wfn⟩ := DataW.trod_int Try.underlying3 g2
      simp at e0 e1 e2
      subst e0 e1 e2
      have p0 := hcell 0 (by omega)
      have p1 := hcell 1 (by omega)
      have p2 := hcell 2 (by omega)
      rw [Go.Deep.add_add] at p0 p1 p2
      simp only [List.getElem?_cons_zero, List.getElem?_cons_succ, Nat.add_zero] at p0 p1 p2
      obtain ⟨bb, off, spot⟩ := a
      simp only at hsp
      subst hsp
      rw [Go.WideShapes.add_plain] at p0 p1 p2
      have hbd := bounds_i64 wfn
      exact ⟨(kd, fa, fn), bb, off, rfl, World.block_lt_of_cell? _ _ p0, p0, by rw [Nat.add_assoc]; exact p1, by rw [Nat.add_assoc]; exact p2, by show fn ≤ _; omega⟩

theorem ftL_of {w : World} {A : Option Addr} {m : Nat} (h : ∀ i, i < m → FtIn w A i) : ∃ Fs, FtL w A m Fs := by
  have h1 : ∀ i, ∃ f : Ft, i < m → ∃ b o, A = some ⟨b, o, none⟩ ∧ b < w.heap.size ∧ w.cell? ⟨b, o + i * 3, none⟩ = some (.int .i64 f.1) ∧ w.cell? ⟨b, o + i * 3 + 1, none⟩ = some (.int .i64 f.2.1) ∧ w.cell? ⟨b, o + i * 3 + 2, none⟩ = some (.int .i64 f.2.2) ∧ f.2.2 ≤ 9223372036854775807 := by
    intro i
    by_cases hi : i < m
    · obtain ⟨f, hf⟩ := h i hi
      exact ⟨f, fun _ => hf⟩
    · exact ⟨(0, 0, 0), fun h => absurd h hi⟩
  obtain ⟨F, hF⟩ := Classical.skolem.1 h1
  refine ⟨(List.range m).map F, by simp, fun i hi => ?_⟩
  have him : i < m := by simpa using hi
  have e : ((List.range m).map F)[i]'hi = F i := by simp
  rw [e]
  exact hF i him
theorem ftL_below {w w' : World} {A : Option Addr} {m : Nat} {Fs : List Ft} (h : FtL w A m Fs) (hb : Below w.heap.size w w') : FtL w' A m Fs := by
  refine ⟨h.1, fun i hi => ?_⟩
  obtain ⟨b, o, e, hl, c0, c1, c2, hn⟩ := h.2 i hi
  exact ⟨b, o, e, Nat.lt_of_lt_of_le hl hb.size, (hb.cell (p := ⟨b, o + i * 3, none⟩) hl).trans c0, (hb.cell (p := ⟨b, o + i * 3 + 1, none⟩) hl).trans c1, (hb.cell (p := ⟨b, o + i * 3 + 2, none⟩) hl).trans c2, hn⟩
theorem inL_of {w : World} {A : Option Addr} {n : Nat} {X : Nat → List Nat} {V : Nat → Value} (h : ByF w A n X V) : InL w A n ((List.range n).map X) := by
  refine ⟨by simp, fun i hi => ?_⟩
  have him : i < n := by simpa using hi
  have e : ((List.range n).map X)[i]'hi = X i := by simp
  rw [e]
  obtain ⟨b, o, A', c', hA, hb, hc, hv, hB, hR⟩ := h i him
  rw [hv] at hc hR
  exact ⟨b, o, A', c', hA, hb, hc, hB, hR⟩
theorem inL_below {w w' : World} {A : Option Addr} {n : Nat} {Ls : List (List Nat)} (h : InL w A n Ls) (hb : Below w.heap.size w w') : InL w' A n Ls := by
  refine ⟨h.1, fun i hi => ?_⟩
  obtain ⟨b, o, A', c', e, hl, hc, hB, hR⟩ := h.2 i hi
  exact ⟨b, o, A', c', e, Nat.lt_of_lt_of_le hl hb.size, (hb.cell (p := ⟨b, o + i, none⟩) hl).trans hc, hB, (hR.belowM hb (Nat.le_refl _)).more hb.size⟩

/-- A list of datagrams is read as Ls. -/
def LsR (w : World) (v : Value) (K : Nat) (Ls : List (List Nat)) : Prop := Ls.length = K ∧ ∃ A c, v = .slice A K c ∧ K ≤ 1048576 ∧
    ∀ i (hi : i < Ls.length), ∃ g A' c', A = some ⟨g, 0, none⟩ ∧ g < w.heap.size ∧ w.cell? ⟨g, i, none⟩ = some (.slice A' (Ls[i]'hi).length c') ∧ RB w w.heap.size (.slice A' (Ls[i]'hi).length c') (Ls[i]'hi)
theorem lsR_chs {w : World} {base : Nat} {v : Value} {qs : List (Value × List Nat)} {Ls : List (List Nat)} (h : Chs w base v qs) (he : qs.map Prod.snd = Ls) (hl : Ls.length ≤ 1048576) : LsR w v Ls.length Ls := by
  subst he
  obtain ⟨g, c, e⟩ := chs_form h
  subst e
  refine ⟨rfl, some ⟨g, 0, none⟩, c, by rw [List.length_map], hl, fun i hi => ?_⟩
  have hi' : i < qs.length := by simpa using hi
  have hc := chs_at h i hi'
  obtain ⟨_, hrb⟩ := rb_of_owns (h.els _ (List.getElem_mem hi')).1
  obtain ⟨A', c', hf⟩ := hrb.form
  have e : (qs.map Prod.snd)[i]'hi = (qs[i]'hi').2 := by simp
  rw [e]
  rw [hf] at hc hrb
  exact ⟨g, A', c', rfl, chs_lt h, hc, hrb⟩
theorem lsR_dcs {w : World} {lb eb : Nat} {v : Value} {qs : List (Value × List Nat)} {Ls : List (List Nat)} (h : Dcs w lb eb v qs) (he : qs.map Prod.snd = Ls) (hl : Ls.length ≤ 1048576) : LsR w v Ls.length Ls := by
  subst he
  obtain ⟨A, c, e⟩ := dcs_form h
  subst e
  refine ⟨rfl, A, c, by rw [List.length_map], hl, fun i hi => ?_⟩
  have hi' : i < qs.length := by simpa using hi
  obtain ⟨g, c2, e2, hgl, hc⟩ := dcs_at h i hi'
  injection e2 with e3 _ _
  obtain ⟨_, hrb⟩ := rb_of_owns (h.els _ (List.getElem_mem hi')).1
  obtain ⟨A', c', hf⟩ := hrb.form
  have e : (qs.map Prod.snd)[i]'hi = (qs[i]'hi').2 := by simp
  rw [e]
  rw [hf] at hc hrb
  exact ⟨g, A', c', e3, hgl, hc, hrb⟩

set_option maxRecDepth 100000 in
set_option maxHeartbeats 2000000 in
theorem walk_in {w : World} {A : Option Addr} {n c : Nat} {X : Nat → List Nat} {V : Nat → Value} (h : ByF w A n X V) (hn : n ≤ 16) (hX : ∀ i, i < n → (X i).length ≤ 256) (A2 : Option Addr) (m c2 : Nat) (Fs : List Ft) (hf : FtL w A2 m Fs) (hm : m ≤ 24) :
    Calls Try.prog 7 #[.slice A n c, .slice A2 m c2] w (RetB w true) := by
  have hL := inL_of h
  obtain ⟨Ls, hLs⟩ : ∃ Ls, Ls = (List.range n).map X := ⟨_, rfl⟩
  rw [← hLs] at hL
  have hl : ∀ Y ∈ Ls, Y.length ≤ 256 := by
    intro Y hY
    rw [hLs] at hY
    obtain ⟨i, hi, rfl⟩ := List.mem_map.1 hY
    exact hX i (by simpa using hi)
  have HL := Lib.hid (long_no A n c 16 256 X V w h hn hX (by omega))
  have HC := Lib.hid (carry_any (c := c) hL hn hl A2 m c2 Fs hf hm)
  have hlen : (aps Fs Ls).length ≤ 64 := by
    have h1 := aps_len Fs Ls
    have h2 := hL.1
    have h3 := hf.1
    omega
  have HI := Lib.hid (And.intro hL (And.intro hf (And.intro (fun Y hY => Nat.le_trans (hl Y hY) (by omega) : ∀ Y ∈ Ls, Y.length ≤ 2048) hlen)))
  have i1 : ¬ (24 : Int) < (m : Int) := by omega
  clear h hX hL hLs hl hf hlen
  go_enter Try.func7, Try.ntmps7
  go_wp2_with fail
  refine HL.out.mono ?_
  rintro e w0 ⟨rfl, rfl⟩
  go_wp2_with fail
  refine HC.out.mono ?_
  rintro e w1 ⟨qs, hqs, v1, rfl, hch, hb1⟩
  have HC1 := Lib.hid (And.intro hqs (And.intro hch hb1))
  clear hqs hch hb1
  go_wp2_with fail
  refine (dcarry_any (c := c) (inL_below HI.out.1 HC1.out.2.2) (by omega) HI.out.2.2.1 A2 m c2 Fs (ftL_below HI.out.2.1 HC1.out.2.2) hm).mono ?_
  rintro e w2 ⟨ds, v2, hds, rfl, hdc, hb2⟩
  obtain ⟨Ms, hMs⟩ : ∃ Ms, Ms = aps Fs Ls := ⟨_, rfl⟩
  have hMl : Ms.length ≤ 64 := by rw [hMs]; exact HI.out.2.2.2
  have r1 := lsR_chs (Ls := Ms) (chs_below HC1.out.2.1 hb2) (by rw [hMs]; exact HC1.out.1) (by omega)
  have r2 := lsR_dcs (Ls := Ms) hdc (by rw [hMs]; exact hds) (by omega)
  obtain ⟨K, hK⟩ : ∃ K, K = Ms.length := ⟨_, rfl⟩
  rw [← hK] at r1 r2 hMl
  obtain ⟨_, A3, c3, e3, _, R1⟩ := r1
  obtain ⟨_, A4, c4, e4, _, R2⟩ := r2
  subst e3
  subst e4
  have HH := Lib.hid (And.intro R1 (And.intro R2 (And.intro hK (belS HC1.out.2.2 hb2))))
  have qn : ((K : Int) != (K : Int)) = false := by simp
  clear R1 R2 hK hdc hds hb2 hMs
  go_wp2_with fail
  go_loopw [29] (fun iv wr => ∃ k : Nat, k ≤ K ∧ iv = .int .i64 (k : Int) ∧ Below w2.heap.size w2 wr) (fun iv _ => K - (intOf1 iv).toNat)
  case atStart => exact ⟨0, Nat.zero_le _, rfl, Below.refl _ _⟩
  case round =>
    obtain ⟨k, hk, rfl, hbw⟩ := hrel
    by_cases hkn : k < K
    · have hkM : k < Ms.length := by rw [← HH.out.2.2.1]; exact hkn
      obtain ⟨g1, A1', c1', rfl, hg1, p1, r1⟩ := HH.out.1 k hkM
      obtain ⟨g2, A2', c2', rfl, hg2, q1, r2⟩ := HH.out.2.1 k hkM
      obtain ⟨Y, hY⟩ : ∃ Y, Y = Ms[k]'hkM := ⟨_, rfl⟩
      rw [← hY] at p1 r1 q1 r2
      have k1 := (hbw.cell (p := ⟨g1, k, none⟩) hg1).trans p1
      have k2 := (hbw.cell (p := ⟨g2, k, none⟩) hg2).trans q1
      have t1 := fun (wx : World) (hb : Below w2.heap.size w2 wx) => run_string_bytes (r1.belowM hb (Nat.le_refl _)).1
      have t2 := fun (wx : World) (hb : Below w2.heap.size w2 wx) => run_string_bytes (r2.belowM hb (Nat.le_refl _)).1
      obtain ⟨S, hS⟩ : ∃ S, S = strB Y := ⟨_, rfl⟩
      rw [← hS] at t1 t2
      have s1 := t1 wr.drew hbw.drew
      have s2 := t2 wr.drew hbw.drew
      have q1' : (S != S) = false := by
        have := strEqZ S
        simp [bne, this]
      have i2 : (0 : Int) ≤ (k : Int) := by omega
      have i3 : (k : Int) < (K : Int) := by omega
      have HB := Lib.hid hbw
      clear p1 q1 r1 r2 hS hY t1 t2 hbw
      go_wp2_with fail
      go_region
      go_wp2
      go_roundw
      case rel => exact ⟨k + 1, by omega, by go_num, HB.out.drew⟩
      case measure => simp [intOf1]; omega
    · obtain rfl : k = K := by omega
      have HB := Lib.hid (belS HH.out.2.2.2 hbw)
      clear hbw
      go_wp2_with fail
      refine (awake_any _).mono ?_
      rintro e w7 ⟨rfl, b7⟩
      go_wp2
      go_ret
      exact ⟨rfl, belS HB.out b7⟩

set_option maxRecDepth 100000 in
theorem walk {w : World} {A : Option Addr} {n c : Nat} (h : ∀ i, i < n → ByIn w A i) (hnm : n ≤ maxLen) (A2 : Option Addr) (m c2 : Nat) (hf : ∀ i, i < m → FtIn w A2 i) :
    Calls Try.prog 7 #[.slice A n c, .slice A2 m c2] w (RetB w true) := by
  obtain ⟨X, V, hF⟩ := byF_of h
  by_cases hlong : 16 < n ∨ ∃ i, i < n ∧ 256 < (X i).length
  · have HL := Lib.hid (long_yes A n c 16 256 X V w hF hlong (by unfold maxLen at hnm; omega))
    clear hlong
    go_enter Try.func7, Try.ntmps7
    go_wp2_with fail
    refine HL.out.mono ?_
    rintro e w0 ⟨rfl, rfl⟩
    go_wp2_with fail
    refine (awake_any _).mono ?_
    rintro e w7 ⟨rfl, b7⟩
    go_wp2
    go_ret
    exact ⟨rfl, b7⟩
  · have hn : n ≤ 16 := by
      rcases Nat.lt_or_ge 16 n with h1 | h1
      · exact absurd (.inl h1) hlong
      · exact h1
    have hX : ∀ i, i < n → (X i).length ≤ 256 := fun i hi => by
      rcases Nat.lt_or_ge 256 (X i).length with h1 | h1
      · exact absurd (.inr ⟨i, hi, h1⟩) hlong
      · exact h1
    by_cases hm : m ≤ 24
    · obtain ⟨Fs, hFs⟩ := ftL_of hf
      exact walk_in hF hn hX A2 m c2 Fs hFs hm
    · have HL := Lib.hid (long_no A n c 16 256 X V w hF hn hX (by omega))
      have i1 : (24 : Int) < (m : Int) := by omega
      clear hlong
      go_enter Try.func7, Try.ntmps7
      go_wp2_with fail
      refine HL.out.mono ?_
      rintro e w0 ⟨rfl, rfl⟩
      go_wp2_with fail
      refine (awake_any _).mono ?_
      rintro e w7 ⟨rfl, b7⟩
      go_wp2
      go_ret
      exact ⟨rfl, b7⟩

set_option maxRecDepth 100000 in
theorem lifted (os : Os) (started : os.Started) (H : Type) (enc : TypeId × Value → H) :
    ReturnsInHanded {} Try.checked os 7 .any (Rows.linkCarriesSpec.pre6 enc Try.prog Try.f7 Rows.linkCarriesRow.domain false) (Rows.linkCarriesSpec.post enc Try.prog Try.f7 false true false false) := by
  refine returnsInHanded_of_change (C := Try.checked) ownTry started (by kernel_rfl) Try.func7
    (ChangeSpec.witness6 (enc := enc) (C := Try.checked) false ⟨#[], #[.slice none 0 0, .slice none 0 0], []⟩ 8 (by kernel_rfl) (by kernel_rfl) (by kernel_rfl) (by kernel_rfl)) ?_
  intro W base args ds gs before hval0 hW hcnd _
  have hval : ∀ (j : Nat) t v, Try.f7.params[j]? = some t → args[j]? = some v → Value.okWide Try.prog W .any base t v := hval0
  have hW' := hW
  obtain ⟨p, q, hA0, hV, rfl, hfz, hnd⟩ := hW
  have hA : DataW.TrodAll enc Try.prog W 0 (fun _ => true) true Try.f7.params.toList args.toList ds p := hA0
  rw [Try.params7] at hA hval
  obtain ⟨v0, v1, d0, d1, p0, p1, rfl, rfl, rfl, h0, h1⟩ := trodAll_two hA
  obtain ⟨rfl, rfl⟩ := trodVars_none hV
  obtain ⟨A0, n0, c0, rfl, hnm, hB⟩ := open_bodies (hval 0 _ v0 rfl rfl) h0
  obtain ⟨A1, n1, c1, rfl, hF⟩ := open_faults (hval 1 _ v1 rfl rfl) h1
  clear hA0 hval0
  refine (walk hB hnm A1 n1 c1 hF).mono fun e W' ⟨he, hg⟩ => ?_
  subst he
  exact ⟨_, rfl, post_reads laidOut (by kernel_rfl) hW' rfl (fun _ _ _ => trodAll_mk1 (shut_bool Try.underlying4 _)) (fun _ => rfl) rfl hg (ok_one (by kernel_rfl) rfl (okWide_bool_mk Try.underlying4 _))⟩

theorem over : Rows.linkCarriesRow.holds Try.pinned (OpenSpec.ofChange Rows.linkCarriesSpec) :=
  OpenClaim.holds_of_wide 7 Try.f7 rfl rfl rfl rfl rfl rfl rfl ⟨rfl, rfl, rfl, rfl, rfl⟩ rfl rfl rfl rfl rfl (by kernel_rfl) Try.func7 (by kernel_rfl)
    (of_decide_eq_true (by kernel_rfl)) (by unfold Func.isWrapper; first | (rw [if_pos (by decide +kernel)]; kernel_rfl) | (rw [if_neg (by decide +kernel)]; exact ⟨rfl, rfl⟩))
    (fun os started H enc _ => lifted os started H enc)

theorem proved : Rows.LinkCarriesSaid := over
end Go.Proofs.Ytlginmnmobkbhaa.linkCarries
