/-
  Missing: both; two lists of numbers that are the same.
  Missing of the document's receiver.
  The document's receiver: keep where it refuses.
  The document's receiver: a list without one of its deliveries (no program here); a delivery is added.
-/
import Derived.Test.YtkakbeiehggkiaaH08
namespace Go.Proofs.Ytkakbeiehggkiaa
open Go.RowKit Go.Maps
attribute [local go_sem ↓] Go.wp_at_zero Go.wp_at_succ

/-- A list of numbers of the call's own. -/
def NmL (w : World) (base : Nat) (v : Value) (L : List Int) : Prop := w.ownsRow base 3 1 v L.length (L.map (Value.int .i64))
theorem nml_nil (w : World) (base : Nat) : NmL w base (.slice none 0 0) [] := World.ownsRow_nil _ _ _ _
theorem nml_below {w w' : World} {base : Nat} {v : Value} {L : List Int} (h : NmL w base v L) (hb : Below w.heap.size w w') : NmL w' base v L :=
  (only_below (S := fun _ => False) hb).own h (fun _ _ h => h)
theorem nml_iw {w : World} {base : Nat} {v : Value} {L : List Int} (h : NmL w base v L) (hl : L.length ≤ 1048576) : ∃ A c, v = .slice A L.length c ∧ IW w w.heap.size v L := by
  obtain ⟨_, ⟨rfl, h0⟩ | ⟨g, cap, cur, rfl, _, hblk, hle, hcap, _, ht⟩⟩ := id h
  · have e : L = [] := List.eq_nil_of_length_eq_zero h0
    subst e
    exact ⟨none, 0, rfl, IW.nil_⟩
  · refine ⟨some ⟨g, 0, none⟩, cap, rfl, IW.mk rfl hle (by omega) (fun _ => ⟨g, 0, rfl, (Array.getElem?_eq_some_iff.1 hblk).1, fun j hj => ?_⟩)⟩
    rw [Nat.zero_add]
    refine (h.cellAt j (by omega)).trans ?_
    rw [ith_lt hj]
    simp [hj]
theorem infoI : (Try.prog.info? 3).map (fun i => (i.zero, i.size, i.bytes)) = some (some (.int .i64 0), 1, 8) := by kernel_rfl
set_option maxRecDepth 100000 in
theorem wpList_append_num {w : World} {ops : Array Oper} {rest : List Oper} {o : Oper} {a : Act} {Q : Exit → Act → World → Prop} (hgd : o.guard = none) (s x : Operand)
    (ho : o.op = .call { callee := .builtin .append, args := #[s, x], argTypes := #[55, 55] })
    (base : Nat) (v : Value) (L : List Int) (hs : a.eval s = v) (hv : NmL w base v L) (z : Int) (hx : a.eval x = .slice (some ⟨w.heap.size, 0, none⟩) 1 1) (hsz : L.length + 1 ≤ 1048576) (hbase : base ≤ w.heap.size)
    (h : ∀ v' w', NmL w' base v' (L ++ [z]) → Only (fun k => v.ownBlock = some k) w w' → wpList Try.prog ops Q rest (a.put o.dst v') w') : wpList Try.prog ops Q (o :: rest) a (w.alloc (.cells #[.int .i64 z] 3)) := by
  obtain ⟨i0, hi0, hz0, hz1, hz2⟩ := info_parts infoI
  have hb4 : Below w.heap.size w (w.alloc (.cells #[.int .i64 z] 3)) := (Below.refl _ _).alloc (Nat.le_refl _) _
  refine wpList_append_own_at _ hgd s x _ ho base 3 i0 _ 1 8 Try.underlying55 hi0 hz0 hz1 hz2 rfl (by decide) v L.length _ hs (nml_below hv hb4) ⟨w.heap.size, 0, none⟩ 1 1 [.int .i64 z] hx rfl (fun j u hj => ?_) (by intro u hu; simp at hu; subst hu; rfl) (by unfold maxLen; omega) (by omega) (by simp; omega) ?_
  · have hj0 : j = 0 := by
      have := (List.getElem?_eq_some_iff.1 hj).1
      simp at this
      exact this
    subst hj0
    have hu : Value.int .i64 z = u := by simpa using hj
    subst hu
    exact cell_of_row _ _ _ _ _ _ (heap_alloc_new w _)
  · intro v6 w6 ho6 hg _ _
    refine h v6 w6 ?_ ((only_below hb4).trans (only_grown hg (fun k e => e)))
    unfold NmL
    rw [List.length_append, List.map_append]
    exact ho6
theorem nml_only {w0 w w' : World} {base : Nat} {v : Value} {L : List Int} (hD : NmL w base v L) (hO : Only (fun k => v.ownBlock = some k) w w') (hb : Below base w0 w) (hs : base ≤ w.heap.size) : Below base w0 w' :=
  hb.trans (hO.below hs (fun k hk => (own_block hD hk).1))

set_option maxRecDepth 100000 in
set_option maxHeartbeats 1000000 in
theorem sameNums_any (L : List Int) (A1 A2 : Option Addr) (n c1 c2 B : Nat) (w : World) (h1 : IW w B (.slice A1 n c1) L) (h2 : IW w B (.slice A2 n c2) L) :
    Calls Try.prog 61 #[.slice A1 n c1, .slice A2 n c2] w (RetB w true) := by
  have hcap := h1.cap
  unfold maxLen at hcap
  have H := Lib.hid (And.intro h1 h2)
  clear h1 h2
  go_enter Try.func61, Try.ntmps61
  go_wp2
  go_loopw [13] (fun iv wr => ∃ k : Nat, k ≤ n ∧ iv = .int .i64 (k : Int) ∧ Below w.heap.size w wr ∧ Hid (IW wr B (.slice A1 n c1) L ∧ IW wr B (.slice A2 n c2) L)) (fun iv _ => n - (intOf1 iv).toNat)
  case atStart => exact ⟨0, Nat.zero_le _, rfl, Below.refl _ _, H⟩
  case round =>
    obtain ⟨k, hk, rfl, hb, HR⟩ := hrel
    have HB := Lib.hid hb
    clear hb
    by_cases hlt : k < n
    · obtain ⟨b1, o1, rfl, hb1, hc1⟩ := HR.out.1.at_ (by omega)
      obtain ⟨b2, o2, rfl, hb2, hc2⟩ := HR.out.2.at_ (by omega)
      have d1 := hc1 k hlt
      have d2 := hc2 k hlt
      obtain ⟨x, hx⟩ : ∃ x, ith L k = x := ⟨_, rfl⟩
      rw [hx] at d1 d2
      have i1 : (0 : Int) ≤ (k : Int) := by omega
      have i2 : (k : Int) < (n : Int) := by omega
      have ex : (x != x) = false := by simp
      clear hc1 hc2 hx
      go_wp2
      go_region
      go_wp2
      go_roundw
      case rel => exact ⟨k + 1, by omega, by go_num, HB.out.drew, Lib.hid ⟨HR.out.1, HR.out.2⟩⟩
      case measure => simp [intOf1]; omega
    · obtain rfl : k = n := by omega
      go_wp2
      go_ret
      exact ⟨rfl, HB.out⟩

def RetMs (w : World) (Ds : List Dl) (F : Hf) (nx : Int) (e : Ending) (w' : World) : Prop :=
  ∃ v J, e = .returned v ∧ Ends Ds nx J ∧ (J : Int) ≤ 64 ∧ NmL w' w.heap.size v (msF F nx J) ∧ Below w.heap.size w w'
def MsR (w : World) (Ds : List Dl) (F : Hf) (nx win : Int) (lv nv sv : Value) (wr : World) : Prop :=
  ∃ j : Nat, sv = .int .i64 (nx + (j : Int)) ∧ nv = .int .i64 ((from_ Ds (nx + j) : Nat) : Int) ∧ (j : Int) ≤ win ∧ (j = 0 ∨ 0 < from_ Ds (nx + j - 1)) ∧ Hid (NmL wr w.heap.size lv (msF F nx j)) ∧ Below w.heap.size w wr

set_option maxRecDepth 100000 in
set_option maxHeartbeats 2000000 in
theorem missing_any (g mb : Nat) (st win nx : Int) (F : Hf) (Ds : List Dl) (w : World) (h : Rcv w g mb Ds.length st win nx F) (hD : DsF Ds F) (hF : InW F nx win) (hnx : 0 ≤ nx ∧ nx ≤ 4294967296) (hw : 1 ≤ win ∧ win ≤ 64) (hl : Ds.length ≤ 1024) :
    Calls Try.prog 62 #[.pointer (some ⟨g, 0, none⟩)] w (RetMs w Ds F nx) := by
  obtain ⟨c0, c1, c2, c3, cf⟩ := rcv_cells h
  have HNL := Lib.hid (none_live g win w c1 (by omega))
  have hin : ∀ d ∈ Ds, nx ≤ d.1 ∧ d.1 < nx + win := fun d hd => hF _ _ (hD.get d hd)
  have HH := Lib.hid (And.intro h (And.intro hD (And.intro hF hin)))
  have H0 := Lib.hid (show MsR w Ds F nx win (.slice none 0 0) (.int .i64 (Ds.length : Int)) (.int .i64 nx) w from ⟨0, by simp, by rw [from_all (fun d hd => by have := (hin d hd).1; omega)], by omega, .inl rfl, nml_nil _ _, Below.refl _ _⟩)
  have hlen := fun ty => (h.2.choose_spec.1).len uM ty
  clear h hD hF hin cf
  go_enter Try.func62, Try.ntmps62
  go_wp2_with fail
  refine HNL.out.mono ?_
  rintro e w1 ⟨rfl, rfl⟩
  go_wp2
  go_loopw [3, 4, 5] (fun lv nv sv wr => MsR w Ds F nx win lv nv sv wr) (fun _ _ sv _ => (nx + win + 1 - intOf1 sv).toNat)
  case atStart => exact H0.out
  case round =>
    obtain ⟨j, rfl, rfl, hjw, hpos, HL, hb⟩ := hrel
    have hR := rcv_below HH.out.1 hb
    obtain ⟨d0, d1, d2, d3, df⟩ := rcv_cells hR
    obtain ⟨fr, hfr⟩ : ∃ fr, fr = from_ Ds (nx + j) := ⟨_, rfl⟩
    rw [← hfr]
    have HFR := Lib.hid hfr
    have HB := Lib.hid hb
    have hfl : fr ≤ 1024 := by
      rw [hfr]
      unfold from_
      exact Nat.le_trans (List.length_filter_le _ _) hl
    clear df
    by_cases hz : fr = 0
    · have i1 : ¬ (0 : Int) < (fr : Int) := by omega
      have HE := Lib.hid (show Ends Ds nx j from by
        refine ⟨from_zero.1 (by rw [← hfr]; exact hz), ?_⟩
        rcases hpos with h0 | h0
        · exact .inl h0
        · refine .inr ?_
          have hs := from_step Ds (nx + j - 1) HH.out.2.1.once
          rw [show nx + (j : Int) - 1 + 1 = nx + j by omega, ← hfr, hz] at hs
          by_cases he : ∃ d ∈ Ds, d.1 = nx + j - 1
          · obtain ⟨d, hd, he⟩ := he
            exact ⟨d, hd, by omega⟩
          · rw [if_neg he] at hs
            omega)
      clear hb hR hfr hpos
      go_wp2
      go_ret
      exact ⟨_, j, rfl, HE.out, by omega, HL.out, HB.out⟩
    · have i1 : (0 : Int) < (fr : Int) := by omega
      have hjw2 : (j : Int) < win := by
        by_cases hc : ∃ d ∈ Ds, nx + (j : Int) ≤ d.1
        · obtain ⟨d, hd, hc⟩ := hc
          have := (HH.out.2.2.2 d hd).2
          omega
        · have : from_ Ds (nx + j) = 0 := from_zero.2 (fun d hd => by
            by_cases hx : nx + (j : Int) ≤ d.1
            · exact absurd ⟨d, hd, hx⟩ hc
            · omega)
          omega
      obtain ⟨x, hx⟩ : ∃ x, x = nx + (j : Int) := ⟨_, rfl⟩
      have hstep := from_step Ds x HH.out.2.1.once
      have hiff := held_iff HH.out.2.1 x
      rw [← hx]
      obtain ⟨hR1, f, hM, hH⟩ := hR
      have hwx : (Lit.int .i64 x).wf = true := wfI (by omega) (by omega)
      have hrun := hM.look uI uM (zeroD wr) hwx
      have hfx : fr = from_ Ds x := by rw [hx]; exact hfr
      have HX := Lib.hid (And.intro hx hfx)
      have hs0 := hb.size
      have hx1 : 0 ≤ x := by omega
      have hx2 : x ≤ 4294967360 := by omega
      cases hFx : F x with
      | none =>
        have e1 : f x = none := hH.none_ hFx
        rw [e1] at hrun
        simp only [Option.getD_none, Option.isSome_none] at hrun
        have hne : ¬ ∃ d ∈ Ds, d.1 = x := fun he => (hiff.1 he) hFx
        rw [if_neg hne] at hstep
        have HS := Lib.hid (show fr = from_ Ds (x + 1) from by omega)
        have HE5 := Lib.hid (show msF F nx (j + 1) = msF F nx j ++ [x] from by
          simp only [msF]
          rw [← hx, if_pos hFx])
        have hms := msF_len F nx j
        have hw2 : Below wr.heap.size wr (wr.alloc (.cells #[.int .i64 0, .slice none 0 0, .bool false] 85)) := (Below.refl _ _).alloc (Nat.le_refl _) _
        have HL2 := Lib.hid (nml_below HL.out hw2)
        have HB2 := Lib.hid (belW HB.out hw2)
        have hs2 : w.heap.size ≤ (wr.alloc (.cells #[.int .i64 0, .slice none 0 0, .bool false] 85)).heap.size := Nat.le_trans hs0 hw2.size
        have HJ1 := Lib.hid (show nx + ((j + 1 : Nat) : Int) = x + 1 from by push_cast; omega)
        clear hstep hiff hne hFx hfr hfx hb hR1 hM hH hpos hx hw2 e1
        go_wp2_with (at_builtin
                     go_must (refine wpList_append_num rfl (.tmp 35) (.tmp 37) rfl w.heap.size _ _ rfl HL2.out x (by simp [Act.eval]) (by omega) hs2 ?_))
        intro v6 w6 hL6 hO6
        rw [← HE5.out] at hL6
        have HL6 := Lib.hid hL6
        have HB6 := Lib.hid (nml_only HL2.out hO6 HB2.out hs2)
        clear hL6 hO6
        go_wp2
        go_roundw
        case rel => exact ⟨j + 1, by rw [HJ1.out], by rw [HJ1.out, ← HS.out], by omega, .inr (by rw [show nx + ((j + 1 : Nat) : Int) - 1 = x by have := HX.out.1; omega, ← HX.out.2]; omega), HL6, HB6.out⟩
        case measure => have := HX.out.1; simp [intOf1]; omega
      | some y =>
        obtain ⟨X, l⟩ := y
        obtain ⟨v, e1, hv⟩ := hH.some_ hFx
        obtain ⟨A', c', e⟩ := (bd_rb hv).form
        subst e
        rw [e1] at hrun
        simp only [Option.getD_some, Option.isSome_some] at hrun
        have hye : ∃ d ∈ Ds, d.1 = x := hiff.2 (by rw [hFx]; simp)
        rw [if_pos hye] at hstep
        have HS := Lib.hid (show fr = from_ Ds (x + 1) + 1 from by omega)
        have HL6 := Lib.hid (show NmL (wr.alloc (.cells #[.int .i64 x, .slice A' X.length c', .bool l] 85)) w.heap.size u3 (msF F nx (j + 1)) from by
          have e5 : msF F nx (j + 1) = msF F nx j := by
            simp only [msF]
            rw [← hx, if_neg (by rw [hFx]; simp)]
            simp
          rw [e5]
          exact nml_below HL.out ((Below.refl _ _).alloc (Nat.le_refl _) _))
        have HB6 := Lib.hid (hb.alloc hs0 (.cells #[.int .i64 x, .slice A' X.length c', .bool l] 85))
        have HJ1 := Lib.hid (show nx + ((j + 1 : Nat) : Int) = x + 1 from by push_cast; omega)
        clear hstep hiff hye hFx hfr hfx hb hR1 hM hH hpos hx e1 hv
        go_wp2
        go_roundw
        case rel => exact ⟨j + 1, by rw [HJ1.out], by rw [HJ1.out]; have := HS.out; congr 1; omega, by omega, .inr (by rw [show nx + ((j + 1 : Nat) : Int) - 1 = x by have := HX.out.1; omega, ← HX.out.2]; omega), HL6, HB6.out⟩
        case measure => have := HX.out.1; simp [intOf1]; omega
end Go.Proofs.Ytkakbeiehggkiaa

namespace Go.Proofs.Ytkakbeiehggkiaa
open Go.RowKit Go.Maps
attribute [local go_sem ↓] Go.wp_at_zero Go.wp_at_succ

def TopR (w : World) (n : Nat) (Ds : List Dl) (lv iv : Value) (wr : World) : Prop :=
  ∃ k : Nat, iv = .int .i64 (k : Int) ∧ k ≤ n ∧ lv = .int .i64 (topD Ds k) ∧ wr = w
def MrR (w : World) (Ds : List Dl) (F : Hf) (nx : Int) (J : Nat) (lv sv : Value) (wr : World) : Prop :=
  ∃ j : Nat, sv = .int .i64 (nx + (j : Int)) ∧ j ≤ J ∧ Hid (NmL wr w.heap.size lv (msF F nx j)) ∧ Below w.heap.size w wr

set_option maxRecDepth 100000 in
set_option maxHeartbeats 2000000 in
theorem rmissing_any (g base : Nat) (st win nx : Int) (F : Hf) (Ds : List Dl) (w : World) (h : Rrc w g base st win nx Ds) (hD : DsF Ds F) (hF : InW F nx win) (hnx : 0 ≤ nx ∧ nx ≤ 4294967296) (hw : 1 ≤ win ∧ win ≤ 64) (hl : Ds.length ≤ 1024) :
    Calls Try.prog 63 #[.pointer (some ⟨g, 0, none⟩)] w (RetMs w Ds F nx) := by
  obtain ⟨A, c, c0, c1, c2, c3, hcap, cf, hgl, hel⟩ := rrc_cells h
  have hin : ∀ d ∈ Ds, nx ≤ d.1 ∧ d.1 < nx + win := fun d hd => hF _ _ (hD.get d hd)
  have HH := Lib.hid (And.intro h (And.intro hD (And.intro hF hin)))
  have HE := Lib.hid hel
  obtain ⟨n, hn⟩ : ∃ n, n = Ds.length := ⟨_, rfl⟩
  rw [← hn] at c3 hcap hl
  have HN := Lib.hid hn
  have H0 := Lib.hid (show TopR w n Ds (.int .i64 (-1)) (.int .i64 0) w from ⟨0, rfl, Nat.zero_le _, rfl, rfl⟩)
  obtain ⟨J, hJ⟩ : ∃ J, J = (topD Ds Ds.length + 1 - nx).toNat := ⟨_, rfl⟩
  have HEN := Lib.hid (show Ends Ds nx J from by rw [hJ]; exact top_ends hnx.1 (fun d hd => (hin d hd).1))
  have hJw : (J : Int) ≤ win := by
    rcases HEN.out.2 with h0 | ⟨d, hd, h0⟩
    · omega
    · have := (hin d hd).2
      omega
  have HJ := Lib.hid hJ
  clear h hel cf hn hD hF hin hJ
  go_enter Try.func63, Try.ntmps63
  go_wp2
  go_loopw [3, 12] (fun lv iv wr => TopR w n Ds lv iv wr) (fun _ iv _ => n - (intOf1 iv).toNat)
  case atStart => exact H0.out
  case round =>
    obtain ⟨k, rfl, hk, rfl, rfl⟩ := hrel
    by_cases hkn : k < n
    · obtain ⟨gb, A', n', c', rfl, hgb, p0, p1, p2, pr⟩ := HE.out k (by rw [← HN.out]; exact hkn)
      have i1 : (0 : Int) ≤ (k : Int) := by omega
      have i2 : (k : Int) < (n : Int) := by omega
      obtain ⟨x, hx⟩ : ∃ x, x = (Ds[k]'(by rw [← HN.out]; exact hkn)).1 := ⟨_, rfl⟩
      rw [← hx] at p0
      have HT := Lib.hid (show topD Ds (k + 1) = max (topD Ds k) x from by
        have hkl : k < Ds.length := by rw [← HN.out]; exact hkn
        simp [topD, List.getD, hkl, hx])
      obtain ⟨tp, htp⟩ : ∃ tp, tp = topD Ds k := ⟨_, rfl⟩
      rw [← htp]
      have HTP := Lib.hid htp
      clear p1 p2 pr hx htp
      go_wp2
      go_roundw
      case rel => exact ⟨k + 1, by go_num, by omega, by
        rw [HT.out, ← HTP.out]
        congr 1
        split <;> omega, rfl⟩
      case measure => simp [intOf1]; omega
    · obtain rfl : k = n := by omega
      have HTE := Lib.hid (show topD Ds k = topD Ds Ds.length from by rw [HN.out])
      have H1 := Lib.hid (show MrR wr Ds F nx J (.slice none 0 0) (.int .i64 nx) wr from ⟨0, by simp, Nat.zero_le _, nml_nil _ _, Below.refl _ _⟩)
      rw [HTE.out]
      obtain ⟨tp, htp⟩ : ∃ tp, tp = topD Ds Ds.length := ⟨_, rfl⟩
      rw [← htp]
      have HTP := Lib.hid (show J = (tp + 1 - nx).toNat from by rw [htp]; exact HJ.out)
      clear htp
      go_wp2
      go_loopw [5, 6] (fun lv sv wv => MrR wr Ds F nx J lv sv wv) (fun _ sv _ => (nx + win + 1 - intOf1 sv).toNat)
      case atStart => exact H1.out
      case round =>
        obtain ⟨j, rfl, hj, HL, hb⟩ := hrel
        have HTQ := HTP.out
        obtain ⟨x, hx⟩ : ∃ x, x = nx + (j : Int) := ⟨_, rfl⟩
        rw [← hx]
        have HX := Lib.hid hx
        have HB := Lib.hid hb
        have hs0 := hb.size
        have hx1 : 0 ≤ x := by omega
        have hx2 : x ≤ 4294967360 := by omega
        by_cases hlt : x ≤ tp
        · have hjJ : j < J := by omega
          have HJ1 := Lib.hid (show nx + ((j + 1 : Nat) : Int) = x + 1 from by push_cast; omega)
          have HR := Lib.hid (has_any g base st win nx x Ds _ (rrc_below HH.out.1 hb) (by have := HN.out; omega))
          have hms := msF_len F nx j
          have hiff := held_iff HH.out.2.1 x
          clear hb hx HTQ
          go_wp2_with fail
          refine HR.out.mono ?_
          rintro e w3 ⟨rfl, ⟨rfl, hno⟩ | ⟨i, hi, rfl, hyes, _⟩⟩
          · have hFx : F x = none := by
              by_cases e : F x = none
              · exact e
              · obtain ⟨d, hd, e2⟩ := hiff.2 e
                obtain ⟨q, hq, rfl⟩ := List.mem_iff_getElem.1 hd
                exact absurd e2 (hno q hq)
            have HE5 := Lib.hid (show msF F nx (j + 1) = msF F nx j ++ [x] from by
              simp only [msF]
              rw [← HX.out, if_pos hFx])
            clear hno hFx hiff
            go_wp2_with (at_builtin
                         go_must (refine wpList_append_num rfl (.tmp 39) (.tmp 41) rfl wr.heap.size _ _ rfl HL.out x (by simp [Act.eval]) (by omega) hs0 ?_))
            intro v6 w6 hL6 hO6
            rw [← HE5.out] at hL6
            have HL6 := Lib.hid hL6
            have HB6 := Lib.hid (nml_only HL.out hO6 HB.out hs0)
            clear hL6 hO6
            go_wp2
            go_roundw
            case rel => exact ⟨j + 1, by rw [HJ1.out], by omega, HL6, HB6.out⟩
            case measure => have := HX.out; simp [intOf1]; omega
          · have hFx : F x ≠ none := hiff.1 ⟨_, List.getElem_mem hi, hyes⟩
            have HL6 := Lib.hid (show NmL w3 wr.heap.size u5 (msF F nx (j + 1)) from by
              have e5 : msF F nx (j + 1) = msF F nx j := by
                simp only [msF]
                rw [← HX.out, if_neg hFx]
                simp
              rw [e5]
              exact HL.out)
            have i3 : ¬ (i : Int) < 0 := by omega
            clear hFx hiff hyes
            go_wp2
            go_roundw
            case rel => exact ⟨j + 1, by rw [HJ1.out], by omega, HL6, HB.out⟩
            case measure => have := HX.out; simp [intOf1]; omega
        · obtain rfl : j = J := by omega
          have hj64 : (j : Int) ≤ 64 := by omega
          clear hb hx HTQ
          go_wp2
          go_ret
          exact ⟨_, j, rfl, HEN.out, hj64, HL.out, HB.out⟩
end Go.Proofs.Ytkakbeiehggkiaa

namespace Go.Proofs.Ytkakbeiehggkiaa
open Go.RowKit Go.Maps
attribute [local go_sem ↓] Go.wp_at_zero Go.wp_at_succ

set_option maxRecDepth 100000 in
set_option maxHeartbeats 1000000 in
theorem keep_err (g base : Nat) (st win nx sq : Int) (F : Hf) (Ds : List Dl) (l : Bool) (A : Option Addr) (n c : Nat) (w : World) (h : Rrc w g base st win nx Ds) (hD : DsF Ds F) (hl : Ds.length ≤ 1024) (hnx : 0 ≤ nx ∧ nx ≤ 4294967296) (hw : 1 ≤ win ∧ win ≤ 64)
    (hsq : 0 ≤ sq ∧ sq ≤ 4294967295) (ce : Int) (hce : holdE win nx F sq = ce) (h0 : ce ≠ 0) :
    Calls Try.prog 58 #[.pointer (some ⟨g, 0, none⟩), .agg #[.int .i64 sq, .slice A n c, .bool l]] w (RetErr w ce) := by
  obtain ⟨W0, HW0, hw0, HG, z0⟩ := D0ex w sq (.slice A n c) l
  have hR0 := rrc_below h hw0
  obtain ⟨RA, rc, c0, c1, c2, c3, hcap, cf, hgl, hel⟩ := rrc_cells hR0
  obtain ⟨k0, k1, k2, kf⟩ := fr_blk HG.out (Below.refl _ _)
  have HH := Lib.hid (And.intro hR0 (And.intro hD hw0))
  have hiff := held_iff hD sq
  clear h hel cf kf hD hR0
  unfold holdE at hce
  by_cases h1 : sq < nx
  · rw [if_pos h1] at hce
    subst hce
    have d1 : decide (sq < nx) = true := by simpa using h1
    clear h0 hiff
    go_enter Try.func58, Try.ntmps58
    go_wp2_with fail
    rw [← HW0.out]
    go_region
    go_wp2
    go_ret2
    exact ⟨rfl, HH.out.2.2.drew⟩
  · rw [if_neg h1] at hce
    have d1 : decide (sq < nx) = false := by simpa using h1
    have HR := Lib.hid (has_any g base st win nx sq Ds W0.drew (rrc_below HH.out.1 (Below.refl _ _).drew) (by omega))
    by_cases h2 : F sq ≠ none
    · rw [if_pos h2] at hce
      subst hce
      have hex := hiff.2 h2
      clear h0 hiff h2
      go_enter Try.func58, Try.ntmps58
      go_wp2_with fail
      rw [← HW0.out]
      go_region
      go_wp2_with fail
      refine HR.out.mono ?_
      rintro e w3 ⟨rfl, ⟨rfl, hno⟩ | ⟨i, hi, rfl, hyes, _⟩⟩
      · obtain ⟨d, hd, e2⟩ := hex
        obtain ⟨q, hq, rfl⟩ := List.mem_iff_getElem.1 hd
        exact absurd e2 (hno q hq)
      · have i1 : (0 : Int) ≤ (i : Int) := by omega
        clear hyes hex
        go_wp2
        go_ret2
        exact ⟨rfl, HH.out.2.2.drew⟩
    · rw [if_neg h2] at hce
      by_cases h3 : nx + win ≤ sq
      · rw [if_pos h3] at hce
        subst hce
        have hex : ¬ ∃ d ∈ Ds, d.1 = sq := fun he => h2 (hiff.1 he)
        have d3 : decide (win ≤ sq - nx) = true := by simp; omega
        clear h0 hiff h2
        go_enter Try.func58, Try.ntmps58
        go_wp2_with fail
        rw [← HW0.out]
        go_region
        go_wp2_with fail
        refine HR.out.mono ?_
        rintro e w3 ⟨rfl, ⟨rfl, hno⟩ | ⟨i, hi, rfl, hyes, _⟩⟩
        · clear hno hex
          go_wp2_with fail
          go_region
          go_wp2
          go_ret2
          exact ⟨rfl, HH.out.2.2.drew.drew⟩
        · exact absurd ⟨_, List.getElem_mem hi, hyes⟩ hex
      · rw [if_neg h3] at hce
        exact absurd hce.symm h0
end Go.Proofs.Ytkakbeiehggkiaa

namespace Go.Proofs.Ytkakbeiehggkiaa
open Go.RowKit Go.Maps

/-- The first k of Ds without number i. -/
def lfD (Ds : List Dl) (i : Nat) : Nat → List Dl
  | 0 => []
  | k + 1 => lfD Ds i k ++ (if k = i then [] else [Ds.getD k (0, [], false)])
theorem getD_dl {Ds : List Dl} {k : Nat} (h : k < Ds.length) : Ds.getD k (0, [], false) = Ds[k] := by simp [List.getD, h]
theorem lfD_mem (Ds : List Dl) (i : Nat) : ∀ k, k ≤ Ds.length → ∀ d ∈ lfD Ds i k, ∃ (j : Nat) (hj : j < Ds.length), j < k ∧ j ≠ i ∧ d = Ds[j]
  | 0, _, d, hd => by simp [lfD] at hd
  | k + 1, h, d, hd => by
    have hk : k < Ds.length := by omega
    simp only [lfD, List.mem_append] at hd
    rcases hd with hd | hd
    · obtain ⟨j, hj, h1, h2, h3⟩ := lfD_mem Ds i k (by omega) d hd
      exact ⟨j, hj, by omega, h2, h3⟩
    · by_cases e : k = i
      · rw [if_pos e] at hd; simp at hd
      · rw [if_neg e, getD_dl hk] at hd
        simp at hd
        exact ⟨k, hk, by omega, e, hd⟩
theorem lfD_has (Ds : List Dl) (i : Nat) : ∀ k, k ≤ Ds.length → ∀ (j : Nat) (hj : j < Ds.length), j < k → j ≠ i → Ds[j] ∈ lfD Ds i k
  | 0, _, j, hj, h, _ => by omega
  | k + 1, h, j, hj, h1, h2 => by
    simp only [lfD, List.mem_append]
    by_cases e : j = k
    · subst e
      right
      rw [if_neg h2, getD_dl hj]
      simp
    · exact .inl (lfD_has Ds i k (by omega) j hj (by omega) h2)
theorem lfD_once {Ds : List Dl} (hp : Ds.Pairwise (fun a b => a.1 ≠ b.1)) (i : Nat) : ∀ k, k ≤ Ds.length → (lfD Ds i k).Pairwise (fun a b => a.1 ≠ b.1)
  | 0, _ => by simp [lfD]
  | k + 1, h => by
    have hk : k < Ds.length := by omega
    simp only [lfD]
    rw [List.pairwise_append]
    refine ⟨lfD_once hp i k (by omega), by split <;> simp, fun a ha b hb => ?_⟩
    by_cases e : k = i
    · rw [if_pos e] at hb; simp at hb
    · rw [if_neg e, getD_dl hk] at hb
      simp at hb
      subst hb
      obtain ⟨j, hj, h1, _, rfl⟩ := lfD_mem Ds i k (by omega) a ha
      exact List.pairwise_iff_getElem.1 hp j k hj hk h1
theorem lfD_len (Ds : List Dl) (i : Nat) : ∀ k, (lfD Ds i k).length + (if i < k then 1 else 0) = k
  | 0 => by simp [lfD]
  | k + 1 => by
    have := lfD_len Ds i k
    simp only [lfD, List.length_append]
    by_cases e : k = i
    · subst e
      simp at this ⊢
      exact this
    · rw [if_neg e]
      simp only [List.length_singleton]
      split at this <;> split <;> omega
/-- Without number i the list holds what is held but that one. -/
theorem dsF_left {Ds : List Dl} {F : Hf} (h : DsF Ds F) {i : Nat} (hi : i < Ds.length) {x : Int} (hx : (Ds[i]'hi).1 = x) : DsF (lfD Ds i Ds.length) (fun k => if k = x then none else F k) := by
  have hne : ∀ (j : Nat) (hj : j < Ds.length), j ≠ i → (Ds[j]'hj).1 ≠ x := fun j hj e => by
    rw [← hx]
    rcases Nat.lt_or_gt_of_ne e with h1 | h1
    · exact List.pairwise_iff_getElem.1 h.once j i hj hi h1
    · exact (List.pairwise_iff_getElem.1 h.once i j hi hj h1).symm
  refine ⟨fun d hd => ?_, fun k y hk => ?_, lfD_once h.once i _ (Nat.le_refl _)⟩
  · obtain ⟨j, hj, _, h2, rfl⟩ := lfD_mem Ds i _ (Nat.le_refl _) d hd
    show (if _ then none else F _) = _
    rw [if_neg (hne j hj h2)]
    exact h.get _ (List.getElem_mem hj)
  · by_cases e : k = x
    · simp [e] at hk
    · simp only [if_neg e] at hk
      obtain ⟨d, hd, rfl⟩ := h.all k y hk
      obtain ⟨j, hj, rfl⟩ := List.mem_iff_getElem.1 hd
      have hji : j ≠ i := fun e2 => by subst e2; exact e hx
      exact ⟨_, lfD_has Ds i _ (Nat.le_refl _) j hj hj hji, rfl⟩
/-- With one more. -/
theorem dsF_put {Ds : List Dl} {F : Hf} (h : DsF Ds F) {sq : Int} {X : List Nat} {l : Bool} (hn : F sq = none) : DsF (Ds ++ [(sq, X, l)]) (putH F sq X l) := by
  have hne : ∀ d ∈ Ds, d.1 ≠ sq := fun d hd e => by
    have := h.get d hd
    rw [e, hn] at this
    cases this
  refine ⟨fun d hd => ?_, fun k y hk => ?_, ?_⟩
  · rcases List.mem_append.1 hd with hd | hd
    · show (if _ then _ else F _) = _
      rw [if_neg (hne d hd)]
      exact h.get d hd
    · simp at hd
      subst hd
      show (if _ then _ else F _) = _
      rw [if_pos rfl]
  · by_cases e : k = sq
    · subst e
      exact ⟨(k, X, l), by simp, rfl⟩
    · have hk' : F k = some y := by
        have : (if k = sq then some (X, l) else F k) = some y := hk
        rwa [if_neg e] at this
      obtain ⟨d, hd, e2⟩ := h.all k y hk'
      exact ⟨d, by simp [hd], e2⟩
  · rw [List.pairwise_append]
    refine ⟨h.once, by simp, fun a ha b hb => ?_⟩
    simp at hb
    subst hb
    exact hne a ha
end Go.Proofs.Ytkakbeiehggkiaa
