/-
  Missing: both; two lists of numbers that are the same.
-/
import Derived.Test.YtifmhecjllpjpaaZMis1
import Derived.Test.YtifmhecjllpjpaaVMem
namespace Go.Proofs.Ytifmhecjllpjpaa
open Go.RowKit Go.Maps
attribute [local go_sem ↓] Go.wp_at_zero Go.wp_at_succ

/-- A list of numbers of the call's own. -/
def NmL (w : World) (base : Nat) (v : Value) (L : List Int) : Prop := w.ownsRow base 3 1 v L.length (L.map (Value.int .i64))
theorem nml_nil (w : World) (base : Nat) : NmL w base (.slice none 0 0) [] := World.ownsRow_nil _ _ _ _
theorem nml_below {w w' : World} {base : Nat} {v : Value} {L : List Int} (h : NmL w base v L) (hb : Below w.heap.size w w') : NmL w' base v L :=
  (only_below (S := fun _ => False) hb).own h (fun _ _ h => h)
theorem nml_iw {w : World} {base : Nat} {v : Value} {L : List Int} (h : NmL w base v L) (hl : L.length ≤ 1048576) : ∃ A c, v = .slice A L.length c ∧ IW w w.heap.size v L := by
  obtain ⟨_, ⟨rfl, h0⟩ | ⟨g, cap, cur, rfl, _, hblk, hle, hcap, _, ht⟩⟩ := id h
  · have e : L = [] := List.eq_nil_of_length_eq_zero h0
    subst e
    exact ⟨none, 0, rfl, IW.nil_⟩
  · refine ⟨some ⟨g, 0, none⟩, cap, rfl, IW.mk rfl hle (by omega) (fun _ => ⟨g, 0, rfl, (Array.getElem?_eq_some_iff.1 hblk).1, fun j hj => ?_⟩)⟩
    rw [Nat.zero_add]
    refine (h.cellAt j (by omega)).trans ?_
    rw [ith_lt hj]
    simp [hj]
theorem infoI : (Try.prog.info? 3).map (fun i => (i.zero, i.size, i.bytes)) = some (some (.int .i64 0), 1, 8) := by kernel_rfl
set_option maxRecDepth 100000 in
theorem wpList_append_num {w : World} {ops : Array Oper} {rest : List Oper} {o : Oper} {a : Act} {Q : Exit → Act → World → Prop} (hgd : o.guard = none) (s x : Operand)
    (ho : o.op = .call { callee := .builtin .append, args := #[s, x], argTypes := #[59, 59] })
    (base : Nat) (v : Value) (L : List Int) (hs : a.eval s = v) (hv : NmL w base v L) (z : Int) (hx : a.eval x = .slice (some ⟨w.heap.size, 0, none⟩) 1 1) (hsz : L.length + 1 ≤ 1048576) (hbase : base ≤ w.heap.size)
    (h : ∀ v' w', NmL w' base v' (L ++ [z]) → Only (fun k => v.ownBlock = some k) w w' → wpList Try.prog ops Q rest (a.put o.dst v') w') : wpList Try.prog ops Q (o :: rest) a (w.alloc (.cells #[.int .i64 z] 3)) := by
  obtain ⟨i0, hi0, hz0, hz1, hz2⟩ := info_parts infoI
  have hb4 : Below w.heap.size w (w.alloc (.cells #[.int .i64 z] 3)) := (Below.refl _ _).alloc (Nat.le_refl _) _
  refine wpList_append_own_at _ hgd s x _ ho base 3 i0 _ 1 8 Try.underlying59 hi0 hz0 hz1 hz2 rfl (by decide) v L.length _ hs (nml_below hv hb4) ⟨w.heap.size, 0, none⟩ 1 1 [.int .i64 z] hx rfl (fun j u hj => ?_) (by intro u hu; simp at hu; subst hu; rfl) (by unfold maxLen; omega) (by omega) (by simp; omega) ?_
  · have hj0 : j = 0 := by
      have := (List.getElem?_eq_some_iff.1 hj).1
      simp at this
      exact this
    subst hj0
    have hu : Value.int .i64 z = u := by simpa using hj
    subst hu
    exact cell_of_row _ _ _ _ _ _ (heap_alloc_new w _)
  · intro v6 w6 ho6 hg _ _
    refine h v6 w6 ?_ ((only_below hb4).trans (only_grown hg (fun k e => e)))
    unfold NmL
    rw [List.length_append, List.map_append]
    exact ho6
theorem nml_only {w0 w w' : World} {base : Nat} {v : Value} {L : List Int} (hD : NmL w base v L) (hO : Only (fun k => v.ownBlock = some k) w w') (hb : Below base w0 w) (hs : base ≤ w.heap.size) : Below base w0 w' :=
  hb.trans (hO.below hs (fun k hk => (own_block hD hk).1))

set_option maxRecDepth 100000 in
set_option maxHeartbeats 1000000 in
theorem sameNums_any (L : List Int) (A1 A2 : Option Addr) (n c1 c2 B : Nat) (w : World) (h1 : IW w B (.slice A1 n c1) L) (h2 : IW w B (.slice A2 n c2) L) :
    Calls Try.prog 49 #[.slice A1 n c1, .slice A2 n c2] w (RetB w true) := by
  have hcap := h1.cap
  unfold maxLen at hcap
  have H := Lib.hid (And.intro h1 h2)
  clear h1 h2
  go_enter Try.func49, Try.ntmps49
  go_wp2
  go_loopw [13] (fun iv wr => ∃ k : Nat, k ≤ n ∧ iv = .int .i64 (k : Int) ∧ Below w.heap.size w wr ∧ Hid (IW wr B (.slice A1 n c1) L ∧ IW wr B (.slice A2 n c2) L)) (fun iv _ => n - (intOf1 iv).toNat)
  case atStart => exact ⟨0, Nat.zero_le _, rfl, Below.refl _ _, H⟩
  case round =>
    obtain ⟨k, hk, rfl, hb, HR⟩ := hrel
    have HB := Lib.hid hb
    clear hb
    by_cases hlt : k < n
    · obtain ⟨b1, o1, rfl, hb1, hc1⟩ := HR.out.1.at_ (by omega)
      obtain ⟨b2, o2, rfl, hb2, hc2⟩ := HR.out.2.at_ (by omega)
      have d1 := hc1 k hlt
      have d2 := hc2 k hlt
      obtain ⟨x, hx⟩ : ∃ x, ith L k = x := ⟨_, rfl⟩
      rw [hx] at d1 d2
      have i1 : (0 : Int) ≤ (k : Int) := by omega
      have i2 : (k : Int) < (n : Int) := by omega
      have ex : (x != x) = false := by simp
      clear hc1 hc2 hx
      go_wp2
      go_region
      go_wp2
      go_roundw
      case rel => exact ⟨k + 1, by omega, by go_num, HB.out.drew, Lib.hid ⟨HR.out.1, HR.out.2⟩⟩
      case measure => simp [intOf1]; omega
    · obtain rfl : k = n := by omega
      go_wp2
      go_ret
      exact ⟨rfl, HB.out⟩

def RetMs (w : World) (Ds : List Dl) (F : Hf) (nx : Int) (e : Ending) (w' : World) : Prop :=
  ∃ v J, e = .returned v ∧ Ends Ds nx J ∧ (J : Int) ≤ 64 ∧ NmL w' w.heap.size v (msF F nx J) ∧ Below w.heap.size w w'
def MsR (w : World) (Ds : List Dl) (F : Hf) (nx win : Int) (lv nv sv : Value) (wr : World) : Prop :=
  ∃ j : Nat, sv = .int .i64 (nx + (j : Int)) ∧ nv = .int .i64 ((from_ Ds (nx + j) : Nat) : Int) ∧ (j : Int) ≤ win ∧ (j = 0 ∨ 0 < from_ Ds (nx + j - 1)) ∧ Hid (NmL wr w.heap.size lv (msF F nx j)) ∧ Below w.heap.size w wr

set_option maxRecDepth 100000 in
set_option maxHeartbeats 2000000 in
theorem missing_any (g mb : Nat) (st win nx : Int) (F : Hf) (Ds : List Dl) (w : World) (h : Rcv w g mb Ds.length st win nx F) (hD : DsF Ds F) (hF : InW F nx win) (hnx : 0 ≤ nx ∧ nx ≤ 4294967296) (hw : 1 ≤ win ∧ win ≤ 64) (hl : Ds.length ≤ 1024) :
    Calls Try.prog 50 #[.pointer (some ⟨g, 0, none⟩)] w (RetMs w Ds F nx) := by
  obtain ⟨c0, c1, c2, c3, cf⟩ := rcv_cells h
  have HNL := Lib.hid (none_live g win w c1 (by omega))
  have hin : ∀ d ∈ Ds, nx ≤ d.1 ∧ d.1 < nx + win := fun d hd => hF _ _ (hD.get d hd)
  have HH := Lib.hid (And.intro h (And.intro hD (And.intro hF hin)))
  have H0 := Lib.hid (show MsR w Ds F nx win (.slice none 0 0) (.int .i64 (Ds.length : Int)) (.int .i64 nx) w from ⟨0, by simp, by rw [from_all (fun d hd => by have := (hin d hd).1; omega)], by omega, .inl rfl, nml_nil _ _, Below.refl _ _⟩)
  have hlen := fun ty => (h.2.choose_spec.1).len uM ty
  clear h hD hF hin cf
  go_enter Try.func50, Try.ntmps50
  go_wp2_with fail
  refine HNL.out.mono ?_
  rintro e w1 ⟨rfl, rfl⟩
  go_wp2
  go_loopw [3, 4, 5] (fun lv nv sv wr => MsR w Ds F nx win lv nv sv wr) (fun _ _ sv _ => (nx + win + 1 - intOf1 sv).toNat)
  case atStart => exact H0.out
  case round =>
    obtain ⟨j, rfl, rfl, hjw, hpos, HL, hb⟩ := hrel
    have hR := rcv_below HH.out.1 hb
    obtain ⟨d0, d1, d2, d3, df⟩ := rcv_cells hR
    obtain ⟨fr, hfr⟩ : ∃ fr, fr = from_ Ds (nx + j) := ⟨_, rfl⟩
    rw [← hfr]
    have HFR := Lib.hid hfr
    have HB := Lib.hid hb
    have hfl : fr ≤ 1024 := by
      rw [hfr]
      unfold from_
      exact Nat.le_trans (List.length_filter_le _ _) hl
    clear df
    by_cases hz : fr = 0
    · have i1 : ¬ (0 : Int) < (fr : Int) := by omega
      have HE := Lib.hid (show Ends Ds nx j from by
        refine ⟨from_zero.1 (by rw [← hfr]; exact hz), ?_⟩
        rcases hpos with h0 | h0
        · exact .inl h0
        · refine .inr ?_
          have hs := from_step Ds (nx + j - 1) HH.out.2.1.once
          rw [show nx + (j : Int) - 1 + 1 = nx + j by omega, ← hfr, hz] at hs
          by_cases he : ∃ d ∈ Ds, d.1 = nx + j - 1
          · obtain ⟨d, hd, he⟩ := he
            exact ⟨d, hd, by omega⟩
          · rw [if_neg he] at hs
            omega)
      clear hb hR hfr hpos
      go_wp2
      go_ret
      exact ⟨_, j, rfl, HE.out, by omega, HL.out, HB.out⟩
    · have i1 : (0 : Int) < (fr : Int) := by omega
      have hjw2 : (j : Int) < win := by
        by_cases hc : ∃ d ∈ Ds, nx + (j : Int) ≤ d.1
        · obtain ⟨d, hd, hc⟩ := hc
          have := (HH.out.2.2.2 d hd).2
          omega
        · have : from_ Ds (nx + j) = 0 := from_zero.2 (fun d hd => by
            by_cases hx : nx + (j : Int) ≤ d.1
            · exact absurd ⟨d, hd, hx⟩ hc
            · omega)
          omega
      obtain ⟨x, hx⟩ : ∃ x, x = nx + (j : Int) := ⟨_, rfl⟩
      have hstep := from_step Ds x HH.out.2.1.once
      have hiff := held_iff HH.out.2.1 x
      rw [← hx]
      obtain ⟨hR1, f, hM, hH⟩ := hR
      have hwx : (Lit.int .i64 x).wf = true := wfI (by omega) (by omega)
      have hrun := hM.look uI uM (zeroD wr) hwx
      have hfx : fr = from_ Ds x := by rw [hx]; exact hfr
      have HX := Lib.hid (And.intro hx hfx)
      have hs0 := hb.size
      have hx1 : 0 ≤ x := by omega
      have hx2 : x ≤ 4294967360 := by omega
      cases hFx : F x with
      | none =>
        have e1 : f x = none := hH.none_ hFx
        rw [e1] at hrun
        simp only [Option.getD_none, Option.isSome_none] at hrun
        have hne : ¬ ∃ d ∈ Ds, d.1 = x := fun he => (hiff.1 he) hFx
        rw [if_neg hne] at hstep
        have HS := Lib.hid (show fr = from_ Ds (x + 1) from by omega)
        have HE5 := Lib.hid (show msF F nx (j + 1) = msF F nx j ++ [x] from by
          simp only [msF]
          rw [← hx, if_pos hFx])
        have hms := msF_len F nx j
        have hw2 : Below wr.heap.size wr (wr.alloc (.cells #[.int .i64 0, .slice none 0 0, .bool false] 71)) := (Below.refl _ _).alloc (Nat.le_refl _) _
        have HL2 := Lib.hid (nml_below HL.out hw2)
        have HB2 := Lib.hid (belW HB.out hw2)
        have hs2 : w.heap.size ≤ (wr.alloc (.cells #[.int .i64 0, .slice none 0 0, .bool false] 71)).heap.size := Nat.le_trans hs0 hw2.size
        have HJ1 := Lib.hid (show nx + ((j + 1 : Nat) : Int) = x + 1 from by push_cast; omega)
        clear hstep hiff hne hFx hfr hfx hb hR1 hM hH hpos hx hw2 e1
        go_wp2_with (at_builtin
                     go_must (refine wpList_append_num rfl (.tmp 35) (.tmp 37) rfl w.heap.size _ _ rfl HL2.out x (by simp [Act.eval]) (by omega) hs2 ?_))
        intro v6 w6 hL6 hO6
        rw [← HE5.out] at hL6
        have HL6 := Lib.hid hL6
        have HB6 := Lib.hid (nml_only HL2.out hO6 HB2.out hs2)
        clear hL6 hO6
        go_wp2
        go_roundw
        case rel => exact ⟨j + 1, by rw [HJ1.out], by rw [HJ1.out, ← HS.out], by omega, .inr (by rw [show nx + ((j + 1 : Nat) : Int) - 1 = x by have := HX.out.1; omega, ← HX.out.2]; omega), HL6, HB6.out⟩
        case measure => have := HX.out.1; simp [intOf1]; omega
      | some y =>
        obtain ⟨X, l⟩ := y
        obtain ⟨v, e1, hv⟩ := hH.some_ hFx
        obtain ⟨A', c', e⟩ := (bd_rb hv).form
        subst e
        rw [e1] at hrun
        simp only [Option.getD_some, Option.isSome_some] at hrun
        have hye : ∃ d ∈ Ds, d.1 = x := hiff.2 (by rw [hFx]; simp)
        rw [if_pos hye] at hstep
        have HS := Lib.hid (show fr = from_ Ds (x + 1) + 1 from by omega)
        have HL6 := Lib.hid (show NmL (wr.alloc (.cells #[.int .i64 x, .slice A' X.length c', .bool l] 71)) w.heap.size u3 (msF F nx (j + 1)) from by
          have e5 : msF F nx (j + 1) = msF F nx j := by
            simp only [msF]
            rw [← hx, if_neg (by rw [hFx]; simp)]
            simp
          rw [e5]
          exact nml_below HL.out ((Below.refl _ _).alloc (Nat.le_refl _) _))
        have HB6 := Lib.hid (hb.alloc hs0 (.cells #[.int .i64 x, .slice A' X.length c', .bool l] 71))
        have HJ1 := Lib.hid (show nx + ((j + 1 : Nat) : Int) = x + 1 from by push_cast; omega)
        clear hstep hiff hye hFx hfr hfx hb hR1 hM hH hpos hx e1 hv
        go_wp2
        go_roundw
        case rel => exact ⟨j + 1, by rw [HJ1.out], by rw [HJ1.out]; have := HS.out; congr 1; omega, by omega, .inr (by rw [show nx + ((j + 1 : Nat) : Int) - 1 = x by have := HX.out.1; omega, ← HX.out.2]; omega), HL6, HB6.out⟩
        case measure => have := HX.out.1; simp [intOf1]; omega
end Go.Proofs.Ytifmhecjllpjpaa
