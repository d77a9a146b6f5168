/-
  For any frames and bytes the law LinkFinds returns true and leaves its arguments as they were: no condition.
-/
import Derived.Test.YtlokacgclihhlaaZFindw
import Derived.Test.YtlokacgclihhlaaZScanr
import Derived.Test.YtlokacgclihhlaaZSameFs
import Derived.Test.YtlokacgclihhlaaZPackq
namespace Go.Proofs.Ytlokacgclihhlaa.linkFinds
open Go.Proofs.Ytlokacgclihhlaa
open Go.ChangeShapes Go.WideShapes Go.ChangeAt Go.RowKit Go.Joins
set_option linter.unusedVariables false

theorem belS {w W w1 : World} (h0 : Below w.heap.size w W) (h : Below W.heap.size W w1) : Below w.heap.size w w1 := h0.trans (h.mono h0.size)
theorem junk_len (T : List Nat) : (junk T).length ≤ T.length := List.length_filter_le _ _
theorem junk_step_in {T : List Nat} {j : Nat} (hj : j < T.length) (h : nth T j ≠ 165) : junk (T.take (j + 1)) = junk (T.take j) ++ [nth T j] := by
  unfold junk
  rw [List.take_add_one, List.filter_append, List.getElem?_eq_getElem hj]
  have e : nth T j = T[j] := nth_lt hj
  rw [e] at h ⊢
  simp [h]
theorem junk_step_out {T : List Nat} {j : Nat} (hj : j < T.length) (h : nth T j = 165) : junk (T.take (j + 1)) = junk (T.take j) := by
  unfold junk
  rw [List.take_add_one, List.filter_append, List.getElem?_eq_getElem hj]
  have e : nth T j = T[j] := nth_lt hj
  rw [e] at h
  simp [h]

theorem box_kept {w w' : World} {base e s n g : Nat} {v : Value} {x : List Value} {cs : Array Value} {t : TypeId} (h : w.heap[g]? = some (.cells cs t (0, 0))) (ho : w.ownsRow base e s v n x) (he : e ≠ t) (hg : w.grownBy w' v.ownBlock) : w'.heap[g]? = some (.cells cs t (0, 0)) := by
  have hlt : g < w.heap.size := (Array.getElem?_eq_some_iff.1 h).1
  rw [← h]
  refine hg.block g hlt ?_
  intro hr
  obtain ⟨_, ⟨rfl, _⟩ | ⟨g1, c1, u1, rfl, _, k1, _⟩⟩ := ho
  · simp [Value.ownBlock] at hr
  · simp [Value.ownBlock] at hr
    subst hr
    rw [h] at k1
    simp at k1
    exact he k1.2.symm

def FindRel (w : World) (n : Nat) (T : List Nat) (bv wv sv iv : Value) (wr : World) : Prop :=
  ∃ (k sk : Nat) (Fs : List Fr), iv = .int .i64 (k : Int) ∧ k ≤ n ∧ Fs.length ≤ k ∧ sv = .int .i64 (sk : Int) ∧ sk ≤ k * 32 ∧ Hid (sk = Fs.length * (junk T).length) ∧ Hid (∀ f ∈ Fs, okFr f) ∧
    Hid (wr.ownsRow w.heap.size 5 1 bv (packs T Fs).length (bys (packs T Fs))) ∧ Hid (FrW wr w.heap.size wv Fs) ∧ Below w.heap.size w wr
def InRel (w : World) (T : List Nat) (sk : Nat) (P : List Nat) (wv : Value) (Fs : List Fr) (g : Nat) (st sq : Nat) (u : Value) (bv sv iv : Value) (wr : World) : Prop :=
  ∃ (j s : Nat), iv = .int .i64 (j : Int) ∧ j ≤ T.length ∧ sv = .int .i64 (s : Int) ∧ s ≤ sk + j ∧ Hid (s = sk + (junk (T.take j)).length) ∧
    Hid (wr.ownsRow w.heap.size 5 1 bv (P ++ junk (T.take j)).length (bys (P ++ junk (T.take j)))) ∧ Hid (FrW wr w.heap.size wv Fs) ∧
    Hid (wr.heap[g]? = some (.cells #[.int .i64 (st : Int), .int .i64 (sq : Int), u] 33 (0, 0))) ∧ g < wr.heap.size ∧ Below w.heap.size w wr

set_option maxRecDepth 100000 in
set_option maxHeartbeats 2000000 in
theorem walk_in (A A2 : Option Addr) (n c n2 c2 : Nat) (T : List Nat) (hTb : AllB T) (hn : n ≤ 8) (ht : n2 ≤ 32) (w : World) (hF : ∀ i, i < n → FrIn w A i) (hx2 : RB w w.heap.size (.slice A2 n2 c2) T) :
    Calls Try.prog 10 #[.slice A n c, .slice A2 n2 c2] w (RetB w true) := by
  obtain ⟨i0, hi0, hz0, hz1, hz2⟩ := info_parts infoF
  have HT := Lib.hid (And.intro hTb (And.intro hx2 hx2.1.len))
  have HF := Lib.hid hF
  have hni : (n : Int) ≤ 8 := by omega
  have hn2i : (n2 : Int) ≤ 32 := by omega
  have HJ := Lib.hid (junk_len T)
  clear hTb hF hx2
  go_enter Try.func10, Try.ntmps10
  go_wp2
  go_loopw [5, 6, 7, 28] (fun bv wv sv iv wr => FindRel w n T bv wv sv iv wr) (fun _ _ _ iv _ => n - (intOf1 iv).toNat)
  case atStart => exact ⟨0, 0, [], rfl, Nat.zero_le _, Nat.le_refl _, rfl, by omega, Lib.hid (by simp), Lib.hid (by simp), Lib.hid (World.ownsRow_nil _ _ _ _), Lib.hid (frw_nil _ _), Below.refl _ _⟩
  case round =>
    obtain ⟨k, sk, Fs, rfl, hk, hFk, rfl, hsk, HSK, HO, HB, HW, hbw⟩ := hrel
    by_cases hkn : k < n
    · obtain ⟨b, o, st, sq, A', n', c', X, rfl, hb, p0, p1, p2, hXB, hX⟩ := HF.out k hkn
      have i1 : (0 : Int) ≤ (k : Int) := by omega
      have i2 : (k : Int) < (n : Int) := by omega
      have q0 := (hbw.cell (p := ⟨b, o + k * 3, none⟩) hb).trans p0
      have q1 := (hbw.cell (p := ⟨b, o + k * 3 + 1, none⟩) hb).trans p1
      have q2 := (hbw.cell (p := ⟨b, o + k * 3 + 2, none⟩) hb).trans p2
      have HX := Lib.hid (And.intro hXB (hX.belowM hbw (Nat.le_refl _)))
      have HX0 := Lib.hid hX
      have HBW := Lib.hid hbw
      have hs0 := hbw.size
      clear p0 p1 p2 hXB hX hbw
      obtain ⟨W0, HW0, hw0, HG, z0⟩ := F0ex wr st sq (.slice A' n' c')
      go_wp2_with fail
      rw [← HW0.out]
      by_cases hok : okF st sq n'
      · obtain ⟨s, rfl⟩ := Int.eq_ofNat_of_zero_le hok.1
        obtain ⟨q, rfl⟩ := Int.eq_ofNat_of_zero_le hok.2.2.1
        refine (refValidP true s q A' n' c' (by simpa using hok) _).mono ?_
        rintro e W1 ⟨rfl, b1⟩
        have f1 : Below wr.heap.size wr W1 := belS hw0 b1
        have z1 : wr.heap.size < W1.heap.size := Nat.lt_of_lt_of_le z0 b1.size
        have HG1 : Hid (W1.heap[wr.heap.size]? = some (.cells #[.int .i64 (s : Int), .int .i64 (q : Int), .slice A' n' c'] 33 (0, 0))) := Lib.hid ((b1.block _ z0).trans HG.out)
        have HB1 := Lib.hid (HB.out.kept (grown_of_below f1 none) (by cases u5.ownBlock <;> simp))
        have HW1 := Lib.hid (frw_below HW.out hs0 f1)
        have BW1 := belS HBW.out f1
        have hs1 := BW1.size
        have HOK := Lib.hid hok
        have HX1 := Lib.hid (And.intro HX.out.1 (And.intro HX.out.2 HX.out.2.1.len))
        obtain ⟨P, hP⟩ : ∃ P, P = packs T Fs := ⟨_, rfl⟩
        have hPl : P.length ≤ 8544 := by
          have h1 := packs_most T Fs HO.out
          have h2 := HJ.out
          have h3 := HT.out.2.2
          rw [hP]
          refine Nat.le_trans h1 (Nat.le_trans (Nat.mul_le_mul (show Fs.length ≤ 8 by omega) (show (junk T).length + 1036 ≤ 1068 by omega)) (by omega))
        have HP := Lib.hid hP
        clear b1 hP HW0 hw0 HG hok HX q0 q1 q2
        go_wp2
        obtain ⟨wo, hwo⟩ : ∃ x, x = wr := ⟨_, rfl⟩
        subst hwo
        go_loopw [5, 7, 37] (fun bv sv iv wv => InRel w T sk P u6 Fs wo.heap.size s q (.slice A' n' c') bv sv iv wv) (fun _ _ iv _ => n2 - (intOf1 iv).toNat)
        case atStart => exact ⟨0, sk, rfl, Nat.zero_le _, rfl, by omega, Lib.hid (by simp [junk]), Lib.hid (by simpa [junk, HP.out] using HB1.out), HW1, HG1, z1, BW1⟩
        case round =>
          obtain ⟨j, s7, rfl, hj, rfl, hs7, HS7, HB2, HW2, HG2, z2, b2⟩ := hrel
          by_cases hjn : j < n2
          · have hjT : j < T.length := by have := HT.out.2.2; omega
            obtain ⟨bb, oo, hA2, hbb, hc⟩ := HT.out.2.1.1.at_ (by omega)
            subst hA2
            have x0 := (b2.cell (p := ⟨bb, oo + j, none⟩) hbb).trans (hc j hjn)
            have hx256 : nth T j < 256 := HT.out.1.nth j
            obtain ⟨V, hV⟩ : ∃ V, V = P ++ junk (T.take j) := ⟨_, rfl⟩
            have hVl : V.length ≤ 9000 := by
              have h2 := junk_len (T.take j)
              have h3 := List.length_take_le j T
              have h4 := HT.out.2.2
              rw [hV, List.length_append]
              omega
            have jin := junk_step_in hjT
            have jout := junk_step_out hjT
            have i3 : (0 : Int) ≤ (j : Int) := by omega
            have i4 : (j : Int) < (n2 : Int) := by omega
            have hs2 := b2.size
            rw [← hV] at HB2
            have HJJ := Lib.hid (And.intro jin (And.intro jout hV))
            have HS8 := Lib.hid HS7.out
            have HBB := Lib.hid b2
            clear jin jout hV hc b2
            obtain ⟨x, hx⟩ : ∃ x, x = nth T j := ⟨_, rfl⟩
            rw [← hx] at x0 hx256
            rw [← hx] at HJJ
            have HXN := Lib.hid hx
            clear hx
            by_cases h165 : x = 165
            · subst h165
              have HJo := Lib.hid (HJJ.out.2.1 rfl)
              go_wp2
              go_roundw
              case rel => exact ⟨j + 1, s7, by go_num, by omega, rfl, by omega, Lib.hid (by rw [HJo.out]; exact HS8.out), Lib.hid (by rw [HJo.out, ← HJJ.out.2.2]; exact HB2.out), HW2, HG2, z2, HBB.out⟩
              case measure => simp [intOf1]; omega
            · have HJi := Lib.hid (HJJ.out.1 h165)
              have y1 : ((x : Int) != 165) = true := by simp; omega
              have OC := rb_one wr 5 x
              go_wp2_with (at_builtin
                           refine wpList_append_bytes rfl (.tmp 43) (.tmp 45) rfl w.heap.size (wr.heap.size + 1) _ _ V rfl (HB2.out.alloc _) _ [x] rfl OC (by simp; omega) (by simp; omega) ?_)
              intro v3 w3 o3 g3
              have gA : Below wr.heap.size wr (wr.alloc (.cells #[.int .u8 (x : Int)] 5)) := (Below.refl _ _).alloc (Nat.le_refl _) _
              have hsA : w.heap.size ≤ (wr.alloc (.cells #[.int .u8 (x : Int)] 5)).heap.size := Nat.le_trans hs2 gA.size
              have hoA := HB2.out.alloc (.cells #[.int .u8 (x : Int)] 5)
              obtain ⟨vs, hv1, hv2, hv3⟩ := frw_below HW2.out hs2 gA
              have HW3 : Hid (FrW w3 w.heap.size u6 Fs) := Lib.hid (frw_kept ⟨vs, hv1, hv2, hv3⟩ hsA g3 (rows_apart hv2 hoA (fun h => types_apart h.symm)) (fun k hk => (hoA.lt k hk).1))
              have HG3 : Hid (w3.heap[wo.heap.size]? = some (.cells #[.int .i64 (s : Int), .int .i64 (q : Int), .slice A' n' c'] 33 (0, 0))) := Lib.hid (box_kept ((gA.block _ z2).trans HG2.out) hoA types_apart g3)
              have z3 : wo.heap.size < w3.heap.size := Nat.lt_of_lt_of_le z2 (Nat.le_trans gA.size g3.size)
              have b3 : Below w.heap.size w w3 := grown_belowB (belS HBB.out gA) (Nat.le_refl _) g3 (fun k hk => (hoA.lt k hk).1)
              have HB3 := Lib.hid o3
              have HB4 := Lib.hid b3
              clear o3 g3 gA hsA hoA hv1 hv2 hv3 b3 OC
              go_wp2
              go_roundw
              case rel => exact ⟨j + 1, s7 + 1, by go_num, by omega, by go_num, by omega, Lib.hid (by rw [HJi.out, List.length_append, ← Nat.add_assoc, ← HS8.out]; rfl), Lib.hid (by rw [HJi.out, ← List.append_assoc, ← HJJ.out.2.2, List.length_append]; exact HB3.out), HW3, HG3, z3, HB4.out⟩
              case measure => simp [intOf1]; omega
          · obtain rfl : j = n2 := by have := HT.out.2.2; omega
            have hTk : junk (T.take j) = junk T := by rw [List.take_of_length_le (by have := HT.out.2.2; omega)]
            rw [hTk] at HB2 HS7
            obtain ⟨V, hV⟩ : ∃ V, V = P ++ junk T := ⟨_, rfl⟩
            have hVl : V.length ≤ 8600 := by
              rw [hV, List.length_append]
              have h1 := HJ.out
              have h2 := HT.out.2.2
              omega
            rw [← hV] at HB2
            obtain ⟨Q, hQ⟩ : ∃ Q, Q = packL s q X := ⟨_, rfl⟩
            have hQl : Q.length ≤ 1036 := by
              have h1 := HOK.out.2.2.2.2
              rw [hQ, packL_len, ← HX1.out.2.2]
              omega
            have HV := Lib.hid (And.intro hV (And.intro HS7.out hQ))
            have hs2 := b2.size
            have HBB := Lib.hid b2
            have CP := Lib.hid (pack_ok s q X HX1.out.1 A' n' c' w.heap.size HOK.out wr (HX0.out.belowM b2 (Nat.le_refl _)) hs2)
            rw [← hQ] at CP
            obtain ⟨k0, k1, k2, kf⟩ := fr_blk HG2.out (Below.refl _ _)
            clear hV hQ hTk b2 hjn
            go_wp2_with fail
            refine CP.out.mono ?_
            rintro e w4 ⟨v4, rfl, o4, b4⟩
            obtain ⟨_, r4⟩ := rb_of_owns o4
            have HB4 := Lib.hid (HB2.out.kept (grown_of_below b4 none) (by cases u5.ownBlock <;> simp))
            have HW4 := Lib.hid (frw_below HW2.out hs2 b4)
            have HG4 := Lib.hid ((b4.block _ z2).trans HG2.out)
            have hs4 : w.heap.size ≤ w4.heap.size := Nat.le_trans hs2 b4.size
            have BW4 := Lib.hid (belS HBB.out b4)
            have R4 := Lib.hid r4
            clear o4 b4 r4 k0 k1 k2 kf CP
            obtain ⟨k0, k1, k2, kf⟩ := fr_blk HG4.out (Below.refl _ _)
            go_wp2_with (at_builtin
                         refine wpList_append_bytes rfl (.tmp 57) (.tmp 58) rfl w.heap.size w4.heap.size _ _ V rfl HB4.out _ Q rfl R4.out (by omega) hs4 ?_)
            intro v5 w5 o5 g5
            obtain ⟨vs, hv1, hv2, hv3⟩ := HW4.out
            have HW5 : Hid (FrW w5 w.heap.size u6 Fs) := Lib.hid (frw_kept ⟨vs, hv1, hv2, hv3⟩ hs4 g5 (rows_apart hv2 HB4.out (fun h => types_apart h.symm)) (fun k hk => (HB4.out.lt k hk).1))
            have HG5 := Lib.hid (box_kept HG4.out HB4.out types_apart g5)
            have hs5 : w.heap.size ≤ w5.heap.size := Nat.le_trans hs4 g5.size
            have BW5 := Lib.hid (grown_belowB BW4.out (Nat.le_refl _) g5 (fun k hk => (HB4.out.lt k hk).1))
            have HB5 := Lib.hid o5
            clear o5 g5 hv1 hv2 hv3 vs k0 k1 k2 kf
            obtain ⟨k0, k1, k2, kf⟩ := fr_blk HG5.out (Below.refl _ _)
            have TC := Lib.hid (three_cells w5 33 (.int .i64 (s : Int)) (.int .i64 (q : Int)) (.slice A' n' c'))
            obtain ⟨vs, hv1, hv2, hv3⟩ := HW5.out
            have HV5 := Lib.hid (And.intro hv1 (And.intro hv2 hv3))
            clear hv1 hv2 hv3
            go_wp2_with (at_builtin
                         refine wpList_append_own_at _ rfl (.tmp 60) (.tmp 62) _ rfl w.heap.size 33 i0 _ 3 40 Try.underlying44 hi0 hz0 hz1 hz2 rfl (by decide) _ Fs.length _ rfl (HV5.out.2.1.alloc _) ⟨w5.heap.size, 0, none⟩ 1 1 [.int .i64 (s : Int), .int .i64 (q : Int), .slice A' n' c'] rfl rfl TC.out (by intro u hu; simp at hu; rcases hu with rfl | rfl | rfl <;> rfl) (by unfold maxLen; omega) (by omega) (by simp; omega) ?_)
            intro v6 w6 ho hg _ hr
            have gA : Below w5.heap.size w5 (w5.alloc (.cells #[.int .i64 (s : Int), .int .i64 (q : Int), .slice A' n' c'] 33)) := (Below.refl _ _).alloc (Nat.le_refl _) _
            have hsA := Nat.le_trans hs5 gA.size
            have hvA := HV5.out.2.1.alloc (.cells #[.int .i64 (s : Int), .int .i64 (q : Int), .slice A' n' c'] 33)
            have HW6 : Hid (FrW w6 w.heap.size v6 (Fs ++ [(s, q, X)])) := Lib.hid (frw_append HV5.out.1 (fun i hi hi' => (HV5.out.2.2 i hi hi').alloc hs5 _) ho hsA hg (fun k hk => (hvA.lt k hk).1) ((HX0.out.belowM BW5.out (Nat.le_refl _)).alloc hs5 _))
            have HB6 := Lib.hid ((HB5.out.alloc (.cells #[.int .i64 (s : Int), .int .i64 (q : Int), .slice A' n' c'] 33)).kept hg (rows_apart (HB5.out.alloc _) hvA types_apart))
            have BW6 := Lib.hid (grown_belowB (belS BW5.out gA) (Nat.le_refl _) hg (fun k hk => (hvA.lt k hk).1))
            have HE := Lib.hid (show packs T (Fs ++ [(s, q, X)]) = V ++ Q from by rw [packs_snoc, ← HP.out, ← HV.out.1, ← HV.out.2.2])
            have HSK6 : Hid (s7 = (Fs ++ [(s, q, X)]).length * (junk T).length) := Lib.hid (by rw [List.length_append, List.length_singleton, Nat.add_mul, Nat.one_mul, ← HSK.out]; exact HV.out.2.1)
            have HO6 : Hid (∀ f ∈ Fs ++ [(s, q, X)], okFr f) := Lib.hid (fun f hf => (List.mem_append.1 hf).elim (HO.out f) (fun h => by
              simp at h
              subst h
              have h1 := HOK.out
              exact ⟨by have := h1.2.1; show s < 256; omega, by have := h1.2.2.2.1; show q < 4294967296; omega, by show X.length ≤ 1024; rw [← HX1.out.2.2]; exact h1.2.2.2.2, HX1.out.1⟩))
            clear ho hg hr gA hsA hvA k0 k1 k2 kf
            go_wp2
            go_roundw
            case rel => exact ⟨k + 1, s7, Fs ++ [(s, q, X)], by go_num, by omega, by simp; omega, rfl, by omega, HSK6, HO6, Lib.hid (by rw [HE.out, List.length_append]; exact HB6.out), HW6, BW6.out⟩
            case measure => simp [intOf1]; omega
      · refine (refValidP false st sq A' n' c' (by simpa using hok) _).mono ?_
        rintro e W1 ⟨rfl, b1⟩
        have f1 : Below wr.heap.size wr W1 := belS hw0 b1
        have HB1 := Lib.hid (HB.out.kept (grown_of_below f1 none) (by cases u5.ownBlock <;> simp))
        have HW1 := Lib.hid (frw_below HW.out hs0 f1)
        have BW1 := belS HBW.out f1
        clear b1 f1 HW0 hw0 HG hok HX q0 q1 q2
        go_wp2
        go_roundw
        case rel => exact ⟨k + 1, sk, Fs, by go_num, by omega, by omega, rfl, by omega, HSK, HO, HB1, HW1, BW1⟩
        case measure => simp [intOf1]; omega
    · obtain rfl : k = n := by omega
      clear hkn
      have hpl : (packs T Fs).length ≤ 8544 := by
        have h1 := packs_most T Fs HO.out
        have h2 := HJ.out
        have h3 := HT.out.2.2
        refine Nat.le_trans h1 (Nat.le_trans (Nat.mul_le_mul (show Fs.length ≤ 8 by omega) (show (junk T).length + 1036 ≤ 1068 by omega)) (by omega))
      obtain ⟨_, r5⟩ := rb_of_owns HB.out
      obtain ⟨A5, c5, rfl⟩ := r5.form
      have S5 := scan_any (packs T Fs) (packs_allB HT.out.1 Fs HO.out) A5 _ c5 _ (by omega) wr r5 (Nat.le_refl _)
      unfold RetScan at S5
      rw [scanF_packs T Fs HO.out] at S5
      simp only at S5
      rw [← HSK.out] at S5
      have HS5 := Lib.hid S5
      have q1 : ((sk : Int) == (sk : Int)) = true := by simp
      have hFl : Fs.length ≤ 1048576 := by omega
      have HBW := Lib.hid hbw
      have hs0 := hbw.size
      clear S5 r5 hpl hbw
      go_wp2_with fail
      refine HS5.out.mono ?_
      rintro e w1 ⟨v1, rfl, f1, b1⟩
      have HF1 := Lib.hid (frw_frs (frw_below HW.out hs0 b1) (Nat.le_trans hs0 b1.size))
      have R1 := Lib.hid (And.intro f1 b1)
      clear f1 b1
      go_wp2_with fail
      refine (sameFrames_yes Fs v1 u6 _ _ hFl w1 R1.out.1 HF1.out).mono ?_
      rintro e w3 ⟨rfl, b3⟩
      have B3 := Lib.hid b3
      clear b3
      go_wp2_with fail
      refine (awake_any _).mono ?_
      rintro e w4 ⟨rfl, b4⟩
      go_wp2
      go_ret
      exact ⟨rfl, belS (belS HBW.out R1.out.2) (belS B3.out b4)⟩

set_option maxRecDepth 100000 in
theorem walk (A A2 : Option Addr) (n c n2 c2 : Nat) (T : List Nat) (hTb : AllB T) (w : World) (hF : ∀ i, i < n → FrIn w A i) (hx2 : RB w w.heap.size (.slice A2 n2 c2) T) :
    Calls Try.prog 10 #[.slice A n c, .slice A2 n2 c2] w (RetB w true) := by
  by_cases hn : n ≤ 8
  · by_cases ht : n2 ≤ 32
    · exact walk_in A A2 n c n2 c2 T hTb hn ht w hF hx2
    · have h1 : (n : Int) ≤ 8 := by omega
      have h2 : (32 : Int) < (n2 : Int) := by omega
      go_enter Try.func10, Try.ntmps10
      go_wp2_with fail
      refine (awake_any _).mono ?_
      rintro e w7 ⟨rfl, b7⟩
      go_wp2
      go_ret
      exact ⟨rfl, b7⟩
  · have h1 : (8 : Int) < (n : Int) := by omega
    go_enter Try.func10, Try.ntmps10
    go_wp2_with fail
    refine (awake_any _).mono ?_
    rintro e w7 ⟨rfl, b7⟩
    go_wp2
    go_ret
    exact ⟨rfl, b7⟩

set_option maxRecDepth 100000 in
theorem lifted (os : Os) (started : os.Started) (H : Type) (enc : TypeId × Value → H) :
    ReturnsInHanded {} Try.checked os 10 .any (Rows.linkFindsSpec.pre6 enc Try.prog Try.f10 Rows.linkFindsRow.domain false) (Rows.linkFindsSpec.post enc Try.prog Try.f10 false true false false) := by
  refine returnsInHanded_of_change (C := Try.checked) ownTry started (by kernel_rfl) Try.func10
    (ChangeSpec.witness6 (enc := enc) (C := Try.checked) false ⟨#[], #[.slice none 0 0, .slice none 0 0], []⟩ 8 (by kernel_rfl) (by kernel_rfl) (by kernel_rfl) (by kernel_rfl)) ?_
  intro W base args ds gs before hval0 hW hcnd _
  have hval : ∀ (j : Nat) t v, Try.f10.params[j]? = some t → args[j]? = some v → Value.okWide Try.prog W .any base t v := hval0
  have hW' := hW
  obtain ⟨p, q, hA0, hV, rfl, hfz, hnd⟩ := hW
  have hA : DataW.TrodAll enc Try.prog W 0 (fun _ => true) true Try.f10.params.toList args.toList ds p := hA0
  rw [Try.params10] at hA hval
  obtain ⟨v0, v1, d0, d1, p0, p1, rfl, rfl, rfl, h0, h1⟩ := trodAll_two hA
  obtain ⟨rfl, rfl⟩ := trodVars_none hV
  obtain ⟨A0, n0, c0, rfl, hF⟩ := open_frames (hval 0 _ v0 rfl rfl) h0
  obtain ⟨A1, n1, c1, T1, rfl, hB1, hx1⟩ := open_bytesRB (hval 1 _ v1 rfl rfl) h1
  clear hA0 hval0
  refine (walk A0 A1 n0 c0 n1 c1 T1 hB1 W hF hx1).mono fun e W' ⟨he, hg⟩ => ?_
  subst he
  exact ⟨_, rfl, post_reads laidOut (by kernel_rfl) hW' rfl (fun _ _ _ => trodAll_mk1 (shut_bool Try.underlying4 _)) (fun _ => rfl) rfl hg (ok_one (by kernel_rfl) rfl (okWide_bool_mk Try.underlying4 _))⟩

theorem over : Rows.linkFindsRow.holds Try.pinned (OpenSpec.ofChange Rows.linkFindsSpec) :=
  OpenClaim.holds_of_wide 10 Try.f10 rfl rfl rfl rfl rfl rfl rfl ⟨rfl, rfl, rfl, rfl, rfl⟩ rfl rfl rfl rfl rfl (by kernel_rfl) Try.func10 (by kernel_rfl)
    (of_decide_eq_true (by kernel_rfl)) (by unfold Func.isWrapper; first | (rw [if_pos (by decide +kernel)]; kernel_rfl) | (rw [if_neg (by decide +kernel)]; exact ⟨rfl, rfl⟩))
    (fun os started H enc _ => lifted os started H enc)

theorem proved : Rows.LinkFindsSaid := over
end Go.Proofs.Ytlokacgclihhlaa.linkFinds
