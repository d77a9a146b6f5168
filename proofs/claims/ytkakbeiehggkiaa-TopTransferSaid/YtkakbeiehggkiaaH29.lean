/-
  The sender: what its memory holds; none, frame.
  The sender: Pending, Again, Ack.
-/
import Derived.Test.YtkakbeiehggkiaaH06
import Derived.Test.YtkakbeiehggkiaaH08
namespace Go.Proofs.Ytkakbeiehggkiaa
open Go.RowKit Go.Maps
attribute [local go_sem ↓] Go.wp_at_zero Go.wp_at_succ

/-- The map holds the bodies from a on. -/
def SF (w : World) (f : Int → Option Value) (a : Nat) (Bs : List (List Nat)) : Prop :=
  (∀ (i : Nat) (h : i < Bs.length), a ≤ i → ∃ v, f (i : Int) = some v ∧ Bd w v Bs[i]) ∧ ∀ k : Int, (k < a ∨ Bs.length ≤ k) → f k = none
theorem SF.only {w w' : World} {S : Nat → Prop} {f : Int → Option Value} {a : Nat} {Bs : List (List Nat)} (h : SF w f a Bs) (ho : Only S w w') (hS : NoB w S) : SF w' f a Bs :=
  ⟨fun i hi ha => by obtain ⟨v, h1, h2⟩ := h.1 i hi ha; exact ⟨v, h1, h2.only ho hS⟩, h.2⟩
/-- A sender behind a pointer to block g; its map is block mb; numbers from a on are pending. -/
def Snd (w : World) (g mb : Nat) (st win : Int) (a : Nat) (Bs : List (List Nat)) : Prop :=
  w.heap[g]? = some (.cells #[.int .i64 st, .int .i64 win, .int .i64 (a : Int), .int .i64 (Bs.length : Int), .map (some mb)] 99 (0, 0)) ∧ a ≤ Bs.length ∧
    ∃ f, MapF Try.prog 3 w mb (Bs.length - a) f ∧ SF w f a Bs
theorem snd_nob {w : World} {g mb : Nat} {st win : Int} {a : Nat} {Bs : List (List Nat)} (h : Snd w g mb st win a Bs) : NoB w (fun k => k = g ∨ k = mb) := by
  intro k cs fr hk hs
  rcases hs with rfl | rfl
  · rw [h.1] at hk
    injection hk with hk
    injection hk with _ hk
    exact absurd hk (by decide)
  · obtain ⟨_, _, f, hm, _⟩ := h
    obtain ⟨es, c, hb⟩ := hm.block
    rw [hb] at hk
    cases hk
theorem snd_only {w w' : World} {S : Nat → Prop} {g mb : Nat} {st win : Int} {a : Nat} {Bs : List (List Nat)} (h : Snd w g mb st win a Bs) (ho : Only S w w') (hS : NoB w S) (hg : ¬ S g) (hm : ¬ S mb) : Snd w' g mb st win a Bs := by
  obtain ⟨h1, h0, f, h2, h3⟩ := h
  exact ⟨(ho.block g (Array.getElem?_eq_some_iff.1 h1).1 hg).trans h1, h0, f, h2.only ho hm, h3.only ho hS⟩
theorem snd_below {w w' : World} {g mb : Nat} {st win : Int} {a : Nat} {Bs : List (List Nat)} (h : Snd w g mb st win a Bs) (hb : Below w.heap.size w w') : Snd w' g mb st win a Bs :=
  snd_only (S := fun _ => False) h (only_below hb) (fun _ _ _ _ h => h) (fun h => h) (fun h => h)
theorem snd_apart {w : World} {g mb : Nat} {st win : Int} {a : Nat} {Bs : List (List Nat)} (h : Snd w g mb st win a Bs) : g ≠ mb ∧ g < w.heap.size ∧ mb < w.heap.size := by
  obtain ⟨h1, _, f, h2, h3⟩ := h
  obtain ⟨es, c, hb⟩ := h2.block
  refine ⟨fun e => ?_, (Array.getElem?_eq_some_iff.1 h1).1, h2.lt⟩
  subst e
  rw [h1] at hb
  cases hb
theorem snd_cells {w : World} {g mb : Nat} {st win : Int} {a : Nat} {Bs : List (List Nat)} (h : Snd w g mb st win a Bs) :
    w.cell? ⟨g, 0, none⟩ = some (.int .i64 st) ∧ w.cell? ⟨g, 1, none⟩ = some (.int .i64 win) ∧ w.cell? ⟨g, 2, none⟩ = some (.int .i64 (a : Int)) ∧ w.cell? ⟨g, 3, none⟩ = some (.int .i64 (Bs.length : Int)) ∧ w.cell? ⟨g, 4, none⟩ = some (.map (some mb)) ∧ ∀ i, w.frozen? ⟨g, i, none⟩ = false :=
  ⟨cell_of_row _ _ _ _ _ _ h.1, cell_of_row _ _ _ _ _ _ h.1, cell_of_row _ _ _ _ _ _ h.1, cell_of_row _ _ _ _ _ _ h.1, cell_of_row _ _ _ _ _ _ h.1, fun i => by simp [World.frozen?, h.1]⟩
theorem uMB : Try.prog.underlying 97 = some (.map 3 33) := Try.underlying97
theorem zeroB (w : World) : (zeroValue 33).run Try.prog w = .ok (.slice none 0 0) w := by kernel_rfl

set_option maxRecDepth 100000 in
theorem snone_live (g : Nat) (win : Int) (w : World) (hc : w.cell? ⟨g, 1, none⟩ = some (.int .i64 win)) (h0 : win ≠ 0) :
    Calls Try.prog 64 #[.pointer (some ⟨g, 0, none⟩)] w fun e w' => e = .returned (.bool false) ∧ w = w' := by
  have hd : (win == 0) = false := by simpa using h0
  go_enter Try.func64, Try.ntmps64
  go_wp2
  go_ret
  exact ⟨by simp [hd], rfl⟩

theorem set3_heap {w : World} {g : Nat} {a b c x y z : Value} {T : TypeId} (h : w.heap[g]? = some (.cells #[a, b, c] T (0, 0))) : (((w.setCell ⟨g, 0, none⟩ x).setCell ⟨g, 1, none⟩ y).setCell ⟨g, 2, none⟩ z).heap[g]? = some (.cells #[x, y, z] T (0, 0)) := by
  have h1 : (w.setCell ⟨g, 0, none⟩ x).heap[g]? = some (.cells #[x, b, c] T (0, 0)) := by rw [heap_setCell_same w g 0 _ _ _ h]; rfl
  have h2 : ((w.setCell ⟨g, 0, none⟩ x).setCell ⟨g, 1, none⟩ y).heap[g]? = some (.cells #[x, y, c] T (0, 0)) := by rw [heap_setCell_same _ g 1 _ _ _ h1]; rfl
  rw [heap_setCell_same _ g 2 _ _ _ h2]; rfl
/-- A store into a box of a frame leaves bytes as they are. -/
theorem bd_set3 {w : World} {g : Nat} {a b c x y z v : Value} {X : List Nat} {T : TypeId} (h : w.heap[g]? = some (.cells #[a, b, c] T (0, 0))) (hT : T ≠ 5) (hv : Bd w v X) : Bd (((w.setCell ⟨g, 0, none⟩ x).setCell ⟨g, 1, none⟩ y).setCell ⟨g, 2, none⟩ z) v X := by
  have hO : Only (fun k => k = g) w (((w.setCell ⟨g, 0, none⟩ x).setCell ⟨g, 1, none⟩ y).setCell ⟨g, 2, none⟩ z) := ((only_set (S := fun k => k = g) (p := ⟨g, 0, none⟩) x rfl).trans (only_set (S := fun k => k = g) (p := ⟨g, 1, none⟩) y rfl)).trans (only_set (S := fun k => k = g) (p := ⟨g, 2, none⟩) z rfl)
  refine hv.only hO (fun k cs fr hk e => ?_)
  subst e
  rw [h] at hk
  injection hk with hk
  injection hk with _ hk
  exact hT hk
/-- A frame with bytes of the call's own. -/
def RetFr (w : World) (st sq : Int) (X : List Nat) (e : Ending) (w' : World) : Prop := ∃ v, e = .returned (.agg #[.int .i64 st, .int .i64 sq, v]) ∧ Bd w' v X ∧ Below w.heap.size w w'

set_option maxRecDepth 100000 in
set_option maxHeartbeats 2000000 in
theorem frame_any (g mb : Nat) (st win : Int) (a i : Nat) (Bs : List (List Nat)) (w : World) (h : Snd w g mb st win a Bs) (hi : i < Bs.length) (hai : a ≤ i) (hl : Bs.length ≤ 1048576) (hX : Bs[i].length ≤ 1048576) :
    Calls Try.prog 65 #[.pointer (some ⟨g, 0, none⟩), .int .i64 (i : Int)] w (RetFr w st (i : Int) Bs[i]) := by
  obtain ⟨W0, HW0, hw0, HG, z0⟩ := U0ex w
  obtain ⟨k0, k1, k2, kf⟩ := fr_blk HG.out (Below.refl _ _)
  obtain ⟨c0, c1, c2, c3, c4, cf⟩ := snd_cells h
  obtain ⟨_, _, f, hM, hS⟩ := id h
  obtain ⟨v, hfv, hv⟩ := hS.1 i hi hai
  obtain ⟨A, c, e⟩ := (bd_rb hv).form
  subst e
  have hgl := (snd_apart h).2.1
  have hl := fun (w' : World) (hm : MapF Try.prog 3 w' mb (Bs.length - a) f) => hm.look1 uI uMB (zeroB w') (wfI (k := (i : Int)) (by omega) (by omega))
  rw [hfv] at hl
  simp only [Option.getD_some] at hl
  obtain ⟨X, hXe⟩ : ∃ X, X = Bs[i] := ⟨_, rfl⟩
  rw [← hXe] at hv hl hX ⊢
  have KK := Lib.hid (fun (w' : World) (hb : Below w.heap.size w w') => (⟨(hb.cell (p := ⟨g, 0, none⟩) hgl).trans c0, (hb.cell (p := ⟨g, 4, none⟩) hgl).trans c4, hl w' (hM.only (S := fun _ => False) (only_below hb) (fun h => h))⟩ : w'.cell? ⟨g, 0, none⟩ = some (.int .i64 st) ∧ w'.cell? ⟨g, 4, none⟩ = some (.map (some mb)) ∧ (Instr.lookup 97 (.map (some mb)) (.int .i64 (i : Int)) false).run Try.prog w' = .ok (.slice A X.length c) w'))
  have K1 := Lib.hid (KK.out W0.drew hw0.drew)
  have HV := Lib.hid (And.intro ((bd_rb hv).belowM hw0 (Nat.le_refl _)) hX)
  have HGk := Lib.hid HG.out
  have HW := Lib.hid hw0
  have hs0 := hw0.size
  clear hl hXe hv hX hfv hM hS c0 c1 c2 c3 c4 cf h hi
  go_enter Try.func65, Try.ntmps65
  go_wp2_with fail
  rw [← HW0.out]
  go_region_held3 (fun w' => w'.cell? ⟨g, 0, none⟩ = some (.int .i64 st) ∧ w'.cell? ⟨g, 4, none⟩ = some (.map (some mb)) ∧ (Instr.lookup 97 (.map (some mb)) (.int .i64 (i : Int)) false).run Try.prog w' = .ok (.slice A X.length c) w')
    (first | with_reducible exact K3.out | with_reducible exact K1.out | exact KK.out _ (set3_below F3.out (Nat.le_refl _)) | go_keep)
    (first
      | (go_at_call 60
         refine (clone_any X (.slice A X.length c) w.heap.size _ (by exact ⟨HV.out.1.1.drew, HV.out.1.2⟩) (by exact hs0) HV.out.2).mono ?_
         rintro e w3 ⟨v3, rfl, o3, b3⟩
         have f3 : Below W0.heap.size W0 w3 := below_un b3
         obtain ⟨A3, c3', e3⟩ := (rb_of_owns o3).2.form
         subst e3
         have F3 := Lib.hid (HW.out.trans (f3.mono HW.out.size))
         have K3 := Lib.hid (KK.out w3 F3.out)
         obtain ⟨k0', k1'', k2', kf'⟩ := fr_blk HGk.out f3))
  have hB3 := Lib.hid (bd_owns o3)
  have HG3 := Lib.hid ((f3.block _ z0).trans HGk.out)
  obtain ⟨d0, d1, d2, df⟩ := fr_blk (set3_heap (x := .int .i64 st) (y := .int .i64 (i : Int)) (z := .slice A3 X.length c3') HG3.out) (Below.refl _ _)
  clear o3 b3 k0' k1'' k2' kf' k0 k1 k2 kf
  go_wp2
  refine bodyPost_ret (v := .agg #[.int .i64 st, .int .i64 (i : Int), .slice A3 X.length c3']) (by simp [results, Try.results65, go_sem, d0, d1, d2]) rfl ⟨_, rfl, bd_set3 HG3.out (by decide) hB3.out, set3_below F3.out (Nat.le_refl _)⟩

def okSn (st win : Int) : Prop := (0 ≤ st ∧ st ≤ 255) ∧ (1 ≤ win ∧ win ≤ 64)
def RetNewS (w : World) (st win : Int) (e : Ending) (w' : World) : Prop :=
  ∃ g mb, e = .returned (.tuple #[.pointer (some ⟨g, 0, none⟩), .int .i64 0]) ∧ Snd w' g mb st win 0 [] ∧ w.heap.size ≤ g ∧ w.heap.size ≤ mb ∧ Below w.heap.size w w'
set_option maxRecDepth 100000 in
set_option maxHeartbeats 1000000 in
theorem newS_yes (st win : Int) (w : World) (h : okSn st win) : Calls Try.prog 22 #[.int .i64 st, .int .i64 win] w (RetNewS w st win) := by
  obtain ⟨⟨h1, h2⟩, h3, h4⟩ := h
  have hmm := @run_makeMap Try.prog
  go_enter Try.func22, Try.ntmps22
  go_wp2
  go_ret2
  refine ⟨_, _, rfl, ⟨heap_alloc2_new w _ _, Nat.le_refl _, _, ((mapF_made w Try.prog 3).only (S := fun _ => False) (only_alloc _) (fun h => h)), fun i h => absurd h (by simp), fun k _ => rfl⟩, by simp, Nat.le_refl _, ((Below.refl _ _).alloc (Nat.le_refl _) _).alloc (by simp) _⟩

set_option maxRecDepth 100000 in
set_option maxHeartbeats 1000000 in
theorem newS_no (st win : Int) (w : World) (h : ¬ okSn st win) : Calls Try.prog 22 #[.int .i64 st, .int .i64 win] w (fun e w' => e = .returned (.tuple #[.pointer none, .int .i64 2]) ∧ w = w') := by
  unfold okSn at h
  by_cases h1 : 0 ≤ st
  · by_cases h2 : st ≤ 255
    · by_cases h3 : 1 ≤ win
      · have h4 : ¬ win ≤ 64 := by omega
        have d : decide (win ≤ 64) = false := by simpa using h4
        clear h
        go_enter Try.func22, Try.ntmps22
        go_wp2
        go_ret2
        exact ⟨rfl, rfl⟩
      · have d : decide (1 ≤ win) = false := by simpa using h3
        clear h
        go_enter Try.func22, Try.ntmps22
        go_wp2
        go_ret2
        exact ⟨rfl, rfl⟩
    · have d : decide (st ≤ 255) = false := by simpa using h2
      clear h
      go_enter Try.func22, Try.ntmps22
      go_wp2
      go_ret2
      exact ⟨rfl, rfl⟩
  · have d : decide (0 ≤ st) = false := by simpa using h1
    clear h
    go_enter Try.func22, Try.ntmps22
    go_wp2
    go_ret2
    exact ⟨rfl, rfl⟩

/-- Lists of frames with bytes of the call's own. -/
def FrD (w : World) (base : Nat) (v : Value) (Fs : List Fr) : Prop :=
  ∃ vs : List Value, vs.length = Fs.length ∧ w.ownsRow base 35 3 v Fs.length (frC Fs vs) ∧ ∀ i (h : i < Fs.length) (h' : i < vs.length), Bd w (vs[i]'h') (Fs[i]'h).2.2
theorem frd_nil (w : World) (base : Nat) : FrD w base (.slice none 0 0) [] := ⟨[], rfl, World.ownsRow_nil _ _ _ _, fun i h => by simp at h⟩
theorem types_apart3 : (5 : Nat) ≠ 35 := by decide
theorem frd_below {w w' : World} {base : Nat} {v : Value} {Fs : List Fr} (h : FrD w base v Fs) (hb : Below w.heap.size w w') : FrD w' base v Fs := by
  obtain ⟨vs, h1, h2, h3⟩ := h
  have hO : Only (fun _ => False) w w' := only_below hb
  exact ⟨vs, h1, hO.own h2 (fun _ _ h => h), fun i hi hi' => (h3 i hi hi').only hO (fun _ _ _ _ h => h)⟩
theorem frd_frs {w : World} {base : Nat} {v : Value} {Fs : List Fr} (h : FrD w base v Fs) : FrS w base v Fs := by
  obtain ⟨vs, h1, h2, h3⟩ := h
  refine ⟨vs, h1, h2, fun i hi hi' => ⟨bd_rb (h3 i hi hi'), fun b o n c e hn hrow => ?_⟩⟩
  obtain ⟨_, _, cs, hc⟩ := own_block h2 hrow.symm
  have hu := h3 i hi hi'
  rw [e] at hu
  obtain ⟨_, ⟨hnil, _⟩ | ⟨g, cap, cur, hv, hb, hblk, r⟩⟩ := hu
  · cases hnil
  · injection hv with hv
    injection hv with hv
    injection hv with hv
    subst hv
    rw [hblk] at hc
    injection hc with hc
    injection hc with _ hc
    exact types_apart3 hc
theorem frd_append {w w' : World} {base : Nat} {v v' u : Value} {Fs : List Fr} {vs : List Value} {st sq : Nat} {X : List Nat} (h1 : vs.length = Fs.length) (h2 : w.ownsRow base 35 3 v Fs.length (frC Fs vs)) (h3 : ∀ i (h : i < Fs.length) (h' : i < vs.length), Bd w (vs[i]'h') (Fs[i]'h).2.2)
    (ho : w'.ownsRow base 35 3 v' (Fs.length + 1) (frC Fs vs ++ [.int .i64 (st : Int), .int .i64 (sq : Int), u])) (hg : w.grownBy w' v.ownBlock) (hu : Bd w u X) : FrD w' base v' (Fs ++ [(st, sq, X)]) := by
  have hO : Only (fun k => v.ownBlock = some k) w w' := only_grown hg (fun k e => e)
  have hN := nob_row h2 types_apart3
  refine ⟨vs ++ [u], by simp [h1], ?_, fun i hi hi' => ?_⟩
  · rw [frC_append Fs vs (st, sq, X) u h1, List.length_append]
    exact ho
  · by_cases hlt : i < Fs.length
    · rw [List.getElem_append_left (by omega), List.getElem_append_left hlt]
      exact (h3 i hlt (by omega)).only hO hN
    · have e : i = Fs.length := by simp at hi; omega
      subst e
      have e1 : (vs ++ [u])[Fs.length]'hi' = u := by
        rw [List.getElem_append_right (by omega)]
        simp [h1]
      have e2 : (Fs ++ [(st, sq, X)])[Fs.length]'hi = (st, sq, X) := by
        rw [List.getElem_append_right (by omega)]
        simp
      rw [e1, e2]
      exact hu.only hO hN
theorem infoFr : (Try.prog.info? 35).map (fun i => (i.zero, i.size, i.bytes)) = some (some (.agg #[.int .i64 0, .int .i64 0, .slice none 0 0]), 3, 40) := by kernel_rfl
set_option maxRecDepth 100000 in
/-- append(u, frame) behind the block that the translation lays for the frame. -/
theorem wpList_append_frd {w3 : World} {ops : Array Oper} {rest : List Oper} {o : Oper} {a : Act} {Q : Exit → Act → World → Prop} (hgd : o.guard = none) (s x : Operand)
    (ho : o.op = .call { callee := .builtin .append, args := #[s, x], argTypes := #[63, 63] })
    (base : Nat) (u : Value) (Fs : List Fr) (hs : a.eval s = u) (hv : FrD w3 base u Fs) (S i : Nat) (A : Option Addr) (n c : Nat) (X : List Nat) (hx : a.eval x = .slice (some ⟨w3.heap.size, 0, none⟩) 1 1) (hu : Bd w3 (.slice A n c) X) (hsz : Fs.length + 1 ≤ 1048576) (hbase : base ≤ w3.heap.size)
    (h : ∀ v' w', FrD w' base v' (Fs ++ [(S, i, X)]) → Only (fun k => u.ownBlock = some k) w3 w' → wpList Try.prog ops Q rest (a.put o.dst v') w') :
    wpList Try.prog ops Q (o :: rest) a (w3.alloc (.cells #[.int .i64 (S : Int), .int .i64 (i : Int), .slice A n c] 35)) := by
  obtain ⟨i0, hi0, hz0, hz1, hz2⟩ := info_parts infoFr
  have hb4 : Below w3.heap.size w3 (w3.alloc (.cells #[.int .i64 (S : Int), .int .i64 (i : Int), .slice A n c] 35)) := (Below.refl _ _).alloc (Nat.le_refl _) _
  have hO4 : Only (fun _ => False) w3 (w3.alloc (.cells #[.int .i64 (S : Int), .int .i64 (i : Int), .slice A n c] 35)) := only_below hb4
  obtain ⟨vs, v1, v2, v4⟩ := frd_below hv hb4
  refine wpList_append_own_at _ hgd s x _ ho base 35 i0 _ 3 40 Try.underlying63 hi0 hz0 hz1 hz2 rfl (by decide) u Fs.length _ hs v2 ⟨w3.heap.size, 0, none⟩ 1 1 [.int .i64 (S : Int), .int .i64 (i : Int), .slice A n c] hx rfl (cells3 (heap_alloc_new w3 _)) (by intro u hu; simp at hu; rcases hu with rfl | rfl | rfl <;> rfl) (by unfold maxLen; omega) (by omega) (by simp; omega) ?_
  intro v6 w6 ho hg _ _
  exact h v6 w6 (frd_append v1 v2 v4 ho hg (hu.only hO4 (fun _ _ _ _ h => h))) ((hO4.mono (fun _ _ h => h.elim)).trans (only_grown hg (fun k e => e)))
theorem frd_only_below {w0 w w' : World} {base : Nat} {v : Value} {Fs : List Fr} (hD : FrD w base v Fs) (hO : Only (fun k => v.ownBlock = some k) w w') (hb : Below base w0 w) (hs : base ≤ w.heap.size) : Below base w0 w' := by
  obtain ⟨vs, h1, h2, h3⟩ := hD
  exact hb.trans (hO.below hs (fun k hk => (own_block h2 hk).1))
/-- What is pending. -/
def pF (st a : Nat) (Bs : List (List Nat)) : Nat → List Fr
  | 0 => []
  | j + 1 => pF st a Bs j ++ [(st, a + j, Bs.getD (a + j) [])]
theorem pF_len (st a : Nat) (Bs : List (List Nat)) : ∀ j, (pF st a Bs j).length = j
  | 0 => rfl
  | j + 1 => by simp [pF, pF_len st a Bs j]
def RetFrs (w : World) (Fs : List Fr) (e : Ending) (w' : World) : Prop := ∃ v, e = .returned v ∧ FrD w' w.heap.size v Fs ∧ Below w.heap.size w w'
end Go.Proofs.Ytkakbeiehggkiaa

namespace Go.Proofs.Ytkakbeiehggkiaa
open Go.RowKit Go.Maps
attribute [local go_sem ↓] Go.wp_at_zero Go.wp_at_succ

theorem getD_lt {Bs : List (List Nat)} {i : Nat} (h : i < Bs.length) : Bs.getD i [] = Bs[i] := by simp [List.getD, h]
def PnR (w : World) (S a : Nat) (Bs : List (List Nat)) (fv iv : Value) (wr : World) : Prop :=
  ∃ j : Nat, iv = .int .i64 ((a + j : Nat) : Int) ∧ a + j ≤ Bs.length ∧ Hid (FrD wr w.heap.size fv (pF S a Bs j)) ∧ Below w.heap.size w wr

set_option maxRecDepth 100000 in
set_option maxHeartbeats 2000000 in
theorem pending_any (g mb S a : Nat) (win : Int) (Bs : List (List Nat)) (w : World) (h : Snd w g mb (S : Int) win a Bs) (hw : 1 ≤ win) (hl : Bs.length ≤ 1024) (hX : ∀ (i : Nat) (hi : i < Bs.length), Bs[i].length ≤ 1024) :
    Calls Try.prog 30 #[.pointer (some ⟨g, 0, none⟩)] w (RetFrs w (pF S a Bs (Bs.length - a))) := by
  obtain ⟨c0, c1, c2, c3, c4, cf⟩ := snd_cells h
  have HN := Lib.hid (snone_live g win w c1 (by omega))
  have HS := Lib.hid h
  have HX := Lib.hid hX
  have hal := h.2.1
  have h0 : PnR w S a Bs (.slice none 0 0) (.int .i64 (a : Int)) w := ⟨0, rfl, by omega, frd_nil _ _, Below.refl _ _⟩
  have H0 := Lib.hid h0
  clear h hX h0 cf
  go_enter Try.func30, Try.ntmps30
  go_wp2_with fail
  refine HN.out.mono ?_
  rintro e w1 ⟨rfl, rfl⟩
  go_wp2
  go_loopw [3, 4] (fun fv iv wr => PnR w S a Bs fv iv wr) (fun _ iv _ => Bs.length - (intOf1 iv).toNat)
  case atStart => exact H0.out
  case round =>
    obtain ⟨j, rfl, hj, HF, hb⟩ := hrel
    obtain ⟨d0, d1, d2, d3, d4, df⟩ := snd_cells (snd_below HS.out hb)
    obtain ⟨i, hi⟩ : ∃ i, i = a + j := ⟨_, rfl⟩
    have HI := Lib.hid hi
    rw [← hi] at hj
    rw [← hi]
    clear hi df
    by_cases hlt : i < Bs.length
    · have i1 : (i : Int) < (Bs.length : Int) := by omega
      have HFr := Lib.hid (frame_any g mb (S : Int) win a i Bs wr (snd_below HS.out hb) hlt (by have := HI.out; omega) (by omega) (by have := HX.out i hlt; omega))
      have HB := Lib.hid hb
      have hs0 := hb.size
      clear hb
      go_wp2_with fail
      refine HFr.out.mono ?_
      rintro e w3 ⟨v3, rfl, hv3, b3⟩
      obtain ⟨A3, cc3, e3⟩ := (bd_rb hv3).form
      subst e3
      obtain ⟨X, hXe⟩ : ∃ X, X = Bs[i] := ⟨_, rfl⟩
      rw [← hXe] at hv3 ⊢
      have HF3 := Lib.hid (frd_below HF.out b3)
      have HV3 := Lib.hid hv3
      have HB3 := Lib.hid (And.intro (HB.out.trans (b3.mono hs0)) hXe)
      have hs3 : w.heap.size ≤ w3.heap.size := Nat.le_trans hs0 b3.size
      have hj2 : j ≤ 1024 := by have := HI.out; omega
      clear hXe hv3 b3 d0 d1 d2 d3 d4 c0 c1 c2 c3 c4
      go_wp2_with (at_builtin
                   refine wpList_append_frd rfl (.tmp 19) (.tmp 23) rfl w.heap.size _ _ rfl HF3.out S i A3 X.length cc3 X rfl HV3.out (by rw [pF_len]; omega) hs3 ?_)
      intro v6 w6 hF6 hO6
      have e5 : pF S a Bs (j + 1) = pF S a Bs j ++ [(S, i, X)] := by
        simp only [pF]
        rw [← HI.out, getD_lt hlt, HB3.out.2]
      rw [← e5] at hF6
      have HF6 := Lib.hid hF6
      have HB6 := Lib.hid (frd_only_below HF3.out hO6 HB3.out.1 hs3)
      clear hF6 hO6 e5
      go_wp2
      go_roundw
      case rel => exact ⟨j + 1, by rw [HI.out]; go_num, by have := HI.out; omega, HF6, HB6.out⟩
      case measure => simp [intOf1]; omega
    · have i1 : ¬ (i : Int) < (Bs.length : Int) := by omega
      have HF2 := Lib.hid (show FrD wr w.heap.size u3 (pF S a Bs (Bs.length - a)) from by
        have e : Bs.length - a = j := by have := HI.out; omega
        rw [e]; exact HF.out)
      have HB := Lib.hid hb
      clear hb
      go_wp2
      go_ret
      exact ⟨_, rfl, HF2.out, HB.out⟩

/-- What is given again. -/
def agF (S a : Nat) (Bs : List (List Nat)) (zs : List Int) : Nat → List Fr
  | 0 => []
  | k + 1 => agF S a Bs zs k ++ (if (a : Int) ≤ ith zs k ∧ ith zs k < (Bs.length : Int) then [(S, (ith zs k).toNat, Bs.getD (ith zs k).toNat [])] else [])
theorem agF_len (S a : Nat) (Bs : List (List Nat)) (zs : List Int) : ∀ k, (agF S a Bs zs k).length ≤ k
  | 0 => Nat.le_refl _
  | k + 1 => by
    have := agF_len S a Bs zs k
    simp only [agF, List.length_append]
    split <;> simp <;> omega
def AgR (w : World) (S a n : Nat) (Bs : List (List Nat)) (zs : List Int) (fv iv : Value) (wr : World) : Prop :=
  ∃ k : Nat, iv = .int .i64 (k : Int) ∧ k ≤ n ∧ Hid (FrD wr w.heap.size fv (agF S a Bs zs k)) ∧ Below w.heap.size w wr

set_option maxRecDepth 100000 in
set_option maxHeartbeats 2000000 in
theorem again_any (g mb S a : Nat) (win : Int) (Bs : List (List Nat)) (A : Option Addr) (n c B : Nat) (zs : List Int) (w : World) (h : Snd w g mb (S : Int) win a Bs) (hw : 1 ≤ win) (hl : Bs.length ≤ 1024) (hX : ∀ (i : Nat) (hi : i < Bs.length), Bs[i].length ≤ 1024)
    (hz : IW w B (.slice A n c) zs) (hB : B ≤ w.heap.size) (hn : n ≤ 1024) (hai : AllI zs) :
    Calls Try.prog 32 #[.pointer (some ⟨g, 0, none⟩), .slice A n c] w (RetFrs w (agF S a Bs zs n)) := by
  obtain ⟨c0, c1, c2, c3, c4, cf⟩ := snd_cells h
  have HN := Lib.hid (snone_live g win w c1 (by omega))
  have HS := Lib.hid h
  have HX := Lib.hid hX
  have HZ := Lib.hid (And.intro hz (And.intro hz.len hai))
  have H0 := Lib.hid (show AgR w S a n Bs zs (.slice none 0 0) (.int .i64 0) w from ⟨0, rfl, by omega, frd_nil _ _, Below.refl _ _⟩)
  clear h hX cf hz hai
  go_enter Try.func32, Try.ntmps32
  go_wp2_with fail
  refine HN.out.mono ?_
  rintro e w1 ⟨rfl, rfl⟩
  go_wp2
  go_loopw [5, 14] (fun fv iv wr => AgR w S a n Bs zs fv iv wr) (fun _ iv _ => n - (intOf1 iv).toNat)
  case atStart => exact H0.out
  case round =>
    obtain ⟨k, rfl, hk, HF, hb⟩ := hrel
    have hSn := snd_below HS.out hb
    obtain ⟨d0, d1, d2, d3, d4, df⟩ := snd_cells hSn
    clear df
    by_cases hlt : k < n
    · obtain ⟨bz, oz, rfl, hbz, hcz⟩ := HZ.out.1.at_ (by omega)
      have p0 := (hb.cell (p := ⟨bz, oz + k, none⟩) (by show bz < w.heap.size; omega)).trans (hcz k hlt)
      have hzi := HZ.out.2.2 _ (ith_mem (zs := zs) (j := k) (by rw [← HZ.out.2.1]; exact hlt))
      obtain ⟨z, hzz⟩ : ∃ z, z = ith zs k := ⟨_, rfl⟩
      rw [← hzz] at p0 hzi
      have HZZ := Lib.hid hzz
      have i1 : (0 : Int) ≤ (k : Int) := by omega
      have i2 : (k : Int) < (n : Int) := by omega
      obtain ⟨_, hal, f, hM, hSF⟩ := id hSn
      have hrun := hM.look uI uMB (zeroB wr) (wfI hzi.1 hzi.2)
      have hs0 := hb.size
      clear hcz hzz
      by_cases hin : (a : Int) ≤ z ∧ z < (Bs.length : Int)
      · obtain ⟨i, rfl⟩ : ∃ i : Nat, z = (i : Int) := ⟨z.toNat, by omega⟩
        have hiB : i < Bs.length := by omega
        obtain ⟨v, hfv, hv⟩ := hSF.1 i hiB (by omega)
        rw [hfv] at hrun
        simp only [Option.getD_some, Option.isSome_some] at hrun
        have HFr := Lib.hid (frame_any g mb (S : Int) win a i Bs wr hSn hiB (by omega) (by omega) (by have := HX.out i hiB; omega))
        have e5 : agF S a Bs zs (k + 1) = agF S a Bs zs k ++ [(S, i, Bs[i])] := by
          simp only [agF]
          rw [← HZZ.out, if_pos hin]
          simp [hiB]
        have HE5 := Lib.hid e5
        have HB := Lib.hid hb
        clear hin hv hfv hSn hM hSF hb e5
        go_wp2_with fail
        refine HFr.out.mono ?_
        rintro e w3 ⟨v3, rfl, hv3, b3⟩
        obtain ⟨A3, cc3, e3⟩ := (bd_rb hv3).form
        subst e3
        obtain ⟨X, hXe⟩ : ∃ X, X = Bs[i] := ⟨_, rfl⟩
        rw [← hXe] at hv3 HE5 ⊢
        have HF3 := Lib.hid (frd_below HF.out b3)
        have HV3 := Lib.hid hv3
        have HB3 := Lib.hid (HB.out.trans (b3.mono hs0))
        have hs3 : w.heap.size ≤ w3.heap.size := Nat.le_trans hs0 b3.size
        have hk2 := agF_len S a Bs zs k
        clear hXe hv3 b3 d0 d1 d2 d3 d4 c0 c1 c2 c3 c4 hrun
        go_wp2_with (at_builtin
                     refine wpList_append_frd rfl (.tmp 28) (.tmp 32) rfl w.heap.size _ _ rfl HF3.out S i A3 X.length cc3 X rfl HV3.out (by omega) hs3 ?_)
        intro v6 w6 hF6 hO6
        rw [← HE5.out] at hF6
        have HF6 := Lib.hid hF6
        have HB6 := Lib.hid (frd_only_below HF3.out hO6 HB3.out hs3)
        clear hF6 hO6
        go_wp2
        go_roundw
        case rel => exact ⟨k + 1, by go_num, by omega, HF6, HB6.out⟩
        case measure => simp [intOf1]; omega
      · have hfn : f z = none := hSF.2 z (by omega)
        rw [hfn] at hrun
        simp only [Option.getD_none, Option.isSome_none] at hrun
        have e5 : agF S a Bs zs (k + 1) = agF S a Bs zs k := by
          simp only [agF]
          rw [← HZZ.out, if_neg hin]
          simp
        have HF6 := Lib.hid (show FrD wr w.heap.size u5 (agF S a Bs zs (k + 1)) from by rw [e5]; exact HF.out)
        have HB := Lib.hid hb
        clear hin hfn hSn hM hSF hb e5
        go_wp2
        go_roundw
        case rel => exact ⟨k + 1, by go_num, by omega, HF6, HB.out⟩
        case measure => simp [intOf1]; omega
    · obtain rfl : k = n := by omega
      have HB := Lib.hid hb
      clear hb hSn
      go_wp2
      go_ret
      exact ⟨_, rfl, HF.out, HB.out⟩
end Go.Proofs.Ytkakbeiehggkiaa
