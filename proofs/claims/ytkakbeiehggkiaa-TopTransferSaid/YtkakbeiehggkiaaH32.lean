/-
  The program's take: datagrams are scanned, their frames taken.
-/
import Derived.Test.YtkakbeiehggkiaaH30
import Derived.Test.YtkakbeiehggkiaaH31
namespace Go.Proofs.Ytkakbeiehggkiaa
open Go.RowKit Go.Maps
attribute [local go_sem ↓] Go.wp_at_zero Go.wp_at_succ

set_option maxRecDepth 100000 in
/-- append(v, y...) of deliveries. -/
theorem wpList_append_dls2 {w : World} {ops : Array Oper} {rest : List Oper} {o : Oper} {a : Act} {Q : Exit → Act → World → Prop} (hgd : o.guard = none) (s x : Operand)
    (ho : o.op = .call { callee := .builtin .append, args := #[s, x], argTypes := #[38, 38] })
    (base b2 : Nat) (v y : Value) (Ds Es : List Dl) (hs : a.eval s = v) (hv : DlS w base v Ds) (hx : a.eval x = y) (hy : DlS w b2 y Es) (hsz : Ds.length + Es.length ≤ 1048576) (hbase : base ≤ w.heap.size)
    (h : ∀ v' w', DlS w' base v' (Ds ++ Es) → Only (fun k => v.ownBlock = some k) w w' → (v'.ownBlock = v.ownBlock ∨ v'.ownBlock = some w.heap.size) → wpList Try.prog ops Q rest (a.put o.dst v') w') : wpList Try.prog ops Q (o :: rest) a w := by
  obtain ⟨i0, hi0, hz0, hz1, hz2⟩ := info_parts infoD
  obtain ⟨vs, h1, h2, h3⟩ := id hv
  obtain ⟨us, u1, u2, u3⟩ := hy
  obtain ⟨ul, ⟨rfl, u0⟩ | ⟨g, cap, cur, rfl, _, hblk, hle, _, _, ht⟩⟩ := id u2
  · have hE : Es = [] := List.eq_nil_of_length_eq_zero u0
    subst hE
    refine wpList_append_own_none hgd s x _ ho base 85 i0 3 Try.underlying38 hi0 v Ds.length _ hs h2 hx ?_
    exact h v w (by simpa using hv) (Only.refl _ _) (Or.inl rfl)
  · refine wpList_append_own_at w hgd s x _ ho base 85 i0 _ 3 40 Try.underlying38 hi0 hz0 hz1 hz2 rfl (by decide) v Ds.length _ hs h2 ⟨g, 0, none⟩ Es.length cap (dlC Es us) hx (dlC_len Es us u1) (fun j u hj => ?_) (fun u hu => ?_) (by unfold maxLen; omega) (by omega) hbase ?_
    · rw [add_none, Nat.zero_add]
      have hj' : j < (dlC Es us).length := (List.getElem?_eq_some_iff.1 hj).1
      rw [dlC_len Es us u1] at hj'
      exact (u2.cellAt j (by omega)).trans hj
    · obtain ⟨j, hj⟩ := List.mem_iff_getElem?.1 hu
      have hj' : j < (dlC Es us).length := (List.getElem?_eq_some_iff.1 hj).1
      rw [dlC_len Es us u1] at hj'
      obtain ⟨i, hi⟩ : ∃ i, i = j / 3 := ⟨_, rfl⟩
      have hil : i < Es.length := by omega
      obtain ⟨q1, q2, q3⟩ := dlC_get Es us i hil u1
      have hbd := bd_rb (u3 i hil (by omega))
      obtain ⟨A', c', e⟩ := hbd.form
      rw [e] at q2
      have hm : j = i * 3 ∨ j = i * 3 + 1 ∨ j = i * 3 + 2 := by omega
      rcases hm with hm | hm | hm
      · rw [hm, q1] at hj
        exact (Option.some.inj hj) ▸ rfl
      · rw [hm, q2] at hj
        exact (Option.some.inj hj) ▸ rfl
      · rw [hm, q3] at hj
        exact (Option.some.inj hj) ▸ rfl
    · intro v' w' r1 r2 _ r4
      have hO : Only (fun k => v.ownBlock = some k) w w' := only_grown r2 (fun k e => e)
      have hN := nob_row h2 types_apart2
      refine h v' w' ⟨vs ++ us, by simp [h1, u1], ?_, fun i hi hi' => ?_⟩ hO r4
      · rw [dlC_append2 Ds vs Es us h1, List.length_append]
        exact r1
      · by_cases hlt : i < Ds.length
        · rw [List.getElem_append_left (by omega), List.getElem_append_left hlt]
          exact (h3 i hlt (by omega)).only hO hN
        · have hi2 : i < Ds.length + Es.length := by simpa using hi
          rw [List.getElem_append_right (by omega), List.getElem_append_right (by omega)]
          have := (u3 (i - Ds.length) (by omega) (by omega)).only hO hN
          simpa [h1] using this

theorem dls_lt {w : World} {base : Nat} {v : Value} {Ds : List Dl} (h : DlS w base v Ds) : ∀ k, v.ownBlock = some k → k < w.heap.size := by
  obtain ⟨vs, h1, h2, h3⟩ := h
  exact fun k hk => (own_block h2 hk).2.1
/-- How far a receiver and a list of deliveries are, behind frames that were counted. -/
def TkR (w : World) (g mb N0 cnt : Nat) (win : Int) (s : Rp) (ov : Value) (wr : World) : Prop :=
  ∃ N : Nat, Rcv wr g mb N 0 win s.1 s.2.1 ∧ DlS wr w.heap.size ov s.2.2 ∧ GoodR win s ∧ s.2.2.length + N ≤ N0 + cnt ∧ Only (fun k => k = g ∨ k = mb) w wr

theorem tkR_below {w wr wr' : World} {g mb N0 cnt : Nat} {win : Int} {s : Rp} {ov : Value} (h : TkR w g mb N0 cnt win s ov wr) (hb : Below wr.heap.size wr wr') : TkR w g mb N0 cnt win s ov wr' := by
  obtain ⟨N, h1, h2, h3, h4, h5⟩ := h
  exact ⟨N, rcv_below h1 hb, dls_below h2 hb, h3, h4, h5.trans (only_below hb)⟩

theorem tkR_ov {w wr : World} {g mb N0 cnt : Nat} {win : Int} {s : Rp} {ov : Value} (h : TkR w g mb N0 cnt win s ov wr) (hi : Nat) : ∀ k, ov.ownBlock = some k → k < wr.heap.size ∨ hi ≤ k := by
  obtain ⟨_, _, h2, _⟩ := h
  exact fun k hk => .inl (dls_lt h2 k hk)
/-- The blocks from lo to hi are as they were. -/
def Kept (lo hi : Nat) (w1 wv : World) : Prop := hi ≤ wv.heap.size ∧ ∀ k, lo ≤ k → k < hi → wv.heap[k]? = w1.heap[k]?
theorem kept_only {lo hi : Nat} {w1 wv wv' : World} {S : Nat → Prop} (h : Kept lo hi w1 wv) (hO : Only S wv wv') (hS : ∀ k, S k → k < lo ∨ hi ≤ k) : Kept lo hi w1 wv' :=
  ⟨Nat.le_trans h.1 hO.size, fun k h1 h2 => (hO.block k (Nat.lt_of_lt_of_le h2 h.1) (fun e => by have := hS k e; omega)).trans (h.2 k h1 h2)⟩
theorem kept_rb {lo hi B : Nat} {w1 wv : World} {v : Value} {X : List Nat} (h : Kept lo hi w1 wv) (hhi : hi = w1.heap.size) (hr : RB w1 B v X) (hf : Fr0 lo v) : RB wv wv.heap.size v X := by
  obtain ⟨⟨A, c, e, h1, h2, h3⟩, hn⟩ := hr
  refine ⟨⟨A, c, e, h1, h2, fun h0 => ?_⟩, hn⟩
  obtain ⟨b, o, e2, hb, hc⟩ := h3 h0
  have hlt : b < w1.heap.size := World.block_lt_of_cell? _ _ (hc 0 h0)
  have hlo : lo ≤ b := hf b o _ _ (by rw [e, e2])
  have hk := h.2 b hlo (by omega)
  refine ⟨b, o, e2, by have := h.1; omega, fun j hj => ?_⟩
  rw [← hc j hj]
  simp [World.cell?, hk]
theorem frx_form {w : World} {base : Nat} {v : Value} {Fs : List Fr} (h : FrX w base v Fs) : ∃ A c, v = .slice A Fs.length c := frs_form (frx_frs h)
/-- One frame of a list, read where the blocks are as they were. -/
theorem frx_at {w wv : World} {base : Nat} {v : Value} {Fs : List Fr} (h : FrX w base v Fs) (hk : Kept base w.heap.size w wv) (i : Nat) (hi : i < Fs.length) : ∃ g c A' c', v = .slice (some ⟨g, 0, none⟩) Fs.length c ∧ g < wv.heap.size ∧ wv.cell? ⟨g, i * 3, none⟩ = some (.int .i64 ((Fs[i]'hi).1 : Int)) ∧ wv.cell? ⟨g, i * 3 + 1, none⟩ = some (.int .i64 ((Fs[i]'hi).2.1 : Int)) ∧
    wv.cell? ⟨g, i * 3 + 2, none⟩ = some (.slice A' (Fs[i]'hi).2.2.length c') ∧ RB wv wv.heap.size (.slice A' (Fs[i]'hi).2.2.length c') (Fs[i]'hi).2.2 := by
  obtain ⟨vs, h1, h2, h3⟩ := h
  have hv : i < vs.length := by omega
  obtain ⟨q1, q2, q3⟩ := frC_get Fs vs i hi h1
  have hr := (h3 i hi hv).1.1
  obtain ⟨A', c', e⟩ := hr.form
  obtain ⟨_, ⟨e0, h0⟩ | ⟨g, c, cur, e1, hb, hg, _⟩⟩ := id h2
  · omega
  · subst e1
    have hgl := (Array.getElem?_eq_some_iff.1 hg).1
    have hkg := hk.2 g hb hgl
    have hcell : ∀ o, wv.cell? ⟨g, o, none⟩ = w.cell? ⟨g, o, none⟩ := fun o => by simp [World.cell?, hkg]
    refine ⟨g, c, A', c', rfl, by have := hk.1; omega, ?_, ?_, ?_, ?_⟩
    · rw [hcell]; exact (h2.cellAt (i * 3) (by omega)).trans q1
    · rw [hcell]; exact (h2.cellAt (i * 3 + 1) (by omega)).trans q2
    · rw [hcell, ← e]; exact (h2.cellAt (i * 3 + 2) (by omega)).trans q3
    · rw [← e]; exact kept_rb hk rfl hr (h3 i hi hv).2

def TkO (w : World) (g mb N0 : Nat) (win nx : Int) (F : Hf) (Ls : List (List Nat)) (ov iv : Value) (wr : World) : Prop :=
  ∃ k : Nat, k ≤ Ls.length ∧ iv = .int .i64 (k : Int) ∧ Hid (TkR w g mb N0 (fcnt (Ls.take k)) win (tkLs win (nx, F, []) (Ls.take k)) ov wr)
def TkI (w w1 : World) (lo g mb N0 cnt : Nat) (win : Int) (s : Rp) (Fs : List Fr) (ov iv : Value) (wr : World) : Prop :=
  ∃ j : Nat, j ≤ Fs.length ∧ iv = .int .i64 (j : Int) ∧ Hid (TkR w g mb N0 (cnt + j) win (tkFs win s (Fs.take j)) ov wr) ∧ Hid (Kept lo w1.heap.size w1 wr) ∧ Hid (∀ k, ov.ownBlock = some k → k < lo ∨ w1.heap.size ≤ k)

def RetTake (w : World) (g mb N0 : Nat) (win nx : Int) (F : Hf) (Ls : List (List Nat)) (e : Ending) (w' : World) : Prop :=
  ∃ ov, e = .returned ov ∧ TkR w g mb N0 (fcnt Ls) win (tkLs win (nx, F, []) Ls) ov w'

theorem only_app {w w3 w6 : World} {S S' : Nat → Prop} (h : Only S w w3) (h' : Only S' w3 w6) (hn : ∀ k, S' k → w.heap.size ≤ k) : Only S w w6 :=
  ⟨h'.os.trans h.os, h'.tape.trans h.tape, h'.output.trans h.output, Nat.le_trans h.size h'.size, fun k hk hS => (h'.block k (Nat.lt_of_lt_of_le hk h.size) (fun e => by have := hn k e; omega)).trans (h.block k hk hS)⟩
theorem dls_new {w3 : World} {base : Nat} {v : Value} {Ds : List Dl} (h : DlS w3 base v Ds) : ∀ k, v.ownBlock = some k → base ≤ k := by
  obtain ⟨vs, h1, h2, h3⟩ := h
  exact fun k hk => (own_block h2 hk).1
theorem dls_form {w : World} {base : Nat} {v : Value} {Ds : List Dl} (h : DlS w base v Ds) : ∃ A c, v = .slice A Ds.length c := by
  obtain ⟨A, c, e, _⟩ := dls_cells h
  exact ⟨A, c, e⟩

/-- A frame that is refused: what holds behind the append. -/
theorem tkR_no {w wr w3 w6 : World} {g mb N0 cnt : Nat} {win nx : Int} {F : Hf} {D : List Dl} {f : Fr} {ov v6 : Value} (h : TkR w g mb N0 cnt win (nx, F, D) ov wr) (hE : takeE 0 win nx F (f.1 : Int) (f.2.1 : Int) f.2.2.length ≠ 0) (b3 : Below wr.heap.size wr w3)
    (hD : DlS w6 w.heap.size v6 (D ++ [])) (hO : Only (fun k => ov.ownBlock = some k) w3 w6) : TkR w g mb N0 (cnt + 1) win (tkS win (nx, F, D) f) v6 w6 := by
  obtain ⟨N, h1, h2, hG, h4, h5⟩ := tkR_below h b3
  rw [tkS_no hE]
  simp only at h2 h4
  exact ⟨N, app_rcv h2 hO h1, by simpa using hD, hG, by show D.length + N ≤ _; omega, only_app h5 hO (dls_new h2)⟩
/-- A frame that is accepted. -/
theorem tkR_ok {w wr w2 w3 w6 : World} {g mb N0 N N' cnt m : Nat} {win nx : Int} {F : Hf} {D : List Dl} {f : Fr} {ov v6 : Value} (hw : win ≤ 64) (hD0 : DlS w3 w.heap.size ov D) (hG : GoodR win (nx, F, D)) (h4 : D.length + N ≤ N0 + cnt) (h5 : Only (fun k => k = g ∨ k = mb) w wr) (hb2 : Below wr.heap.size wr w2)
    (hE : takeE 0 win nx F (f.1 : Int) (f.2.1 : Int) f.2.2.length = 0) (q1 : ∀ i : Nat, i < m → putH F (f.2.1 : Int) f.2.2 false (nx + i) ≠ none) (q2 : putH F (f.2.1 : Int) f.2.2 false (nx + m) = none) (q3 : (m : Int) ≤ win) (q4 : N' + m = N + 1)
    (q5 : Rcv w3 g mb N' 0 win (nx + m) (cutF (putH F (f.2.1 : Int) f.2.2 false) (nx + m))) (q7 : Only (fun k => k = g ∨ k = mb) w2 w3)
    (hD : DlS w6 w.heap.size v6 (D ++ dsOf (putH F (f.2.1 : Int) f.2.2 false) nx m)) (hO : Only (fun k => ov.ownBlock = some k) w3 w6) : TkR w g mb N0 (cnt + 1) win (tkS win (nx, F, D) f) v6 w6 := by
  rw [tkS_ok hw hE q1 q2 q3]
  refine ⟨N', app_rcv hD0 hO q5, hD, goodR_ok hG hE q1 q2, ?_, only_app ((h5.trans (only_below hb2)).trans q7) hO (dls_new hD0)⟩
  show (D ++ dsOf _ nx m).length + N' ≤ _
  rw [List.length_append, dsOf_len]
  omega

theorem ov_next {lo hi n : Nat} {ov v6 : Value} (h : ∀ k, ov.ownBlock = some k → k < lo ∨ hi ≤ k) (hr : v6.ownBlock = ov.ownBlock ∨ v6.ownBlock = some n) (hn : hi ≤ n) : ∀ k, v6.ownBlock = some k → k < lo ∨ hi ≤ k := by
  intro k hk
  rcases hr with hr | hr
  · exact h k (hr ▸ hk)
  · rw [hr] at hk
    injection hk with hk
    omega

set_option maxRecDepth 100000 in
set_option maxHeartbeats 4000000 in
theorem take_all (g mb N0 : Nat) (win nx : Int) (F : Hf) (Ls : List (List Nat)) (v : Value) (ps : List (Value × List Nat)) (w : World) (h : Rcv w g mb N0 0 win nx F) (hG : GoodR win (nx, F, [])) (hw : 1 ≤ win ∧ win ≤ 64)
    (hd : Dcs w 0 0 v ps) (hps : ps.map Prod.snd = Ls) (hl : Ls.length ≤ 1000) (hX : ∀ L ∈ Ls, L.length ≤ 1048576) (hc : N0 + fcnt Ls ≤ 1048575) :
    Calls Try.prog 72 #[.pointer (some ⟨g, 0, none⟩), v] w (RetTake w g mb N0 win nx F Ls) := by
  have hpl : ps.length = Ls.length := by rw [← hps, List.length_map]
  have H0 := Lib.hid (show TkR w g mb N0 (fcnt (Ls.take 0)) win (tkLs win (nx, F, []) (Ls.take 0)) (.slice none 0 0) w from ⟨N0, by simpa [tkLs] using h, by simpa [tkLs] using dls_nil w w.heap.size, by simpa [tkLs] using hG, by simp [tkLs, fcnt], Only.refl _ _⟩)
  obtain ⟨A, cc, e⟩ := dcs_form hd
  subst e
  obtain ⟨n, hn⟩ : ∃ n, n = Ls.length := ⟨_, rfl⟩
  have HDC := Lib.hid (show ∀ wr, Only (fun k => k = g ∨ k = mb) w wr → Dcs wr 0 0 (.slice A n cc) ps from fun wr hO => by rw [hn, ← hpl]; exact dcs_only' hd hO (rcv_not h (by decide)) (rcv_not h (by decide)))
  rw [hpl, ← hn]
  have HP := Lib.hid (And.intro hps (And.intro hX (And.intro hc (And.intro hl hpl))))
  have HN := Lib.hid hn
  have hgl := (rcv_apart h).2
  have hnb : n ≤ 1000 := by omega
  clear h hG hd hps hl hX hc hpl hn
  go_enter Try.func72, Try.ntmps72
  go_wp2
  go_loopw [5, 17] (fun ov iv wr => TkO w g mb N0 win nx F Ls ov iv wr) (fun _ iv _ => n - (intOf1 iv).toNat)
  case atStart => exact ⟨0, Nat.zero_le _, rfl, H0⟩
  case round =>
    obtain ⟨k, hk, rfl, HT⟩ := hrel
    rw [← HN.out] at hk
    by_cases hkn : k < n
    · have hkL : k < Ls.length := by rw [← HN.out]; exact hkn
      have hkp : k < ps.length := by rw [HP.out.2.2.2.2]; exact hkL
      have hON : Only (fun k => k = g ∨ k = mb) w wr := by obtain ⟨_, _, _, _, _, h5⟩ := HT.out; exact h5
      have hsw := hON.size
      have hdw := HDC.out wr hON
      obtain ⟨gd, cd, ed, hgd, hcell⟩ := dcs_at hdw k hkp
      injection ed with ed1 ed2 ed3
      subst ed1
      have hel := hdw.els _ (List.getElem_mem hkp)
      obtain ⟨_, hrb⟩ := rb_of_owns hel.1
      obtain ⟨A', c', hf⟩ := hrb.form
      obtain ⟨X, hXe⟩ : ∃ X, X = Ls[k]'hkL := ⟨_, rfl⟩
      have hX2 : (ps[k]'hkp).2 = X := by rw [hXe]; simp [← HP.out.1]
      rw [hX2] at hf hrb
      rw [hf] at hcell hrb
      have hXB : AllB X := by rw [← hX2]; exact hel.2.1
      have hXl : X.length ≤ 1048576 := by rw [hXe]; exact HP.out.2.1 _ (List.getElem_mem _)
      have i2 : (k : Int) < (n : Int) := by omega
      have HS := Lib.hid (scx_any X hXB A' X.length c' wr.heap.size hXl wr hrb (Nat.le_refl _))
      have hst1 := tkLs_succ win (nx, F, []) Ls k hkL
      have hst2 := fcnt_succ Ls k hkL
      rw [← hXe] at hst1 hst2
      have HST := Lib.hid (And.intro hst1 hst2)
      clear hel hrb hf hXe hX2 hXB hXl hst1 hst2 ed2 ed3 hON hdw
      go_wp2_with fail
      refine HS.out.mono ?_
      rintro e w1 ⟨fv, rfl, hfs, b1⟩
      obtain ⟨Fs, hFs⟩ : ∃ Fs, Fs = (scanF (X.length + 1) X).1 := ⟨_, rfl⟩
      rw [← hFs] at hfs
      obtain ⟨s0, hs0⟩ : ∃ s0, s0 = tkLs win (nx, F, []) (Ls.take k) := ⟨_, rfl⟩
      obtain ⟨c0, hc0⟩ : ∃ c0, c0 = fcnt (Ls.take k) := ⟨_, rfl⟩
      have HTr := HT.out
      rw [← hs0, ← hc0] at HTr
      have HT1 := Lib.hid (show TkR w g mb N0 (c0 + 0) win (tkFs win s0 (Fs.take 0)) _ w1 from by simpa [tkFs] using tkR_below HTr b1)
      have HO1 := Lib.hid (tkR_ov HTr w1.heap.size)
      have HK1 := Lib.hid (show Kept wr.heap.size w1.heap.size w1 w1 from ⟨Nat.le_refl _, fun _ _ _ => rfl⟩)
      have HF1 := Lib.hid hfs
      obtain ⟨Af, cf, ef⟩ := frx_form hfs
      subst ef
      obtain ⟨nf, hnf⟩ : ∃ nf, nf = Fs.length := ⟨_, rfl⟩
      have hcb : N0 + c0 + nf ≤ 1048575 := by
        have h1 := HST.out.2
        have h2 := fcnt_take Ls (k + 1)
        have h3 := HP.out.2.2.1
        rw [← hc0, ← hFs, ← hnf] at h1
        omega
      have hs1 := b1.size
      have HNF := Lib.hid (And.intro hnf hcb)
      have HSS := Lib.hid (And.intro (show tkLs win (nx, F, []) (Ls.take (k + 1)) = tkFs win s0 Fs by rw [hs0, hFs]; exact HST.out.1) (show fcnt (Ls.take (k + 1)) = c0 + nf by rw [hc0, hnf, hFs]; exact HST.out.2))
      rw [← hnf] at HF1 ⊢
      have hnfb : nf ≤ 1048575 := by omega
      clear hfs b1 hFs hs0 hc0 hnf hcb hcell HTr
      go_wp2_with fail
      obtain ⟨lo, hlo⟩ : ∃ lo, lo = wr.heap.size := ⟨_, rfl⟩
      rw [← hlo] at HO1 HK1 HF1 hs1 hsw
      clear hlo hgd HT HS
      go_loopw [5, 29] (fun ov iv wv => TkI w w1 lo g mb N0 c0 win s0 Fs ov iv wv) (fun _ iv _ => nf - (intOf1 iv).toNat)
      case atStart => exact ⟨0, Nat.zero_le _, rfl, HT1, HK1, HO1⟩
      case round =>
        obtain ⟨j, hj, rfl, HT, HK, HO⟩ := hrel
        rw [← HNF.out.1] at hj
        by_cases hjn : j < nf
        · have hjF : j < Fs.length := by rw [← HNF.out.1]; exact hjn
          have hstep := tkFs_succ win s0 Fs j hjF
          obtain ⟨gf, c2, A2, c2', e2, hgf, p0, p1, p2, hr⟩ := frx_at HF1.out HK.out j hjF
          injection e2 with e3 e4 e5
          subst e3
          clear e4 e5
          obtain ⟨f, hf⟩ : ∃ f, f = Fs[j]'hjF := ⟨_, rfl⟩
          rw [← hf] at p0 p1 p2 hr hstep
          obtain ⟨⟨nx1, F1, D1⟩, hs1'⟩ : ∃ s, s = tkFs win s0 (Fs.take j) := ⟨_, rfl⟩
          obtain ⟨N, h1, h2, hG1, h4, h5⟩ := HT.out
          rw [← hs1'] at h1 h2 hG1 h4 hstep
          simp only at h1 h2 h4
          obtain ⟨fst, sq, Y⟩ := f
          simp only at p0 p1 p2 hr
          obtain ⟨W2, HW2, hw2, HG2, z2⟩ := F0ex wr (fst : Int) (sq : Int) (.slice A2 Y.length c2')
          obtain ⟨ce, hce⟩ : ∃ ce, takeE 0 win nx1 F1 (fst : Int) (sq : Int) Y.length = ce := ⟨_, rfl⟩
          have hN : N ≤ 1048576 := by have := HNF.out.2; omega
          have HTk := Lib.hid (take_any g mb N 0 win nx1 (fst : Int) (sq : Int) F1 Y A2 Y.length c2' wr.heap.size W2 (rcv_below h1 hw2) hG1.1.inW hN ⟨hG1.2.1, hG1.2.2⟩ hw (hr.belowM hw2 (Nat.le_refl _)) hw2.size ce hce)
          have i3 : (j : Int) < (nf : Int) := by omega
          have HI := Lib.hid (And.intro hstep (And.intro hG1 (And.intro h4 (And.intro h5 (And.intro h2 (And.intro hw2 hce))))))
          have HT0 := Lib.hid (show TkR w g mb N0 (c0 + j) win (nx1, F1, D1) _ wr from ⟨N, h1, h2, hG1, h4, h5⟩)
          have hR1 := Lib.hid h1
          obtain ⟨Ao, co, eo⟩ := dls_form h2
          subst eo
          have hsw2 := h5.size
          have hkz := HK.out.1
          clear hf hs1' hstep h1 h2 hG1 h4 h5 hr hw2 hce hN HT
          go_wp2_with fail
          rw [← HW2.out]
          refine HTk.out.mono ?_
          rintro e w3 (⟨hc0, rfl, b3⟩ | ⟨hc0, v5, m, N', rfl, q1, q2, q3, q4, q5, q6, q7⟩)
          · have hb3 := HI.out.2.2.2.2.2.1.trans (b3.mono HI.out.2.2.2.2.2.1.size)
            have HB3 := Lib.hid hb3
            have HD3 := Lib.hid (dls_below HI.out.2.2.2.2.1 hb3)
            have hs3 := hb3.size
            clear b3 hb3
            go_wp2_with (at_builtin
                         refine wpList_append_dls2 rfl (.tmp 39) (.tmp 40) rfl w.heap.size w.heap.size _ _ _ [] rfl HD3.out rfl (dls_nil _ _) (by have := HI.out.2.2.1; have := HNF.out.2; simp; omega) (Nat.le_trans hsw2 hs3) ?_
                         intro v6 w6 hD6 hO6 hr6
                         have H6 := Lib.hid (And.intro hD6 (And.intro hO6 hr6))
                         clear hD6 hO6 hr6)
            have hno := tkR_no (f := (fst, sq, Y)) HT0.out (by show takeE 0 win nx1 F1 (fst : Int) (sq : Int) Y.length ≠ 0; rw [HI.out.2.2.2.2.2.2]; exact hc0) HB3.out H6.out.1 H6.out.2.1
            have hkn6 : Kept lo w1.heap.size w1 w6 := kept_only (kept_only HK.out (only_below (S := fun _ => False) HB3.out) (fun _ h => absurd h id)) H6.out.2.1 HO.out
            have hov6 := ov_next HO.out H6.out.2.2 (Nat.le_trans hkz hs3)
            have HNN := Lib.hid (And.intro hno (And.intro hkn6 hov6))
            clear hno hkn6 hov6
            exact ⟨⟨j + 1, by rw [← HNF.out.1]; omega, by go_num, Lib.hid (by rw [HI.out.1]; exact HNN.out.1), Lib.hid HNN.out.2.1, Lib.hid HNN.out.2.2⟩, by simp [intOf1]; omega⟩
          · subst hc0
            have HQ := Lib.hid (And.intro q1 (And.intro q2 (And.intro q3 (And.intro q4 (And.intro q5 q7)))))
            have hw23 := HI.out.2.2.2.2.2.1
            have hsz : W2.heap.size ≤ w3.heap.size := q7.size
            have HD3 := Lib.hid (dls_rcv (dls_below HI.out.2.2.2.2.1 hw23) q7 (rcv_below hR1.out hw23))
            have HE3 := Lib.hid q6
            obtain ⟨A5, c5, e5⟩ := dls_form q6
            subst e5
            have hml : N' + m = N + 1 := q4
            have hs3 : wr.heap.size ≤ w3.heap.size := Nat.le_trans hw23.size q7.size
            clear q1 q2 q3 q4 q5 q6 q7
            go_wp2_with (at_builtin
                         refine wpList_append_dls2 rfl (.tmp 39) (.tmp 40) rfl w.heap.size W2.heap.size _ _ _ _ rfl HD3.out rfl HE3.out (by have := HI.out.2.2.1; have := HNF.out.2; rw [dsOf_len]; omega) (Nat.le_trans hsw2 hs3) ?_
                         intro v6 w6 hD6 hO6 hr6
                         have H6 := Lib.hid (And.intro hD6 (And.intro hO6 hr6))
                         clear hD6 hO6 hr6)
            have hok := tkR_ok (f := (fst, sq, Y)) hw.2 HD3.out HI.out.2.1 HI.out.2.2.1 HI.out.2.2.2.1 hw23 HI.out.2.2.2.2.2.2 HQ.out.1 HQ.out.2.1 HQ.out.2.2.1 HQ.out.2.2.2.1 HQ.out.2.2.2.2.1 HQ.out.2.2.2.2.2 H6.out.1 H6.out.2.1
            have hkn6 : Kept lo w1.heap.size w1 w6 := kept_only (kept_only (kept_only HK.out (only_below (S := fun _ => False) hw23) (fun _ h => absurd h id)) HQ.out.2.2.2.2.2 (fun k e => .inl (by omega))) H6.out.2.1 HO.out
            have hov6 := ov_next HO.out H6.out.2.2 (Nat.le_trans hkz hs3)
            have HNN := Lib.hid (And.intro hok (And.intro hkn6 hov6))
            clear hok hkn6 hov6
            exact ⟨⟨j + 1, by rw [← HNF.out.1]; omega, by go_num, Lib.hid (by rw [HI.out.1]; exact HNN.out.1), Lib.hid HNN.out.2.1, Lib.hid HNN.out.2.2⟩, by simp [intOf1]; omega⟩
        · obtain rfl : j = nf := by omega
          have hT := HT.out
          rw [HNF.out.1, List.take_length, ← HNF.out.1, ← HSS.out.1, ← HSS.out.2] at hT
          have HTT := Lib.hid hT
          clear hT HT
          go_wp2
          exact ⟨⟨k + 1, by rw [← HN.out]; omega, by go_num, HTT⟩, by simp [intOf1]; omega⟩
    · obtain rfl : k = n := by omega
      have hT := HT.out
      rw [HN.out, List.take_length] at hT
      have HTT := Lib.hid hT
      clear hT HT
      go_wp2
      go_ret
      exact ⟨_, rfl, HTT.out⟩
end Go.Proofs.Ytkakbeiehggkiaa
