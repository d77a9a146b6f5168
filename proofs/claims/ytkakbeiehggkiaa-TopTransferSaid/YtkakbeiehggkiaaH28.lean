/-
  The program's Carry.
  The document's fault: all of it; its Carry.
-/
import Derived.Test.YtkakbeiehggkiaaH24
import Derived.Laws.OwnMore
import Derived.Test.YtkakbeiehggkiaaH27
namespace Go.Proofs.Ytkakbeiehggkiaa
open Go.RowKit

theorem apart_put : ∀ {ps : List (Value × List Nat)} (_ : ps.Pairwise Apart) (i : Nat) (q : Value × List Nat) (_ : ∀ p ∈ ps, Apart q p), (ps.set i q).Pairwise Apart
  | [], _, _, _, _ => by simp
  | a :: l, h, 0, q, hq => by
    show (q :: l).Pairwise Apart
    exact List.pairwise_cons.2 ⟨fun p hp => hq p (List.mem_cons_of_mem _ hp), (List.pairwise_cons.1 h).2⟩
  | a :: l, h, i + 1, q, hq => by
    show (a :: l.set i q).Pairwise Apart
    refine List.pairwise_cons.2 ⟨fun p hp => ?_, apart_put (List.pairwise_cons.1 h).2 i q (fun p hp => hq p (List.mem_cons_of_mem _ hp))⟩
    rcases List.mem_or_eq_of_mem_set hp with hp | rfl
    · exact (List.pairwise_cons.1 h).1 p hp
    · exact (hq a (List.mem_cons_self ..)).symm

/-- A slice with a block of its own at i. -/
theorem chs_put {w : World} {base g n c : Nat} {ps : List (Value × List Nat)} (h : Chs w base (.slice (some ⟨g, 0, none⟩) n c) ps) (i : Nat) (hi : i < ps.length) (q : Value × List Nat) (hel : El w base q) (hq : ∀ p ∈ ps, Apart q p) :
    Chs (w.setCell ⟨g, i, none⟩ q.1) base (.slice (some ⟨g, 0, none⟩) n c) (ps.set i q) := by
  obtain ⟨⟨g', c', cur, e, hbg, hg, hs, hn, hc, hcur⟩, hels, hap⟩ := h
  injection e with e1 e2 e3
  injection e1 with e1
  injection e1 with e1
  subst e1
  subst e2
  subst e3
  have hO : Only (fun k => k = g) w (w.setCell ⟨g, i, none⟩ q.1) := only_set (S := fun k => k = g) _ rfl
  refine ⟨⟨g, c, cur.setIfInBounds i q.1, by rw [List.length_set], hbg, heap_setCell_same w g i cur _ _ hg, by simp; exact hs, by rw [List.length_set]; exact hn, hc, fun j hj => ?_⟩, fun p hp => ?_, apart_put hap i q hq⟩
  · rw [List.length_set] at hj
    by_cases h1 : j = i
    · subst h1
      rw [Array.getElem?_setIfInBounds_self_of_lt (by omega), List.getElem?_set_self hi]
      rfl
    · rw [Array.getElem?_setIfInBounds_ne (fun e => h1 e.symm), List.getElem?_set_ne (fun e => h1 e.symm), hcur j hj]
  · rcases List.mem_or_eq_of_mem_set hp with hp | rfl
    · exact (hels p hp).only hO (el_not (hels p hp) hg)
    · exact hel.only hO (el_not hel hg)

theorem chs_made {w : World} {g n : Nat} (h : w.ownsRow g 33 1 (.slice (some ⟨g, 0, none⟩) n n) n (madeCells (Value.slice none 0 0).cells (n * 1)).toList) : Chs w g (.slice (some ⟨g, 0, none⟩) n n) (List.replicate n (.slice none 0 0, [])) := by
  have hm : (madeCells (Value.slice none 0 0).cells (n * 1)).toList = List.replicate n (Value.slice none 0 0) := by
    rw [Nat.mul_one]
    exact toList_madeCells_one _ n
  rw [hm] at h
  obtain ⟨_, h2⟩ := h
  rcases h2 with ⟨e, _⟩ | ⟨g', c, cur, e, hb, hg, hn, hc, hs, ht⟩
  · exact absurd e (by simp)
  · injection e with e1 e2 e3
    injection e1 with e1
    injection e1 with e1
    subst e1
    subst e3
    refine ⟨⟨g, n, cur, by simp, hb, hg, by omega, by simp, hc, fun j hj => ?_⟩, fun p hp => ?_, ?_⟩
    · have hj' : j < n := by simpa using hj
      have : (cur.toList.take (n * 1))[j]? = (List.replicate n (Value.slice none 0 0))[j]? := by rw [ht]
      rw [List.getElem?_take, if_pos (by omega), Array.getElem?_toList] at this
      rw [this]
      simp [List.getElem?_replicate, hj']
    · obtain ⟨_, rfl⟩ := List.mem_replicate.1 hp
      exact ⟨World.ownsRow_nil _ _ _ _, fun x hx => by simp at hx, by simp⟩
    · refine List.pairwise_replicate.2 (.inr ?_)
      intro b hb
      simp [Value.ownBlock] at hb

/-- What is read: a list of slices of bytes at A. -/
def InL (w : World) (A : Option Addr) (n : Nat) (Ls : List (List Nat)) : Prop :=
  Ls.length = n ∧ ∀ i (h : i < Ls.length), ∃ b o A' c', A = some ⟨b, o, none⟩ ∧ b < w.heap.size ∧ w.cell? ⟨b, o + i, none⟩ = some (.slice A' (Ls[i]'h).length c') ∧ AllB (Ls[i]'h) ∧ RB w w.heap.size (.slice A' (Ls[i]'h).length c') (Ls[i]'h)

def CarR (w : World) (n : Nat) (Ls : List (List Nat)) (iv : Value) (wr : World) : Prop :=
  ∃ k : Nat, k ≤ n ∧ iv = .int .i64 (k : Int) ∧ Hid (∃ ps, ps.map Prod.snd = Ls.take k ++ List.replicate (n - k) [] ∧ Chs wr w.heap.size (.slice (some ⟨w.heap.size, 0, none⟩) n n) ps ∧ Below w.heap.size w wr)

theorem fill_set (Ls : List (List Nat)) (k n : Nat) (hk : k < Ls.length) (hn : k < n) : (Ls.take k ++ List.replicate (n - k) []).set k (Ls[k]'hk) = Ls.take (k + 1) ++ List.replicate (n - (k + 1)) [] := by
  have h1 : (Ls.take k).length = k := by rw [List.length_take]; omega
  obtain ⟨d, hd⟩ : ∃ d, n - k = d + 1 := ⟨n - k - 1, by omega⟩
  have e : n - (k + 1) = d := by omega
  rw [List.set_append_right _ _ (by omega), h1, Nat.sub_self, hd, List.replicate_succ, List.set_cons_zero, e, List.take_succ_eq_append_getElem hk, List.append_assoc]
  rfl

theorem cap_len (n : Int) (m : Nat) : wi n m ≤ m := by unfold wi; omega
theorem dmg_len (k : Int) (i : Nat) (n : Int) (L : List (List Nat)) (hi : i < L.length) : (dmg k i n L).length ≤ L.length + 1 := by
  have hM : (L.eraseIdx i).length + 1 = L.length := by rw [List.length_eraseIdx_of_lt hi]; omega
  have hw := cap_len n (L.eraseIdx i).length
  unfold dmg
  simp only
  split
  · omega
  split
  · simp; omega
  split
  · simp only [List.length_append, List.length_take, List.length_cons, List.length_drop]; omega
  split
  · split
    · omega
    · simp
  split
  · simp
  · omega
/-- A fault: Kind, At, N. -/
abbrev Ft := Int × Int × Int
def ap (f : Ft) (L : List (List Nat)) : List (List Nat) := if 0 ≤ f.2.1 ∧ f.2.1 < (L.length : Int) then dmg f.1 f.2.1.toNat f.2.2 L else L
theorem ap_len (f : Ft) (L : List (List Nat)) : (ap f L).length ≤ L.length + 1 := by
  unfold ap
  split
  · exact dmg_len _ _ _ _ (by omega)
  · omega
def aps (Fs : List Ft) (L : List (List Nat)) : List (List Nat) := Fs.foldl (fun L f => ap f L) L
theorem aps_len : ∀ (Fs : List Ft) (L : List (List Nat)), (aps Fs L).length ≤ L.length + Fs.length
  | [], L => Nat.le_refl _
  | f :: Fs, L => by
    have h1 := aps_len Fs (ap f L)
    have h2 := ap_len f L
    show (aps Fs (ap f L)).length ≤ _
    simp only [List.length_cons]
    omega
theorem aps_step (Fs : List Ft) (L : List (List Nat)) (k : Nat) (hk : k < Fs.length) : aps (Fs.take (k + 1)) L = ap (Fs[k]'hk) (aps (Fs.take k) L) := by
  unfold aps
  rw [List.take_succ_eq_append_getElem hk, List.foldl_append]
  rfl
/-- What is read: a list of faults at A. -/
def FtL (w : World) (A : Option Addr) (m : Nat) (Fs : List Ft) : Prop :=
  Fs.length = m ∧ ∀ i (h : i < Fs.length), ∃ b o, A = some ⟨b, o, none⟩ ∧ b < w.heap.size ∧ w.cell? ⟨b, o + i * 3, none⟩ = some (.int .i64 (Fs[i]'h).1) ∧ w.cell? ⟨b, o + i * 3 + 1, none⟩ = some (.int .i64 (Fs[i]'h).2.1) ∧ w.cell? ⟨b, o + i * 3 + 2, none⟩ = some (.int .i64 (Fs[i]'h).2.2) ∧ (Fs[i]'h).2.2 ≤ 9223372036854775807

def CarR2 (w : World) (m : Nat) (Ls : List (List Nat)) (Fs : List Ft) (v iv : Value) (wr : World) : Prop :=
  ∃ k : Nat, k ≤ m ∧ iv = .int .i64 (k : Int) ∧ Hid (∃ ps, ps.map Prod.snd = aps (Fs.take k) Ls ∧ Chs wr w.heap.size v ps ∧ Below w.heap.size w wr)

set_option maxRecDepth 100000 in
set_option maxHeartbeats 1000000 in
theorem carry_any {w : World} {A : Option Addr} {n c : Nat} {Ls : List (List Nat)} (h : InL w A n Ls) (hn : n ≤ 64) (hl : ∀ X ∈ Ls, X.length ≤ 2048) (A2 : Option Addr) (m c2 : Nat) (Fs : List Ft) (hf : FtL w A2 m Fs) (hm : m ≤ 24) :
    Calls Try.prog 44 #[.slice A n c, .slice A2 m c2] w (RetDm w w.heap.size (aps Fs Ls)) := by
  obtain ⟨i0, hi0, hz0, hz1, hz2⟩ := info_parts infoL
  have H := Lib.hid h
  have HFt := Lib.hid hf
  clear h hf
  go_enter Try.func44, Try.ntmps44
  go_wp2_with (at_make
               refine wpList_make_full _ rfl (.tmp 11) (.tmp 11) _ rfl w.heap.size 33 i0 _ 1 Try.underlying74 hi0 hz0 hz1 .i64 .i64 _ _ n rfl rfl (by omega) (by omega) (by rw [hz2]; omega) (by unfold maxLen; omega) (Nat.le_refl _) ?_
               intro w1 hown hg1
               have hb1 : Below w.heap.size w w1 := (Below.refl _ _).grown hg1 (Nat.le_refl _) (by simp)
               have hch := chs_made hown
               have HRO := Lib.hid (And.intro hch hb1)
               clear hown hg1 hch hb1)
  go_loopw [15] (fun iv wr => CarR w n Ls iv wr) (fun iv _ => n - (intOf1 iv).toNat)
  case atStart => exact ⟨0, Nat.zero_le _, rfl, Lib.hid ⟨_, by simp, HRO.out.1, HRO.out.2⟩⟩
  case round =>
    obtain ⟨k, hk, rfl, HP⟩ := hrel
    by_cases hlt : k < n
    · obtain ⟨ps, hps, hch, hbw⟩ := HP.out
      have hLn := H.out.1
      have hpl : ps.length = n := by
        have := congrArg List.length hps
        simp at this
        omega
      obtain ⟨b, o, A', c', rfl, hbl, hcb, hB, hR⟩ := H.out.2 k (by omega)
      obtain ⟨X, hX⟩ : ∃ X, X = Ls[k]'(by omega) := ⟨_, rfl⟩
      rw [← hX] at hcb hB hR
      have hcb1 : wr.cell? ⟨b, o + k, none⟩ = some (.slice A' X.length c') := (hbw.cell (p := ⟨b, o + k, none⟩) hbl).trans hcb
      have hX2 : X.length ≤ 2048 := hl X (by rw [hX]; exact List.getElem_mem _)
      have HK := Lib.hid (And.intro hps (And.intro hch (And.intro hbw (And.intro (hR.belowM hbw (Nat.le_refl _)) (And.intro hB (And.intro hX hX2))))))
      have i1 : (k : Int) < (n : Int) := by omega
      have hbs := hbw.size
      clear hps hch hcb hB hR hX hX2 hbw HP HRO
      go_wp2_with (go_at_call 60
                   refine (clone_any X (.slice A' X.length c') w.heap.size _ (by exact HK.out.2.2.2.1) hbs (by have := HK.out.2.2.2.2.2.2; omega)).mono ?_
                   rintro e w2 ⟨v2, rfl, o2, b2⟩
                   obtain ⟨A2', c2', e2⟩ := (rb_of_owns o2).2.form
                   subst e2
                   have hch2 := chs_below HK.out.2.1 b2
                   have hcell2 := chs_at hch2 k (by omega)
                   have hfz2 := chs_thaw hch2
                   have HC := Lib.hid (And.intro o2 (And.intro b2 hch2))
                   clear o2 b2 hch2)
      refine ⟨⟨k + 1, by omega, by go_num, Lib.hid ⟨ps.set k (.slice A2' X.length c2', X), ?_, ?_, ?_⟩⟩, by simp [intOf1]; omega⟩
      · rw [List.map_set, HK.out.1, HK.out.2.2.2.2.2.1]
        exact fill_set Ls k n (by omega) (by omega)
      · refine chs_put HC.out.2.2 k (by omega) (.slice A2' X.length c2', X) ⟨owns_base HC.out.1 (by exact hbs), HK.out.2.2.2.2.1, by have := HK.out.2.2.2.2.2.2; show X.length ≤ _; omega⟩ (fun q hq b h1 h2 => ?_)
        have k1 := (own_block HC.out.1 h1).1
        have k2 := (own_block (HK.out.2.1.els q hq).1 h2).2.1
        omega
      · exact HK.out.2.2.1.trans ((HC.out.2.1.mono (by exact hbs)).trans (Below.setCell (Below.refl w.heap.size w2) (p := ⟨w.heap.size, k, none⟩) (Nat.le_refl _) _))
    · obtain rfl : k = n := by omega
      obtain ⟨ps0, hps0, hch0, hbw0⟩ := HP.out
      rw [List.take_of_length_le (by rw [H.out.1]; omega), Nat.sub_self, List.replicate_zero, List.append_nil] at hps0
      have H0 := Lib.hid (And.intro hps0 (And.intro hch0 hbw0))
      clear hps0 hch0 hbw0 HP HRO
      go_wp2_with fail
      go_loopw [5, 28] (fun v iv w3 => CarR2 w m Ls Fs v iv w3) (fun _ iv _ => m - (intOf1 iv).toNat)
      case atStart => exact ⟨0, Nat.zero_le _, rfl, Lib.hid ⟨ps0, H0.out.1, H0.out.2.1, H0.out.2.2⟩⟩
      case round =>
        obtain ⟨j, hj, rfl, HP⟩ := hrel
        by_cases hlt2 : j < m
        · obtain ⟨ps, hps, hch, hbw⟩ := HP.out
          obtain ⟨g, cc, e1⟩ := chs_form hch
          subst e1
          have hjF : j < Fs.length := by rw [HFt.out.1]; exact hlt2
          obtain ⟨b, o, e2, hbl, d0, d1, d2, hN⟩ := HFt.out.2 j hjF
          subst e2
          obtain ⟨⟨fk, fa, fn⟩, hF⟩ : ∃ f : Ft, f = Fs[j]'hjF := ⟨_, rfl⟩
          rw [← hF] at d0 d1 d2 hN
          simp only at d0 d1 d2 hN
          have c0 := (hbw.cell (p := ⟨b, o + j * 3, none⟩) hbl).trans d0
          have c1 := (hbw.cell (p := ⟨b, o + j * 3 + 1, none⟩) hbl).trans d1
          have c2' := (hbw.cell (p := ⟨b, o + j * 3 + 2, none⟩) hbl).trans d2
          have hlen : ps.length ≤ 100 := by
            have h1 := aps_len (Fs.take j) Ls
            have h2 := congrArg List.length hps
            rw [List.length_map] at h2
            have h3 := H.out.1
            have h4 : (Fs.take j).length ≤ j := by rw [List.length_take]; omega
            omega
          have hbA : Below wr.heap.size wr (wr.alloc (.cells #[.int .i64 fk, .int .i64 fa, .int .i64 fn] 106)) := (Below.refl _ _).alloc (Nat.le_refl _) _
          have hchA := chs_below hch hbA
          have hbB := hbw.trans (hbA.mono hbw.size)
          have hstep : aps (Fs.take (j + 1)) Ls = ap (fk, fa, fn) (ps.map Prod.snd) := by rw [aps_step Fs Ls j hjF, ← hF, hps]
          have HQ := Lib.hid (And.intro hstep (And.intro hchA (And.intro hbB hN)))
          have i1 : (j : Int) < (m : Int) := by omega
          clear hps hch hbw hN d0 d1 d2 HP hF H0 hbA hchA hbB hstep
          by_cases hin : 0 ≤ fa ∧ fa < (ps.length : Int)
          · have HS : Hid (aps (Fs.take (j + 1)) Ls = dmg fk fa.toNat fn (ps.map Prod.snd)) := by
              show _ = _
              rw [HQ.out.1]
              unfold ap
              rw [if_pos (by rw [List.length_map]; exact hin)]
            obtain ⟨hi1, hi2⟩ := hin
            go_wp2_with (go_at_call 67
                         refine (damage_any HQ.out.2.1 HQ.out.2.2.1.size (by omega) fk fa fn HQ.out.2.2.2 fa.toNat (by omega) (by omega)).mono ?_
                         rintro e w5 ⟨qs, hqs, v5, rfl, hc5, hb5⟩
                         have H5 := Lib.hid (And.intro hqs (And.intro hc5 hb5))
                         clear hqs hc5 hb5)
            exact ⟨⟨j + 1, by omega, by go_num, Lib.hid ⟨qs, by rw [HS.out]; exact H5.out.1, H5.out.2.1, HQ.out.2.2.1.trans H5.out.2.2⟩⟩, by simp [intOf1]; omega⟩
          · have HS : Hid (aps (Fs.take (j + 1)) Ls = ps.map Prod.snd) := by
              show _ = _
              rw [HQ.out.1]
              unfold ap
              rw [if_neg (by rw [List.length_map]; exact hin)]
            rcases Int.lt_or_le fa 0 with hneg | hpos
            · have hi1 : ¬ (0 : Int) ≤ fa := by omega
              clear hin
              go_wp2
              exact ⟨⟨j + 1, by omega, by go_num, Lib.hid ⟨ps, HS.out.symm, HQ.out.2.1, HQ.out.2.2.1⟩⟩, by simp [intOf1]; omega⟩
            · have hi2 : (ps.length : Int) ≤ fa := by omega
              clear hin
              go_wp2
              exact ⟨⟨j + 1, by omega, by go_num, Lib.hid ⟨ps, HS.out.symm, HQ.out.2.1, HQ.out.2.2.1⟩⟩, by simp [intOf1]; omega⟩
        · obtain rfl : j = m := by omega
          obtain ⟨ps, hps, hch, hbw⟩ := HP.out
          rw [List.take_of_length_le (by rw [HFt.out.1]; omega)] at hps
          have HQ := Lib.hid (And.intro hps (And.intro hch hbw))
          clear hps hch hbw HP
          go_wp2
          go_ret
          exact ⟨ps, HQ.out.1, _, rfl, HQ.out.2.1, HQ.out.2.2⟩
end Go.Proofs.Ytkakbeiehggkiaa

namespace Go.Proofs.Ytkakbeiehggkiaa
open Go.RowKit

theorem set_erase {α : Type} (L : List α) (i : Nat) (hi : i < L.length) (y : α) : (L.eraseIdx i).take i ++ y :: (L.eraseIdx i).drop i = L.set i y := by
  have h1 : (L.take i).length = i := by rw [List.length_take]; omega
  have e : L.eraseIdx i = L.take i ++ L.drop (i + 1) := List.eraseIdx_eq_take_drop_succ _ _
  rw [e, List.take_append_of_le_length (by omega), List.take_of_length_le (by omega), List.drop_append_of_le_length (by omega), List.drop_of_length_le (by omega), List.nil_append, List.set_eq_take_append_cons_drop, if_pos hi]

theorem RetFd.eq {w : World} {base : Nat} {Ls Ms : List (List Nat)} (h : Ls = Ms) : ∀ e w', RetFd w base Ls e w' → RetFd w base Ms e w' := fun _ _ r => h ▸ r

theorem wi_A {n : Int} {m : Nat} (h : n < 0) : wi n m = 0 := by unfold wi; omega
theorem wi_B {n : Int} {m p : Nat} (h : n = (p : Int)) (hp : p ≤ m) : wi n m = p := by unfold wi; omega
theorem wi_C {n : Int} {m : Nat} (h : (m : Int) ≤ n) : wi n m = m := by unfold wi; omega

theorem dfault_any {w : World} {base : Nat} {v : Value} {ps : List (Value × List Nat)} (h : Dcs w base base v ps) (hb : base ≤ w.heap.size) (hn2 : ps.length ≤ 900) (k fa n : Int) (hn63 : n ≤ 9223372036854775807) :
    Calls Try.prog 68 #[v, .agg #[.int .i64 k, .int .i64 fa, .int .i64 n]] w (RetFd w base (ap (k, fa, n) (ps.map Prod.snd))) := by
  unfold ap
  simp only [List.length_map]
  by_cases hin : 0 ≤ fa ∧ fa < (ps.length : Int)
  · rw [if_pos hin]
    obtain ⟨i, rfl⟩ : ∃ i : Nat, fa = (i : Int) := ⟨fa.toNat, by omega⟩
    have hi : i < ps.length := by omega
    have hX : (ps.map Prod.snd).getD i [] = (ps[i]'hi).2 := by simp [List.getD, hi]
    have hM : (ps.map Prod.snd).eraseIdx i = (ps.eraseIdx i).map Prod.snd := map_erase _ _
    have hMl : (ps.eraseIdx i).length + 1 = ps.length := by rw [List.length_eraseIdx_of_lt hi]; omega
    rw [Int.toNat_natCast]
    unfold dmg
    simp only [hX, hM, List.length_map]
    by_cases h1 : k = 1
    · subst h1
      rw [if_pos rfl]
      exact fault_drop h hb hn2 i hi n
    rw [if_neg h1]
    by_cases h2 : k = 2
    · subst h2
      rw [if_pos rfl]
      exact (fault_double h hb hn2 i hi n).mono (RetFd.eq (by rw [List.map_take, List.map_drop]))
    rw [if_neg h2]
    by_cases h3 : k = 3
    · subst h3
      rw [if_pos rfl]
      rcases Int.lt_or_le n 0 with hn | hn
      · rw [wi_A hn]
        exact (fault_moveA h hb hn2 i hi n 0 rfl ⟨hn, rfl⟩).mono (RetFd.eq (by rw [List.map_take, List.map_drop]))
      · by_cases hc : n < (ps.length : Int)
        · obtain ⟨p, rfl⟩ : ∃ p : Nat, n = (p : Int) := ⟨n.toNat, by omega⟩
          rw [wi_B rfl (by omega)]
          exact (fault_moveB h hb hn2 i hi _ p rfl ⟨rfl, by omega⟩).mono (RetFd.eq (by rw [List.map_take, List.map_drop]))
        · rw [wi_C (by omega)]
          exact (fault_moveC h hb hn2 i hi n (ps.eraseIdx i).length rfl ⟨by omega, hMl⟩).mono (RetFd.eq (by rw [List.map_take, List.map_drop]))
    rw [if_neg h3]
    have hse : ∀ y : List Nat, ((ps.eraseIdx i).take i).map Prod.snd ++ y :: ((ps.eraseIdx i).drop i).map Prod.snd = (ps.map Prod.snd).set i y := fun y => by
      rw [List.map_take, List.map_drop, ← hM]
      exact set_erase _ i (by rw [List.length_map]; exact hi) y
    by_cases h4 : k = 4
    · subst h4
      rw [if_pos rfl]
      by_cases h5 : n < 0 ∨ ((ps[i]'hi).2.length : Int) ≤ n / 8
      · rw [if_pos h5]
        exact fault_noflip h hb i hi n hn63 h5
      · rw [if_neg h5]
        obtain ⟨m, rfl⟩ : ∃ m : Nat, n = (m : Int) := ⟨n.toNat, by omega⟩
        have hm : m / 8 < (ps[i]'hi).2.length := by omega
        have hx : (ps[i]'hi).2[m / 8]? = some ((ps[i]'hi).2.getD (m / 8) 0) := by simp [List.getD, hm]
        rw [Int.toNat_natCast]
        exact (fault_flip h hb hn2 i hi rfl m _ (by omega) hx).mono (RetFd.eq (hse _))
    rw [if_neg h4]
    by_cases h5 : k = 5
    · subst h5
      rw [if_pos rfl]
      rcases Int.lt_or_le n 0 with hn | hn
      · rw [wi_A hn]
        exact (fault_cutA h hb hn2 i hi rfl n _ rfl 0 ⟨hn, rfl⟩).mono (RetFd.eq (hse _))
      · by_cases hc : n ≤ ((ps[i]'hi).2.length : Int)
        · obtain ⟨p, rfl⟩ : ∃ p : Nat, n = (p : Int) := ⟨n.toNat, by omega⟩
          rw [wi_B rfl (by omega)]
          exact (fault_cutB h hb hn2 i hi rfl _ _ rfl p ⟨rfl, by omega⟩).mono (RetFd.eq (hse _))
        · rw [wi_C (by omega)]
          exact (fault_cutC h hb hn2 i hi rfl n _ rfl _ ⟨by omega, rfl⟩).mono (RetFd.eq (hse _))
    rw [if_neg h5]
    exact fault_other h hb i hi k n h1 h2 h3 h4 h5
  · rw [if_neg hin]
    exact fault_out h hb k fa n (by omega)

def DcR (w : World) (n : Nat) (Ls : List (List Nat)) (lv iv : Value) (wr : World) : Prop :=
  ∃ k : Nat, k ≤ n ∧ iv = .int .i64 (k : Int) ∧ Hid (∃ ps, ps.map Prod.snd = Ls.take k ∧ Dcs wr w.heap.size w.heap.size lv ps ∧ Below w.heap.size w wr)
def DcR2 (w : World) (m : Nat) (Ls : List (List Nat)) (Fs : List Ft) (lv iv : Value) (wr : World) : Prop :=
  ∃ k : Nat, k ≤ m ∧ iv = .int .i64 (k : Int) ∧ Hid (∃ ps, ps.map Prod.snd = aps (Fs.take k) Ls ∧ Dcs wr w.heap.size w.heap.size lv ps ∧ Below w.heap.size w wr)

set_option maxRecDepth 100000 in
set_option maxHeartbeats 1000000 in
theorem dcarry_any {w : World} {A : Option Addr} {n c : Nat} {Ls : List (List Nat)} (h : InL w A n Ls) (hn : n ≤ 64) (hl : ∀ X ∈ Ls, X.length ≤ 2048) (A2 : Option Addr) (m c2 : Nat) (Fs : List Ft) (hf : FtL w A2 m Fs) (hm : m ≤ 24) :
    Calls Try.prog 45 #[.slice A n c, .slice A2 m c2] w (RetFd w w.heap.size (aps Fs Ls)) := by
  have H := Lib.hid h
  have HFt := Lib.hid hf
  clear h hf
  go_enter Try.func45, Try.ntmps45
  go_wp2
  go_loopw [5, 10] (fun lv iv wr => DcR w n Ls lv iv wr) (fun _ iv _ => n - (intOf1 iv).toNat)
  case atStart => exact ⟨0, Nat.zero_le _, rfl, Lib.hid ⟨[], by simp, dcs_nil _ _ _, Below.refl _ _⟩⟩
  case round =>
    obtain ⟨k, hk, rfl, HP⟩ := hrel
    by_cases hlt : k < n
    · obtain ⟨ps, hps, hd, hbw⟩ := HP.out
      have hLn := H.out.1
      have hpl : ps.length = k := by
        have := congrArg List.length hps
        rw [List.length_map, List.length_take] at this
        omega
      obtain ⟨b, o, A', c', rfl, hbl, hcb, hB, hR⟩ := H.out.2 k (by omega)
      obtain ⟨X, hX⟩ : ∃ X, X = Ls[k]'(by omega) := ⟨_, rfl⟩
      rw [← hX] at hcb hB hR
      have hcb1 : wr.cell? ⟨b, o + k, none⟩ = some (.slice A' X.length c') := (hbw.cell (p := ⟨b, o + k, none⟩) hbl).trans hcb
      have hX2 : X.length ≤ 2048 := hl X (by rw [hX]; exact List.getElem_mem _)
      have hRw : RB wr wr.heap.size (.slice A' X.length c') X := (hR.belowM hbw (Nat.le_refl _)).more hbw.size
      have hstep : ps.map Prod.snd ++ [X] = Ls.take (k + 1) := by rw [List.take_succ_eq_append_getElem (by omega), hps, hX]
      have HK := Lib.hid (And.intro hstep (And.intro hd (And.intro hbw (And.intro hRw (And.intro hB (And.intro hX2 hpl))))))
      have i1 : (k : Int) < (n : Int) := by omega
      obtain ⟨A0, c0, e0⟩ := dcs_form hd
      subst e0
      clear hps hd hcb hB hR hX hX2 hbw hRw hstep hpl HP
      go_wp2_with (first
        | (go_at_call 59
           refine (joined_1 HK.out.2.2.2.1 (by have := HK.out.2.2.2.2.2.1; omega)).mono ?_
           rintro e w2 ⟨v2, rfl, o2, b2⟩
           obtain ⟨A2', c2', e2⟩ := (rb_of_owns o2).2.form
           subst e2
           have b3 := joined_bel0 b2
           have hel := joined_el0 (base := w.heap.size) HK.out.2.2.1.size o2 (by have := HK.out.2.2.2.2.2.1; omega) HK.out.2.2.2.2.1
           have HJ := Lib.hid (And.intro (dcs_below HK.out.2.1 b3) (And.intro (HK.out.2.2.1.trans (b3.mono HK.out.2.2.1.size)) hel.1))
           clear o2 b2 b3 hel)
        | (at_builtin
           refine wpList_append_dc rfl (.tmp 13) (.tmp 20) rfl w.heap.size w.heap.size _ _ rfl HJ.out.1 (.slice A2' X.length c2', X) HJ.out.2.2 rfl (by have := HK.out.2.2.2.2.2.2; omega) HJ.out.2.1.size ?_
           intro v6 w6 hd hO
           have hb6 := dcs_only HJ.out.1 hO HJ.out.2.1 HJ.out.2.1.size
           have H6 := Lib.hid (And.intro hd hb6)
           clear hd hO hb6))
      exact ⟨⟨k + 1, by omega, by go_num, Lib.hid ⟨_, by rw [List.map_append]; exact HK.out.1, H6.out.1, H6.out.2⟩⟩, by simp [intOf1]; omega⟩
    · obtain rfl : k = n := by omega
      obtain ⟨ps0, hps0, hd0, hbw0⟩ := HP.out
      rw [List.take_of_length_le (by rw [H.out.1]; omega)] at hps0
      have H0 := Lib.hid (And.intro hps0 (And.intro hd0 hbw0))
      clear hps0 hd0 hbw0 HP
      go_wp2_with fail
      go_loopw [5, 25] (fun lv iv w3 => DcR2 w m Ls Fs lv iv w3) (fun _ iv _ => m - (intOf1 iv).toNat)
      case atStart => exact ⟨0, Nat.zero_le _, rfl, Lib.hid ⟨ps0, H0.out.1, H0.out.2.1, H0.out.2.2⟩⟩
      case round =>
        obtain ⟨j, hj, rfl, HP⟩ := hrel
        by_cases hlt2 : j < m
        · obtain ⟨ps, hps, hd, hbw⟩ := HP.out
          obtain ⟨A0, c0', e0⟩ := dcs_form hd
          subst e0
          have hjF : j < Fs.length := by rw [HFt.out.1]; exact hlt2
          obtain ⟨b, o, e2, hbl, d0, d1, d2, hN⟩ := HFt.out.2 j hjF
          subst e2
          obtain ⟨⟨fk, fa, fn⟩, hF⟩ : ∃ f : Ft, f = Fs[j]'hjF := ⟨_, rfl⟩
          rw [← hF] at d0 d1 d2 hN
          simp only at d0 d1 d2 hN
          have c0 := (hbw.cell (p := ⟨b, o + j * 3, none⟩) hbl).trans d0
          have c1 := (hbw.cell (p := ⟨b, o + j * 3 + 1, none⟩) hbl).trans d1
          have c2' := (hbw.cell (p := ⟨b, o + j * 3 + 2, none⟩) hbl).trans d2
          have hlen : ps.length ≤ 100 := by
            have h1 := aps_len (Fs.take j) Ls
            have h2 := congrArg List.length hps
            rw [List.length_map] at h2
            have h3 := H.out.1
            have h4 : (Fs.take j).length ≤ j := by rw [List.length_take]; omega
            omega
          have hstep : aps (Fs.take (j + 1)) Ls = ap (fk, fa, fn) (ps.map Prod.snd) := by rw [aps_step Fs Ls j hjF, ← hF, hps]
          have HQ := Lib.hid (And.intro hstep (And.intro hd (And.intro hbw hN)))
          have i1 : (j : Int) < (m : Int) := by omega
          clear hps hd hbw hN d0 d1 d2 HP hF H0 hstep
          go_wp2_with (go_at_call 68
                       refine (dfault_any HQ.out.2.1 HQ.out.2.2.1.size (by omega) fk fa fn HQ.out.2.2.2).mono ?_
                       rintro e w5 ⟨qs, v5, hqs, rfl, hc5, hb5⟩
                       have H5 := Lib.hid (And.intro hqs (And.intro hc5 hb5))
                       clear hqs hc5 hb5)
          exact ⟨⟨j + 1, by omega, by go_num, Lib.hid ⟨qs, by rw [HQ.out.1]; exact H5.out.1, H5.out.2.1, HQ.out.2.2.1.trans H5.out.2.2⟩⟩, by simp [intOf1]; omega⟩
        · obtain rfl : j = m := by omega
          obtain ⟨ps, hps, hd, hbw⟩ := HP.out
          rw [List.take_of_length_le (by rw [HFt.out.1]; omega)] at hps
          have HQ := Lib.hid (And.intro hps (And.intro hd hbw))
          clear hps hd hbw HP
          go_wp2
          go_ret
          exact ⟨ps, _, HQ.out.1, rfl, HQ.out.2.1, HQ.out.2.2⟩
end Go.Proofs.Ytkakbeiehggkiaa
