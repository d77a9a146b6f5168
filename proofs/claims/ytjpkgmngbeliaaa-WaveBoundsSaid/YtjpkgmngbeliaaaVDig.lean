/-
  Digitize, the program's and the document's; two lists of numbers compared.
-/
import Derived.Test.YtjpkgmngbeliaaaVRow
import Derived.Laws.CopyOwn
import Derived.OwnWalk
namespace Go.Proofs.Ytjpkgmngbeliaaa
open Go.RowKit

theorem ownsRow_heap {w : World} {base : Nat} {e : TypeId} {g n c : Nat} {xs : List Value} (h : w.ownsRow base e 1 (.slice (some ⟨g, 0, none⟩) n c) n xs) (hc : n = c) : w.heap[g]? = some (.cells xs.toArray e (0, 0)) := by
  subst hc
  rcases h.2 with ⟨h1, _⟩ | ⟨g', cap, cur, h1, _, h2, _, _, h3, h4⟩
  · cases h1
  · injection h1 with h1 _ h5
    injection h1 with h1
    injection h1 with h1
    subst h1 h5
    rw [h2, ← h4, List.take_of_length_le (by simp [h3])]
/-- A block holds numbers. -/
def RowI (w : World) (g : Nat) (L : List Int) : Prop := w.heap[g]? = some (.cells (ints L).toArray 3 (0, 0))
section
variable {w w' : World} {g : Nat} {L : List Int}
theorem RowI.cell (h : RowI w g L) {i : Nat} (hi : i < L.length) : w.cell? ⟨g, i, none⟩ = some (.int .i64 (ith L i)) := by
  rw [cell_of_row w g i _ 3 (0, 0) h]
  simp [ints, ith, hi]
theorem RowI.frozen (h : RowI w g L) (i : Nat) : w.frozen? ⟨g, i, none⟩ = false := frozen_of_row _ _ _ _ _ h
theorem RowI.set (h : RowI w g L) (i : Nat) (x : Int) : RowI (w.setCell ⟨g, i, none⟩ (.int .i64 x)) g (L.set i x) := by
  unfold RowI at h ⊢
  rw [heap_setCell_same w g i _ 3 _ h]
  congr 2
  apply Array.toList_inj.1
  simp [ints, List.map_set]
theorem RowI.iw {n : Nat} (h : RowI w g L) (hn : n = L.length) (hm : n ≤ maxLen) : IW w w.heap.size (.slice (some ⟨g, 0, none⟩) n n) L := by
  subst hn
  have hlt : g < w.heap.size := (Array.getElem?_eq_some_iff.1 h).1
  exact IW.mk rfl (Nat.le_refl _) hm (fun _ => ⟨g, 0, rfl, hlt, fun j hj => by rw [Nat.zero_add]; exact h.cell hj⟩)
theorem rowI_made {base n : Nat} (h : w.ownsRow base 3 1 (.slice (some ⟨g, 0, none⟩) n n) n (madeCells (Value.int .i64 0).cells (n * 1)).toList) : RowI w g (List.replicate n 0) := by
  unfold RowI
  rw [ownsRow_heap h rfl, Nat.mul_one]
  congr 2
  apply Array.toList_inj.1
  have e : (Value.int IntKind.i64 0).cells = #[.int .i64 0] := rfl
  rw [e, toList_madeCells_one]
  simp [ints]
end

/-- What Digitize makes of heights. -/
def okH (hs : List Int) : Prop := hs.length ≤ 256 ∧ ∀ x ∈ hs, 0 ≤ x ∧ x ≤ 16383
instance (hs : List Int) : Decidable (okH hs) := by unfold okH; infer_instance
def digL (hs : List Int) : List Int := hs.map (· / 16)
theorem ith_dig {hs : List Int} {j : Nat} (h : j < hs.length) : ith (digL hs) j = ith hs j / 16 := by
  simp [ith, digL, h]
theorem not_okH {hs : List Int} {j : Nat} (hj : j < hs.length) (h : ¬ (0 ≤ ith hs j ∧ ith hs j ≤ 16383)) : ¬ okH hs := fun hk => h (hk.2 _ (ith_mem hj))
theorem okH_of {hs : List Int} (hl : hs.length ≤ 256) (h : ∀ j, j < hs.length → 0 ≤ ith hs j ∧ ith hs j ≤ 16383) : okH hs := by
  refine ⟨hl, fun x hx => ?_⟩
  obtain ⟨j, hj, rfl⟩ := List.getElem_of_mem hx
  rw [← ith_lt hj]
  exact h j hj

def RetL (w : World) (L : List Int) (c : Int) (e : Ending) (w' : World) : Prop :=
  ∃ v, e = .returned (.tuple #[v, .int .i64 c]) ∧ IW w' w'.heap.size v L ∧ Below w.heap.size w w'
/-- The result of Digitize. -/
def digR (hs : List Int) : List Int := if okH hs then digL hs else []
def digE (hs : List Int) : Int := if okH hs then 0 else 2

theorem info_int' : (Try.prog.info? 3).map (fun i => (i.zero, i.size, i.bytes)) = some (some (.int .i64 0), 1, 8) := by kernel_rfl

def DigRel (hs : List Int) (w : World) (iv : Value) (wr : World) : Prop :=
  ∃ k : Nat, iv = .int .i64 (k : Int) ∧ k ≤ hs.length ∧ Hid (∃ T, RowI wr w.heap.size T ∧ T.length = hs.length ∧ (∀ j, j < k → ith T j = ith hs j / 16) ∧ ∀ j, j < k → 0 ≤ ith hs j ∧ ith hs j ≤ 16383) ∧ Below w.heap.size w wr

theorem ith_set {T : List Int} {i j : Nat} {x : Int} (h : i < T.length) : ith (T.set i x) j = if j = i then x else ith T j := by
  unfold ith
  rw [List.getD_eq_getElem?_getD, List.getD_eq_getElem?_getD, List.getElem?_set]
  by_cases e : j = i
  · subst e; simp [h]
  · have : ¬ i = j := fun h => e h.symm
    simp [this, e]

set_option maxRecDepth 100000 in
set_option maxHeartbeats 1000000 in
theorem digitize_any (hs : List Int) (hI : AllI hs) (A : Option Addr) (n c : Nat) (hn : n ≤ 1000) (w : World) (hx : IW w w.heap.size (.slice A n c) hs) :
    Calls Try.prog 17 #[.slice A n c] w (RetL w (digR hs) (digE hs)) := by
  obtain ⟨i0, hi0, hz0, hz1, hz2⟩ := info_parts info_int'
  have hl := Lib.hid hx.len
  have HX := Lib.hid (And.intro hx hI)
  clear hx hI
  by_cases h256 : 256 < n
  · have hno : ¬ okH hs := fun h => by have := h.1; have := hl.out; omega
    unfold digR digE
    rw [if_neg hno, if_neg hno]
    clear hno
    go_enter Try.func17, Try.ntmps17
    go_wp2
    go_ret2
    exact ⟨_, rfl, IW.nil_, Below.refl _ _⟩
  · go_enter Try.func17, Try.ntmps17
    go_wp2_with (at_make
                 refine wpList_make_full _ rfl (.tmp 11) (.tmp 11) _ rfl w.heap.size 3 i0 _ 1 Try.underlying32 hi0 hz0 hz1 .i64 .i64 _ _ n rfl rfl (by omega) (by omega) (by rw [hz2]; omega) (by unfold maxLen; omega) (Nat.le_refl _) ?_
                 intro w1 hown hg1
                 have hb1 : Below w.heap.size w w1 := (Below.refl _ _).grown hg1 (Nat.le_refl _) (by simp)
                 have hrow := rowI_made hown
                 have HR := Lib.hid (And.intro hrow hb1)
                 clear hown hg1 hrow hb1)
    go_loopw [15] (fun iv wr => DigRel hs w iv wr) (fun iv _ => n - (intOf iv).toNat)
    case atStart => exact ⟨0, rfl, Nat.zero_le _, Lib.hid ⟨_, HR.out.1, by rw [List.length_replicate]; exact hl.out, fun j hj => absurd hj (by omega), fun j hj => absurd hj (by omega)⟩, HR.out.2⟩
    case round =>
      obtain ⟨k, rfl, hkz, hT, hbw⟩ := hrel
      have hkn : k ≤ n := by rw [hl.out]; exact hkz
      by_cases hlt : k < n
      · obtain ⟨b, o, rfl, hb, hc⟩ := HX.out.1.at_ (by omega)
        have hck := (hbw.cell (p := ⟨b, o + k, none⟩) hb).trans (hc k hlt)
        obtain ⟨x, hx⟩ : ∃ x, ith hs k = x := ⟨_, rfl⟩
        have hxI := HX.out.2 _ (ith_mem (zs := hs) (j := k) (by have := hl.out; omega))
        rw [hx] at hck hxI
        have HXK := Lib.hid (And.intro hx hbw)
        have hbs := hbw.size
        clear hx hbw hc
        by_cases h0 : x < 0
        · have hno : ¬ okH hs := not_okH (j := k) (by have := hl.out; omega) (by rw [HXK.out.1]; omega)
          have HN := Lib.hid hno
          clear hno
          go_wp2_with fail
          go_ret2
          refine ⟨.slice none 0 0, ?_, ?_, HXK.out.2⟩
          · unfold digE; rw [if_neg HN.out]; rfl
          · unfold digR; rw [if_neg HN.out]; exact IW.nil_
        · have hq : 0 ≤ x / 16 := by omega
          by_cases h1 : x ≤ 16383
          · have hV := validSample_yes (x / 16) (by omega) wr
            obtain ⟨T, t1, t2, t3, t4⟩ := hT.out
            have tl : k < T.length := by rw [t2, ← hl.out]; exact hlt
            have m0 := t1.cell tl
            have mf := t1.frozen
            have HT := Lib.hid (And.intro (t1.set k (x / 16)) (And.intro t2 (And.intro t3 (And.intro t4 tl))))
            clear t1 t2 t3 t4 tl hT
            go_wp2_with (go_at_call 42; refine hV.mono ?_; rintro e w' ⟨rfl, rfl⟩)
            go_roundw
            case rel =>
              refine ⟨k + 1, by simp, by have := hl.out; omega, Lib.hid ⟨_, HT.out.1, ?_, ?_, ?_⟩, HXK.out.2.setCell (p := ⟨w.heap.size, k, none⟩) (Nat.le_refl _) _⟩
              · rw [List.length_set]; exact HT.out.2.1
              · intro j hj
                rw [ith_set HT.out.2.2.2.2]
                by_cases e : j = k
                · subst e; rw [if_pos rfl, HXK.out.1]
                · rw [if_neg e]; exact HT.out.2.2.1 j (by omega)
              · intro j hj
                by_cases e : j = k
                · subst e; rw [HXK.out.1]; omega
                · exact HT.out.2.2.2.1 j (by omega)
            case measure => simp [intOf]; omega
          · have hV := validSample_no (x / 16) (by omega) wr
            have hno : ¬ okH hs := not_okH (j := k) (by have := hl.out; omega) (by rw [HXK.out.1]; omega)
            have HN := Lib.hid hno
            clear hno
            go_wp2_with (go_at_call 42; refine hV.mono ?_; rintro e w' ⟨rfl, rfl⟩)
            go_ret2
            refine ⟨.slice none 0 0, ?_, ?_, HXK.out.2⟩
            · unfold digE; rw [if_neg HN.out]; rfl
            · unfold digR; rw [if_neg HN.out]; exact IW.nil_
      · obtain rfl : k = n := by omega
        obtain ⟨T, t1, t2, t3, t4⟩ := hT.out
        have hok : okH hs := okH_of (by have := hl.out; omega) (by rw [← hl.out]; exact t4)
        have hTe : T = digL hs := by
          apply List.ext_getElem
          · rw [t2]; simp [digL]
          · intro i h1 h2
            have := t3 i (by have := hl.out; omega)
            rw [ith_lt h1] at this
            rw [this, ← ith_lt h2, ith_dig (by omega)]
        have HF := Lib.hid (And.intro hok (And.intro (hTe ▸ t1) hbw))
        clear hok hTe t1 t2 t3 t4 hT hbw
        go_wp2
        go_ret2
        refine ⟨.slice (some ⟨w.heap.size, 0, none⟩) k k, ?_, ?_, HF.out.2.2⟩
        · unfold digE; rw [if_pos HF.out.1]; rfl
        · unfold digR; rw [if_pos HF.out.1]
          exact HF.out.2.1.iw (by rw [hl.out]; simp [digL]) (by unfold maxLen; omega)

set_option maxRecDepth 100000 in
set_option maxHeartbeats 1000000 in
/-- The document's. -/
theorem refDigitize_any (hs : List Int) (hI : AllI hs) (A : Option Addr) (n c : Nat) (hn : n ≤ 1000) (B : Nat) (w : World) (hx : IW w B (.slice A n c) hs) (hB : B ≤ w.heap.size) :
    Calls Try.prog 18 #[.slice A n c] w (RetL w (digR hs) (digE hs)) := by
  obtain ⟨i0, hi0, hz0, hz1, hz2⟩ := info_parts info_int'
  have hl := Lib.hid hx.len
  have HX := Lib.hid (And.intro hx hI)
  clear hx hI
  by_cases h256 : 256 < n
  · have hno : ¬ okH hs := fun h => by have := h.1; have := hl.out; omega
    unfold digR digE
    rw [if_neg hno, if_neg hno]
    clear hno
    go_enter Try.func18, Try.ntmps18
    go_wp2
    go_ret2
    exact ⟨_, rfl, IW.nil_, Below.refl _ _⟩
  · go_enter Try.func18, Try.ntmps18
    go_wp2
    go_loopw [4, 5] (fun rv iv wr => ∃ k : Nat, iv = .int .i64 (k : Int) ∧ k ≤ hs.length ∧ Hid (SL (fun x : Int => [x]) 1 3 wr w.heap.size rv ((digL hs).take k) ∧ ∀ j, j < k → 0 ≤ ith hs j ∧ ith hs j ≤ 16383) ∧ Below w.heap.size w wr) (fun _ iv _ => n - (intOf iv).toNat)
    case atStart => exact ⟨0, rfl, Nat.zero_le _, Lib.hid ⟨SL.nil_ _ _ _ _ _, fun j hj => absurd hj (by omega)⟩, Below.refl _ _⟩
    case round =>
      obtain ⟨k, rfl, hkz, hT, hbw⟩ := hrel
      have hkn : k ≤ n := by rw [hl.out]; exact hkz
      by_cases hlt : k < n
      · obtain ⟨b, o, rfl, hb, hc⟩ := HX.out.1.at_ (by omega)
        have hck := (hbw.cell (p := ⟨b, o + k, none⟩) (by show b < w.heap.size; omega)).trans (hc k hlt)
        obtain ⟨x, hx⟩ : ∃ x, ith hs k = x := ⟨_, rfl⟩
        have hxI := HX.out.2 _ (ith_mem (zs := hs) (j := k) (by have := hl.out; omega))
        rw [hx] at hck hxI
        have HXK := Lib.hid (And.intro hx hbw)
        have hbs := hbw.size
        clear hx hbw hc
        by_cases h01 : 0 ≤ x ∧ x ≤ 16383
        · obtain ⟨h0, h1⟩ := h01
          have hS := hT.out.1
          have hlen : ((digL hs).take k).length = k := by rw [List.length_take]; simp [digL]; omega
          have hF : ints (((digL hs).take k).flatMap fun x : Int => [x]) = ints (((digL hs).take k).flatMap fun x : Int => [x]) := rfl
          have hown : wr.ownsRow w.heap.size 3 1 u4 ((digL hs).take k).length (ints (((digL hs).take k).flatMap fun x : Int => [x])) := hS
          rw [hlen] at hown
          obtain ⟨F, hF⟩ : ∃ F, ints (((digL hs).take k).flatMap fun x : Int => [x]) = F := ⟨_, rfl⟩
          rw [hF] at hown
          have hcell : ∀ j u, [Value.int .i64 (x / 16)][j]? = some u → (wr.alloc (.cells #[.int .i64 (x / 16)] 3)).cell? ((⟨wr.heap.size, 0, none⟩ : Addr).add j) = some u := fun j u hj => laid_cells wr 3 [x / 16] j u hj
          have HC := Lib.hid hcell
          have hnx : (digL hs).take (k + 1) = (digL hs).take k ++ [x / 16] := by
            rw [List.take_add_one]
            have : (digL hs)[k]? = some (x / 16) := by
              have h2 : k < (digL hs).length := by simp [digL]; have := hl.out; omega
              rw [List.getElem?_eq_getElem h2, ← ith_lt h2, ith_dig (by have := hl.out; omega), HXK.out.1]
            rw [this]; rfl
          have HS := Lib.hid (And.intro hS (And.intro (And.intro hlen hF) (And.intro hnx hT.out.2)))
          clear hS hlen hF hcell hnx hT
          go_wp2_with (at_builtin
                       refine wpList_append_own_at _ rfl (.tmp 27) (.tmp 33) _ rfl w.heap.size 3 i0 _ 1 8 Try.underlying32 hi0 hz0 hz1 hz2 rfl (by decide) _ k _ rfl (hown.alloc _) ⟨wr.heap.size, 0, none⟩ 1 1 [.int .i64 (x / 16)] rfl rfl HC.out (by intro u hu; simp at hu; subst hu; rfl) (by unfold maxLen; omega) (by omega) (by simp; omega) ?_)
          intro v' w1 ho hg _ _
          have HG := Lib.hid (SL.grows (a := x / 16) HS.out.1 HXK.out.2 (Nat.le_refl _) (Nat.le_refl _) _ HS.out.2.1 rfl ho hg)
          clear ho hg hown
          go_wp2
          go_roundw
          case rel =>
            refine ⟨k + 1, by simp, by have := hl.out; omega, Lib.hid ⟨by rw [HS.out.2.2.1]; exact HG.out.1, fun j hj => ?_⟩, HG.out.2⟩
            by_cases e : j = k
            · subst e; rw [HXK.out.1]; omega
            · exact HS.out.2.2.2 j (by omega)
          case measure => simp [intOf]; omega
        · have hno : ¬ okH hs := not_okH (j := k) (by have := hl.out; omega) (by rw [HXK.out.1]; exact h01)
          have HN := Lib.hid hno
          clear hno
          by_cases h0 : x < 0
          · go_wp2_with fail
            go_ret2
            refine ⟨.slice none 0 0, ?_, ?_, HXK.out.2⟩
            · unfold digE; rw [if_neg HN.out]; rfl
            · unfold digR; rw [if_neg HN.out]; exact IW.nil_
          · have h1 : 16383 < x := by omega
            clear h01
            go_wp2_with fail
            go_ret2
            refine ⟨.slice none 0 0, ?_, ?_, HXK.out.2⟩
            · unfold digE; rw [if_neg HN.out]; rfl
            · unfold digR; rw [if_neg HN.out]; exact IW.nil_
      · obtain rfl : k = n := by omega
        have hok : okH hs := okH_of (by have := hl.out; omega) (by rw [← hl.out]; exact hT.out.2)
        have hS := hT.out.1
        have hall : (digL hs).take k = digL hs := List.take_of_length_le (by simp [digL]; have := hl.out; omega)
        rw [hall] at hS
        have hiw : IW wr wr.heap.size u4 (digL hs) := by
          rcases hS.form with ⟨h1, h2⟩ | ⟨g, c', h1, h2, h3, h4, h5⟩
          · rw [h1, h2]; exact IW.nil_
          · have hS' := hS
            rw [h1] at hS' ⊢
            refine IW.mk rfl h4 h5 (fun _ => ⟨g, 0, rfl, h3, fun j hj => ?_⟩)
            have := SL.cell (enc := fun x : Int => [x]) (k := 1) (fun _ => rfl) hS' hj (j := 0) (by omega)
            rw [Nat.zero_add]
            rw [Nat.mul_one, Nat.add_zero] at this
            rw [this, ith_lt hj]
            rfl
        have HF := Lib.hid (And.intro hok (And.intro hiw hbw))
        clear hok hiw hS hall hT hbw
        go_wp2
        go_ret2
        refine ⟨u4, ?_, ?_, HF.out.2.2⟩
        · unfold digE; rw [if_pos HF.out.1]; rfl
        · unfold digR; rw [if_pos HF.out.1]
          exact HF.out.2.1
end Go.Proofs.Ytjpkgmngbeliaaa
