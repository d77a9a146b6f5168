/-
  The finder: begin and end.
-/
import Derived.Test.YtndgpgciccgapaaVRow
import Derived.OneCell
import Derived.Deep.MidRow
import Derived.Laws.EntriesVeiled
import Derived.Deep.RegionLaw
import Derived.Deep.RegionHeldLaw
import Derived.Deep.AppendLies
namespace Go.Proofs.Ytndgpgciccgapaa
open Go.RowKit

structure Eo where
  fr : Nat
  to : Nat
  pk : Nat
  lv : Int
  tp : Int
deriving DecidableEq
def eoE (e : Eo) : List Int := [(e.fr : Int), (e.to : Int), (e.pk : Int), e.lv, e.tp]
theorem eoE_len (e : Eo) : (eoE e).length = 5 := rfl

/-- What the finder's block holds. -/
def fdC (sv : Value) (drop : Int) (st : Value) (e : Eo) (va : Nat) (fv : Value) : Array Value :=
  #[sv, .int .i64 drop, st, .int .i64 (e.fr : Int), .int .i64 (e.to : Int), .int .i64 (e.pk : Int), .int .i64 e.lv, .int .i64 e.tp, .int .i64 (va : Int), fv]
def FdW (w : World) (gb : Nat) (sv : Value) (drop : Int) (st : Value) (e : Eo) (va : Nat) (fv : Value) (R : List Eo) : Prop :=
  w.heap[gb]? = some (.cells (fdC sv drop st e va fv) 154 (0, 0)) ∧ SL eoE 5 123 w (gb + 1) fv R
section
variable {w w' : World} {gb : Nat} {sv st fv : Value} {drop : Int} {e : Eo} {va : Nat} {R : List Eo}
theorem FdW.lt (h : FdW w gb sv drop st e va fv R) : gb < w.heap.size := (Array.getElem?_eq_some_iff.1 h.1).1
theorem FdW.cells (h : FdW w gb sv drop st e va fv R) : w.cell? ⟨gb, 0, none⟩ = some sv ∧ w.cell? ⟨gb, 1, none⟩ = some (.int .i64 drop) ∧ w.cell? ⟨gb, 2, none⟩ = some st ∧ w.cell? ⟨gb, 3, none⟩ = some (.int .i64 (e.fr : Int)) ∧ w.cell? ⟨gb, 4, none⟩ = some (.int .i64 (e.to : Int)) ∧ w.cell? ⟨gb, 5, none⟩ = some (.int .i64 (e.pk : Int)) ∧ w.cell? ⟨gb, 6, none⟩ = some (.int .i64 e.lv) ∧ w.cell? ⟨gb, 7, none⟩ = some (.int .i64 e.tp) ∧ w.cell? ⟨gb, 8, none⟩ = some (.int .i64 (va : Int)) ∧ w.cell? ⟨gb, 9, none⟩ = some fv ∧ ∀ j, w.frozen? ⟨gb, j, none⟩ = false := by
  have h1 := h.1
  refine ⟨?_, ?_, ?_, ?_, ?_, ?_, ?_, ?_, ?_, ?_, fun j => frozen_of_row _ _ _ _ _ h1⟩ <;> exact cell_of_row _ _ _ _ _ _ h1
theorem FdW.far (h : FdW w gb sv drop st e va fv R) (j : Nat) (u : Value) : SL eoE 5 123 (w.setCell ⟨gb, j, none⟩ u) (gb + 1) fv R :=
  ownsRow_setCell_other h.2 (fun hb => by have := (h.2.lt gb hb).1; omega) u
theorem FdW.below (h : FdW w gb sv drop st e va fv R) (hb : Below w.heap.size w w') : FdW w' gb sv drop st e va fv R := ⟨(hb.block gb h.lt).trans h.1, h.2.below hb⟩
theorem FdW.drew (h : FdW w gb sv drop st e va fv R) : FdW w.drew gb sv drop st e va fv R := h
theorem FdW.setSt (h : FdW w gb sv drop st e va fv R) (u : Value) : FdW (w.setCell ⟨gb, 2, none⟩ u) gb sv drop u e va fv R := ⟨heap_setCell_same w gb 2 _ _ u h.1, h.far _ _⟩
theorem FdW.setFr (h : FdW w gb sv drop st e va fv R) (x : Nat) : FdW (w.setCell ⟨gb, 3, none⟩ (.int .i64 (x : Int))) gb sv drop st ⟨x, e.to, e.pk, e.lv, e.tp⟩ va fv R := ⟨heap_setCell_same w gb 3 _ _ _ h.1, h.far _ _⟩
theorem FdW.setTo (h : FdW w gb sv drop st e va fv R) (x : Nat) : FdW (w.setCell ⟨gb, 4, none⟩ (.int .i64 (x : Int))) gb sv drop st ⟨e.fr, x, e.pk, e.lv, e.tp⟩ va fv R := ⟨heap_setCell_same w gb 4 _ _ _ h.1, h.far _ _⟩
theorem FdW.setPk (h : FdW w gb sv drop st e va fv R) (x : Nat) : FdW (w.setCell ⟨gb, 5, none⟩ (.int .i64 (x : Int))) gb sv drop st ⟨e.fr, e.to, x, e.lv, e.tp⟩ va fv R := ⟨heap_setCell_same w gb 5 _ _ _ h.1, h.far _ _⟩
theorem FdW.setLv (h : FdW w gb sv drop st e va fv R) (x : Int) : FdW (w.setCell ⟨gb, 6, none⟩ (.int .i64 x)) gb sv drop st ⟨e.fr, e.to, e.pk, x, e.tp⟩ va fv R := ⟨heap_setCell_same w gb 6 _ _ _ h.1, h.far _ _⟩
theorem FdW.setTp (h : FdW w gb sv drop st e va fv R) (x : Int) : FdW (w.setCell ⟨gb, 7, none⟩ (.int .i64 x)) gb sv drop st ⟨e.fr, e.to, e.pk, e.lv, x⟩ va fv R := ⟨heap_setCell_same w gb 7 _ _ _ h.1, h.far _ _⟩
theorem FdW.setVa (h : FdW w gb sv drop st e va fv R) (x : Nat) : FdW (w.setCell ⟨gb, 8, none⟩ (.int .i64 (x : Int))) gb sv drop st e x fv R := ⟨heap_setCell_same w gb 8 _ _ _ h.1, h.far _ _⟩
end

/-- Blocks that are neither a finder's nor a list of echoes stay as they are. -/
def Kept (w w' : World) : Prop := ∀ (k : Nat) (cs : Array Value) (t : TypeId) (fz : Nat × Nat), w.heap[k]? = some (.cells cs t fz) → t ≠ 154 → t ≠ 123 → w'.heap[k]? = some (.cells cs t fz)
def Fr (gb : Nat) (w w' : World) : Prop := Below gb w w' ∧ Kept w w'
section
variable {w w' w1 w2 : World} {gb : Nat} {sv st fv : Value} {drop : Int} {e : Eo} {va : Nat} {R : List Eo}
theorem Fr.refl (gb : Nat) (w : World) : Fr gb w w := ⟨Below.refl _ _, fun _ _ _ _ h _ _ => h⟩
theorem Fr.trans (h : Fr gb w w1) (h' : Fr gb w1 w2) : Fr gb w w2 := ⟨h.1.trans h'.1, fun k cs t fz h1 h2 h3 => h'.2 k cs t fz (h.2 k cs t fz h1 h2 h3) h2 h3⟩
theorem Fr.drew (h : Fr gb w w1) : Fr gb w w1.drew := ⟨h.1.drew, h.2⟩
theorem Fr.alloc (h : Fr gb w w1) (hg : gb ≤ w1.heap.size) (o : Obj) : Fr gb w (w1.alloc o) := ⟨h.1.alloc hg o, fun k cs t fz h1 h2 h3 => by
  have := h.2 k cs t fz h1 h2 h3
  exact (Below.heap_alloc w1 o k (Array.getElem?_eq_some_iff.1 this).1).trans this⟩
theorem Fr.setB {cs0 : Array Value} {fz0 : Nat × Nat} (h : Fr gb w w1) (hf : w1.heap[gb]? = some (.cells cs0 154 fz0)) (j : Nat) (u : Value) : Fr gb w (w1.setCell ⟨gb, j, none⟩ u) :=
  ⟨h.1.setCell (p := ⟨gb, j, none⟩) (Nat.le_refl _) u, fun k cs t fz h1 h2 h3 => by
    have h4 := h.2 k cs t fz h1 h2 h3
    by_cases hk : k = gb
    · subst hk
      rw [hf] at h4
      injection h4 with h4
      injection h4 with _ h5
      exact absurd h5.symm h2
    · rw [heap_setCell_other w1 ⟨gb, j, none⟩ k u (fun e => hk e)]
      exact h4⟩
theorem Fr.set (h : Fr gb w w1) (hf : FdW w1 gb sv drop st e va fv R) (j : Nat) (u : Value) : Fr gb w (w1.setCell ⟨gb, j, none⟩ u) := h.setB hf.1 j u
theorem Kept.grown {base n : Nat} {v : Value} {xs : List Value} {k : Nat} (hown : w.ownsRow base 123 k v n xs) (hg : w.grownBy w' v.ownBlock) : Kept w w' := fun j cs t fz h1 h2 h3 => by
  rw [hg.block j (Array.getElem?_eq_some_iff.1 h1).1 (fun hb => ?_)]
  · exact h1
  · rcases hown.2 with ⟨h4, _⟩ | ⟨g, cap, cur, h4, _, h5, _⟩
    · rw [h4] at hb; cases hb
    · rw [h4] at hb
      injection hb with hb
      subst hb
      rw [h1] at h5
      injection h5 with h5
      injection h5 with _ h6
      exact h3 h6
end

/-- The function value of a state. -/
def stV (gb : Nat) (fall : Bool) : Value := .func (.func (if fall then 124 else 119)) #[.pointer (some ⟨gb, 0, none⟩)] #[]

def RetFd (w : World) (gb : Nat) (sv : Value) (drop : Int) (st : Value) (e : Eo) (va : Nat) (R : List Eo) (en : Ending) (w' : World) : Prop :=
  en = .returned (.tuple #[]) ∧ (∃ fv, FdW w' gb sv drop st e va fv R) ∧ Fr gb w w'

theorem infoE5 : (Try.prog.info? 123).map (·.size) = some 5 := by kernel_rfl
theorem infoE : (Try.prog.info? 123).map (fun i => (i.zero, i.size, i.bytes)) = some (some (.agg #[.int .i64 0, .int .i64 0, .int .i64 0, .int .i64 0, .int .i64 0]), 5, 40) := by kernel_rfl
section
variable {w w' : World} {gb : Nat} {sv st fv : Value} {drop : Int} {e : Eo} {va : Nat} {R : List Eo}
theorem FdW.there (h : FdW w gb sv drop st e va fv R) : w.there gb 3 5 := by
  intro j hj
  have h1 := h.1
  refine ⟨?_, frozen_of_row _ _ _ _ _ h1⟩
  rw [cell_of_row _ _ _ _ _ _ h1]
  have : 3 + j < (fdC sv drop st e va fv).size := by simp [fdC]; omega
  simp [this]
theorem FdW.range (h : FdW w gb sv drop st e va fv R) : w.rangeAt gb 3 (ints (eoE e)) := by
  intro j v hv
  have hj : j < 5 := by have := (List.getElem?_eq_some_iff.1 hv).1; simpa [ints, eoE] using this
  rw [cell_of_row _ _ _ _ _ _ h.1, ← hv]
  match j, hj with
  | 0, _ => rfl
  | 1, _ => rfl
  | 2, _ => rfl
  | 3, _ => rfl
  | 4, _ => rfl
theorem FdW.setE (h : FdW w gb sv drop st e va fv R) (e' : Eo) : FdW (w.setCells gb 3 (ints (eoE e'))) gb sv drop st e' va fv R :=
  ((((h.setFr e'.fr).setTo e'.to).setPk e'.pk).setLv e'.lv).setTp e'.tp
theorem FdW.appended {w2 w3 : World} {v' : Value} {e' : Eo} {o : Obj} (h : FdW w2 gb sv drop st e va fv R) (hb : Fr gb w w2) (ho : w3.ownsRow (gb + 1) 123 5 v' (R.length + 1) (ints (R.flatMap eoE) ++ ints (eoE e'))) (hg : (w2.alloc o).drew.grownBy w3 fv.ownBlock) :
    FdW (w3.setCell ⟨gb, 9, none⟩ v') gb sv drop st e va v' (R ++ [e']) ∧ Fr gb w (w3.setCell ⟨gb, 9, none⟩ v') := by
  have hlt := h.lt
  have hS : SL eoE 5 123 w3 (gb + 1) v' (R ++ [e']) := SL.appended ho
  have hblk : w3.heap[gb]? = some (.cells (fdC sv drop st e va fv) 154 (0, 0)) := by
    have h1 : w3.heap[gb]? = (w2.alloc o).drew.heap[gb]? := hg.block gb (by show gb < (w2.alloc o).heap.size; simp; omega) (fun hb' => by have := (h.2.lt gb hb'.symm).1; omega)
    rw [h1]
    exact (Below.heap_alloc w2 o gb hlt).trans h.1
  have hA : Fr gb w (w2.alloc o).drew := (hb.alloc (by omega) o).drew
  have hbb : Below gb w w3 := hA.1.trans ⟨hg.os, hg.tape, hg.output, hg.size, fun k hk => hg.block k (by show k < (w2.alloc o).heap.size; simp; omega) (fun hb' => by have := (h.2.lt k hb'.symm).1; omega)⟩
  have hkk : Kept (w2.alloc o).drew w3 := Kept.grown (World.ownsRow.alloc h.2 o) hg
  have hF : Fr gb w w3 := ⟨hbb, fun k cs t fz h1 h2 h3 => hkk k cs t fz (hA.2 k cs t fz h1 h2 h3) h2 h3⟩
  exact ⟨⟨heap_setCell_same w3 gb 9 _ _ _ hblk, ownsRow_setCell_other hS (fun hb => by have := (hS.lt gb hb).1; omega) _⟩,
    hF.setB hblk 9 _⟩
theorem below_setE (h : FdW w gb sv drop st e va fv R) (e' : Eo) : Fr gb w (w.setCells gb 3 (ints (eoE e'))) :=
  (((((Fr.refl gb w).set h 3 _).set (h.setFr e'.fr) 4 _).set ((h.setFr e'.fr).setTo e'.to) 5 _).set (((h.setFr e'.fr).setTo e'.to).setPk e'.pk) 6 _).set ((((h.setFr e'.fr).setTo e'.to).setPk e'.pk).setLv e'.lv) 7 _
end

set_option maxRecDepth 100000 in
set_option maxHeartbeats 400000 in
theorem begin_ok {w : World} {gb : Nat} {sv st fv : Value} {drop : Int} {e : Eo} {va : Nat} {R : List Eo} (h : FdW w gb sv drop st e va fv R) (x y : Nat) (l : Int) :
    Calls Try.prog 110 #[.pointer (some ⟨gb, 0, none⟩), .int .i64 (x : Int), .int .i64 (y : Int), .int .i64 l] w (RetFd w gb sv drop (stV gb false) ⟨x, 0, y, l, 0⟩ va R) := by
  have ht := h.there
  have H := Lib.hid (h.setE ⟨x, 0, y, l, 0⟩)
  have HB := Lib.hid (below_setE h ⟨x, 0, y, l, 0⟩)
  clear h
  go_enter Try.func110, Try.ntmps110
  iterate 24 go_step
  refine wp_store_mid 123 _ _ rfl gb 3 #[.int .i64 (x : Int), .int .i64 0, .int .i64 (y : Int), .int .i64 l, .int .i64 0] rfl rfl ht infoE5 (by simp [Value.oneCell']) ?_
  obtain ⟨w1, hw1⟩ : ∃ w1, w.setCells gb 3 #[.int .i64 (x : Int), .int .i64 0, .int .i64 (y : Int), .int .i64 l, .int .i64 0].toList = w1 := ⟨_, rfl⟩
  have h1 : FdW w1 gb sv drop st ⟨x, 0, y, l, 0⟩ va fv R := by rw [← hw1]; exact H.out
  have hb1 : Fr gb w w1 := by rw [← hw1]; exact HB.out
  obtain ⟨c0, c1, c2, c3, c4, c5, c6, c7, c8, c9, fz⟩ := h1.cells
  rw [hw1]
  have H1 := Lib.hid (And.intro h1 hb1)
  clear h1 hb1 hw1 H HB ht
  go_wp2
  go_end0
  exact ⟨rfl, ⟨fv, H1.out.1.setSt _⟩, H1.out.2.set H1.out.1 2 _⟩

set_option maxRecDepth 100000 in
set_option maxHeartbeats 400000 in
theorem end_ok {w : World} {gb : Nat} {st fv : Value} {drop : Int} {e : Eo} {va : Nat} {R : List Eo} {zs : List Int} {A : Option Addr} {n c B : Nat} (h : FdW w gb (.slice A n c) drop st e va fv R) (hx : IW w B (.slice A n c) zs) (hB : B ≤ gb) (hp : e.pk < n) (hR : R.length ≤ 256) (x : Nat) :
    Calls Try.prog 111 #[.pointer (some ⟨gb, 0, none⟩), .int .i64 (x : Int)] w (RetFd w gb (.slice A n c) drop st ⟨e.fr, x, e.pk, e.lv, ith zs e.pk⟩ va (R ++ [⟨e.fr, x, e.pk, e.lv, ith zs e.pk⟩])) := by
  obtain ⟨b, o, rfl, hb, hc⟩ := hx.at_ (by omega)
  have hck := hc _ hp
  have hbg : b < gb := by omega
  have hcap := hx.cap
  unfold maxLen at hcap
  obtain ⟨i0, hi0, hz0, hz1, hz2⟩ := info_parts infoE
  obtain ⟨c0, c1, c2, c3, c4, c5, c6, c7, c8, c9, fz⟩ := h.cells
  have H := Lib.hid h
  clear h hx hc
  obtain ⟨fr, to, pk, lv, tp⟩ := e
  simp only at *
  go_enter Try.func111, Try.ntmps111
  go_wp2
  obtain ⟨w1, hw1⟩ : ∃ w1, w.setCell ⟨gb, 4, none⟩ (.int .i64 (x : Int)) = w1 := ⟨_, rfl⟩
  have h1 : FdW w1 gb (.slice (some ⟨b, o, none⟩) n c) drop st ⟨fr, x, pk, lv, tp⟩ va fv R := by rw [← hw1]; exact H.out.setTo x
  have hb1 : Fr gb w w1 := by rw [← hw1]; exact (Fr.refl gb w).set H.out 4 _
  rw [hw1]
  have hck1 := (hb1.1.cell (p := ⟨b, o + pk, none⟩) hbg).trans hck
  clear c0 c1 c2 c3 c4 c5 c6 c7 c8 c9 fz hw1 hck
  obtain ⟨c0, c1, c2, c3, c4, c5, c6, c7, c8, c9, fz⟩ := h1.cells
  have H1 := Lib.hid (And.intro h1 hb1)
  clear h1 hb1
  simp only at *
  go_region
  obtain ⟨w2, hw2⟩ : ∃ w2, (w1.setCell ⟨gb, 7, none⟩ (.int .i64 (ith zs pk))).drew = w2 := ⟨_, rfl⟩
  have h2 : FdW w2 gb (.slice (some ⟨b, o, none⟩) n c) drop st ⟨fr, x, pk, lv, ith zs pk⟩ va fv R := by rw [← hw2]; exact H1.out.1.setTp _
  have hb2 : Fr gb w w2 := by rw [← hw2]; exact (H1.out.2.set H1.out.1 7 _).drew
  rw [hw2]
  clear c0 c1 c2 c3 c4 c5 c6 c7 c8 c9 fz hw2 hck1
  obtain ⟨c0, c1, c2, c3, c4, c5, c6, c7, c8, c9, fz⟩ := h2.cells
  simp only at *
  have hown : w2.ownsRow (gb + 1) 123 5 fv R.length (ints (R.flatMap eoE)) := h2.2
  have hlt := h2.lt
  have hnb : some gb ≠ fv.ownBlock := fun hb => by have := (h2.2.lt gb hb.symm).1; omega
  obtain ⟨L, hL⟩ : ∃ L, R.length = L := ⟨_, rfl⟩
  obtain ⟨F, hF⟩ : ∃ F, ints (R.flatMap eoE) = F := ⟨_, rfl⟩
  rw [hL, hF] at hown
  rw [hL] at hR
  have A9 : ∀ o, (w2.alloc o).cell? ⟨gb, 9, none⟩ = some fv := fun o => (World.cell?_of_block (Below.heap_alloc w2 o gb hlt)).trans c9
  have B9 : ∀ o, (w2.alloc o).frozen? ⟨gb, 9, none⟩ = false := fun o => (World.frozen?_of_block (Below.heap_alloc w2 o gb hlt)).trans (fz 9)
  have H2 := Lib.hid (And.intro (And.intro h2 hb2) (And.intro hL hF))
  clear h2 hb2 H1 H hL hF
  go_wp2
  go_region_law (refine step_append_lies _ (by rfl) _ _ _ (by rfl) (gb + 1) 123 i0 _ 5 40 Try.underlying113 hi0 hz0 hz1 hz2 rfl (by omega) fv L F (by rfl) ((hown.alloc _).drew) ⟨w2.heap.size, 0, none⟩ 1 1 [.int .i64 (fr : Int), .int .i64 (x : Int), .int .i64 (pk : Int), .int .i64 lv, .int .i64 (ith zs pk)] (by rfl) (by rfl) (World.news_of_block (cs := #[.int .i64 (fr : Int), .int .i64 (x : Int), .int .i64 (pk : Int), .int .i64 lv, .int .i64 (ith zs pk)]) (t := 123) (fr := (0, 0)) (heap_alloc_new w2 _)) (by simp [Value.oneCell']) (by omega) (by unfold maxLen; omega) (by omega) (by simp; omega) (w2.heap.size + 1) (by simp) ?_; intro gg cap w3 hown3 hgrow hat hlt3; have h9 : w3.cell? ⟨gb, 9, none⟩ = some fv := (hgrow.cell_far ⟨gb, 9, none⟩ (by simp; omega) hnb).trans (A9 _); have f9 : w3.frozen? ⟨gb, 9, none⟩ = false := (hgrow.frozen_far ⟨gb, 9, none⟩ (by simp; omega) hnb).trans (B9 _))
  all_goals
    go_end0
    obtain ⟨⟨h2, hb2⟩, rfl, rfl⟩ := H2.out
    have hr := h2.appended (e' := ⟨fr, x, pk, lv, ith zs pk⟩) hb2 hown3 hgrow
    exact ⟨rfl, ⟨_, hr.1⟩, hr.2⟩
end Go.Proofs.Ytndgpgciccgapaa
