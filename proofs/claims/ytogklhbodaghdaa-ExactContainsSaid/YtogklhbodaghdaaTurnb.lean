/-
  Turn.
-/
import Derived.Test.YtogklhbodaghdaaTurn
namespace Go.Proofs.Ytogklhbodaghdaa
open Go.RowKit

def fx (ax bx cx : Int) : Nat → Int
  | 0 => ax
  | 1 => bx
  | _ => cx

theorem alloc4 (w : World) (A B C D : Obj) : ((((w.alloc A).alloc B).alloc C).alloc D).heap[w.heap.size]? = some A ∧ ((((w.alloc A).alloc B).alloc C).alloc D).heap[w.heap.size + 1]? = some B ∧ ((((w.alloc A).alloc B).alloc C).alloc D).heap[w.heap.size + 1 + 1]? = some C ∧ ((((w.alloc A).alloc B).alloc C).alloc D).heap[w.heap.size + 1 + 1 + 1]? = some D := by
  have e1 : (w.alloc A).heap.size = w.heap.size + 1 := by simp
  have e2 : ((w.alloc A).alloc B).heap.size = w.heap.size + 2 := by simp
  have e3 : (((w.alloc A).alloc B).alloc C).heap.size = w.heap.size + 3 := by simp
  refine ⟨?_, ?_, ?_, ?_⟩
  · rw [heap_alloc_old _ _ (by omega), heap_alloc_old _ _ (by omega)]; exact heap_alloc2_old _ _ _
  · rw [heap_alloc_old _ _ (by omega), heap_alloc_old _ _ (by omega)]; exact heap_alloc2_new _ _ _
  · rw [heap_alloc_old _ _ (by omega)]
    have := heap_alloc_new ((w.alloc A).alloc B) C
    rw [e2] at this
    exact this
  · have := heap_alloc_new (((w.alloc A).alloc B).alloc C) D
    rw [e3] at this
    exact this

theorem xy_cells {W0 w1 : World} {g : Nat} {a b : Value} {T : TypeId} (hblk : W0.heap[g]? = some (.cells #[a, b] T (0, 0))) (h : Below W0.heap.size W0 w1) :
    w1.cell? ⟨g, 0, none⟩ = some a ∧ w1.cell? ⟨g, 1, none⟩ = some b := by
  have hlt : g < W0.heap.size := (Array.getElem?_eq_some_iff.1 hblk).1
  have hb : w1.heap[g]? = some (.cells #[a, b] T (0, 0)) := (h.block g hlt).trans hblk
  exact ⟨cell_of_row _ _ _ _ _ _ hb, cell_of_row _ _ _ _ _ _ hb⟩

theorem places3 {W0 : World} {g : Nat} {ax ay bx by_ cx cy : Int} {T : TypeId} (h : W0.heap[g]? = some (.cells #[.int .i64 ax, .int .i64 ay, .int .i64 bx, .int .i64 by_, .int .i64 cx, .int .i64 cy] T (0, 0))) : PlacesAt W0 g 3 (fx ax bx cx) (fx ay by_ cy) := by
  intro k hk
  match k, hk with
  | 0, _ => exact ⟨cell_of_row _ _ _ _ _ _ h, cell_of_row _ _ _ _ _ _ h⟩
  | 1, _ => exact ⟨cell_of_row _ _ _ _ _ _ h, cell_of_row _ _ _ _ _ _ h⟩
  | 2, _ => exact ⟨cell_of_row _ _ _ _ _ _ h, cell_of_row _ _ _ _ _ _ h⟩

def crossP (ax ay bx by_ cx cy : Int) : Int := (bx - ax) * (cy - ay) - (by_ - ay) * (cx - ax)

set_option maxRecDepth 100000 in
set_option maxHeartbeats 1000000 in
theorem turn_ok (ax ay bx by_ cx cy : Int) (ha : okP ax ay) (hb : okP bx by_) (hc : okP cx cy) (w : World) :
    Calls Try.prog 16 #[.agg #[.int .i64 ax, .int .i64 ay], .agg #[.int .i64 bx, .int .i64 by_], .agg #[.int .i64 cx, .int .i64 cy]] w (RetIE w (sgnI (crossP ax ay bx by_ cx cy)) 0) := by
  obtain ⟨W0, hW0⟩ : ∃ W0, W0 = (((w.alloc (.cells #[.int .i64 ax, .int .i64 ay] 47)).alloc (.cells #[.int .i64 bx, .int .i64 by_] 47)).alloc (.cells #[.int .i64 cx, .int .i64 cy] 47)).alloc (.cells #[.int .i64 ax, .int .i64 ay, .int .i64 bx, .int .i64 by_, .int .i64 cx, .int .i64 cy] 47) := ⟨_, rfl⟩
  have HW0 := Lib.hid hW0
  have hw0 : Below w.heap.size w W0 := by rw [hW0]; exact ((((Below.refl _ _).alloc (Nat.le_refl _) _).alloc (by simp) _).alloc (by simp; omega) _).alloc (by simp; omega) _
  obtain ⟨g0, g1, g2, g3⟩ := alloc4 w (.cells #[.int .i64 ax, .int .i64 ay] 47) (.cells #[.int .i64 bx, .int .i64 by_] 47) (.cells #[.int .i64 cx, .int .i64 cy] 47) (.cells #[.int .i64 ax, .int .i64 ay, .int .i64 bx, .int .i64 by_, .int .i64 cx, .int .i64 cy] 47)
  rw [← hW0] at g0 g1 g2 g3
  clear hW0
  have hgl : w.heap.size + 1 + 1 + 1 < W0.heap.size := (Array.getElem?_eq_some_iff.1 g3).1
  have HP := Lib.hid (places3 g3)
  have HO := Lib.hid (And.intro ha (And.intro hb hc))
  have G0 := Lib.hid g0
  have G1 := Lib.hid g1
  have G2 := Lib.hid g2
  clear g0 g1 g2 g3 ha hb hc
  obtain ⟨ux, hux⟩ : ∃ ux, ux = bx - ax := ⟨_, rfl⟩
  obtain ⟨uy, huy⟩ : ∃ uy, uy = by_ - ay := ⟨_, rfl⟩
  obtain ⟨vx, hvx⟩ : ∃ vx, vx = cx - ax := ⟨_, rfl⟩
  obtain ⟨vy, hvy⟩ : ∃ vy, vy = cy - ay := ⟨_, rfl⟩
  obtain ⟨s, hs⟩ : ∃ s, s = crossP ax ay bx by_ cx cy := ⟨_, rfl⟩
  have HU := Lib.hid (And.intro hux (And.intro huy (And.intro hvx (And.intro hvy hs))))
  rw [← hs]
  clear hux huy hvx hvy hs
  have tok1 : True := trivial
  go_enter Try.func16, Try.ntmps16
  go_wp2_with fail
  rw [← HW0.out]
  refine (allPlaces_yes _ 3 3 (fx ax bx cx) (fx ay by_ cy) W0 HP.out hgl (by omega) ?hok).mono ?_
  case hok =>
    intro k hk
    match k, hk with
    | 0, _ => exact HO.out.1
    | 1, _ => exact HO.out.2.1
    | 2, _ => exact HO.out.2.2
  rintro e w1 ⟨rfl, hb1⟩
  obtain ⟨k0, k1⟩ := xy_cells G0.out hb1
  obtain ⟨k2, k3⟩ := xy_cells G1.out hb1
  obtain ⟨k4, k5⟩ := xy_cells G2.out hb1
  have K1 := Lib.hid (And.intro k0 (And.intro k1 (And.intro k2 (And.intro k3 (And.intro k4 k5)))))
  go_wp2
  go_region_held3 (fun w' => w'.cell? ⟨w.heap.size, 0, none⟩ = some (.int .i64 ax) ∧ w'.cell? ⟨w.heap.size, 1, none⟩ = some (.int .i64 ay) ∧ w'.cell? ⟨w.heap.size + 1, 0, none⟩ = some (.int .i64 bx) ∧ w'.cell? ⟨w.heap.size + 1, 1, none⟩ = some (.int .i64 by_) ∧ w'.cell? ⟨w.heap.size + 1 + 1, 0, none⟩ = some (.int .i64 cx) ∧ w'.cell? ⟨w.heap.size + 1 + 1, 1, none⟩ = some (.int .i64 cy))
    (first | exact K5.out | exact K4.out | exact K3.out | exact K2.out | exact K1.out | go_keep)
    (first
      | (go_at_call 31
         have _t := tok1
         refine (from_any ax ay bx by_ HO.out.1 HO.out.2.1 _).mono ?_
         rintro e w2 ⟨rfl, hb2'⟩
         rw [← HU.out.1, ← HU.out.2.1]
         have hb2a : Below w1.heap.size w1 w2 := by first | exact hb2' | exact below_un hb2' | exact below_unN hb2'
         have hb2 : Below W0.heap.size W0 w2 := hb1.trans (hb2a.mono hb1.size)
         have K2 := Lib.hid (And.intro (xy_cells G0.out hb2).1 (And.intro (xy_cells G0.out hb2).2 (And.intro (xy_cells G1.out hb2).1 (And.intro (xy_cells G1.out hb2).2 (xy_cells G2.out hb2)))))
         clear tok1 _t hb2')
      | (go_at_call 31
         refine (from_any ax ay cx cy HO.out.1 HO.out.2.2 _).mono ?_
         rintro e w3 ⟨rfl, hb3'⟩
         rw [← HU.out.2.2.1, ← HU.out.2.2.2.1]
         have hb3a : Below w2.heap.size w2 w3 := by first | exact hb3' | exact below_un hb3' | exact below_unN hb3'
         have hb3 : Below W0.heap.size W0 w3 := hb2.trans (hb3a.mono hb2.size)
         have K3 := Lib.hid (And.intro (xy_cells G0.out hb3).1 (And.intro (xy_cells G0.out hb3).2 (And.intro (xy_cells G1.out hb3).1 (And.intro (xy_cells G1.out hb3).2 (xy_cells G2.out hb3)))))
         clear hb3')
      | (go_at_call 30
         refine (cross_any ux uy vx vy (by have h1 := HO.out.1; have h2 := HO.out.2.1; have h3 := HU.out; unfold okP at h1 h2; omega) (by have h1 := HO.out.1; have h2 := HO.out.2.1; have h3 := HU.out; unfold okP at h1 h2; omega) (by have h1 := HO.out.1; have h2 := HO.out.2.2; have h3 := HU.out; unfold okP at h1 h2; omega) (by have h1 := HO.out.1; have h2 := HO.out.2.2; have h3 := HU.out; unfold okP at h1 h2; omega) _).mono ?_
         rintro e w4 ⟨rfl, hb4'⟩
         have es : ux * vy - uy * vx = s := by
           obtain ⟨h1, h2, h3, h4, h5⟩ := HU.out
           rw [h1, h2, h3, h4, h5]; rfl
         rw [es]
         have hb4a : Below w3.heap.size w3 w4 := by first | exact hb4' | exact below_un hb4' | exact below_unN hb4'
         have hb4 : Below W0.heap.size W0 w4 := hb3.trans (hb4a.mono hb3.size)
         have K4 := Lib.hid (And.intro (xy_cells G0.out hb4).1 (And.intro (xy_cells G0.out hb4).2 (And.intro (xy_cells G1.out hb4).1 (And.intro (xy_cells G1.out hb4).2 (xy_cells G2.out hb4)))))
         clear hb4' es)
      | (go_at_call 29
         refine (sign_any s _).mono ?_
         rintro e w5 ⟨rfl, rfl⟩))
  all_goals
    go_wp2
    go_ret2
    first
      | exact ⟨rfl, hw0.trans (hb4.mono hw0.size)⟩
      | exact ⟨rfl, below_drewN (hw0.trans (hb4.mono hw0.size)) _⟩

set_option maxRecDepth 100000 in
set_option maxHeartbeats 1000000 in
theorem turn_bad (ax ay bx by_ cx cy : Int) (h : ¬ (okP ax ay ∧ okP bx by_ ∧ okP cx cy)) (w : World) :
    Calls Try.prog 16 #[.agg #[.int .i64 ax, .int .i64 ay], .agg #[.int .i64 bx, .int .i64 by_], .agg #[.int .i64 cx, .int .i64 cy]] w (RetIE w 0 11) := by
  obtain ⟨W0, hW0⟩ : ∃ W0, W0 = (((w.alloc (.cells #[.int .i64 ax, .int .i64 ay] 47)).alloc (.cells #[.int .i64 bx, .int .i64 by_] 47)).alloc (.cells #[.int .i64 cx, .int .i64 cy] 47)).alloc (.cells #[.int .i64 ax, .int .i64 ay, .int .i64 bx, .int .i64 by_, .int .i64 cx, .int .i64 cy] 47) := ⟨_, rfl⟩
  have HW0 := Lib.hid hW0
  have hw0 : Below w.heap.size w W0 := by rw [hW0]; exact ((((Below.refl _ _).alloc (Nat.le_refl _) _).alloc (by simp) _).alloc (by simp; omega) _).alloc (by simp; omega) _
  obtain ⟨g0, g1, g2, g3⟩ := alloc4 w (.cells #[.int .i64 ax, .int .i64 ay] 47) (.cells #[.int .i64 bx, .int .i64 by_] 47) (.cells #[.int .i64 cx, .int .i64 cy] 47) (.cells #[.int .i64 ax, .int .i64 ay, .int .i64 bx, .int .i64 by_, .int .i64 cx, .int .i64 cy] 47)
  rw [← hW0] at g0 g1 g2 g3
  clear hW0
  have hgl : w.heap.size + 1 + 1 + 1 < W0.heap.size := (Array.getElem?_eq_some_iff.1 g3).1
  have HP := Lib.hid (places3 g3)
  have hbad : ∃ k, k < 3 ∧ ¬ okP (fx ax bx cx k) (fx ay by_ cy k) := by
    by_cases h1 : okP ax ay
    · by_cases h2 : okP bx by_
      · exact ⟨2, by omega, fun h3 => h ⟨h1, h2, h3⟩⟩
      · exact ⟨1, by omega, h2⟩
    · exact ⟨0, by omega, h1⟩
  have HB := Lib.hid hbad
  clear g0 g1 g2 g3 h hbad
  go_enter Try.func16, Try.ntmps16
  go_wp2_with fail
  rw [← HW0.out]
  refine (allPlaces_no _ 3 3 (fx ax bx cx) (fx ay by_ cy) W0 HP.out hgl (by omega) HB.out).mono ?_
  rintro e w1 ⟨rfl, hb1⟩
  go_wp2
  go_ret2
  exact ⟨rfl, hw0.trans (hb1.mono hw0.size)⟩
end Go.Proofs.Ytogklhbodaghdaa
