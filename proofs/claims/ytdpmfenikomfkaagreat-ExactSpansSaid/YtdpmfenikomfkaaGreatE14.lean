/-
  allPlaces, from, cross, sign, Turn.
  Turn.
-/
import Derived.Test.YtdpmfenikomfkaaGreatE02
import Derived.Test.YtdpmfenikomfkaaGreatProg
import Derived.WalkKit
import Derived.WalkSpells
import Derived.WalkSmall
import Derived.Deep.RegionHeld3
import Derived.Laws.NewBlocks
namespace Go.Proofs.YtdpmfenikomfkaaGreat
open Go.RowKit

def RetB (w : World) (b : Bool) (e : Ending) (w' : World) : Prop := e = .returned (.bool b) ∧ Below w.heap.size w w'
/-- An int and an error. -/
def RetIE (w : World) (i c : Int) (e : Ending) (w' : World) : Prop := e = .returned (.tuple #[.int .i64 i, .int .i64 c]) ∧ Below w.heap.size w w'

def okP (x y : Int) : Prop := -268435456 ≤ x ∧ x ≤ 268435456 ∧ -268435456 ≤ y ∧ y ≤ 268435456

/-- l places lie at the head of block g. -/
def PlacesAt (w : World) (g l : Nat) (f h : Nat → Int) : Prop :=
  ∀ k, k < l → w.cell? ⟨g, k * 2, none⟩ = some (.int .i64 (f k)) ∧ w.cell? ⟨g, k * 2 + 1, none⟩ = some (.int .i64 (h k))

def PlaceRel (w : World) (l : Nat) (f h : Nat → Int) (i : Value) (wr : World) : Prop := ∃ k, k ≤ l ∧ i = .int .i64 (k : Nat) ∧ (∀ j, j < k → okP (f j) (h j)) ∧ Below w.heap.size w wr

set_option maxRecDepth 100000 in
set_option maxHeartbeats 1000000 in
theorem allPlaces_yes (g l c : Nat) (f h : Nat → Int) (w : World) (hp : PlacesAt w g l f h) (hg : g < w.heap.size) (hl : l ≤ 65536) (hok : ∀ k, k < l → okP (f k) (h k)) :
    Calls Tryz.prog 49 #[.slice (some ⟨g, 0, none⟩) l c] w (RetB w true) := by
  have H := Lib.hid hp
  have HO := Lib.hid hok
  clear hp hok
  go_enter Tryz.func49, Tryz.ntmps49
  go_wp2
  go_loopw [7] (fun i wr => PlaceRel w l f h i wr) (fun i _ => l - (intOf i).toNat)
  case atStart => exact ⟨0, Nat.zero_le _, rfl, fun j hj => absurd hj (by omega), Below.refl _ _⟩
  case round =>
    obtain ⟨k, hk, rfl, hb, hbr⟩ := hrel
    have HB := Lib.hid hb
    clear hb
    by_cases hlt : k < l
    · obtain ⟨k0, k1⟩ := H.out k hlt
      obtain ⟨o1, o2, o3, o4⟩ := HO.out k hlt
      have j0 : wr.cell? ⟨g, k * 2, none⟩ = some (.int .i64 (f k)) := by rw [hbr.cell hg]; exact k0
      have j1 : wr.cell? ⟨g, k * 2 + 1, none⟩ = some (.int .i64 (h k)) := by rw [hbr.cell hg]; exact k1
      generalize hx : f k = x at j0 o1 o2
      generalize hy : h k = y at j1 o3 o4
      have HX := Lib.hid hx
      have HY := Lib.hid hy
      clear k0 k1 hx hy
      go_wp2
      go_roundw
      case rel =>
        refine ⟨k + 1, by omega, by go_num, fun j hj => ?_, hbr.alloc hbr.size _⟩
        by_cases e : j = k
        · subst e; exact HO.out _ hlt
        · exact HB.out j (by omega)
      case measure => simp [intOf] <;> omega
    · go_wp2
      go_ret
      exact ⟨rfl, hbr⟩

set_option maxRecDepth 100000 in
set_option maxHeartbeats 1000000 in
theorem allPlaces_no (g l c : Nat) (f h : Nat → Int) (w : World) (hp : PlacesAt w g l f h) (hg : g < w.heap.size) (hl : l ≤ 65536) (hok : ∃ k, k < l ∧ ¬ okP (f k) (h k)) :
    Calls Tryz.prog 49 #[.slice (some ⟨g, 0, none⟩) l c] w (RetB w false) := by
  have H := Lib.hid hp
  have HO := Lib.hid hok
  clear hp hok
  go_enter Tryz.func49, Tryz.ntmps49
  go_wp2
  go_loopw [7] (fun i wr => PlaceRel w l f h i wr) (fun i _ => l - (intOf i).toNat)
  case atStart => exact ⟨0, Nat.zero_le _, rfl, fun j hj => absurd hj (by omega), Below.refl _ _⟩
  case round =>
    obtain ⟨k, hk, rfl, hb, hbr⟩ := hrel
    have HB := Lib.hid hb
    clear hb
    by_cases hlt : k < l
    · obtain ⟨k0, k1⟩ := H.out k hlt
      have j0 : wr.cell? ⟨g, k * 2, none⟩ = some (.int .i64 (f k)) := by rw [hbr.cell hg]; exact k0
      have j1 : wr.cell? ⟨g, k * 2 + 1, none⟩ = some (.int .i64 (h k)) := by rw [hbr.cell hg]; exact k1
      clear k0 k1
      by_cases hv : okP (f k) (h k)
      · have hvv := Lib.hid hv
        obtain ⟨o1, o2, o3, o4⟩ := hv
        generalize hx : f k = x at j0 o1 o2
        generalize hy : h k = y at j1 o3 o4
        clear hx hy
        go_wp2
        go_roundw
        case rel =>
          refine ⟨k + 1, by omega, by go_num, fun j hj => ?_, hbr.alloc hbr.size _⟩
          by_cases e : j = k
          · subst e; exact hvv.out
          · exact HB.out j (by omega)
        case measure => simp [intOf] <;> omega
      · have hfin : Below w.heap.size w (wr.alloc (.cells #[.int .i64 (f k), .int .i64 (h k)] 56)) := hbr.alloc hbr.size _
        unfold okP at hv
        generalize f k = x at *
        generalize h k = y at *
        by_cases a1 : x < -268435456
        · go_wp2
          go_ret
          exact ⟨rfl, hfin⟩
        · by_cases a2 : 268435456 < x
          · go_wp2
            go_ret
            exact ⟨rfl, hfin⟩
          · by_cases a3 : y < -268435456
            · go_wp2
              go_ret
              exact ⟨rfl, hfin⟩
            · have a4 : 268435456 < y := by omega
              clear hv
              go_wp2
              go_ret
              exact ⟨rfl, hfin⟩
    · exact absurd HO.out (fun ⟨j, h1, h2⟩ => h2 (HB.out j (by omega)))

def sgnI (n : Int) : Int := if n < 0 then -1 else if 0 < n then 1 else 0
theorem sign_any (n : Int) (w : World) : Calls Tryz.prog 41 #[.int .i64 n] w fun e w' => e = .returned (.int .i64 (sgnI n)) ∧ w = w' := by
  rcases Int.lt_trichotomy n 0 with h | h | h
  · have e : sgnI n = -1 := by unfold sgnI; rw [if_pos h]
    rw [e]
    clear e
    go_enter Tryz.func41, Tryz.ntmps41
    go_wp2
    go_ret
    exact ⟨rfl, rfl⟩
  · subst h
    go_enter Tryz.func41, Tryz.ntmps41
    go_wp2
    go_ret
    exact ⟨rfl, rfl⟩
  · have e : sgnI n = 1 := by unfold sgnI; rw [if_neg (by omega), if_pos h]
    rw [e]
    clear e
    go_enter Tryz.func41, Tryz.ntmps41
    go_wp2
    go_ret
    exact ⟨rfl, rfl⟩

/-- A vector's two coordinates. -/
def RetXY (w : World) (x y : Int) (e : Ending) (w' : World) : Prop := e = .returned (.agg #[.int .i64 x, .int .i64 y]) ∧ Below w.heap.size w w'

set_option maxRecDepth 100000 in
set_option maxHeartbeats 1000000 in
theorem from_any (ax ay bx by_ : Int) (ha : okP ax ay) (hb : okP bx by_) (w : World) :
    Calls Tryz.prog 51 #[.agg #[.int .i64 ax, .int .i64 ay], .agg #[.int .i64 bx, .int .i64 by_]] w (RetXY w (bx - ax) (by_ - ay)) := by
  obtain ⟨a1, a2, a3, a4⟩ := ha
  obtain ⟨b1, b2, b3, b4⟩ := hb
  go_enter Tryz.func51, Tryz.ntmps51
  go_wp2
  exact bodyPost_ret (v := .agg #[.int .i64 (bx - ax), .int .i64 (by_ - ay)]) (by simp [results, Tryz.results51, go_sem]) rfl ⟨rfl, (((Below.refl _ _).alloc (Nat.le_refl _) _).alloc (by simp) _).alloc (by simp; omega) _⟩

theorem mul_bd {a b : Int} (ha : -536870912 ≤ a ∧ a ≤ 536870912) (hb : -536870912 ≤ b ∧ b ≤ 536870912) : -288230376151711744 ≤ a * b ∧ a * b ≤ 288230376151711744 := by
  have h : (a * b).natAbs ≤ 536870912 * 536870912 := by
    rw [Int.natAbs_mul]
    exact Nat.mul_le_mul (by omega) (by omega)
  omega

theorem wrap64_id {a : Int} (h1 : -9223372036854775808 ≤ a) (h2 : a ≤ 9223372036854775807) : wrap64 a = a := IntWalk.wrap64_in a ⟨h1, h2⟩

set_option maxRecDepth 100000 in
set_option maxHeartbeats 1000000 in
theorem cross_any (px py qx qy : Int) (h1 : -536870912 ≤ px ∧ px ≤ 536870912) (h2 : -536870912 ≤ py ∧ py ≤ 536870912) (h3 : -536870912 ≤ qx ∧ qx ≤ 536870912) (h4 : -536870912 ≤ qy ∧ qy ≤ 536870912) (w : World) :
    Calls Tryz.prog 50 #[.agg #[.int .i64 px, .int .i64 py], .agg #[.int .i64 qx, .int .i64 qy]] w fun e w' => e = .returned (.int .i64 (px * qy - py * qx)) ∧ Below w.heap.size w w' := by
  have b1 := mul_bd h1 h4
  have b2 := mul_bd h2 h3
  have hb := Lib.hid (And.intro b1 b2)
  clear b1 b2 h1 h2 h3 h4
  go_enter Tryz.func50, Tryz.ntmps50
  go_wp2
  go_ret
  refine ⟨?_, ((Below.refl _ _).alloc (Nat.le_refl _) _).alloc (by simp) _⟩
  obtain ⟨b1, b2⟩ := hb.out
  have e : wrap64 (wrap64 (px * qy) - wrap64 (py * qx)) = px * qy - py * qx := by
    rw [wrap64_id (a := px * qy) (by omega) (by omega), wrap64_id (a := py * qx) (by omega) (by omega), wrap64_id (by omega) (by omega)]
  rw [← e]
  rfl
end Go.Proofs.YtdpmfenikomfkaaGreat

namespace Go.Proofs.YtdpmfenikomfkaaGreat
open Go.RowKit

def fx (ax bx cx : Int) : Nat → Int
  | 0 => ax
  | 1 => bx
  | _ => cx

theorem alloc4 (w : World) (A B C D : Obj) : ((((w.alloc A).alloc B).alloc C).alloc D).heap[w.heap.size]? = some A ∧ ((((w.alloc A).alloc B).alloc C).alloc D).heap[w.heap.size + 1]? = some B ∧ ((((w.alloc A).alloc B).alloc C).alloc D).heap[w.heap.size + 1 + 1]? = some C ∧ ((((w.alloc A).alloc B).alloc C).alloc D).heap[w.heap.size + 1 + 1 + 1]? = some D := by
  have e1 : (w.alloc A).heap.size = w.heap.size + 1 := by simp
  have e2 : ((w.alloc A).alloc B).heap.size = w.heap.size + 2 := by simp
  have e3 : (((w.alloc A).alloc B).alloc C).heap.size = w.heap.size + 3 := by simp
  refine ⟨?_, ?_, ?_, ?_⟩
  · rw [heap_alloc_old _ _ (by omega), heap_alloc_old _ _ (by omega)]; exact heap_alloc2_old _ _ _
  · rw [heap_alloc_old _ _ (by omega), heap_alloc_old _ _ (by omega)]; exact heap_alloc2_new _ _ _
  · rw [heap_alloc_old _ _ (by omega)]
    have := heap_alloc_new ((w.alloc A).alloc B) C
    rw [e2] at this
    exact this
  · have := heap_alloc_new (((w.alloc A).alloc B).alloc C) D
    rw [e3] at this
    exact this

theorem xy_cells {W0 w1 : World} {g : Nat} {a b : Value} {T : TypeId} (hblk : W0.heap[g]? = some (.cells #[a, b] T (0, 0))) (h : Below W0.heap.size W0 w1) :
    w1.cell? ⟨g, 0, none⟩ = some a ∧ w1.cell? ⟨g, 1, none⟩ = some b := by
  have hlt : g < W0.heap.size := (Array.getElem?_eq_some_iff.1 hblk).1
  have hb : w1.heap[g]? = some (.cells #[a, b] T (0, 0)) := (h.block g hlt).trans hblk
  exact ⟨cell_of_row _ _ _ _ _ _ hb, cell_of_row _ _ _ _ _ _ hb⟩

theorem places3 {W0 : World} {g : Nat} {ax ay bx by_ cx cy : Int} {T : TypeId} (h : W0.heap[g]? = some (.cells #[.int .i64 ax, .int .i64 ay, .int .i64 bx, .int .i64 by_, .int .i64 cx, .int .i64 cy] T (0, 0))) : PlacesAt W0 g 3 (fx ax bx cx) (fx ay by_ cy) := by
  intro k hk
  match k, hk with
  | 0, _ => exact ⟨cell_of_row _ _ _ _ _ _ h, cell_of_row _ _ _ _ _ _ h⟩
  | 1, _ => exact ⟨cell_of_row _ _ _ _ _ _ h, cell_of_row _ _ _ _ _ _ h⟩
  | 2, _ => exact ⟨cell_of_row _ _ _ _ _ _ h, cell_of_row _ _ _ _ _ _ h⟩

def crossP (ax ay bx by_ cx cy : Int) : Int := (bx - ax) * (cy - ay) - (by_ - ay) * (cx - ax)

set_option maxRecDepth 100000 in
set_option maxHeartbeats 1000000 in
theorem turn_ok (ax ay bx by_ cx cy : Int) (ha : okP ax ay) (hb : okP bx by_) (hc : okP cx cy) (w : World) :
    Calls Tryz.prog 28 #[.agg #[.int .i64 ax, .int .i64 ay], .agg #[.int .i64 bx, .int .i64 by_], .agg #[.int .i64 cx, .int .i64 cy]] w (RetIE w (sgnI (crossP ax ay bx by_ cx cy)) 0) := by
  obtain ⟨W0, hW0⟩ : ∃ W0, W0 = (((w.alloc (.cells #[.int .i64 ax, .int .i64 ay] 56)).alloc (.cells #[.int .i64 bx, .int .i64 by_] 56)).alloc (.cells #[.int .i64 cx, .int .i64 cy] 56)).alloc (.cells #[.int .i64 ax, .int .i64 ay, .int .i64 bx, .int .i64 by_, .int .i64 cx, .int .i64 cy] 56) := ⟨_, rfl⟩
  have HW0 := Lib.hid hW0
  have hw0 : Below w.heap.size w W0 := by rw [hW0]; exact ((((Below.refl _ _).alloc (Nat.le_refl _) _).alloc (by simp) _).alloc (by simp; omega) _).alloc (by simp; omega) _
  obtain ⟨g0, g1, g2, g3⟩ := alloc4 w (.cells #[.int .i64 ax, .int .i64 ay] 56) (.cells #[.int .i64 bx, .int .i64 by_] 56) (.cells #[.int .i64 cx, .int .i64 cy] 56) (.cells #[.int .i64 ax, .int .i64 ay, .int .i64 bx, .int .i64 by_, .int .i64 cx, .int .i64 cy] 56)
  rw [← hW0] at g0 g1 g2 g3
  clear hW0
  have hgl : w.heap.size + 1 + 1 + 1 < W0.heap.size := (Array.getElem?_eq_some_iff.1 g3).1
  have HP := Lib.hid (places3 g3)
  have HO := Lib.hid (And.intro ha (And.intro hb hc))
  have G0 := Lib.hid g0
  have G1 := Lib.hid g1
  have G2 := Lib.hid g2
  clear g0 g1 g2 g3 ha hb hc
  obtain ⟨ux, hux⟩ : ∃ ux, ux = bx - ax := ⟨_, rfl⟩
  obtain ⟨uy, huy⟩ : ∃ uy, uy = by_ - ay := ⟨_, rfl⟩
  obtain ⟨vx, hvx⟩ : ∃ vx, vx = cx - ax := ⟨_, rfl⟩
  obtain ⟨vy, hvy⟩ : ∃ vy, vy = cy - ay := ⟨_, rfl⟩
  obtain ⟨s, hs⟩ : ∃ s, s = crossP ax ay bx by_ cx cy := ⟨_, rfl⟩
  have HU := Lib.hid (And.intro hux (And.intro huy (And.intro hvx (And.intro hvy hs))))
  rw [← hs]
  clear hux huy hvx hvy hs
  have tok1 : True := trivial
  go_enter Tryz.func28, Tryz.ntmps28
  go_wp2_with fail
  rw [← HW0.out]
  refine (allPlaces_yes _ 3 3 (fx ax bx cx) (fx ay by_ cy) W0 HP.out hgl (by omega) ?hok).mono ?_
  case hok =>
    intro k hk
    match k, hk with
    | 0, _ => exact HO.out.1
    | 1, _ => exact HO.out.2.1
    | 2, _ => exact HO.out.2.2
  rintro e w1 ⟨rfl, hb1⟩
  obtain ⟨k0, k1⟩ := xy_cells G0.out hb1
  obtain ⟨k2, k3⟩ := xy_cells G1.out hb1
  obtain ⟨k4, k5⟩ := xy_cells G2.out hb1
  have K1 := Lib.hid (And.intro k0 (And.intro k1 (And.intro k2 (And.intro k3 (And.intro k4 k5)))))
  go_wp2
  go_region_held3 (fun w' => w'.cell? ⟨w.heap.size, 0, none⟩ = some (.int .i64 ax) ∧ w'.cell? ⟨w.heap.size, 1, none⟩ = some (.int .i64 ay) ∧ w'.cell? ⟨w.heap.size + 1, 0, none⟩ = some (.int .i64 bx) ∧ w'.cell? ⟨w.heap.size + 1, 1, none⟩ = some (.int .i64 by_) ∧ w'.cell? ⟨w.heap.size + 1 + 1, 0, none⟩ = some (.int .i64 cx) ∧ w'.cell? ⟨w.heap.size + 1 + 1, 1, none⟩ = some (.int .i64 cy))
    (first | exact K5.out | exact K4.out | exact K3.out | exact K2.out | exact K1.out | go_keep)
    (first
      | (go_at_call 51
         have _t := tok1
         refine (from_any ax ay bx by_ HO.out.1 HO.out.2.1 _).mono ?_
         rintro e w2 ⟨rfl, hb2'⟩
         rw [← HU.out.1, ← HU.out.2.1]
         have hb2a : Below w1.heap.size w1 w2 := by first | exact hb2' | exact below_un hb2' | exact below_unN hb2'
         have hb2 : Below W0.heap.size W0 w2 := hb1.trans (hb2a.mono hb1.size)
         have K2 := Lib.hid (And.intro (xy_cells G0.out hb2).1 (And.intro (xy_cells G0.out hb2).2 (And.intro (xy_cells G1.out hb2).1 (And.intro (xy_cells G1.out hb2).2 (xy_cells G2.out hb2)))))
         clear tok1 _t hb2')
      | (go_at_call 51
         refine (from_any ax ay cx cy HO.out.1 HO.out.2.2 _).mono ?_
         rintro e w3 ⟨rfl, hb3'⟩
         rw [← HU.out.2.2.1, ← HU.out.2.2.2.1]
         have hb3a : Below w2.heap.size w2 w3 := by first | exact hb3' | exact below_un hb3' | exact below_unN hb3'
         have hb3 : Below W0.heap.size W0 w3 := hb2.trans (hb3a.mono hb2.size)
         have K3 := Lib.hid (And.intro (xy_cells G0.out hb3).1 (And.intro (xy_cells G0.out hb3).2 (And.intro (xy_cells G1.out hb3).1 (And.intro (xy_cells G1.out hb3).2 (xy_cells G2.out hb3)))))
         clear hb3')
      | (go_at_call 50
         refine (cross_any ux uy vx vy (by have h1 := HO.out.1; have h2 := HO.out.2.1; have h3 := HU.out; unfold okP at h1 h2; omega) (by have h1 := HO.out.1; have h2 := HO.out.2.1; have h3 := HU.out; unfold okP at h1 h2; omega) (by have h1 := HO.out.1; have h2 := HO.out.2.2; have h3 := HU.out; unfold okP at h1 h2; omega) (by have h1 := HO.out.1; have h2 := HO.out.2.2; have h3 := HU.out; unfold okP at h1 h2; omega) _).mono ?_
         rintro e w4 ⟨rfl, hb4'⟩
         have es : ux * vy - uy * vx = s := by
           obtain ⟨h1, h2, h3, h4, h5⟩ := HU.out
           rw [h1, h2, h3, h4, h5]; rfl
         rw [es]
         have hb4a : Below w3.heap.size w3 w4 := by first | exact hb4' | exact below_un hb4' | exact below_unN hb4'
         have hb4 : Below W0.heap.size W0 w4 := hb3.trans (hb4a.mono hb3.size)
         have K4 := Lib.hid (And.intro (xy_cells G0.out hb4).1 (And.intro (xy_cells G0.out hb4).2 (And.intro (xy_cells G1.out hb4).1 (And.intro (xy_cells G1.out hb4).2 (xy_cells G2.out hb4)))))
         clear hb4' es)
      | (go_at_call 41
         refine (sign_any s _).mono ?_
         rintro e w5 ⟨rfl, rfl⟩))
  all_goals
    go_wp2
    go_ret2
    first
      | exact ⟨rfl, hw0.trans (hb4.mono hw0.size)⟩
      | exact ⟨rfl, below_drewN (hw0.trans (hb4.mono hw0.size)) _⟩

set_option maxRecDepth 100000 in
set_option maxHeartbeats 1000000 in
theorem turn_bad (ax ay bx by_ cx cy : Int) (h : ¬ (okP ax ay ∧ okP bx by_ ∧ okP cx cy)) (w : World) :
    Calls Tryz.prog 28 #[.agg #[.int .i64 ax, .int .i64 ay], .agg #[.int .i64 bx, .int .i64 by_], .agg #[.int .i64 cx, .int .i64 cy]] w (RetIE w 0 11) := by
  obtain ⟨W0, hW0⟩ : ∃ W0, W0 = (((w.alloc (.cells #[.int .i64 ax, .int .i64 ay] 56)).alloc (.cells #[.int .i64 bx, .int .i64 by_] 56)).alloc (.cells #[.int .i64 cx, .int .i64 cy] 56)).alloc (.cells #[.int .i64 ax, .int .i64 ay, .int .i64 bx, .int .i64 by_, .int .i64 cx, .int .i64 cy] 56) := ⟨_, rfl⟩
  have HW0 := Lib.hid hW0
  have hw0 : Below w.heap.size w W0 := by rw [hW0]; exact ((((Below.refl _ _).alloc (Nat.le_refl _) _).alloc (by simp) _).alloc (by simp; omega) _).alloc (by simp; omega) _
  obtain ⟨g0, g1, g2, g3⟩ := alloc4 w (.cells #[.int .i64 ax, .int .i64 ay] 56) (.cells #[.int .i64 bx, .int .i64 by_] 56) (.cells #[.int .i64 cx, .int .i64 cy] 56) (.cells #[.int .i64 ax, .int .i64 ay, .int .i64 bx, .int .i64 by_, .int .i64 cx, .int .i64 cy] 56)
  rw [← hW0] at g0 g1 g2 g3
  clear hW0
  have hgl : w.heap.size + 1 + 1 + 1 < W0.heap.size := (Array.getElem?_eq_some_iff.1 g3).1
  have HP := Lib.hid (places3 g3)
  have hbad : ∃ k, k < 3 ∧ ¬ okP (fx ax bx cx k) (fx ay by_ cy k) := by
    by_cases h1 : okP ax ay
    · by_cases h2 : okP bx by_
      · exact ⟨2, by omega, fun h3 => h ⟨h1, h2, h3⟩⟩
      · exact ⟨1, by omega, h2⟩
    · exact ⟨0, by omega, h1⟩
  have HB := Lib.hid hbad
  clear g0 g1 g2 g3 h hbad
  go_enter Tryz.func28, Tryz.ntmps28
  go_wp2_with fail
  rw [← HW0.out]
  refine (allPlaces_no _ 3 3 (fx ax bx cx) (fx ay by_ cy) W0 HP.out hgl (by omega) HB.out).mono ?_
  rintro e w1 ⟨rfl, hb1⟩
  go_wp2
  go_ret2
  exact ⟨rfl, hw0.trans (hb1.mono hw0.size)⟩
end Go.Proofs.YtdpmfenikomfkaaGreat
