/-
  allPlaces, from, cross, sign, Turn.
-/
import Derived.Test.YtogklhbodaghdaaMem
import Derived.Test.YtogklhbodaghdaaProg
import Derived.WalkKit
import Derived.WalkSpells
import Derived.WalkSmall
import Derived.Deep.RegionHeld3
import Derived.Laws.NewBlocks
namespace Go.Proofs.Ytogklhbodaghdaa
open Go.RowKit

def RetB (w : World) (b : Bool) (e : Ending) (w' : World) : Prop := e = .returned (.bool b) ∧ Below w.heap.size w w'
/-- An int and an error. -/
def RetIE (w : World) (i c : Int) (e : Ending) (w' : World) : Prop := e = .returned (.tuple #[.int .i64 i, .int .i64 c]) ∧ Below w.heap.size w w'

def okP (x y : Int) : Prop := -268435456 ≤ x ∧ x ≤ 268435456 ∧ -268435456 ≤ y ∧ y ≤ 268435456

/-- l places lie at the head of block g. -/
def PlacesAt (w : World) (g l : Nat) (f h : Nat → Int) : Prop :=
  ∀ k, k < l → w.cell? ⟨g, k * 2, none⟩ = some (.int .i64 (f k)) ∧ w.cell? ⟨g, k * 2 + 1, none⟩ = some (.int .i64 (h k))

def PlaceRel (w : World) (l : Nat) (f h : Nat → Int) (i : Value) (wr : World) : Prop := ∃ k, k ≤ l ∧ i = .int .i64 (k : Nat) ∧ (∀ j, j < k → okP (f j) (h j)) ∧ Below w.heap.size w wr

set_option maxRecDepth 100000 in
set_option maxHeartbeats 1000000 in
theorem allPlaces_yes (g l c : Nat) (f h : Nat → Int) (w : World) (hp : PlacesAt w g l f h) (hg : g < w.heap.size) (hl : l ≤ 65536) (hok : ∀ k, k < l → okP (f k) (h k)) :
    Calls Try.prog 28 #[.slice (some ⟨g, 0, none⟩) l c] w (RetB w true) := by
  have H := Lib.hid hp
  have HO := Lib.hid hok
  clear hp hok
  go_enter Try.func28, Try.ntmps28
  go_wp2
  go_loopw [7] (fun i wr => PlaceRel w l f h i wr) (fun i _ => l - (intOf i).toNat)
  case atStart => exact ⟨0, Nat.zero_le _, rfl, fun j hj => absurd hj (by omega), Below.refl _ _⟩
  case round =>
    obtain ⟨k, hk, rfl, hb, hbr⟩ := hrel
    have HB := Lib.hid hb
    clear hb
    by_cases hlt : k < l
    · obtain ⟨k0, k1⟩ := H.out k hlt
      obtain ⟨o1, o2, o3, o4⟩ := HO.out k hlt
      have j0 : wr.cell? ⟨g, k * 2, none⟩ = some (.int .i64 (f k)) := by rw [hbr.cell hg]; exact k0
      have j1 : wr.cell? ⟨g, k * 2 + 1, none⟩ = some (.int .i64 (h k)) := by rw [hbr.cell hg]; exact k1
      generalize hx : f k = x at j0 o1 o2
      generalize hy : h k = y at j1 o3 o4
      have HX := Lib.hid hx
      have HY := Lib.hid hy
      clear k0 k1 hx hy
      go_wp2
      go_roundw
      case rel =>
        refine ⟨k + 1, by omega, by go_num, fun j hj => ?_, hbr.alloc hbr.size _⟩
        by_cases e : j = k
        · subst e; exact HO.out _ hlt
        · exact HB.out j (by omega)
      case measure => simp [intOf] <;> omega
    · go_wp2
      go_ret
      exact ⟨rfl, hbr⟩

set_option maxRecDepth 100000 in
set_option maxHeartbeats 1000000 in
theorem allPlaces_no (g l c : Nat) (f h : Nat → Int) (w : World) (hp : PlacesAt w g l f h) (hg : g < w.heap.size) (hl : l ≤ 65536) (hok : ∃ k, k < l ∧ ¬ okP (f k) (h k)) :
    Calls Try.prog 28 #[.slice (some ⟨g, 0, none⟩) l c] w (RetB w false) := by
  have H := Lib.hid hp
  have HO := Lib.hid hok
  clear hp hok
  go_enter Try.func28, Try.ntmps28
  go_wp2
  go_loopw [7] (fun i wr => PlaceRel w l f h i wr) (fun i _ => l - (intOf i).toNat)
  case atStart => exact ⟨0, Nat.zero_le _, rfl, fun j hj => absurd hj (by omega), Below.refl _ _⟩
  case round =>
    obtain ⟨k, hk, rfl, hb, hbr⟩ := hrel
    have HB := Lib.hid hb
    clear hb
    by_cases hlt : k < l
    · obtain ⟨k0, k1⟩ := H.out k hlt
      have j0 : wr.cell? ⟨g, k * 2, none⟩ = some (.int .i64 (f k)) := by rw [hbr.cell hg]; exact k0
      have j1 : wr.cell? ⟨g, k * 2 + 1, none⟩ = some (.int .i64 (h k)) := by rw [hbr.cell hg]; exact k1
      clear k0 k1
      by_cases hv : okP (f k) (h k)
      · have hvv := Lib.hid hv
        obtain ⟨o1, o2, o3, o4⟩ := hv
        generalize hx : f k = x at j0 o1 o2
        generalize hy : h k = y at j1 o3 o4
        clear hx hy
        go_wp2
        go_roundw
        case rel =>
          refine ⟨k + 1, by omega, by go_num, fun j hj => ?_, hbr.alloc hbr.size _⟩
          by_cases e : j = k
          · subst e; exact hvv.out
          · exact HB.out j (by omega)
        case measure => simp [intOf] <;> omega
      · have hfin : Below w.heap.size w (wr.alloc (.cells #[.int .i64 (f k), .int .i64 (h k)] 47)) := hbr.alloc hbr.size _
        unfold okP at hv
        generalize f k = x at *
        generalize h k = y at *
        by_cases a1 : x < -268435456
        · go_wp2
          go_ret
          exact ⟨rfl, hfin⟩
        · by_cases a2 : 268435456 < x
          · go_wp2
            go_ret
            exact ⟨rfl, hfin⟩
          · by_cases a3 : y < -268435456
            · go_wp2
              go_ret
              exact ⟨rfl, hfin⟩
            · have a4 : 268435456 < y := by omega
              clear hv
              go_wp2
              go_ret
              exact ⟨rfl, hfin⟩
    · exact absurd HO.out (fun ⟨j, h1, h2⟩ => h2 (HB.out j (by omega)))

def sgnI (n : Int) : Int := if n < 0 then -1 else if 0 < n then 1 else 0
theorem sign_any (n : Int) (w : World) : Calls Try.prog 29 #[.int .i64 n] w fun e w' => e = .returned (.int .i64 (sgnI n)) ∧ w = w' := by
  rcases Int.lt_trichotomy n 0 with h | h | h
  · have e : sgnI n = -1 := by unfold sgnI; rw [if_pos h]
    rw [e]
    clear e
    go_enter Try.func29, Try.ntmps29
    go_wp2
    go_ret
    exact ⟨rfl, rfl⟩
  · subst h
    go_enter Try.func29, Try.ntmps29
    go_wp2
    go_ret
    exact ⟨rfl, rfl⟩
  · have e : sgnI n = 1 := by unfold sgnI; rw [if_neg (by omega), if_pos h]
    rw [e]
    clear e
    go_enter Try.func29, Try.ntmps29
    go_wp2
    go_ret
    exact ⟨rfl, rfl⟩

/-- A vector's two coordinates. -/
def RetXY (w : World) (x y : Int) (e : Ending) (w' : World) : Prop := e = .returned (.agg #[.int .i64 x, .int .i64 y]) ∧ Below w.heap.size w w'

set_option maxRecDepth 100000 in
set_option maxHeartbeats 1000000 in
theorem from_any (ax ay bx by_ : Int) (ha : okP ax ay) (hb : okP bx by_) (w : World) :
    Calls Try.prog 31 #[.agg #[.int .i64 ax, .int .i64 ay], .agg #[.int .i64 bx, .int .i64 by_]] w (RetXY w (bx - ax) (by_ - ay)) := by
  obtain ⟨a1, a2, a3, a4⟩ := ha
  obtain ⟨b1, b2, b3, b4⟩ := hb
  go_enter Try.func31, Try.ntmps31
  go_wp2
  exact bodyPost_ret (v := .agg #[.int .i64 (bx - ax), .int .i64 (by_ - ay)]) (by simp [results, Try.results31, go_sem]) rfl ⟨rfl, (((Below.refl _ _).alloc (Nat.le_refl _) _).alloc (by simp) _).alloc (by simp; omega) _⟩

theorem mul_bd {a b : Int} (ha : -536870912 ≤ a ∧ a ≤ 536870912) (hb : -536870912 ≤ b ∧ b ≤ 536870912) : -288230376151711744 ≤ a * b ∧ a * b ≤ 288230376151711744 := by
  have h : (a * b).natAbs ≤ 536870912 * 536870912 := by
    rw [Int.natAbs_mul]
    exact Nat.mul_le_mul (by omega) (by omega)
  omega

theorem wrap64_id {a : Int} (h1 : -9223372036854775808 ≤ a) (h2 : a ≤ 9223372036854775807) : wrap64 a = a := IntWalk.wrap64_in a ⟨h1, h2⟩

set_option maxRecDepth 100000 in
set_option maxHeartbeats 1000000 in
theorem cross_any (px py qx qy : Int) (h1 : -536870912 ≤ px ∧ px ≤ 536870912) (h2 : -536870912 ≤ py ∧ py ≤ 536870912) (h3 : -536870912 ≤ qx ∧ qx ≤ 536870912) (h4 : -536870912 ≤ qy ∧ qy ≤ 536870912) (w : World) :
    Calls Try.prog 30 #[.agg #[.int .i64 px, .int .i64 py], .agg #[.int .i64 qx, .int .i64 qy]] w fun e w' => e = .returned (.int .i64 (px * qy - py * qx)) ∧ Below w.heap.size w w' := by
  have b1 := mul_bd h1 h4
  have b2 := mul_bd h2 h3
  have hb := Lib.hid (And.intro b1 b2)
  clear b1 b2 h1 h2 h3 h4
  go_enter Try.func30, Try.ntmps30
  go_wp2
  go_ret
  refine ⟨?_, ((Below.refl _ _).alloc (Nat.le_refl _) _).alloc (by simp) _⟩
  obtain ⟨b1, b2⟩ := hb.out
  have e : wrap64 (wrap64 (px * qy) - wrap64 (py * qx)) = px * qy - py * qx := by
    rw [wrap64_id (a := px * qy) (by omega) (by omega), wrap64_id (a := py * qx) (by omega) (by omega), wrap64_id (by omega) (by omega)]
  rw [← e]
  rfl
end Go.Proofs.Ytogklhbodaghdaa
