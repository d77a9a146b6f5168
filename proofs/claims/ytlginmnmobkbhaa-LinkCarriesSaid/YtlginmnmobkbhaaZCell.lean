/-
  A block of three cells; bytes.Clone.
-/
import Derived.Test.YtlginmnmobkbhaaZApp
import Derived.WalkSpells
namespace Go.Proofs.Ytlginmnmobkbhaa
open Go.RowKit

set_option maxRecDepth 100000 in
theorem fr_blk {W0 w1 : World} {g : Nat} {a b c : Value} {T : TypeId} (h : W0.heap[g]? = some (.cells #[a, b, c] T (0, 0))) (hb : Below W0.heap.size W0 w1) :
    w1.cell? ⟨g, 0, none⟩ = some a ∧ w1.cell? ⟨g, 1, none⟩ = some b ∧ w1.cell? ⟨g, 2, none⟩ = some c ∧ ∀ i, w1.frozen? ⟨g, i, none⟩ = false := by
  have hlt : g < W0.heap.size := (Array.getElem?_eq_some_iff.1 h).1
  have h1 : w1.heap[g]? = some (.cells #[a, b, c] T (0, 0)) := (hb.block g hlt).trans h
  exact ⟨cell_of_row _ _ _ _ _ _ h1, cell_of_row _ _ _ _ _ _ h1, cell_of_row _ _ _ _ _ _ h1, fun i => by simp [World.frozen?, h1]⟩
set_option maxRecDepth 100000 in
theorem U0ex (w : World) : ∃ W0, Hid (W0 = w.alloc (.cells #[.int .i64 0, .int .i64 0, .slice none 0 0] 35)) ∧ Below w.heap.size w W0 ∧
    Hid (W0.heap[w.heap.size]? = some (.cells #[.int .i64 0, .int .i64 0, .slice none 0 0] 35 (0, 0))) ∧ w.heap.size < W0.heap.size :=
  ⟨_, rfl, (Below.refl _ _).alloc (Nat.le_refl _) _, heap_alloc_new w _, by simp⟩
set_option maxRecDepth 100000 in
theorem set3_below {w0 w : World} {B g : Nat} {x y z : Value} (h : Below B w0 w) (hg : B ≤ g) : Below B w0 (((w.setCell ⟨g, 0, none⟩ x).setCell ⟨g, 1, none⟩ y).setCell ⟨g, 2, none⟩ z) :=
  ((h.setCell hg x).setCell hg y).setCell hg z

set_option maxRecDepth 100000 in
theorem belW {w W w1 : World} (h0 : Below w.heap.size w W) (h : Below W.heap.size W w1) : Below w.heap.size w w1 := h0.trans (h.mono h0.size)
set_option maxRecDepth 100000 in
theorem stq {f : FuncId} {args : Array Value} {w : World} {v : Value} (h : Calls Try.prog f args w fun e w' => e = .returned v ∧ w = w') : Calls Try.prog f args w (fun e w'' => e = .returned v ∧ w'' = w) :=
  h.mono fun _ _ ⟨a, b⟩ => ⟨a, b.symm⟩
set_option maxRecDepth 100000 in
theorem rb_take {w : World} {B n c m : Nat} {A : Option Addr} {L : List Nat} (h : RB w B (.slice A n c) L) (hm : m ≤ n) (hA : ∃ a, A = some a) : RB w B (.slice A m c) (L.take m) := by
  obtain ⟨a, rfl⟩ := hA
  exact ⟨h.1.take hm, nz_some⟩

set_option maxRecDepth 100000 in
set_option maxHeartbeats 400000 in
theorem clone_some (X : List Nat) (a : Addr) (n c B : Nat) (w : World) (hx : RB w B (.slice (some a) n c) X) (hB : B ≤ w.heap.size) (h64 : X.length ≤ 1048576) :
    Calls Try.prog 60 #[.slice (some a) n c] w (RetOwn w X) := by
  have hown : (w.alloc (.cells #[] 5)).ownsRow w.heap.size 5 1 (.slice (some ⟨w.heap.size, 0, none⟩) 0 0) 0 (bys []) :=
    World.ownsRow_lit w #[] 0 (Nat.le_refl _) (by simp [maxLen]) rfl
  have hx1 := hx.alloc hB (.cells #[] 5)
  have hb1 : Below w.heap.size w (w.alloc (.cells #[] 5)) := (Below.refl _ _).alloc (Nat.le_refl _) _
  have hs1 : w.heap.size ≤ (w.alloc (.cells #[] 5)).heap.size := by simp
  have HO := Lib.hid hown
  have HX := Lib.hid hx1
  clear hown hx1 hx
  have hnil := Lib.run_eql_slice_nil (P := Try.prog) w 33 5 (some a) n c 0 0 Try.underlying33
  simp only [Option.isNone_some] at hnil
  go_enter Try.func60, Try.ntmps60
  go_wp2_with (at_builtin
               refine wpList_append_bytes rfl (.tmp 5) (.tmp 6) rfl w.heap.size B _ 0 [] rfl HO.out _ X rfl HX.out (by omega) hs1 ?_)
  intro v' w' ho hg
  go_wp2
  go_ret
  refine ⟨_, rfl, ?_, grown_below' hb1 hg (fun k hk => by simp [Value.ownBlock] at hk; omega)⟩
  simpa using ho

end Go.Proofs.Ytlginmnmobkbhaa
