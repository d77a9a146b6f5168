/-
  Hamilton's product by the table of the units, the document's.
-/
import Derived.Test.YtdmopmgabieciaaKBeamc
namespace Go.Proofs.Ytdmopmgabieciaa
open Go.RowKit

/-- A block of four numbers that is being written. -/
def OS (w : World) (g : Nat) (a b c d : Int) : Prop := (w.cell? ⟨g, 0, none⟩ = some (.int .i64 a) ∧ w.cell? ⟨g, 1, none⟩ = some (.int .i64 b) ∧ w.cell? ⟨g, 2, none⟩ = some (.int .i64 c) ∧ w.cell? ⟨g, 3, none⟩ = some (.int .i64 d)) ∧ ∀ i, w.frozen? ⟨g, i, none⟩ = false
theorem OS.s0 {w : World} {g : Nat} {a b c d : Int} (h : OS w g a b c d) (x : Int) : OS (w.setCell ⟨g, 0, none⟩ (.int .i64 x)) g x b c d := by
  obtain ⟨⟨h0, h1, h2, h3⟩, h4⟩ := h
  exact ⟨⟨by simp [go_sem, h0], by simp [go_sem, h1], by simp [go_sem, h2], by simp [go_sem, h3]⟩, fun i => by simp [go_sem, h4]⟩
theorem OS.s1 {w : World} {g : Nat} {a b c d : Int} (h : OS w g a b c d) (x : Int) : OS (w.setCell ⟨g, 1, none⟩ (.int .i64 x)) g a x c d := by
  obtain ⟨⟨h0, h1, h2, h3⟩, h4⟩ := h
  exact ⟨⟨by simp [go_sem, h0], by simp [go_sem, h1], by simp [go_sem, h2], by simp [go_sem, h3]⟩, fun i => by simp [go_sem, h4]⟩
theorem OS.s2 {w : World} {g : Nat} {a b c d : Int} (h : OS w g a b c d) (x : Int) : OS (w.setCell ⟨g, 2, none⟩ (.int .i64 x)) g a b x d := by
  obtain ⟨⟨h0, h1, h2, h3⟩, h4⟩ := h
  exact ⟨⟨by simp [go_sem, h0], by simp [go_sem, h1], by simp [go_sem, h2], by simp [go_sem, h3]⟩, fun i => by simp [go_sem, h4]⟩
theorem OS.s3 {w : World} {g : Nat} {a b c d : Int} (h : OS w g a b c d) (x : Int) : OS (w.setCell ⟨g, 3, none⟩ (.int .i64 x)) g a b c x := by
  obtain ⟨⟨h0, h1, h2, h3⟩, h4⟩ := h
  exact ⟨⟨by simp [go_sem, h0], by simp [go_sem, h1], by simp [go_sem, h2], by simp [go_sem, h3]⟩, fun i => by simp [go_sem, h4]⟩

structure TR (W0 : World) (g : Nat) (a b c d : Int) (wr : World) : Prop where
  bel : Below W0.heap.size W0 wr
  os : OS wr g a b c d


theorem boxes5 (w : World) (ca cb cc cd ce : Array Value) (T T' T'' U V : TypeId) : ∃ W0, Hid (W0 = ((((w.alloc (.cells ca T)).alloc (.cells cb T')).alloc (.cells cc T'')).alloc (.cells cd U)).alloc (.cells ce V)) ∧ Hid (Below w.heap.size w W0) ∧
    Hid (W0.heap[w.heap.size]? = some (.cells ca T (0, 0))) ∧ Hid (W0.heap[w.heap.size + 1]? = some (.cells cb T' (0, 0))) ∧ Hid (W0.heap[w.heap.size + 1 + 1]? = some (.cells cc T'' (0, 0))) ∧ Hid (W0.heap[w.heap.size + 1 + 1 + 1]? = some (.cells cd U (0, 0))) ∧ Hid (W0.heap[w.heap.size + 1 + 1 + 1 + 1]? = some (.cells ce V (0, 0))) ∧ Hid (W0.heap.size = w.heap.size + 1 + 1 + 1 + 1 + 1) := by
  have h1 : (w.alloc (.cells ca T)).heap.size = w.heap.size + 1 := by simp
  have h2 : ((w.alloc (.cells ca T)).alloc (.cells cb T')).heap.size = w.heap.size + 1 + 1 := by simp
  have h3 : (((w.alloc (.cells ca T)).alloc (.cells cb T')).alloc (.cells cc T'')).heap.size = w.heap.size + 1 + 1 + 1 := by simp
  have h4 : ((((w.alloc (.cells ca T)).alloc (.cells cb T')).alloc (.cells cc T'')).alloc (.cells cd U)).heap.size = w.heap.size + 1 + 1 + 1 + 1 := by simp
  have e0 := heap_alloc_new w (.cells ca T)
  have e1 := heap_alloc_new (w.alloc (.cells ca T)) (.cells cb T')
  have e2 := heap_alloc_new ((w.alloc (.cells ca T)).alloc (.cells cb T')) (.cells cc T'')
  have e3 := heap_alloc_new (((w.alloc (.cells ca T)).alloc (.cells cb T')).alloc (.cells cc T'')) (.cells cd U)
  have e4 := heap_alloc_new ((((w.alloc (.cells ca T)).alloc (.cells cb T')).alloc (.cells cc T'')).alloc (.cells cd U)) (.cells ce V)
  rw [h1] at e1
  rw [h2] at e2
  rw [h3] at e3
  rw [h4] at e4
  refine ⟨_, rfl, ?_, ?_, ?_, ?_, ?_, e4, ?_⟩
  · exact (((((Below.refl _ _).alloc (Nat.le_refl _) _).alloc (by omega) _).alloc (by omega) _).alloc (by omega) _).alloc (by omega) _
  · exact (heap_alloc_old _ _ (by omega)).trans ((heap_alloc_old _ _ (by omega)).trans ((heap_alloc_old _ _ (by omega)).trans ((heap_alloc_old _ _ (by omega)).trans e0)))
  · exact (heap_alloc_old _ _ (by omega)).trans ((heap_alloc_old _ _ (by omega)).trans ((heap_alloc_old _ _ (by omega)).trans e1))
  · exact (heap_alloc_old _ _ (by omega)).trans ((heap_alloc_old _ _ (by omega)).trans e2)
  · exact (heap_alloc_old _ _ (by omega)).trans e3
  · show (World.alloc _ _).heap.size = _
    simp

def tU : Array Value := #[.int .i64 0, .int .i64 1, .int .i64 2, .int .i64 3, .int .i64 1, .int .i64 0, .int .i64 3, .int .i64 2, .int .i64 2, .int .i64 3, .int .i64 0, .int .i64 1, .int .i64 3, .int .i64 2, .int .i64 1, .int .i64 0]
def tM : Array Value := #[.int .i64 1, .int .i64 1, .int .i64 1, .int .i64 1, .int .i64 1, .int .i64 (-1), .int .i64 1, .int .i64 (-1), .int .i64 1, .int .i64 (-1), .int .i64 (-1), .int .i64 1, .int .i64 1, .int .i64 1, .int .i64 (-1), .int .i64 (-1)]

def InR0 (W0 : World) (gq : Nat) (a b c d e f g h : Int) (iv : Value) (wr : World) : Prop :=
  (iv = .int .i64 0 ∧ TR W0 gq 0 0 0 0 wr) ∨
  (iv = .int .i64 1 ∧ TR W0 gq (a * e) 0 0 0 wr) ∨
  (iv = .int .i64 2 ∧ TR W0 gq (a * e) (a * f) 0 0 wr) ∨
  (iv = .int .i64 3 ∧ TR W0 gq (a * e) (a * f) (a * g) 0 wr) ∨
  (iv = .int .i64 4 ∧ TR W0 gq (a * e) (a * f) (a * g) (a * h) wr)
def InR1 (W0 : World) (gq : Nat) (a b c d e f g h : Int) (iv : Value) (wr : World) : Prop :=
  (iv = .int .i64 0 ∧ TR W0 gq (a * e) (a * f) (a * g) (a * h) wr) ∨
  (iv = .int .i64 1 ∧ TR W0 gq (a * e) (a * f + b * e) (a * g) (a * h) wr) ∨
  (iv = .int .i64 2 ∧ TR W0 gq (a * e - b * f) (a * f + b * e) (a * g) (a * h) wr) ∨
  (iv = .int .i64 3 ∧ TR W0 gq (a * e - b * f) (a * f + b * e) (a * g) (a * h + b * g) wr) ∨
  (iv = .int .i64 4 ∧ TR W0 gq (a * e - b * f) (a * f + b * e) (a * g - b * h) (a * h + b * g) wr)
def InR2 (W0 : World) (gq : Nat) (a b c d e f g h : Int) (iv : Value) (wr : World) : Prop :=
  (iv = .int .i64 0 ∧ TR W0 gq (a * e - b * f) (a * f + b * e) (a * g - b * h) (a * h + b * g) wr) ∨
  (iv = .int .i64 1 ∧ TR W0 gq (a * e - b * f) (a * f + b * e) (a * g - b * h + c * e) (a * h + b * g) wr) ∨
  (iv = .int .i64 2 ∧ TR W0 gq (a * e - b * f) (a * f + b * e) (a * g - b * h + c * e) (a * h + b * g - c * f) wr) ∨
  (iv = .int .i64 3 ∧ TR W0 gq (a * e - b * f - c * g) (a * f + b * e) (a * g - b * h + c * e) (a * h + b * g - c * f) wr) ∨
  (iv = .int .i64 4 ∧ TR W0 gq (a * e - b * f - c * g) (a * f + b * e + c * h) (a * g - b * h + c * e) (a * h + b * g - c * f) wr)
def InR3 (W0 : World) (gq : Nat) (a b c d e f g h : Int) (iv : Value) (wr : World) : Prop :=
  (iv = .int .i64 0 ∧ TR W0 gq (a * e - b * f - c * g) (a * f + b * e + c * h) (a * g - b * h + c * e) (a * h + b * g - c * f) wr) ∨
  (iv = .int .i64 1 ∧ TR W0 gq (a * e - b * f - c * g) (a * f + b * e + c * h) (a * g - b * h + c * e) (a * h + b * g - c * f + d * e) wr) ∨
  (iv = .int .i64 2 ∧ TR W0 gq (a * e - b * f - c * g) (a * f + b * e + c * h) (a * g - b * h + c * e + d * f) (a * h + b * g - c * f + d * e) wr) ∨
  (iv = .int .i64 3 ∧ TR W0 gq (a * e - b * f - c * g) (a * f + b * e + c * h - d * g) (a * g - b * h + c * e + d * f) (a * h + b * g - c * f + d * e) wr) ∨
  (iv = .int .i64 4 ∧ TR W0 gq (a * e - b * f - c * g - d * h) (a * f + b * e + c * h - d * g) (a * g - b * h + c * e + d * f) (a * h + b * g - c * f + d * e) wr)
def OutR (W0 : World) (gq : Nat) (a b c d e f g h : Int) (iv : Value) (wr : World) : Prop :=
  (iv = .int .i64 0 ∧ TR W0 gq 0 0 0 0 wr) ∨
  (iv = .int .i64 1 ∧ TR W0 gq (a * e) (a * f) (a * g) (a * h) wr) ∨
  (iv = .int .i64 2 ∧ TR W0 gq (a * e - b * f) (a * f + b * e) (a * g - b * h) (a * h + b * g) wr) ∨
  (iv = .int .i64 3 ∧ TR W0 gq (a * e - b * f - c * g) (a * f + b * e + c * h) (a * g - b * h + c * e) (a * h + b * g - c * f) wr) ∨
  (iv = .int .i64 4 ∧ TR W0 gq (a * e - b * f - c * g - d * h) (a * f + b * e + c * h - d * g) (a * g - b * h + c * e + d * f) (a * h + b * g - c * f + d * e) wr)
def numOf (v : Value) : Int := match v with | .int _ n => n | _ => 0

theorem wneg (X p q : Int) (h : -1000000000000000000 ≤ p * q ∧ p * q ≤ 1000000000000000000) (hx : -4000000000000000000 ≤ X ∧ X ≤ 4000000000000000000) : wrap64 (X + wrap64 (-p * q)) = X - p * q := by
  rw [Int.neg_mul]
  unfold wrap64
  omega
theorem start_TR {w W0 : World} (hs : W0.heap.size = w.heap.size + 1 + 1 + 1 + 1 + 1) (T : TypeId) : TR W0 (w.heap.size + 1 + 1 + 1 + 1 + 1) 0 0 0 0 (W0.alloc (.cells #[.int .i64 0, .int .i64 0, .int .i64 0, .int .i64 0] T)) := by
  rw [← hs]
  exact ⟨(Below.refl _ _).alloc (Nat.le_refl _) _, four_cells (heap_alloc_new W0 _) (Below.refl _ _), blk_frozen (heap_alloc_new W0 _) (Below.refl _ _)⟩
theorem TR.drw {W0 wr : World} {g : Nat} {a b c d : Int} (h : TR W0 g a b c d wr) : TR W0 g a b c d wr.drew := ⟨h.bel.drew, h.os⟩
theorem TR.s0 {w W0 wr : World} {a b c d : Int} (hs : W0.heap.size = w.heap.size + 1 + 1 + 1 + 1 + 1) (h : TR W0 (w.heap.size + 1 + 1 + 1 + 1 + 1) a b c d wr) (x : Int) : TR W0 (w.heap.size + 1 + 1 + 1 + 1 + 1) x b c d (wr.setCell ⟨w.heap.size + 1 + 1 + 1 + 1 + 1, 0, none⟩ (.int .i64 x)) :=
  ⟨h.bel.setCell (by show W0.heap.size ≤ w.heap.size + 1 + 1 + 1 + 1 + 1; omega) _, h.os.s0 x⟩
theorem TR.s1 {w W0 wr : World} {a b c d : Int} (hs : W0.heap.size = w.heap.size + 1 + 1 + 1 + 1 + 1) (h : TR W0 (w.heap.size + 1 + 1 + 1 + 1 + 1) a b c d wr) (x : Int) : TR W0 (w.heap.size + 1 + 1 + 1 + 1 + 1) a x c d (wr.setCell ⟨w.heap.size + 1 + 1 + 1 + 1 + 1, 1, none⟩ (.int .i64 x)) :=
  ⟨h.bel.setCell (by show W0.heap.size ≤ w.heap.size + 1 + 1 + 1 + 1 + 1; omega) _, h.os.s1 x⟩
theorem TR.s2 {w W0 wr : World} {a b c d : Int} (hs : W0.heap.size = w.heap.size + 1 + 1 + 1 + 1 + 1) (h : TR W0 (w.heap.size + 1 + 1 + 1 + 1 + 1) a b c d wr) (x : Int) : TR W0 (w.heap.size + 1 + 1 + 1 + 1 + 1) a b x d (wr.setCell ⟨w.heap.size + 1 + 1 + 1 + 1 + 1, 2, none⟩ (.int .i64 x)) :=
  ⟨h.bel.setCell (by show W0.heap.size ≤ w.heap.size + 1 + 1 + 1 + 1 + 1; omega) _, h.os.s2 x⟩
theorem TR.s3 {w W0 wr : World} {a b c d : Int} (hs : W0.heap.size = w.heap.size + 1 + 1 + 1 + 1 + 1) (h : TR W0 (w.heap.size + 1 + 1 + 1 + 1 + 1) a b c d wr) (x : Int) : TR W0 (w.heap.size + 1 + 1 + 1 + 1 + 1) a b c x (wr.setCell ⟨w.heap.size + 1 + 1 + 1 + 1 + 1, 3, none⟩ (.int .i64 x)) :=
  ⟨h.bel.setCell (by show W0.heap.size ≤ w.heap.size + 1 + 1 + 1 + 1 + 1; omega) _, h.os.s3 x⟩

set_option maxRecDepth 100000 in
set_option maxHeartbeats 8000000 in
theorem refTimes_any (a b c d e f g h : Int) (hs : SM a b c d e f g h) (ha : -1000000000000000000 ≤ a ∧ a ≤ 1000000000000000000) (hb : -1000000000000000000 ≤ b ∧ b ≤ 1000000000000000000) (hc : -1000000000000000000 ≤ c ∧ c ≤ 1000000000000000000) (hd : -1000000000000000000 ≤ d ∧ d ≤ 1000000000000000000) (w : World) :
    Calls Try.prog 64 #[.agg #[.int .i64 a, .int .i64 b, .int .i64 c, .int .i64 d], .agg #[.int .i64 e, .int .i64 f, .int .i64 g, .int .i64 h]] w
      (RetQ w (q0 a b c d e f g h) (q1 a b c d e f g h) (q2 a b c d e f g h) (q3 a b c d e f g h)) := by
  obtain ⟨h1, h2, h3, h4, h5, h6, h7, h8, h9, h10, h11, h12, h13, h14, h15, h16⟩ := hs
  unfold sm at h1 h2 h3 h4 h5 h6 h7 h8 h9 h10 h11 h12 h13 h14 h15 h16
  obtain ⟨W0, HW0, HW, G0, G1, G2, G3, G4, HS⟩ := boxes5 w #[.int .i64 a, .int .i64 b, .int .i64 c, .int .i64 d] #[.int .i64 e, .int .i64 f, .int .i64 g, .int .i64 h] #[.int .i64 0, .int .i64 0, .int .i64 0, .int .i64 0] tU tM 31 31 31 154 154
  unfold tU tM at HW0
  have HT0 := Lib.hid (start_TR HS.out 31)
  go_enter Try.func64, Try.ntmps64
  go_wp2
  rw [← HW0.out]
  go_loopw [20] (fun iv wr => OutR W0 (w.heap.size + 1 + 1 + 1 + 1 + 1) a b c d e f g h iv wr) (fun iv _ => 4 - (numOf iv).toNat)
  case atStart => exact Or.inl ⟨rfl, HT0.out⟩
  case round =>
    unfold OutR at hrel
    obtain ⟨wo, hwo⟩ : ∃ x, x = wr := ⟨_, rfl⟩
    subst hwo
    rcases hrel with ⟨rfl, hT⟩ | ⟨rfl, hT⟩ | ⟨rfl, hT⟩ | ⟨rfl, hT⟩ | ⟨rfl, hT⟩
    · have HT := Lib.hid hT
      clear hT
      go_wp2
      go_loopw [23] (fun iv wr => InR0 W0 (w.heap.size + 1 + 1 + 1 + 1 + 1) a b c d e f g h iv wr) (fun iv _ => 4 - (numOf iv).toNat)
      case atStart => exact Or.inl ⟨rfl, HT.out⟩
      case round =>
        unfold InR0 at hrel
        rcases hrel with ⟨rfl, hT⟩ | ⟨rfl, hT⟩ | ⟨rfl, hT⟩ | ⟨rfl, hT⟩ | ⟨rfl, hT⟩
        · have cu := blk_cell G3.out hT.bel 0 (.int .i64 0) rfl
          have cm := blk_cell G4.out hT.bel 0 (.int .i64 1) rfl
          have cp := blk_cell G0.out hT.bel 0 (.int .i64 a) rfl
          have cq := blk_cell G1.out hT.bel 0 (.int .i64 e) rfl
          have co := hT.os.1.1
          have cf := hT.os.2
          have HT2 := Lib.hid hT
          clear hT
          go_wp2
          go_region
          go_wp2
          go_roundw
          case rel =>
            have TT := TR.s0 HS.out HT2.out.drw (a * e)
            skip
            exact Or.inr (Or.inl ⟨rfl, TT⟩)
          case measure => simp [numOf]
        · have cu := blk_cell G3.out hT.bel 1 (.int .i64 1) rfl
          have cm := blk_cell G4.out hT.bel 1 (.int .i64 1) rfl
          have cp := blk_cell G0.out hT.bel 0 (.int .i64 a) rfl
          have cq := blk_cell G1.out hT.bel 1 (.int .i64 f) rfl
          have co := hT.os.1.2.1
          have cf := hT.os.2
          have HT2 := Lib.hid hT
          clear hT
          go_wp2
          go_region
          go_wp2
          go_roundw
          case rel =>
            have TT := TR.s1 HS.out HT2.out.drw (a * f)
            skip
            exact Or.inr (Or.inr (Or.inl ⟨rfl, TT⟩))
          case measure => simp [numOf]
        · have cu := blk_cell G3.out hT.bel 2 (.int .i64 2) rfl
          have cm := blk_cell G4.out hT.bel 2 (.int .i64 1) rfl
          have cp := blk_cell G0.out hT.bel 0 (.int .i64 a) rfl
          have cq := blk_cell G1.out hT.bel 2 (.int .i64 g) rfl
          have co := hT.os.1.2.2.1
          have cf := hT.os.2
          have HT2 := Lib.hid hT
          clear hT
          go_wp2
          go_region
          go_wp2
          go_roundw
          case rel =>
            have TT := TR.s2 HS.out HT2.out.drw (a * g)
            skip
            exact Or.inr (Or.inr (Or.inr (Or.inl ⟨rfl, TT⟩)))
          case measure => simp [numOf]
        · have cu := blk_cell G3.out hT.bel 3 (.int .i64 3) rfl
          have cm := blk_cell G4.out hT.bel 3 (.int .i64 1) rfl
          have cp := blk_cell G0.out hT.bel 0 (.int .i64 a) rfl
          have cq := blk_cell G1.out hT.bel 3 (.int .i64 h) rfl
          have co := hT.os.1.2.2.2
          have cf := hT.os.2
          have HT2 := Lib.hid hT
          clear hT
          go_wp2
          go_region
          go_wp2
          go_roundw
          case rel =>
            have TT := TR.s3 HS.out HT2.out.drw (a * h)
            skip
            exact Or.inr (Or.inr (Or.inr (Or.inr (⟨rfl, TT⟩))))
          case measure => simp [numOf]
        · have HT2 := Lib.hid hT
          clear hT
          go_wp2
          go_roundw
          case rel => exact Or.inr (Or.inl ⟨rfl, HT2.out⟩)
          case measure => simp [numOf]
    · have HT := Lib.hid hT
      clear hT
      go_wp2
      go_loopw [23] (fun iv wr => InR1 W0 (w.heap.size + 1 + 1 + 1 + 1 + 1) a b c d e f g h iv wr) (fun iv _ => 4 - (numOf iv).toNat)
      case atStart => exact Or.inl ⟨rfl, HT.out⟩
      case round =>
        unfold InR1 at hrel
        rcases hrel with ⟨rfl, hT⟩ | ⟨rfl, hT⟩ | ⟨rfl, hT⟩ | ⟨rfl, hT⟩ | ⟨rfl, hT⟩
        · have cu := blk_cell G3.out hT.bel 4 (.int .i64 1) rfl
          have cm := blk_cell G4.out hT.bel 4 (.int .i64 1) rfl
          have cp := blk_cell G0.out hT.bel 1 (.int .i64 b) rfl
          have cq := blk_cell G1.out hT.bel 0 (.int .i64 e) rfl
          have co := hT.os.1.2.1
          have cf := hT.os.2
          have HT2 := Lib.hid hT
          clear hT
          go_wp2
          go_region
          go_wp2
          go_roundw
          case rel =>
            have TT := TR.s1 HS.out HT2.out.drw (a * f + b * e)
            skip
            exact Or.inr (Or.inl ⟨rfl, TT⟩)
          case measure => simp [numOf]
        · have cu := blk_cell G3.out hT.bel 5 (.int .i64 0) rfl
          have cm := blk_cell G4.out hT.bel 5 (.int .i64 (-1)) rfl
          have cp := blk_cell G0.out hT.bel 1 (.int .i64 b) rfl
          have cq := blk_cell G1.out hT.bel 1 (.int .i64 f) rfl
          have co := hT.os.1.1
          have cf := hT.os.2
          have HT2 := Lib.hid hT
          clear hT
          go_wp2
          go_region
          go_wp2
          go_roundw
          case rel =>
            have TT := TR.s0 HS.out HT2.out.drw (a * e - b * f)
            rw [wneg (a * e) b f (by omega) (by omega)]
            exact Or.inr (Or.inr (Or.inl ⟨rfl, TT⟩))
          case measure => simp [numOf]
        · have cu := blk_cell G3.out hT.bel 6 (.int .i64 3) rfl
          have cm := blk_cell G4.out hT.bel 6 (.int .i64 1) rfl
          have cp := blk_cell G0.out hT.bel 1 (.int .i64 b) rfl
          have cq := blk_cell G1.out hT.bel 2 (.int .i64 g) rfl
          have co := hT.os.1.2.2.2
          have cf := hT.os.2
          have HT2 := Lib.hid hT
          clear hT
          go_wp2
          go_region
          go_wp2
          go_roundw
          case rel =>
            have TT := TR.s3 HS.out HT2.out.drw (a * h + b * g)
            skip
            exact Or.inr (Or.inr (Or.inr (Or.inl ⟨rfl, TT⟩)))
          case measure => simp [numOf]
        · have cu := blk_cell G3.out hT.bel 7 (.int .i64 2) rfl
          have cm := blk_cell G4.out hT.bel 7 (.int .i64 (-1)) rfl
          have cp := blk_cell G0.out hT.bel 1 (.int .i64 b) rfl
          have cq := blk_cell G1.out hT.bel 3 (.int .i64 h) rfl
          have co := hT.os.1.2.2.1
          have cf := hT.os.2
          have HT2 := Lib.hid hT
          clear hT
          go_wp2
          go_region
          go_wp2
          go_roundw
          case rel =>
            have TT := TR.s2 HS.out HT2.out.drw (a * g - b * h)
            rw [wneg (a * g) b h (by omega) (by omega)]
            exact Or.inr (Or.inr (Or.inr (Or.inr (⟨rfl, TT⟩))))
          case measure => simp [numOf]
        · have HT2 := Lib.hid hT
          clear hT
          go_wp2
          go_roundw
          case rel => exact Or.inr (Or.inr (Or.inl ⟨rfl, HT2.out⟩))
          case measure => simp [numOf]
    · have HT := Lib.hid hT
      clear hT
      go_wp2
      go_loopw [23] (fun iv wr => InR2 W0 (w.heap.size + 1 + 1 + 1 + 1 + 1) a b c d e f g h iv wr) (fun iv _ => 4 - (numOf iv).toNat)
      case atStart => exact Or.inl ⟨rfl, HT.out⟩
      case round =>
        unfold InR2 at hrel
        rcases hrel with ⟨rfl, hT⟩ | ⟨rfl, hT⟩ | ⟨rfl, hT⟩ | ⟨rfl, hT⟩ | ⟨rfl, hT⟩
        · have cu := blk_cell G3.out hT.bel 8 (.int .i64 2) rfl
          have cm := blk_cell G4.out hT.bel 8 (.int .i64 1) rfl
          have cp := blk_cell G0.out hT.bel 2 (.int .i64 c) rfl
          have cq := blk_cell G1.out hT.bel 0 (.int .i64 e) rfl
          have co := hT.os.1.2.2.1
          have cf := hT.os.2
          have HT2 := Lib.hid hT
          clear hT
          go_wp2
          go_region
          go_wp2
          go_roundw
          case rel =>
            have TT := TR.s2 HS.out HT2.out.drw (a * g - b * h + c * e)
            skip
            exact Or.inr (Or.inl ⟨rfl, TT⟩)
          case measure => simp [numOf]
        · have cu := blk_cell G3.out hT.bel 9 (.int .i64 3) rfl
          have cm := blk_cell G4.out hT.bel 9 (.int .i64 (-1)) rfl
          have cp := blk_cell G0.out hT.bel 2 (.int .i64 c) rfl
          have cq := blk_cell G1.out hT.bel 1 (.int .i64 f) rfl
          have co := hT.os.1.2.2.2
          have cf := hT.os.2
          have HT2 := Lib.hid hT
          clear hT
          go_wp2
          go_region
          go_wp2
          go_roundw
          case rel =>
            have TT := TR.s3 HS.out HT2.out.drw (a * h + b * g - c * f)
            rw [wneg (a * h + b * g) c f (by omega) (by omega)]
            exact Or.inr (Or.inr (Or.inl ⟨rfl, TT⟩))
          case measure => simp [numOf]
        · have cu := blk_cell G3.out hT.bel 10 (.int .i64 0) rfl
          have cm := blk_cell G4.out hT.bel 10 (.int .i64 (-1)) rfl
          have cp := blk_cell G0.out hT.bel 2 (.int .i64 c) rfl
          have cq := blk_cell G1.out hT.bel 2 (.int .i64 g) rfl
          have co := hT.os.1.1
          have cf := hT.os.2
          have HT2 := Lib.hid hT
          clear hT
          go_wp2
          go_region
          go_wp2
          go_roundw
          case rel =>
            have TT := TR.s0 HS.out HT2.out.drw (a * e - b * f - c * g)
            rw [wneg (a * e - b * f) c g (by omega) (by omega)]
            exact Or.inr (Or.inr (Or.inr (Or.inl ⟨rfl, TT⟩)))
          case measure => simp [numOf]
        · have cu := blk_cell G3.out hT.bel 11 (.int .i64 1) rfl
          have cm := blk_cell G4.out hT.bel 11 (.int .i64 1) rfl
          have cp := blk_cell G0.out hT.bel 2 (.int .i64 c) rfl
          have cq := blk_cell G1.out hT.bel 3 (.int .i64 h) rfl
          have co := hT.os.1.2.1
          have cf := hT.os.2
          have HT2 := Lib.hid hT
          clear hT
          go_wp2
          go_region
          go_wp2
          go_roundw
          case rel =>
            have TT := TR.s1 HS.out HT2.out.drw (a * f + b * e + c * h)
            skip
            exact Or.inr (Or.inr (Or.inr (Or.inr (⟨rfl, TT⟩))))
          case measure => simp [numOf]
        · have HT2 := Lib.hid hT
          clear hT
          go_wp2
          go_roundw
          case rel => exact Or.inr (Or.inr (Or.inr (Or.inl ⟨rfl, HT2.out⟩)))
          case measure => simp [numOf]
    · have HT := Lib.hid hT
      clear hT
      go_wp2
      go_loopw [23] (fun iv wr => InR3 W0 (w.heap.size + 1 + 1 + 1 + 1 + 1) a b c d e f g h iv wr) (fun iv _ => 4 - (numOf iv).toNat)
      case atStart => exact Or.inl ⟨rfl, HT.out⟩
      case round =>
        unfold InR3 at hrel
        rcases hrel with ⟨rfl, hT⟩ | ⟨rfl, hT⟩ | ⟨rfl, hT⟩ | ⟨rfl, hT⟩ | ⟨rfl, hT⟩
        · have cu := blk_cell G3.out hT.bel 12 (.int .i64 3) rfl
          have cm := blk_cell G4.out hT.bel 12 (.int .i64 1) rfl
          have cp := blk_cell G0.out hT.bel 3 (.int .i64 d) rfl
          have cq := blk_cell G1.out hT.bel 0 (.int .i64 e) rfl
          have co := hT.os.1.2.2.2
          have cf := hT.os.2
          have HT2 := Lib.hid hT
          clear hT
          go_wp2
          go_region
          go_wp2
          go_roundw
          case rel =>
            have TT := TR.s3 HS.out HT2.out.drw (a * h + b * g - c * f + d * e)
            skip
            exact Or.inr (Or.inl ⟨rfl, TT⟩)
          case measure => simp [numOf]
        · have cu := blk_cell G3.out hT.bel 13 (.int .i64 2) rfl
          have cm := blk_cell G4.out hT.bel 13 (.int .i64 1) rfl
          have cp := blk_cell G0.out hT.bel 3 (.int .i64 d) rfl
          have cq := blk_cell G1.out hT.bel 1 (.int .i64 f) rfl
          have co := hT.os.1.2.2.1
          have cf := hT.os.2
          have HT2 := Lib.hid hT
          clear hT
          go_wp2
          go_region
          go_wp2
          go_roundw
          case rel =>
            have TT := TR.s2 HS.out HT2.out.drw (a * g - b * h + c * e + d * f)
            skip
            exact Or.inr (Or.inr (Or.inl ⟨rfl, TT⟩))
          case measure => simp [numOf]
        · have cu := blk_cell G3.out hT.bel 14 (.int .i64 1) rfl
          have cm := blk_cell G4.out hT.bel 14 (.int .i64 (-1)) rfl
          have cp := blk_cell G0.out hT.bel 3 (.int .i64 d) rfl
          have cq := blk_cell G1.out hT.bel 2 (.int .i64 g) rfl
          have co := hT.os.1.2.1
          have cf := hT.os.2
          have HT2 := Lib.hid hT
          clear hT
          go_wp2
          go_region
          go_wp2
          go_roundw
          case rel =>
            have TT := TR.s1 HS.out HT2.out.drw (a * f + b * e + c * h - d * g)
            rw [wneg (a * f + b * e + c * h) d g (by omega) (by omega)]
            exact Or.inr (Or.inr (Or.inr (Or.inl ⟨rfl, TT⟩)))
          case measure => simp [numOf]
        · have cu := blk_cell G3.out hT.bel 15 (.int .i64 0) rfl
          have cm := blk_cell G4.out hT.bel 15 (.int .i64 (-1)) rfl
          have cp := blk_cell G0.out hT.bel 3 (.int .i64 d) rfl
          have cq := blk_cell G1.out hT.bel 3 (.int .i64 h) rfl
          have co := hT.os.1.1
          have cf := hT.os.2
          have HT2 := Lib.hid hT
          clear hT
          go_wp2
          go_region
          go_wp2
          go_roundw
          case rel =>
            have TT := TR.s0 HS.out HT2.out.drw (a * e - b * f - c * g - d * h)
            rw [wneg (a * e - b * f - c * g) d h (by omega) (by omega)]
            exact Or.inr (Or.inr (Or.inr (Or.inr (⟨rfl, TT⟩))))
          case measure => simp [numOf]
        · have HT2 := Lib.hid hT
          clear hT
          go_wp2
          go_roundw
          case rel => exact Or.inr (Or.inr (Or.inr (Or.inr (⟨rfl, HT2.out⟩))))
          case measure => simp [numOf]
    · have c0 := hT.os.1.1
      have c1 := hT.os.1.2.1
      have c2 := hT.os.1.2.2.1
      have c3 := hT.os.1.2.2.2
      have d0 := blk_cell G2.out hT.bel 0 (.int .i64 0) rfl
      have d1 := blk_cell G2.out hT.bel 1 (.int .i64 0) rfl
      have d2 := blk_cell G2.out hT.bel 2 (.int .i64 0) rfl
      have d3 := blk_cell G2.out hT.bel 3 (.int .i64 0) rfl
      have df := blk_frozen G2.out hT.bel
      have HT2 := Lib.hid hT
      clear hT
      go_wp2
      refine bodyPost_ret (v := .agg #[.int .i64 (q0 a b c d e f g h), .int .i64 (q1 a b c d e f g h), .int .i64 (q2 a b c d e f g h), .int .i64 (q3 a b c d e f g h)]) (by simp [results, Try.results64, go_sem, d0, d1, d2, d3, q0, q1, q2, q3]) rfl ⟨rfl, ?_⟩
      have hB := bel_ HW.out HT2.out.bel
      repeat (refine Below.setCell ?_ (by show w.heap.size ≤ w.heap.size + 1 + 1; omega) _)
      exact hB

end Go.Proofs.Ytdmopmgabieciaa
