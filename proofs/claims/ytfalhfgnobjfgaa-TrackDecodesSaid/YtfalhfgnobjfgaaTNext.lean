/-
  The document's reader of numbers.
-/
import Derived.Test.YtfalhfgnobjfgaaTDec
namespace Go.Proofs.Ytfalhfgnobjfgaa
open Go.RowKit Go.Maps

theorem AllB.drop {L : List Nat} (h : AllB L) (k : Nat) : AllB (L.drop k) := fun x hx => h x (List.mem_of_mem_drop hx)
def fnQ : Bool → Nat
  | true => 35
  | false => 34
theorem rread_one (sg : Bool) (L : List Nat) (hA : AllB L) (A : Option Addr) (n c B : Nat) (w : World) (hx : RB w B (.slice A n c) L) : Calls Try.prog (fnQ sg) #[.slice A n c] w (RetR L sg w) := by
  cases sg with
  | true => exact refReadSigned_any L hA (sL L) (sL_lead L) A n c B w hx.1
  | false => exact refReadNumber_any L hA (sL L) (sL_lead L) A n c B w hx.1
theorem rv_err {sg : Bool} {L : List Nat} (h : re L ≠ 0) : rv sg L = 0 ∧ rk L = 0 := by
  obtain ⟨h1, h2⟩ := rd_err (L := L) (s := sL L) h
  refine ⟨?_, h2⟩
  unfold rv
  rw [h1]
  cases sg <;> rfl

/-- What the document's reader holds. -/
def RcSt (w : World) (B g : Nat) (Y : List Nat) (ok : Bool) : Prop :=
  ∃ b o n c, w.heap[g]? = some (.cells #[.slice (some ⟨b, o, none⟩) n c, .bool (!ok)] 57 (0, 0)) ∧ RB w B (.slice (some ⟨b, o, none⟩) n c) Y
def RetNx (w : World) (B g : Nat) (sg : Bool) (Y : List Nat) (ok : Bool) (e : Ending) (w' : World) : Prop :=
  e = .returned (.int .i64 (rv sg Y)) ∧ RcSt w' B g (Y.drop (rk Y)) (ok && decide (re Y = 0)) ∧ Only (fun k => k = g) w w'

set_option maxRecDepth 100000 in
set_option maxHeartbeats 2000000 in
theorem next_any (sg : Bool) (g B : Nat) (Y : List Nat) (ok : Bool) (w : World) (hS : RcSt w B g Y ok) (hA : AllB Y) (hB : B ≤ g) :
    Calls Try.prog 25 #[.pointer (some ⟨g, 0, none⟩), .bool sg] w (RetNx w B g sg Y ok) := by
  obtain ⟨b, o, n, c, g1, g2⟩ := hS
  have r0 : w.cell? ⟨g, 0, none⟩ = some (.slice (some ⟨b, o, none⟩) n c) := cell_of_row _ g 0 _ _ _ g1
  have r1 : w.cell? ⟨g, 1, none⟩ = some (.bool (!ok)) := cell_of_row _ g 1 _ _ _ g1
  have f0 : w.frozen? ⟨g, 0, none⟩ = false := by simp [World.frozen?, g1]
  have f1 : w.frozen? ⟨g, 1, none⟩ = false := by simp [World.frozen?, g1]
  have HR := Lib.hid (fun sg => rread_one sg Y hA _ n c B w g2)
  have hln := g2.1.len
  have hcap := g2.1.cap
  have hkl := rk_le Y
  obtain ⟨z0, hz0⟩ : ∃ z, z = rv false Y := ⟨_, rfl⟩
  obtain ⟨z1, hz1⟩ : ∃ z, z = rv true Y := ⟨_, rfl⟩
  obtain ⟨m, hm⟩ : ∃ m, m = rk Y := ⟨_, rfl⟩
  obtain ⟨x, hx⟩ : ∃ x, x = re Y := ⟨_, rfl⟩
  have hmn : m ≤ n := by omega
  have hcm : m ≤ c := by omega
  obtain ⟨AD, hAD⟩ : ∃ AD, (if c = m then (some ⟨b, o, none⟩ : Option Addr) else some ⟨b, o + m, none⟩) = AD := ⟨_, rfl⟩
  obtain ⟨o', e', hT⟩ := rb_tail2 (a := m) g2 hmn hAD
  subst e'
  have HRn : Hid (Calls Try.prog 34 #[.slice (some ⟨b, o, none⟩) n c] w (fun e w' => e = .returned (.tuple #[.int .i64 z0, .int .i64 (m : Nat), .int .i64 (x : Nat)]) ∧ w = w')) := by
    have := HR.out false
    unfold RetR at this
    rw [hz0, hm, hx]
    exact this
  have HRs : Hid (Calls Try.prog 35 #[.slice (some ⟨b, o, none⟩) n c] w (fun e w' => e = .returned (.tuple #[.int .i64 z1, .int .i64 (m : Nat), .int .i64 (x : Nat)]) ∧ w = w')) := by
    have := HR.out true
    unfold RetR at this
    rw [hz1, hm, hx]
    exact this
  have HG := Lib.hid (And.intro g1 (And.intro g2 (And.intro hT (And.intro hz0 (And.intro hz1 (And.intro hm hx))))))
  unfold maxLen at hcap
  clear HR g1 g2 hT hz0 hz1 hm hx hln hkl
  by_cases h0 : x = 0
  · subst h0
    have hE : (ok && decide (re Y = 0)) = ok := by rw [← HG.out.2.2.2.2.2.2]; simp
    have HE := Lib.hid hE
    have HO := Lib.hid (show RetNx w B g sg Y ok (.returned (.int .i64 (rv sg Y))) (w.setCell ⟨g, 0, none⟩ (.slice (some ⟨b, o', none⟩) (n - m) (c - m))) from ⟨rfl, ⟨b, o', n - m, c - m, by
        rw [heap_setCell_same _ g 0 _ _ _ HG.out.1, HE.out]; rfl, (by rw [← HG.out.2.2.2.2.2.1]; exact HG.out.2.2.1.below ((Below.refl _ _).setCell hB _))⟩, only_set _ rfl⟩)
    clear hE
    cases sg
    · go_enter Try.func25, Try.ntmps25
      go_wp2_with fail
      refine HRn.out.mono ?_
      rintro e w2 ⟨rfl, rfl⟩
      go_wp2
      go_ret
      rw [HG.out.2.2.2.1]
      exact HO.out
    · go_enter Try.func25, Try.ntmps25
      go_wp2_with fail
      refine HRn.out.mono ?_
      rintro e w2 ⟨rfl, rfl⟩
      go_wp2_with fail
      refine HRs.out.mono ?_
      rintro e w2 ⟨rfl, rfl⟩
      go_wp2
      go_ret
      rw [HG.out.2.2.2.2.1]
      exact HO.out
  · have hx0 : ((x : Int) != 0) = true := by simpa using h0
    have hE : (ok && decide (re Y = 0)) = false := by rw [← HG.out.2.2.2.2.2.2]; simp [h0]
    have hV := rv_err (sg := sg) (L := Y) (by rw [← HG.out.2.2.2.2.2.2]; exact h0)
    have HO := Lib.hid (show RetNx w B g sg Y ok (.returned (.int .i64 0)) (w.setCell ⟨g, 1, none⟩ (.bool true)) from ⟨by rw [hV.1], ⟨b, o, n, c, by
        rw [heap_setCell_same _ g 1 _ _ _ HG.out.1, hE]; rfl, (by rw [hV.2]; exact HG.out.2.1.below ((Below.refl _ _).setCell hB _))⟩, only_set _ rfl⟩)
    clear hE hV
    cases sg
    · go_enter Try.func25, Try.ntmps25
      go_wp2_with fail
      refine HRn.out.mono ?_
      rintro e w2 ⟨rfl, rfl⟩
      go_wp2
      go_ret
      exact HO.out
    · go_enter Try.func25, Try.ntmps25
      go_wp2_with fail
      refine HRn.out.mono ?_
      rintro e w2 ⟨rfl, rfl⟩
      go_wp2_with fail
      refine HRs.out.mono ?_
      rintro e w2 ⟨rfl, rfl⟩
      go_wp2
      go_ret
      exact HO.out
end Go.Proofs.Ytfalhfgnobjfgaa
