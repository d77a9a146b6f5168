/-
  Both Decodes: of no bytes, of bytes that begin with neither 0 nor 1, of any bytes.
-/
import Derived.Test.YtfalhfgnobjfgaaTRdc
namespace Go.Proofs.Ytfalhfgnobjfgaa
open Go.RowKit Go.Maps

theorem decR_one {X : List Nat} {nav nav' : Value} {ce ce' : Int} (h : DecR X nav ce) (h' : DecR X nav' ce') : nav = nav' ∧ ce = ce' := by
  cases X with
  | nil => exact ⟨h.1.trans h'.1.symm, h.2.trans h'.2.symm⟩
  | cons x X =>
    by_cases h1 : x = 1
    · by_cases hg : goodS X
      · have a := (h.1 h1).1 hg
        have b := (h'.1 h1).1 hg
        exact ⟨a.1.trans b.1.symm, a.2.trans b.2.symm⟩
      · have a := (h.1 h1).2 hg
        have b := (h'.1 h1).2 hg
        exact ⟨a.1.trans b.1.symm, a.2.trans b.2.symm⟩
    · by_cases h0 : x = 0
      · by_cases hg : goodF X
        · have a := (h.2.1 h0).1 hg
          have b := (h'.2.1 h0).1 hg
          exact ⟨a.1.trans b.1.symm, a.2.trans b.2.symm⟩
        · have a := (h.2.1 h0).2 hg
          have b := (h'.2.1 h0).2 hg
          exact ⟨a.1.trans b.1.symm, a.2.trans b.2.symm⟩
      · have a := h.2.2 h0 h1
        have b := h'.2.2 h0 h1
        exact ⟨a.1.trans b.1.symm, a.2.trans b.2.symm⟩
theorem decR_form {X : List Nat} {nav : Value} {ce : Int} (h : DecR X nav ce) : ∃ (s : Bool) (t x y z e a b c d tl sc nv er : Int), nav = .agg #[.bool s, .int .i64 t, .int .i64 x, .int .i64 y, .int .i64 z, .int .i64 e, .int .i64 a, .int .i64 b, .int .i64 c, .int .i64 d, .int .i64 tl, .int .i64 sc, .int .i64 nv, .int .i64 er] := by
  cases X with
  | nil => exact ⟨_, _, _, _, _, _, _, _, _, _, _, _, _, _, h.1⟩
  | cons x X =>
    by_cases h1 : x = 1
    · by_cases hg : goodS X
      · exact ⟨_, _, _, _, _, _, _, _, _, _, _, _, _, _, ((h.1 h1).1 hg).1⟩
      · exact ⟨_, _, _, _, _, _, _, _, _, _, _, _, _, _, ((h.1 h1).2 hg).1⟩
    · by_cases h0 : x = 0
      · by_cases hg : goodF X
        · exact ⟨_, _, _, _, _, _, _, _, _, _, _, _, _, _, ((h.2.1 h0).1 hg).1⟩
        · exact ⟨_, _, _, _, _, _, _, _, _, _, _, _, _, _, ((h.2.1 h0).2 hg).1⟩
      · exact ⟨_, _, _, _, _, _, _, _, _, _, _, _, _, _, (h.2.2 h0 h1).1⟩

set_option maxRecDepth 100000 in
set_option maxHeartbeats 2000000 in
theorem dec_nil (A : Option Addr) (c : Nat) (w : World) : Calls Try.prog 8 #[.slice A 0 c] w (RetDec [] w) := by
  have hs := heap_alloc_new w (.cells #[.bool false, .int .i64 0, .int .i64 0, .int .i64 0, .int .i64 0, .int .i64 0, .int .i64 0, .int .i64 0, .int .i64 0, .int .i64 0, .int .i64 0, .int .i64 0, .int .i64 0, .int .i64 0] 29)
  have HS := Lib.hid hs
  have hb : Below w.heap.size w (w.alloc (.cells #[.bool false, .int .i64 0, .int .i64 0, .int .i64 0, .int .i64 0, .int .i64 0, .int .i64 0, .int .i64 0, .int .i64 0, .int .i64 0, .int .i64 0, .int .i64 0, .int .i64 0, .int .i64 0] 29)) := (Below.refl _ _).alloc (Nat.le_refl _) _
  have HB := Lib.hid hb
  clear hs hb
  go_enter Try.func8, Try.ntmps8
  go_wp2
  obtain ⟨⟨d0, d1, d2, d3, d4, d5, d6⟩, d7, d8, d9, d10, d11, d12, d13⟩ := nv_blk HS.out (Below.refl _ _)
  exact bodyPost_ret (v := .tuple #[.agg #[.bool false, .int .i64 0, .int .i64 0, .int .i64 0, .int .i64 0, .int .i64 0, .int .i64 0, .int .i64 0, .int .i64 0, .int .i64 0, .int .i64 0, .int .i64 0, .int .i64 0, .int .i64 0], .int .i64 4]) (by simp [results, Try.results8, go_sem, d0, d1, d2, d3, d4, d5, d6, d7, d8, d9, d10, d11, d12, d13]) rfl ⟨_, _, rfl, ⟨rfl, rfl⟩, HB.out⟩

set_option maxRecDepth 100000 in
set_option maxHeartbeats 2000000 in
theorem dec_bad (x : Nat) (X : List Nat) (h0 : x ≠ 0) (h1 : x ≠ 1) (b o n c B0 : Nat) (w : World) (hx : RB w B0 (.slice (some ⟨b, o, none⟩) n c) (x :: X)) (hB : B0 ≤ w.heap.size) :
    Calls Try.prog 8 #[.slice (some ⟨b, o, none⟩) n c] w (RetDec (x :: X) w) := by
  have hln := hx.1.len
  have hcap := hx.1.cap
  have hn0 : 0 < n := by simp at hln; omega
  obtain ⟨b', o'', eA, hb, hc⟩ := hx.1.at_ hn0
  injection eA with eA
  injection eA with eb eo
  subst eb eo
  have c0 : w.cell? ⟨b, o, none⟩ = some (.int .u8 (x : Int)) := hc 0 hn0
  have c0a := fun ob => (World.cell?_alloc_lt w ob ⟨b, o, none⟩ (by simp; omega)).trans c0
  have i1 : ¬ ((n : Int) = 0) := by omega
  have i2 : (0 : Int) < (n : Int) := by omega
  have x0 : ((x : Int) != 0) = true := by simpa using h0
  have x1 : ((x : Int) != 1) = true := by
    have : ¬ ((x : Int) = 1) := by omega
    simpa using this
  have x2 : (1 : Int) < (x : Int) := by omega
  have hs := heap_alloc_new w (.cells #[.bool false, .int .i64 0, .int .i64 0, .int .i64 0, .int .i64 0, .int .i64 0, .int .i64 0, .int .i64 0, .int .i64 0, .int .i64 0, .int .i64 0, .int .i64 0, .int .i64 0, .int .i64 0] 29)
  have HS := Lib.hid hs
  have hb : Below w.heap.size w (w.alloc (.cells #[.bool false, .int .i64 0, .int .i64 0, .int .i64 0, .int .i64 0, .int .i64 0, .int .i64 0, .int .i64 0, .int .i64 0, .int .i64 0, .int .i64 0, .int .i64 0, .int .i64 0, .int .i64 0] 29)) := (Below.refl _ _).alloc (Nat.le_refl _) _
  have HB := Lib.hid hb
  have HD := Lib.hid (show DecR (x :: X) (.agg #[.bool false, .int .i64 0, .int .i64 0, .int .i64 0, .int .i64 0, .int .i64 0, .int .i64 0, .int .i64 0, .int .i64 0, .int .i64 0, .int .i64 0, .int .i64 0, .int .i64 0, .int .i64 0]) 4 from ⟨fun e => absurd e h1, fun e => absurd e h0, fun _ _ => ⟨rfl, rfl⟩⟩)
  clear hs hb hx hln hc h0 h1
  go_enter Try.func8, Try.ntmps8
  go_wp2
  obtain ⟨⟨d0, d1, d2, d3, d4, d5, d6⟩, d7, d8, d9, d10, d11, d12, d13⟩ := nv_blk HS.out (Below.refl _ _)
  exact bodyPost_ret (v := .tuple #[.agg #[.bool false, .int .i64 0, .int .i64 0, .int .i64 0, .int .i64 0, .int .i64 0, .int .i64 0, .int .i64 0, .int .i64 0, .int .i64 0, .int .i64 0, .int .i64 0, .int .i64 0, .int .i64 0], .int .i64 4]) (by simp [results, Try.results8, go_sem, d0, d1, d2, d3, d4, d5, d6, d7, d8, d9, d10, d11, d12, d13]) rfl ⟨_, _, rfl, HD.out, HB.out⟩

set_option maxRecDepth 100000 in
set_option maxHeartbeats 2000000 in
theorem rdec_nil (A : Option Addr) (c : Nat) (w : World) : Calls Try.prog 9 #[.slice A 0 c] w (RetDec [] w) := by
  have hs := heap_alloc_new w (.cells #[.bool false, .int .i64 0, .int .i64 0, .int .i64 0, .int .i64 0, .int .i64 0, .int .i64 0, .int .i64 0, .int .i64 0, .int .i64 0, .int .i64 0, .int .i64 0, .int .i64 0, .int .i64 0] 29)
  have HS := Lib.hid hs
  have hb : Below w.heap.size w (w.alloc (.cells #[.bool false, .int .i64 0, .int .i64 0, .int .i64 0, .int .i64 0, .int .i64 0, .int .i64 0, .int .i64 0, .int .i64 0, .int .i64 0, .int .i64 0, .int .i64 0, .int .i64 0, .int .i64 0] 29)) := (Below.refl _ _).alloc (Nat.le_refl _) _
  have HB := Lib.hid hb
  clear hs hb
  go_enter Try.func9, Try.ntmps9
  go_wp2
  obtain ⟨⟨d0, d1, d2, d3, d4, d5, d6⟩, d7, d8, d9, d10, d11, d12, d13⟩ := nv_blk HS.out (Below.refl _ _)
  exact bodyPost_ret (v := .tuple #[.agg #[.bool false, .int .i64 0, .int .i64 0, .int .i64 0, .int .i64 0, .int .i64 0, .int .i64 0, .int .i64 0, .int .i64 0, .int .i64 0, .int .i64 0, .int .i64 0, .int .i64 0, .int .i64 0], .int .i64 4]) (by simp [results, Try.results9, go_sem, d0, d1, d2, d3, d4, d5, d6, d7, d8, d9, d10, d11, d12, d13]) rfl ⟨_, _, rfl, ⟨rfl, rfl⟩, HB.out⟩

set_option maxRecDepth 100000 in
set_option maxHeartbeats 2000000 in
theorem rdec_bad (x : Nat) (X : List Nat) (h0 : x ≠ 0) (h1 : x ≠ 1) (b o n c B0 : Nat) (w : World) (hx : RB w B0 (.slice (some ⟨b, o, none⟩) n c) (x :: X)) (hB : B0 ≤ w.heap.size) :
    Calls Try.prog 9 #[.slice (some ⟨b, o, none⟩) n c] w (RetDec (x :: X) w) := by
  have hln := hx.1.len
  have hcap := hx.1.cap
  have hn0 : 0 < n := by simp at hln; omega
  obtain ⟨b', o'', eA, hb, hc⟩ := hx.1.at_ hn0
  injection eA with eA
  injection eA with eb eo
  subst eb eo
  have c0 : w.cell? ⟨b, o, none⟩ = some (.int .u8 (x : Int)) := hc 0 hn0
  have c0a := fun ob => (World.cell?_alloc_lt w ob ⟨b, o, none⟩ (by simp; omega)).trans c0
  have i1 : ¬ ((n : Int) = 0) := by omega
  have i2 : (0 : Int) < (n : Int) := by omega
  have x0 : ((x : Int) != 0) = true := by simpa using h0
  have x1 : ((x : Int) != 1) = true := by
    have : ¬ ((x : Int) = 1) := by omega
    simpa using this
  have x2 : (1 : Int) < (x : Int) := by omega
  have hs := heap_alloc_new w (.cells #[.bool false, .int .i64 0, .int .i64 0, .int .i64 0, .int .i64 0, .int .i64 0, .int .i64 0, .int .i64 0, .int .i64 0, .int .i64 0, .int .i64 0, .int .i64 0, .int .i64 0, .int .i64 0] 29)
  have HS := Lib.hid hs
  have hb : Below w.heap.size w (w.alloc (.cells #[.bool false, .int .i64 0, .int .i64 0, .int .i64 0, .int .i64 0, .int .i64 0, .int .i64 0, .int .i64 0, .int .i64 0, .int .i64 0, .int .i64 0, .int .i64 0, .int .i64 0, .int .i64 0] 29)) := (Below.refl _ _).alloc (Nat.le_refl _) _
  have HB := Lib.hid hb
  have HD := Lib.hid (show DecR (x :: X) (.agg #[.bool false, .int .i64 0, .int .i64 0, .int .i64 0, .int .i64 0, .int .i64 0, .int .i64 0, .int .i64 0, .int .i64 0, .int .i64 0, .int .i64 0, .int .i64 0, .int .i64 0, .int .i64 0]) 4 from ⟨fun e => absurd e h1, fun e => absurd e h0, fun _ _ => ⟨rfl, rfl⟩⟩)
  clear hs hb hx hln hc h0 h1
  go_enter Try.func9, Try.ntmps9
  go_wp2
  obtain ⟨⟨d0, d1, d2, d3, d4, d5, d6⟩, d7, d8, d9, d10, d11, d12, d13⟩ := nv_blk HS.out (Below.refl _ _)
  exact bodyPost_ret (v := .tuple #[.agg #[.bool false, .int .i64 0, .int .i64 0, .int .i64 0, .int .i64 0, .int .i64 0, .int .i64 0, .int .i64 0, .int .i64 0, .int .i64 0, .int .i64 0, .int .i64 0, .int .i64 0, .int .i64 0], .int .i64 4]) (by simp [results, Try.results9, go_sem, d0, d1, d2, d3, d4, d5, d6, d7, d8, d9, d10, d11, d12, d13]) rfl ⟨_, _, rfl, HD.out, HB.out⟩

theorem dec_any (X : List Nat) (A : Option Addr) (n c B0 : Nat) (w : World) (hx : RB w B0 (.slice A n c) X) (hB : B0 ≤ w.heap.size) (hl : n ≤ 1000) : Calls Try.prog 8 #[.slice A n c] w (RetDec X w) := by
  cases X with
  | nil =>
    have h := hx.1.len
    simp at h
    subst h
    exact dec_nil A c w
  | cons x X =>
    have h := hx.1.len
    simp at h
    obtain ⟨b, o, rfl, _, _⟩ := hx.1.at_ (by omega)
    by_cases h1 : x = 1
    · subst h1
      exact dec_sync X b o n c B0 w hx hB hl
    · by_cases h0 : x = 0
      · subst h0
        exact dec_fix X b o n c B0 w hx hB hl
      · exact dec_bad x X h0 h1 b o n c B0 w hx hB

theorem rdec_any (X : List Nat) (hA : AllB X) (A : Option Addr) (n c B0 : Nat) (w : World) (hx : RB w B0 (.slice A n c) X) (hB : B0 ≤ w.heap.size) (hl : n ≤ 1000) : Calls Try.prog 9 #[.slice A n c] w (RetDec X w) := by
  cases X with
  | nil =>
    have h := hx.1.len
    simp at h
    subst h
    exact rdec_nil A c w
  | cons x X =>
    have h := hx.1.len
    simp at h
    obtain ⟨b, o, rfl, _, _⟩ := hx.1.at_ (by omega)
    by_cases h1 : x = 1
    · subst h1
      exact rdec_sync X (fun z hz => hA z (List.mem_cons_of_mem _ hz)) b o n c B0 w hx hB hl
    · by_cases h0 : x = 0
      · subst h0
        exact rdec_fix X (fun z hz => hA z (List.mem_cons_of_mem _ hz)) b o n c B0 w hx hB hl
      · exact rdec_bad x X h0 h1 b o n c B0 w hx hB

end Go.Proofs.Ytfalhfgnobjfgaa
