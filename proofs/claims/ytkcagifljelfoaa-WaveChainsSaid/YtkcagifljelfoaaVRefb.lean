/-
  The document's Samples and Base.
-/
import Derived.Test.YtkcagifljelfoaaVBase
namespace Go.Proofs.Ytkcagifljelfoaa
open Go.RowKit

set_option maxRecDepth 100000 in
set_option maxHeartbeats 1000000 in
theorem refSamples_any (zs : List Int) (A : Option Addr) (n c B : Nat) (w : World) (hx : IW w B (.slice A n c) zs) :
    Calls Try.prog 41 #[.slice A n c] w (RetSame w (decide (okZ zs))) := by
  have hl := Lib.hid hx.len
  have hcap := hx.cap
  unfold maxLen at hcap
  have HX := Lib.hid hx
  clear hx
  by_cases h256 : 256 < n
  · go_enter Try.func41, Try.ntmps41
    go_wp2
    go_ret
    have := hl.out
    have h2 : ¬ okZ zs := fun h => by have := h.1; omega
    exact ⟨by rw [decide_eq_false h2]; rfl, rfl⟩
  · go_enter Try.func41, Try.ntmps41
    go_wp2
    go_loopw [3] (fun iv wr => ∃ k : Nat, k ≤ n ∧ iv = .int .i64 (k : Int) ∧ Hid (∀ j, j < k → 0 ≤ ith zs j ∧ ith zs j ≤ 1023) ∧ wr = w) (fun iv _ => n - (intOf iv).toNat)
    case atStart => exact ⟨0, Nat.zero_le _, rfl, Lib.hid (fun j hj => absurd hj (by omega)), rfl⟩
    case round =>
      obtain ⟨k, hk, rfl, hall, rfl⟩ := hrel
      by_cases hlt : k < n
      · obtain ⟨b, o, rfl, hb, hc⟩ := HX.out.at_ (by omega)
        have hck := hc k hlt
        obtain ⟨x, hx⟩ : ∃ x, ith zs k = x := ⟨_, rfl⟩
        rw [hx] at hck
        have HK := Lib.hid hx
        clear hx hc
        by_cases h0 : x < 0
        · go_wp2
          go_ret
          refine ⟨?_, rfl⟩
          have : ¬ okZ zs := fun h => by have := h.ith (j := k) (by have := hl.out; omega); rw [HK.out] at this; omega
          rw [decide_eq_false this]; rfl
        · by_cases h1 : 1023 < x
          · go_wp2
            go_ret
            refine ⟨?_, rfl⟩
            have : ¬ okZ zs := fun h => by have := h.ith (j := k) (by have := hl.out; omega); rw [HK.out] at this; omega
            rw [decide_eq_false this]; rfl
          · go_wp2
            go_roundw
            case rel =>
              refine ⟨k + 1, by omega, by simp, Lib.hid (fun j hj => ?_), by first | rfl | trivial⟩
              by_cases e : j = k
              · subst e; rw [HK.out]; omega
              · exact hall.out j (by omega)
            case measure => simp [intOf]; omega
      · obtain rfl : k = n := by omega
        go_wp2
        go_ret
        refine ⟨?_, rfl⟩
        have : okZ zs := by
          refine ⟨by have := hl.out; omega, fun x hx => ?_⟩
          obtain ⟨j, hj, rfl⟩ := List.getElem_of_mem hx
          rw [← ith_lt hj]
          exact hall.out j (by have := hl.out; omega)
        rw [decide_eq_true this]; rfl

/-- How many of the first k are at most v. -/
def cntK (zs : List Int) (v : Int) (k : Nat) : Nat := (zs.take k).countP fun x => decide (x ≤ v)
theorem cntK_le (zs : List Int) (v : Int) (k : Nat) : cntK zs v k ≤ k := by
  unfold cntK
  exact Nat.le_trans List.countP_le_length (by rw [List.length_take]; omega)
theorem cntK_succ {zs : List Int} {v : Int} {k : Nat} (h : k < zs.length) : cntK zs v (k + 1) = cntK zs v k + if ith zs k ≤ v then 1 else 0 := by
  unfold cntK
  rw [List.take_add_one, List.getElem?_eq_getElem h, ith_lt h]
  rw [Option.toList_some, List.countP_append, List.countP_singleton]
  simp only [decide_eq_true_eq]
theorem asc_pw (zs : List Int) : (asc zs).Pairwise (· ≤ ·) := by
  have := List.pairwise_mergeSort (le := fun x y : Int => decide (x ≤ y)) (fun a b c h1 h2 => by simp at *; omega) (fun a b => by simp; omega) zs
  exact this.imp (fun h => by simpa using h)
theorem cnt_med {zs : List Int} (hne : zs ≠ []) (v : Int) : (zs.length - 1) / 2 < cntK zs v zs.length ↔ med zs ≤ v := by
  have hl : 0 < zs.length := List.length_pos_iff.2 hne
  have hp : (asc zs).Perm zs := List.mergeSort_perm zs _
  have hlen := asc_len zs
  obtain ⟨m, hm⟩ : ∃ m, (zs.length - 1) / 2 = m := ⟨_, rfl⟩
  have hml : m < (asc zs).length := by omega
  have hmed : med zs = (asc zs)[m]'hml := by unfold med; rw [hm, ith_lt hml]
  have hc : cntK zs v zs.length = (asc zs).countP fun x => decide (x ≤ v) := by
    unfold cntK
    rw [List.take_length]
    exact (hp.countP_eq _).symm
  have hpw := asc_pw zs
  rw [hc, hm, hmed]
  generalize asc zs = l at *
  constructor
  · intro h
    by_cases h2 : l[m]'hml ≤ v
    · exact h2
    · exfalso
      have e : l = l.take m ++ l.drop m := (List.take_append_drop m l).symm
      rw [e, List.countP_append] at h
      have z : (l.drop m).countP (fun x => decide (x ≤ v)) = 0 := by
        rw [List.countP_eq_zero]
        intro x hx
        obtain ⟨j, hj, rfl⟩ := List.getElem_of_mem hx
        rw [List.getElem_drop]
        rw [List.length_drop] at hj
        have : l[m]'hml ≤ l[m + j]'(by omega) := by
          rcases Nat.eq_zero_or_pos j with h0 | h0
          · subst h0; simp
          · exact List.pairwise_iff_getElem.1 hpw m (m + j) hml (by omega) (by omega)
        simp
        omega
      have := List.countP_le_length (p := fun x => decide (x ≤ v)) (l := l.take m)
      rw [List.length_take] at this
      omega
  · intro h
    have e : l = l.take (m + 1) ++ l.drop (m + 1) := (List.take_append_drop (m + 1) l).symm
    rw [e, List.countP_append]
    have z : (l.take (m + 1)).countP (fun x => decide (x ≤ v)) = (l.take (m + 1)).length := by
      rw [List.countP_eq_length]
      intro x hx
      obtain ⟨j, hj, rfl⟩ := List.getElem_of_mem hx
      rw [List.getElem_take]
      rw [List.length_take] at hj
      have : l[j]'(by omega) ≤ l[m]'hml := by
        by_cases h0 : j = m
        · subst h0; simp
        · exact List.pairwise_iff_getElem.1 hpw j m (by omega) hml (by omega)
      simp
      omega
    rw [z, List.length_take]
    omega

set_option maxRecDepth 100000 in
set_option maxHeartbeats 1000000 in
theorem refBase_bad (zs : List Int) (A : Option Addr) (n c B : Nat) (w : World) (hx : IW w B (.slice A n c) zs) (hbad : zs = [] ∨ ¬ okZ zs) :
    Calls Try.prog 33 #[.slice A n c] w fun e w' => e = .returned (.tuple #[.int .i64 0, .int .i64 2]) ∧ w' = w := by
  have hl := Lib.hid hx.len
  rcases Nat.eq_zero_or_pos n with hn | hn
  · subst hn
    clear hx
    go_enter Try.func33, Try.ntmps33
    go_wp2_with fail
    go_ret2
    exact ⟨rfl, rfl⟩
  · have hV := refSamples_any zs A n c B w hx
    have hne : zs ≠ [] := fun h => by have := hl.out; rw [h] at this; simp at this; omega
    have hno : decide (okZ zs) = false := decide_eq_false (hbad.resolve_left hne)
    rw [hno] at hV
    unfold RetSame at hV
    clear hx
    go_enter Try.func33, Try.ntmps33
    go_wp2_with (go_at_call 41; refine hV.mono ?_; rintro e w' ⟨rfl, rfl⟩)
    go_ret2
    exact ⟨rfl, rfl⟩

set_option maxRecDepth 100000 in
set_option maxHeartbeats 2000000 in
theorem refBase_ok (zs : List Int) (A : Option Addr) (n c B : Nat) (w : World) (hx : IW w B (.slice A n c) zs) (hne : zs ≠ []) (hok : okZ zs) :
    Calls Try.prog 33 #[.slice A n c] w fun e w' => e = .returned (.tuple #[.int .i64 (med zs), .int .i64 0]) ∧ w' = w := by
  have hl := Lib.hid hx.len
  have hn : 0 < n := by have := hl.out; have := List.length_pos_iff.2 hne; omega
  have h256 : n ≤ 256 := by have := hok.1; have := hl.out; omega
  have hV := refSamples_any zs A n c B w hx
  rw [decide_eq_true hok] at hV
  unfold RetSame at hV
  have hm := hok.2 _ (med_mem hne)
  have HC := Lib.hid (fun v => cnt_med hne v)
  obtain ⟨m, hmd⟩ : ∃ m, med zs = m := ⟨_, rfl⟩
  rw [hmd] at hm ⊢
  have HX := Lib.hid (And.intro hx hmd)
  clear hx hne hok hmd
  go_enter Try.func33, Try.ntmps33
  go_wp2_with (go_at_call 41; refine hV.mono ?_; rintro e w' ⟨rfl, rfl⟩)
  clear hV
  go_loopw [4] (fun vv wr => ∃ v : Nat, vv = .int .i64 (v : Int) ∧ (v : Int) ≤ m ∧ v ≤ 1023 ∧ wr = w') (fun vv _ => 1023 - (intOf vv).toNat)
  case atStart => exact ⟨0, rfl, by omega, by omega, rfl⟩
  case round =>
    obtain ⟨v, rfl, hvm, hv, rfl⟩ := hrel
    by_cases hlt : v < 1023
    · go_wp2
      go_loopw [5, 6] (fun cv iv wr2 => ∃ k : Nat, iv = .int .i64 (k : Int) ∧ k ≤ n ∧ cv = .int .i64 ((cntK zs v k : Nat) : Int) ∧ wr2 = wr) (fun _ iv _ => n - (intOf iv).toNat)
      case atStart => exact ⟨0, rfl, by omega, by simp [cntK], rfl⟩
      case round =>
        obtain ⟨k, rfl, hk, rfl, rfl⟩ := hrel
        have hcl := cntK_le zs v k
        by_cases hkn : k < n
        · obtain ⟨b, o, rfl, hb, hc⟩ := HX.out.1.at_ (by omega)
          have hck := hc k hkn
          have hS := Lib.hid (cntK_succ (zs := zs) (v := v) (k := k) (by have := hl.out; omega))
          obtain ⟨x, hx⟩ : ∃ x, ith zs k = x := ⟨_, rfl⟩
          rw [hx] at hck
          have HK := Lib.hid hx
          obtain ⟨N, hN⟩ : ∃ N, cntK zs v k = N := ⟨_, rfl⟩
          rw [hN] at hcl ⊢
          have HN := Lib.hid hN
          clear hx hc hN
          by_cases hxv : x ≤ v
          · go_wp2
            go_roundw
            case rel => exact ⟨k + 1, by simp, by omega, by rw [hS.out, HK.out, if_pos hxv, HN.out]; simp, by first | rfl | trivial⟩
            case measure => simp [intOf]; omega
          · go_wp2
            go_roundw
            case rel => exact ⟨k + 1, by simp, by omega, by rw [hS.out, HK.out, if_neg hxv, HN.out]; simp, by first | rfl | trivial⟩
            case measure => simp [intOf]; omega
        · obtain rfl : k = n := by omega
          have hcm := HC.out (v : Int)
          rw [← hl.out] at hcm
          obtain ⟨N, hN⟩ : ∃ N, cntK zs v k = N := ⟨_, rfl⟩
          rw [hN] at hcm hcl ⊢
          clear hN
          by_cases hmv : m ≤ (v : Int)
          · have hgt : (k - 1) / 2 < N := hcm.2 (by rw [HX.out.2]; exact hmv)
            have hme : m = v := by omega
            subst hme
            clear hcm
            go_wp2
            go_ret2
            exact ⟨rfl, rfl⟩
          · have hgt : ¬ (k - 1) / 2 < N := fun h => hmv (by have := hcm.1 h; rw [HX.out.2] at this; exact this)
            clear hcm
            go_wp2
            go_roundw
            case rel => exact ⟨v + 1, by simp, by omega, by omega, by first | rfl | trivial⟩
            case measure => simp [intOf]; omega
    · have hme : m = 1023 := by omega
      subst hme
      obtain rfl : v = 1023 := by omega
      go_wp2
      go_ret2
      exact ⟨rfl, rfl⟩
end Go.Proofs.Ytkcagifljelfoaa
