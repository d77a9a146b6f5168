/-
  What a receiver shows: alike.
-/
import Derived.Test.YtifmhecjllpjpaaZMis3
import Derived.Deep.RegionHeld3
import Derived.Deep.DrawnRows
namespace Go.Proofs.Ytifmhecjllpjpaa
open Go.RowKit Go.Maps
attribute [local go_sem ↓] Go.wp_at_zero Go.wp_at_succ

set_option maxRecDepth 100000 in
set_option maxHeartbeats 4000000 in
theorem alike_yes (g mb g2 base : Nat) (st win nx : Int) (F : Hf) (Ds : List Dl) (w : World) (h : Rcv w g mb Ds.length st win nx F) (h2 : Rrc w g2 base st win nx Ds) (hD : DsF Ds F) (hF : InW F nx win) (hnx : 0 ≤ nx ∧ nx ≤ 4294967296) (hw : 1 ≤ win ∧ win ≤ 64) (hl : Ds.length ≤ 1024) :
    Calls Try.prog 23 #[.pointer (some ⟨g, 0, none⟩), .pointer (some ⟨g2, 0, none⟩)] w (RetB w true) := by
  obtain ⟨A, c, c0, c1, c2, c3, hcap, cf, hgl, hel⟩ := rrc_cells h2
  have HH := Lib.hid (And.intro h (And.intro h2 (And.intro hD hF)))
  obtain ⟨n, hn⟩ : ∃ n, n = Ds.length := ⟨_, rfl⟩
  rw [← hn] at c3 hcap hl
  have HN := Lib.hid hn
  have KK := Lib.hid (fun (w' : World) (hb : Below w.heap.size w w') => (⟨(hb.cell (p := ⟨g2, 2, none⟩) hgl).trans c2, (hb.cell (p := ⟨g2, 3, none⟩) hgl).trans c3⟩ : w'.cell? ⟨g2, 2, none⟩ = some (.int .i64 nx) ∧ w'.cell? ⟨g2, 3, none⟩ = some (.slice A n c)))
  have K1 := Lib.hid (KK.out w.drew (Below.refl _ _).drew)
  clear h h2 hD hF hel cf hn c0 c1
  have en : (nx == nx) = true := by simp
  have en2 : ((n : Int) == (n : Int)) = true := by simp
  go_enter Try.func23, Try.ntmps23
  go_wp2_with fail
  go_region_held3 (fun w' => w'.cell? ⟨g2, 2, none⟩ = some (.int .i64 nx) ∧ w'.cell? ⟨g2, 3, none⟩ = some (.slice A n c))
    (first | with_reducible exact K5.out | with_reducible exact K4.out | with_reducible exact K3.out | with_reducible exact K1.out | exact K1.out | go_keep)
    (first
      | (go_at_call 19
         refine (next_any g mb Ds.length st win nx F _ (by exact rcv_below HH.out.1 (Below.refl _ _).drew) hw.1).mono ?_
         rintro e w2 ⟨rfl, rfl⟩)
      | (go_at_call 20
         rw [HN.out]
         refine (held_any g mb Ds.length st win nx F _ (by exact rcv_below HH.out.1 (Below.refl _ _).drew) hw.1 (by have := HN.out; omega)).mono ?_
         rintro e w2 ⟨rfl, rfl⟩)
      | (go_at_call 50
         refine (missing_any g mb st win nx F Ds _ (by exact rcv_below HH.out.1 (Below.refl _ _).drew) HH.out.2.2.1 HH.out.2.2.2 hnx hw (by have := HN.out; omega)).mono ?_
         rintro e w3 ⟨v3, J, rfl, hE3, hJ3, hL3, b3⟩
         have hm := msF_len F nx J
         obtain ⟨A3, c3', e3, hI3⟩ := nml_iw hL3 (by omega)
         subst e3
         have HI3 := Lib.hid (And.intro hI3 (And.intro hE3 hJ3))
         have b3' : Below w.heap.size w w3 := below_un b3
         have HB3 := Lib.hid b3'
         have K3 := Lib.hid (KK.out w3 b3')
         clear hE3 hL3 hI3 b3 b3' hm hJ3)
      | (go_at_call 51
         refine (rmissing_any g2 base st win nx F Ds _ (by exact rrc_below HH.out.2.1 HB3.out) HH.out.2.2.1 HH.out.2.2.2 hnx hw (by have := HN.out; omega)).mono ?_
         rintro e w4 ⟨v4, J4, rfl, hE4, hJ4, hL4, b4⟩
         have eJ := ends_one hE4 HI3.out.2.1
         rw [eJ] at hL4
         have hm := msF_len F nx J
         obtain ⟨A4, c4', e4, hI4⟩ := nml_iw hL4 (by have := HI3.out.2.2; omega)
         subst e4
         have HI4 := Lib.hid (And.intro ((HI3.out.1.below b4).more b4.size) hI4)
         have HB4 := Lib.hid (HB3.out.trans (b4.mono HB3.out.size))
         have K4 := Lib.hid (KK.out w4 HB4.out)
         clear hE4 hL4 hI4 b4 hm hJ4 eJ)
      | (go_at_call 49
         refine (sameNums_any (msF F nx J) A3 A4 (msF F nx J).length c3' c4' _ _ (by exact HI4.out.1) (by exact HI4.out.2)).mono ?_
         rintro e w5 ⟨rfl, b5⟩
         have HB5 := Lib.hid (HB4.out.trans (b5.mono HB4.out.size))
         have K5 := Lib.hid (KK.out w5 HB5.out)
         clear b5))
  go_wp2
  go_ret
  exact ⟨rfl, HB5.out⟩
end Go.Proofs.Ytifmhecjllpjpaa
