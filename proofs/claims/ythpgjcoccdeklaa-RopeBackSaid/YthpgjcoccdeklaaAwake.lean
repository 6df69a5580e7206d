/-
  awake: what the document fixes, at a few ropes.
-/
import Derived.Test.YthpgjcoccdeklaaZeros
import Derived.Test.YthpgjcoccdeklaaIs
namespace Go.Proofs.Ythpgjcoccdeklaa
open Go.RowKit

theorem RP.nil (M : Mp) (w : World) : RP M w none none := .inl ⟨rfl, rfl⟩

set_option maxHeartbeats 1600000 in
set_option maxRecDepth 100000 in
theorem awake_any {B : Nat} {M : Mp} {w : World} (h : Inv B [] M w) :
    Calls Try.prog 6 #[] w fun e w' => e = .returned (.bool true) ∧ ∃ M', St B M w M' w' := by
  obtain ⟨Z, z, hz, hmk, hcv, -⟩ := zeros 65537 65537 rfl (by omega)
  have HZ := Lib.hid hz
  clear hz
  have H := Lib.hid h
  clear h
  go_enter Try.func6, Try.ntmps6
  go_wp2_with fail
  refine (new_any H.out ⟨#[97, 99]⟩ (by decide)).mono ?_
  rintro e w1 ⟨M1, b1, o1, rfl, r1, ⟨g1, -, g2⟩, s1⟩
  have F1 : Hid (Flat o1 [97, 99]) := Lib.hid (show Flat o1 [97, 99] from ⟨g1, g2 (by decide)⟩)
  have Z1 : Hid (osize o1 = 2) := Lib.hid (show osize o1 = 2 from by rw [osize_eq, g1]; rfl)
  have S1 := Lib.hid s1
  have R1 := Lib.hid r1
  clear r1 g1 g2 s1
  go_wp2_with fail
  refine (insert_any S1.out.inv R1.out 1 ⟨#[98, 10]⟩ (by rw [Z1.out]; decide) (by rw [Z1.out]; decide)).mono ?_
  rintro e w2 ⟨M2, b2, o2, rfl, r2, ⟨p1, p2⟩, s2⟩
  have ht : otext o2 = [97, 98, 10, 99] := by rw [p1, F1.out.1]; rfl
  have F2 : Hid (Flat o2 [97, 98, 10, 99]) := Lib.hid (show Flat o2 [97, 98, 10, 99] from ⟨ht, p2 F1.out.2 (by rw [osize_eq, ht]; decide)⟩)
  have S2 := Lib.hid (S1.out.trans s2)
  have R2 := Lib.hid r2
  have R12 := Lib.hid (R1.out.step S1.out.inv s2)
  clear r2 p1 p2 s2 ht
  go_wp2_with fail
  refine (insert_arg S2.out.inv R12.out 3 ⟨#[120]⟩ (by rw [Z1.out]; decide)).mono ?_
  rintro e w' ⟨rfl, rfl⟩
  go_wp2_with fail
  have SZ := Lib.hid (S2.out.boxed Z)
  have R1Z := Lib.hid (R12.out.step S2.out.inv (St.below S2.out.inv ((Below.refl _ w2).alloc (Nat.le_refl _) Z)))
  have R2Z := Lib.hid (R2.out.step S2.out.inv (St.below S2.out.inv ((Below.refl _ w2).alloc (Nat.le_refl _) Z)))
  refine (new_no z _ (by rw [HZ.out]; omega) (by rw [HZ.out]; omega)).mono ?_
  rintro e w' ⟨rfl, rfl⟩
  go_wp2_with fail
  refine (is_one SZ.out.inv R2Z.out F2.out).mono ?_
  rintro e w4 ⟨rfl, s4⟩
  have S4 := Lib.hid (SZ.out.trans s4)
  have R4 := Lib.hid (R1Z.out.step SZ.out.inv s4)
  clear s4
  go_wp2_with fail
  refine (is_two S4.out.inv R4.out F1.out).mono ?_
  rintro e w5 ⟨rfl, s5⟩
  have S5 := Lib.hid (S4.out.trans s5)
  clear s5
  go_wp2_with fail
  refine (len_any S5.out.inv (RP.nil _ _)).mono ?_
  rintro e w' ⟨rfl, rfl⟩
  simp only [osize]
  go_wp2_with fail
  refine (depth_any S5.out.inv (RP.nil _ _)).mono ?_
  rintro e w' ⟨rfl, rfl⟩
  simp only [odepth]
  go_wp2_with fail
  refine (lines_any S5.out.inv (RP.nil _ _)).mono ?_
  rintro e w6 ⟨rfl, s6⟩
  have S6 := Lib.hid (S5.out.trans s6)
  clear s6
  rw [show onl none = 0 from rfl]
  go_wp2_with fail
  go_ret
  exact ⟨rfl, _, S6.out⟩

end Go.Proofs.Ythpgjcoccdeklaa
