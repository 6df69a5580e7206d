/-
  RopeFull: so many bytes may be, and not one more.
-/
import Derived.Test.YthpgjcoccdeklaaAwake
namespace Go.Proofs.Ythpgjcoccdeklaa
open Go.RowKit

theorem RP.drew {M : Mp} {w : World} {r : Option Addr} {o : Option T} (h : RP M w r o) : RP M w.drew r o := h

/-- A law's end: true, in a world that has grown. -/
def Yes (B : Nat) (M : Mp) (w : World) (e : Ending) (w' : World) : Prop := e = .returned (.bool true) ∧ ∃ M', St B M w M' w'

theorem awake_yes {B : Nat} {M M1 : Mp} {w w1 : World} (s : St B M w M1 w1) : Calls Try.prog 6 #[] w1 (Yes B M w) :=
  (awake_any s.inv).mono fun _ _ ⟨he, M', s'⟩ => ⟨he, M', s.trans s'⟩

set_option maxHeartbeats 1600000 in
set_option maxRecDepth 100000 in
theorem full_any {B : Nat} {M : Mp} {w : World} (h : Inv B [] M w) (over at' : Int) :
    Calls Try.prog 4 #[.int .i64 over, .int .i64 at'] w (Yes B M w) := by
  by_cases hout : over < -3 ∨ 3 < over
  · have S0 := Lib.hid (St.refl h)
    clear h
    rcases hout with h1 | h1
    · go_enter Try.func4, Try.ntmps4
      go_wp2_with (go_at_call 6; refine (awake_yes S0.out).mono ?_; rintro e w' ⟨rfl, hs⟩; have HS := Lib.hid hs; clear hs)
      go_ret
      exact ⟨rfl, HS.out⟩
    · have h2 : ¬ over < -3 := by omega
      go_enter Try.func4, Try.ntmps4
      go_wp2_with (go_at_call 6; refine (awake_yes S0.out).mono ?_; rintro e w' ⟨rfl, hs⟩; have HS := Lib.hid hs; clear hs)
      go_ret
      exact ⟨rfl, HS.out⟩
  · have b1 : -3 ≤ over := by omega
    have b2 : over ≤ 3 := by omega
    clear hout
    obtain ⟨Z0, z0, hz0, hmk0, hcv0, -⟩ := zeros 60000 60000 rfl (by omega)
    obtain ⟨Z1, z1, hz1, hmk1, -, hcv1⟩ := zeros (5536 + over).toNat (5536 + over) (by omega) (by omega)
    obtain ⟨Z2, z2, hz2, hmk2, hcv2, -⟩ := zeros (65536 + over).toNat (65536 + over) (by omega) (by omega)
    have HZ0 := Lib.hid hz0
    have HZ1 := Lib.hid hz1
    have HZ2 := Lib.hid hz2
    have H := Lib.hid h
    have S0 := Lib.hid ((St.refl h).boxed Z0)
    clear h hz0 hz1 hz2
    by_cases hpos : 0 < over
    · go_enter Try.func4, Try.ntmps4
      go_wp2_with fail
      refine (new_any S0.out.inv z0 (by rw [HZ0.out]; omega)).mono ?_
      rintro e w1 ⟨M1, b1', o1, rfl, r1, ⟨g1, -, -⟩, s1⟩
      have T1 : Hid (osize o1 = 60000) := Lib.hid (show osize o1 = 60000 from by rw [osize_eq, g1, bsize, HZ0.out])
      have S1 := Lib.hid (S0.out.trans s1)
      have SZ := Lib.hid ((S0.out.trans s1).boxed Z1)
      have R1 := Lib.hid (r1.step s1.inv (St.below s1.inv ((Below.refl _ w1).alloc (Nat.le_refl _) Z1)))
      clear r1 g1 s1
      go_wp2_with fail
      go_region_with (first
        | (go_at_call 8; refine (round_any at' 60001 (by omega) (by omega) _).mono ?_; rintro e w' ⟨⟨k, hk, rfl⟩, rfl⟩)
        | (go_at_call 9; refine (insert_big (B := B) (M := M1) (o := o1) ?_ ?_ k z1 (by rw [T1.out]; omega) (by rw [T1.out, HZ1.out]; omega)).mono ?_; (with_reducible exact SZ.out.inv.drew); (with_reducible exact R1.out.drew); rintro e w' ⟨rfl, rfl⟩))
      all_goals (have S2 := Lib.hid SZ.out.drew; revert S2; generalize (w1.alloc Z1).drew = w2; intro S2; have S3 := Lib.hid (S2.out.boxed Z2))
      all_goals go_wp2_with (first
        | (go_at_call 7; refine (new_no z2 _ (by rw [HZ2.out]; omega) (by rw [HZ2.out]; omega)).mono ?_; rintro e w' ⟨rfl, rfl⟩)
        | (go_at_call 6; refine (awake_yes S3.out).mono ?_; rintro e w' ⟨rfl, hs⟩; have HS := Lib.hid hs; clear hs))
      all_goals go_ret
      all_goals exact ⟨rfl, HS.out⟩
    · go_enter Try.func4, Try.ntmps4
      go_wp2_with fail
      refine (new_any S0.out.inv z0 (by rw [HZ0.out]; omega)).mono ?_
      rintro e w1 ⟨M1, b1', o1, rfl, r1, ⟨g1, -, -⟩, s1⟩
      have T1 : Hid (osize o1 = 60000) := Lib.hid (show osize o1 = 60000 from by rw [osize_eq, g1, bsize, HZ0.out])
      have S1 := Lib.hid (S0.out.trans s1)
      have SZ := Lib.hid ((S0.out.trans s1).boxed Z1)
      have R1 := Lib.hid (r1.step s1.inv (St.below s1.inv ((Below.refl _ w1).alloc (Nat.le_refl _) Z1)))
      clear r1 g1 s1
      go_wp2_with fail
      go_region_with (first
        | (go_at_call 8; refine (round_any at' 60001 (by omega) (by omega) _).mono ?_; rintro e w' ⟨⟨k, hk, rfl⟩, rfl⟩)
        | (go_at_call 9; refine (insert_any (B := B) (M := M1) (o := o1) ?_ ?_ k z1 (by rw [T1.out]; omega) (by rw [T1.out, HZ1.out]; omega)).mono ?_; (with_reducible exact SZ.out.inv.drew); (with_reducible exact R1.out.drew); rintro e w2 ⟨M2, b2', o2, rfl, r2, ⟨g2, -⟩, s2⟩; have T2 : Hid (osize o2 = (65536 + over).toNat) := Lib.hid (show osize o2 = (65536 + over).toNat from by rw [osize_eq, g2, List.length_append, List.length_append, List.length_take, List.length_drop, bsize, ← osize_eq, T1.out, HZ1.out]; omega); have S2 := Lib.hid (SZ.out.trans s2.of_drew); have R2 := Lib.hid r2; clear r2 g2 s2))
      all_goals (have S3 := Lib.hid (S2.out.boxed Z2); have R3 := Lib.hid (R2.out.step S2.out.inv (St.below S2.out.inv ((Below.refl _ w2).alloc (Nat.le_refl _) Z2))))
      all_goals (have hadd : ((osize o2 : Int) == (65536 + over)) = true := by rw [T2.out, beq_iff_eq]; omega)
      all_goals go_wp2_with (first
        | (go_at_call 7; refine (new_any S3.out.inv z2 (by rw [HZ2.out]; omega)).mono ?_; rintro e w4 ⟨M4, b4, o4, rfl, r4, -, s4⟩; have S4 := Lib.hid (S3.out.trans s4); have R4 := Lib.hid (R3.out.step S3.out.inv s4); clear r4 s4)
        | (go_at_call 12; refine (len_any S4.out.inv R4.out).mono ?_; rintro e w' ⟨rfl, rfl⟩)
        | (go_at_call 6; refine (awake_yes S4.out).mono ?_; rintro e w' ⟨rfl, hs⟩; have HS := Lib.hid hs; clear hs))
      all_goals go_ret
      all_goals exact ⟨rfl, HS.out⟩

end Go.Proofs.Ythpgjcoccdeklaa
