/-
  PathsClean: the walk.
-/
import Derived.Test.YtikkfkchbdejkaaDoorPAwake
namespace Go.Proofs.YtikkfkchbdejkaaDoor
open Go.RowKit

set_option maxHeartbeats 1600000 in
theorem pathsClean_any (d p : ByteArray) (w : World) : Calls Tryd.prog 3 #[.string d, .string p] w fun e w' => e = .returned (.bool true) ∧ Below w.heap.size w w' := by
  by_cases hd : 300 < d.size
  · have hd' : (300 : Int) < (d.size : Int) := by omega
    go_enter Tryd.func3, Tryd.ntmps3
    go_wp2_with (go_at_call 6; (with_reducible refine (awake_any _).mono ?_); rintro e w1 ⟨rfl, b1⟩)
    go_ret
    exact ⟨rfl, b1⟩
  · by_cases hp : 300 < p.size
    · have hd' : ¬ (300 : Int) < (d.size : Int) := by omega
      have hp' : (300 : Int) < (p.size : Int) := by omega
      go_enter Tryd.func3, Tryd.ntmps3
      go_wp2_with (go_at_call 6; (with_reducible refine (awake_any _).mono ?_); rintro e w1 ⟨rfl, b1⟩)
      go_ret
      exact ⟨rfl, b1⟩
    · have c1 := fun w => pClean_any p w (by omega)
      have c2 := fun w => clean_any p w (by omega)
      have j1 := fun w => pJoin_any d p w (by omega)
      have j2 := fun w => join_any d p w (by omega)
      have v1 := fun w => pValid_any p w (by omega)
      have v2 := fun w => valid_any p w
      have d1 := fun w => pDir_any p w (by omega)
      have d2 := fun w => dir_any p w (by omega)
      generalize cleanS (cleanL p.data.toList) = S1 at *
      generalize cleanN (cleanL p.data.toList) = N1 at *
      generalize cleanS (joinPath d.data.toList p.data.toList) = S2 at *
      generalize cleanN (joinPath d.data.toList p.data.toList) = N2 at *
      generalize validB p.data.toList = V at *
      generalize (⟨(dirL p.data.toList).toArray⟩ : ByteArray) = D at *
      have C1 := Lib.hid c1
      have C2 := Lib.hid c2
      have J1 := Lib.hid j1
      have J2 := Lib.hid j2
      have V1 := Lib.hid v1
      have V2 := Lib.hid v2
      have D1 := Lib.hid d1
      have D2 := Lib.hid d2
      have hd' : ¬ (300 : Int) < (d.size : Int) := by omega
      have hp' : ¬ (300 : Int) < (p.size : Int) := by omega
      clear c1 c2 j1 j2 v1 v2 d1 d2
      go_enter Tryd.func3, Tryd.ntmps3
      have B0 := Lib.hid (Below.refl w.heap.size w)
      go_wp2_with (first
        | (go_at_call 7; (with_reducible refine (C1.out _).mono ?_); rintro e w1 ⟨rfl, b1⟩; have B1 := Lib.hid b1; clear b1)
        | (go_at_call 8; (with_reducible refine (C2.out _).mono ?_); rintro e w2 ⟨rfl, b2⟩; have B2 := Lib.hid (B1.out.trans (b2.mono B1.out.size)); clear b2)
        | (go_at_call 9; (with_reducible refine (J1.out _).mono ?_); rintro e w3 ⟨rfl, b3⟩; have B3 := Lib.hid (B2.out.trans (b3.mono B2.out.size)); clear b3)
        | (go_at_call 10; (with_reducible refine (J2.out _).mono ?_); rintro e w4 ⟨rfl, b4⟩; have B4 := Lib.hid (B3.out.trans (b4.mono B3.out.size)); clear b4)
        | (go_at_call 11; (with_reducible refine (V1.out _).mono ?_); rintro e w5 ⟨rfl, b5⟩; have B5 := Lib.hid (B4.out.trans (b5.mono B4.out.size)); clear b5)
        | (go_at_call 12; (with_reducible refine (V2.out _).mono ?_); rintro e w6 ⟨rfl, b6⟩; have B6 := Lib.hid (B5.out.trans (b6.mono B5.out.size)); clear b6)
        | (go_at_call 13; (with_reducible refine (D1.out _).mono ?_); rintro e w7 ⟨rfl, b7⟩; have B7 := Lib.hid (B6.out.trans (b7.mono B6.out.size)); clear b7)
        | (go_at_call 14; (with_reducible refine (D2.out _).mono ?_); rintro e w8 ⟨rfl, rfl⟩)
        | (go_at_call 6; (with_reducible refine (awake_any _).mono ?_); rintro e w9 ⟨rfl, b9⟩; have B9 := Lib.hid (B7.out.trans (b9.mono B7.out.size)); clear b9))
      go_ret
      exact ⟨rfl, B9.out⟩

end Go.Proofs.YtikkfkchbdejkaaDoor
