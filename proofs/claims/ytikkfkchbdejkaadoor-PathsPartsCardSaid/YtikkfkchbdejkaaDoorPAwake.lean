/-
  awake, of the laws of paths.
-/
import Derived.Test.YtikkfkchbdejkaaDoorPaths
namespace Go.Proofs.YtikkfkchbdejkaaDoor
open Go.RowKit

theorem cl1 (w : World) : Calls Tryd.prog 7 #[.string ⟨#[97, 47, 46, 47, 98, 47, 46, 46, 47, 99, 46, 104]⟩] w fun e w' => e = .returned (.tuple #[.string ⟨#[97, 47, 99, 46, 104]⟩, .int .i64 0]) ∧ Below w.heap.size w w' := by
  have h := pClean_any ⟨#[97, 47, 46, 47, 98, 47, 46, 46, 47, 99, 46, 104]⟩ w (by decide)
  rw [show cleanL (⟨#[97, 47, 46, 47, 98, 47, 46, 46, 47, 99, 46, 104]⟩ : ByteArray).data.toList = some [97, 47, 99, 46, 104] from by decide] at h
  exact h

theorem cl2 (w : World) : Calls Tryd.prog 7 #[.string ⟨#[46, 46, 47, 97]⟩] w fun e w' => e = .returned (.tuple #[.string ⟨#[]⟩, .int .i64 1]) ∧ Below w.heap.size w w' := by
  have h := pClean_any ⟨#[46, 46, 47, 97]⟩ w (by decide)
  rw [show cleanL (⟨#[46, 46, 47, 97]⟩ : ByteArray).data.toList = none from by decide] at h
  exact h

theorem jo1 (w : World) : Calls Tryd.prog 9 #[.string ⟨#[120]⟩, .string ⟨#[47, 121, 46, 104]⟩] w fun e w' => e = .returned (.tuple #[.string ⟨#[121, 46, 104]⟩, .int .i64 0]) ∧ Below w.heap.size w w' := by
  have h := pJoin_any ⟨#[120]⟩ ⟨#[47, 121, 46, 104]⟩ w (by decide)
  rw [show joinPath (⟨#[120]⟩ : ByteArray).data.toList (⟨#[47, 121, 46, 104]⟩ : ByteArray).data.toList = some [121, 46, 104] from by decide] at h
  exact h

theorem di1 (w : World) : Calls Tryd.prog 13 #[.string ⟨#[97, 47, 98]⟩] w fun e w' => e = .returned (.string ⟨#[97]⟩) ∧ Below w.heap.size w w' := by
  have h := pDir_any ⟨#[97, 47, 98]⟩ w (by decide)
  rw [show dirL (⟨#[97, 47, 98]⟩ : ByteArray).data.toList = [97] from by decide] at h
  exact h

theorem di2 (w : World) : Calls Tryd.prog 13 #[.string ⟨#[97]⟩] w fun e w' => e = .returned (.string ⟨#[]⟩) ∧ Below w.heap.size w w' := by
  have h := pDir_any ⟨#[97]⟩ w (by decide)
  rw [show dirL (⟨#[97]⟩ : ByteArray).data.toList = [] from by decide] at h
  exact h

theorem va1 (w : World) : Calls Tryd.prog 11 #[.string ⟨#[97, 47, 98]⟩] w fun e w' => e = .returned (.bool true) ∧ Below w.heap.size w w' := by
  have h := pValid_any ⟨#[97, 47, 98]⟩ w (by decide)
  rw [show validB (⟨#[97, 47, 98]⟩ : ByteArray).data.toList = true from by decide] at h
  exact h

theorem va2 (w : World) : Calls Tryd.prog 11 #[.string ⟨#[]⟩] w fun e w' => e = .returned (.bool false) ∧ Below w.heap.size w w' := by
  have h := pValid_any ⟨#[]⟩ w (by decide)
  rw [show validB (⟨#[]⟩ : ByteArray).data.toList = false from by decide] at h
  exact h

set_option maxHeartbeats 1600000 in
theorem awake_any (w : World) : Calls Tryd.prog 6 #[] w fun e w' => e = .returned (.bool true) ∧ Below w.heap.size w w' := by
  have hnot : ∀ (x : Bool) (w : World), (Op.unary .not (.bool x)).run Tryd.prog w = .ok (.bool (!x)) w := fun _ _ => rfl
  go_enter Tryd.func6, Tryd.ntmps6
  go_wp2_with (first
    | (go_at_call 7; (with_reducible refine (cl1 _).mono ?_); rintro e w1 ⟨rfl, b1⟩; have B1 := Lib.hid b1; clear b1)
    | (go_at_call 7; (with_reducible refine (cl2 _).mono ?_); rintro e w2 ⟨rfl, b2⟩; have B2 := Lib.hid (B1.out.trans (b2.mono B1.out.size)); clear b2)
    | (go_at_call 9; (with_reducible refine (jo1 _).mono ?_); rintro e w3 ⟨rfl, b3⟩; have B3 := Lib.hid (B2.out.trans (b3.mono B2.out.size)); clear b3)
    | (go_at_call 13; (with_reducible refine (di1 _).mono ?_); rintro e w4 ⟨rfl, b4⟩; have B4 := Lib.hid (B3.out.trans (b4.mono B3.out.size)); clear b4)
    | (go_at_call 13; (with_reducible refine (di2 _).mono ?_); rintro e w5 ⟨rfl, b5⟩; have B5 := Lib.hid (B4.out.trans (b5.mono B4.out.size)); clear b5)
    | (go_at_call 11; (with_reducible refine (va1 _).mono ?_); rintro e w6 ⟨rfl, b6⟩; have B6 := Lib.hid (B5.out.trans (b6.mono B5.out.size)); clear b6)
    | (go_at_call 11; (with_reducible refine (va2 _).mono ?_); rintro e w7 ⟨rfl, b7⟩; have B7 := Lib.hid (B6.out.trans (b7.mono B6.out.size)); clear b7))
  go_ret
  exact ⟨rfl, B7.out⟩

end Go.Proofs.YtikkfkchbdejkaaDoor
