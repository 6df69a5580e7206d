/-
  Texts of the proof, put together: DkOf.
-/
import Derived.Test.YtlnlpahmfpjjdaaDoorG12

/-
  A line's kind: the project's.
-/
namespace Go.Proofs.YtlnlpahmfpjjdaaDoor
open Go.RowKit

theorem wB_some : ∀ k, 2 ≤ k → k < 14 → ((wB k).toList == []) = false := by
  intro k h1 h2
  have : k = 2 ∨ k = 3 ∨ k = 4 ∨ k = 5 ∨ k = 6 ∨ k = 7 ∨ k = 8 ∨ k = 9 ∨ k = 10 ∨ k = 11 ∨ k = 12 ∨ k = 13 := by omega
  rcases this with rfl | rfl | rfl | rfl | rfl | rfl | rfl | rfl | rfl | rfl | rfl | rfl <;> (rw [ByteArray.toList_eq]; rfl)

set_option maxRecDepth 100000 in
set_option maxHeartbeats 3200000 in
theorem kindOf_any (x : ByteArray) {w : World} (hW : WordsAt 0 w) : Calls Tryd.prog 37 #[.string x] w (IntNew (wKind x : Nat) w) := by
  have HW := Lib.hid hW
  obtain ⟨K, hK⟩ : ∃ K, wKind x = K := ⟨_, rfl⟩
  rw [hK]
  have HK := Lib.hid hK
  have q0 := hW 0 (by omega)
  have q1 := hW 1 (by omega)
  have q2 := hW 2 (by omega)
  have q3 := hW 3 (by omega)
  have q4 := hW 4 (by omega)
  have q5 := hW 5 (by omega)
  have q6 := hW 6 (by omega)
  have q7 := hW 7 (by omega)
  have q8 := hW 8 (by omega)
  have q9 := hW 9 (by omega)
  have q10 := hW 10 (by omega)
  have q11 := hW 11 (by omega)
  have q12 := hW 12 (by omega)
  have q13 := hW 13 (by omega)
  clear hW hK
  go_enter Tryd.func37, Tryd.ntmps37
  go_wp2
  go_loop [6] (fun i => ∃ k : Nat, i = .int .i64 (k : Int) ∧ k ≤ 14 ∧ wFrom x (14 - max 2 k) (max 2 k) = K) (fun i => 14 - (intOf i).toNat)
  case atStart => exact ⟨0, rfl, by omega, HK.out⟩
  case round =>
    obtain ⟨k, rfl, hk14, hwk⟩ := hrel
    have HWK := Lib.hid hwk
    clear hwk
    by_cases hlt : k < 14
    · have hcs : k = 0 ∨ k = 1 ∨ k = 2 ∨ k = 3 ∨ k = 4 ∨ k = 5 ∨ k = 6 ∨ k = 7 ∨ k = 8 ∨ k = 9 ∨ k = 10 ∨ k = 11 ∨ k = 12 ∨ k = 13 := by omega
      rcases hcs with rfl | rfl | rfl | rfl | rfl | rfl | rfl | rfl | rfl | rfl | rfl | rfl | rfl | rfl
      · have i0 : ∀ w, (Instr.index 78 (.agg #[.string (wB 0), .string (wB 1), .string (wB 2), .string (wB 3), .string (wB 4), .string (wB 5), .string (wB 6), .string (wB 7), .string (wB 8), .string (wB 9), .string (wB 10), .string (wB 11), .string (wB 12), .string (wB 13)]) (.int .i64 0)).run Tryd.prog w = .ok (.string (wB 0)) w := fun _ => by kernel_rfl
        have he : ((wB 0).toList == []) = true := by rw [ByteArray.toList_eq]; rfl
        by_cases hx : x = wB 0
        · have hx1 : ((wB 0).toList == x.toList) = true := by rw [hx]; simp
          clear hx
          go_wp2
          go_round
          case rel => exact ⟨1, rfl, by omega, HWK.out⟩
          case measure => simp [intOf]
        · have hx1 : ((wB 0).toList == x.toList) = false := by rw [str_is]; simpa using fun e => hx e.symm
          clear hx
          go_wp2
          go_round
          case rel => exact ⟨1, rfl, by omega, HWK.out⟩
          case measure => simp [intOf]
      · have i0 : ∀ w, (Instr.index 78 (.agg #[.string (wB 0), .string (wB 1), .string (wB 2), .string (wB 3), .string (wB 4), .string (wB 5), .string (wB 6), .string (wB 7), .string (wB 8), .string (wB 9), .string (wB 10), .string (wB 11), .string (wB 12), .string (wB 13)]) (.int .i64 1)).run Tryd.prog w = .ok (.string (wB 1)) w := fun _ => by kernel_rfl
        have he : ((wB 1).toList == []) = true := by rw [ByteArray.toList_eq]; rfl
        by_cases hx : x = wB 1
        · have hx1 : ((wB 1).toList == x.toList) = true := by rw [hx]; simp
          clear hx
          go_wp2
          go_round
          case rel => exact ⟨2, rfl, by omega, HWK.out⟩
          case measure => simp [intOf]
        · have hx1 : ((wB 1).toList == x.toList) = false := by rw [str_is]; simpa using fun e => hx e.symm
          clear hx
          go_wp2
          go_round
          case rel => exact ⟨2, rfl, by omega, HWK.out⟩
          case measure => simp [intOf]
      · have i0 : ∀ w, (Instr.index 78 (.agg #[.string (wB 0), .string (wB 1), .string (wB 2), .string (wB 3), .string (wB 4), .string (wB 5), .string (wB 6), .string (wB 7), .string (wB 8), .string (wB 9), .string (wB 10), .string (wB 11), .string (wB 12), .string (wB 13)]) (.int .i64 2)).run Tryd.prog w = .ok (.string (wB 2)) w := fun _ => by kernel_rfl
        have he := wB_some 2 (by omega) (by omega)
        have hk : wFrom x 12 2 = K := HWK.out
        by_cases hx : x = wB 2
        · have hx1 : ((wB 2).toList == x.toList) = true := by rw [hx]; simp
          have HF : Hid ((2 : Int) = (K : Int)) := Lib.hid (by rw [← hk, wFrom_yes hx (by omega)]; rfl)
          clear hk hx
          go_wp2
          go_ret
          exact int_new HF.out (Below.refl _ _)
        · have hx1 : ((wB 2).toList == x.toList) = false := by rw [str_is]; simpa using fun e => hx e.symm
          have HF : Hid (wFrom x 11 3 = K) := Lib.hid (by rw [← hk]; exact (wFrom_no hx (by omega)).symm)
          clear hk hx
          go_wp2
          go_round
          case rel => exact ⟨3, rfl, by omega, HF.out⟩
          case measure => simp [intOf]
      · have i0 : ∀ w, (Instr.index 78 (.agg #[.string (wB 0), .string (wB 1), .string (wB 2), .string (wB 3), .string (wB 4), .string (wB 5), .string (wB 6), .string (wB 7), .string (wB 8), .string (wB 9), .string (wB 10), .string (wB 11), .string (wB 12), .string (wB 13)]) (.int .i64 3)).run Tryd.prog w = .ok (.string (wB 3)) w := fun _ => by kernel_rfl
        have he := wB_some 3 (by omega) (by omega)
        have hk : wFrom x 11 3 = K := HWK.out
        by_cases hx : x = wB 3
        · have hx1 : ((wB 3).toList == x.toList) = true := by rw [hx]; simp
          have HF : Hid ((3 : Int) = (K : Int)) := Lib.hid (by rw [← hk, wFrom_yes hx (by omega)]; rfl)
          clear hk hx
          go_wp2
          go_ret
          exact int_new HF.out (Below.refl _ _)
        · have hx1 : ((wB 3).toList == x.toList) = false := by rw [str_is]; simpa using fun e => hx e.symm
          have HF : Hid (wFrom x 10 4 = K) := Lib.hid (by rw [← hk]; exact (wFrom_no hx (by omega)).symm)
          clear hk hx
          go_wp2
          go_round
          case rel => exact ⟨4, rfl, by omega, HF.out⟩
          case measure => simp [intOf]
      · have i0 : ∀ w, (Instr.index 78 (.agg #[.string (wB 0), .string (wB 1), .string (wB 2), .string (wB 3), .string (wB 4), .string (wB 5), .string (wB 6), .string (wB 7), .string (wB 8), .string (wB 9), .string (wB 10), .string (wB 11), .string (wB 12), .string (wB 13)]) (.int .i64 4)).run Tryd.prog w = .ok (.string (wB 4)) w := fun _ => by kernel_rfl
        have he := wB_some 4 (by omega) (by omega)
        have hk : wFrom x 10 4 = K := HWK.out
        by_cases hx : x = wB 4
        · have hx1 : ((wB 4).toList == x.toList) = true := by rw [hx]; simp
          have HF : Hid ((4 : Int) = (K : Int)) := Lib.hid (by rw [← hk, wFrom_yes hx (by omega)]; rfl)
          clear hk hx
          go_wp2
          go_ret
          exact int_new HF.out (Below.refl _ _)
        · have hx1 : ((wB 4).toList == x.toList) = false := by rw [str_is]; simpa using fun e => hx e.symm
          have HF : Hid (wFrom x 9 5 = K) := Lib.hid (by rw [← hk]; exact (wFrom_no hx (by omega)).symm)
          clear hk hx
          go_wp2
          go_round
          case rel => exact ⟨5, rfl, by omega, HF.out⟩
          case measure => simp [intOf]
      · have i0 : ∀ w, (Instr.index 78 (.agg #[.string (wB 0), .string (wB 1), .string (wB 2), .string (wB 3), .string (wB 4), .string (wB 5), .string (wB 6), .string (wB 7), .string (wB 8), .string (wB 9), .string (wB 10), .string (wB 11), .string (wB 12), .string (wB 13)]) (.int .i64 5)).run Tryd.prog w = .ok (.string (wB 5)) w := fun _ => by kernel_rfl
        have he := wB_some 5 (by omega) (by omega)
        have hk : wFrom x 9 5 = K := HWK.out
        by_cases hx : x = wB 5
        · have hx1 : ((wB 5).toList == x.toList) = true := by rw [hx]; simp
          have HF : Hid ((5 : Int) = (K : Int)) := Lib.hid (by rw [← hk, wFrom_yes hx (by omega)]; rfl)
          clear hk hx
          go_wp2
          go_ret
          exact int_new HF.out (Below.refl _ _)
        · have hx1 : ((wB 5).toList == x.toList) = false := by rw [str_is]; simpa using fun e => hx e.symm
          have HF : Hid (wFrom x 8 6 = K) := Lib.hid (by rw [← hk]; exact (wFrom_no hx (by omega)).symm)
          clear hk hx
          go_wp2
          go_round
          case rel => exact ⟨6, rfl, by omega, HF.out⟩
          case measure => simp [intOf]
      · have i0 : ∀ w, (Instr.index 78 (.agg #[.string (wB 0), .string (wB 1), .string (wB 2), .string (wB 3), .string (wB 4), .string (wB 5), .string (wB 6), .string (wB 7), .string (wB 8), .string (wB 9), .string (wB 10), .string (wB 11), .string (wB 12), .string (wB 13)]) (.int .i64 6)).run Tryd.prog w = .ok (.string (wB 6)) w := fun _ => by kernel_rfl
        have he := wB_some 6 (by omega) (by omega)
        have hk : wFrom x 8 6 = K := HWK.out
        by_cases hx : x = wB 6
        · have hx1 : ((wB 6).toList == x.toList) = true := by rw [hx]; simp
          have HF : Hid ((6 : Int) = (K : Int)) := Lib.hid (by rw [← hk, wFrom_yes hx (by omega)]; rfl)
          clear hk hx
          go_wp2
          go_ret
          exact int_new HF.out (Below.refl _ _)
        · have hx1 : ((wB 6).toList == x.toList) = false := by rw [str_is]; simpa using fun e => hx e.symm
          have HF : Hid (wFrom x 7 7 = K) := Lib.hid (by rw [← hk]; exact (wFrom_no hx (by omega)).symm)
          clear hk hx
          go_wp2
          go_round
          case rel => exact ⟨7, rfl, by omega, HF.out⟩
          case measure => simp [intOf]
      · have i0 : ∀ w, (Instr.index 78 (.agg #[.string (wB 0), .string (wB 1), .string (wB 2), .string (wB 3), .string (wB 4), .string (wB 5), .string (wB 6), .string (wB 7), .string (wB 8), .string (wB 9), .string (wB 10), .string (wB 11), .string (wB 12), .string (wB 13)]) (.int .i64 7)).run Tryd.prog w = .ok (.string (wB 7)) w := fun _ => by kernel_rfl
        have he := wB_some 7 (by omega) (by omega)
        have hk : wFrom x 7 7 = K := HWK.out
        by_cases hx : x = wB 7
        · have hx1 : ((wB 7).toList == x.toList) = true := by rw [hx]; simp
          have HF : Hid ((7 : Int) = (K : Int)) := Lib.hid (by rw [← hk, wFrom_yes hx (by omega)]; rfl)
          clear hk hx
          go_wp2
          go_ret
          exact int_new HF.out (Below.refl _ _)
        · have hx1 : ((wB 7).toList == x.toList) = false := by rw [str_is]; simpa using fun e => hx e.symm
          have HF : Hid (wFrom x 6 8 = K) := Lib.hid (by rw [← hk]; exact (wFrom_no hx (by omega)).symm)
          clear hk hx
          go_wp2
          go_round
          case rel => exact ⟨8, rfl, by omega, HF.out⟩
          case measure => simp [intOf]
      · have i0 : ∀ w, (Instr.index 78 (.agg #[.string (wB 0), .string (wB 1), .string (wB 2), .string (wB 3), .string (wB 4), .string (wB 5), .string (wB 6), .string (wB 7), .string (wB 8), .string (wB 9), .string (wB 10), .string (wB 11), .string (wB 12), .string (wB 13)]) (.int .i64 8)).run Tryd.prog w = .ok (.string (wB 8)) w := fun _ => by kernel_rfl
        have he := wB_some 8 (by omega) (by omega)
        have hk : wFrom x 6 8 = K := HWK.out
        by_cases hx : x = wB 8
        · have hx1 : ((wB 8).toList == x.toList) = true := by rw [hx]; simp
          have HF : Hid ((8 : Int) = (K : Int)) := Lib.hid (by rw [← hk, wFrom_yes hx (by omega)]; rfl)
          clear hk hx
          go_wp2
          go_ret
          exact int_new HF.out (Below.refl _ _)
        · have hx1 : ((wB 8).toList == x.toList) = false := by rw [str_is]; simpa using fun e => hx e.symm
          have HF : Hid (wFrom x 5 9 = K) := Lib.hid (by rw [← hk]; exact (wFrom_no hx (by omega)).symm)
          clear hk hx
          go_wp2
          go_round
          case rel => exact ⟨9, rfl, by omega, HF.out⟩
          case measure => simp [intOf]
      · have i0 : ∀ w, (Instr.index 78 (.agg #[.string (wB 0), .string (wB 1), .string (wB 2), .string (wB 3), .string (wB 4), .string (wB 5), .string (wB 6), .string (wB 7), .string (wB 8), .string (wB 9), .string (wB 10), .string (wB 11), .string (wB 12), .string (wB 13)]) (.int .i64 9)).run Tryd.prog w = .ok (.string (wB 9)) w := fun _ => by kernel_rfl
        have he := wB_some 9 (by omega) (by omega)
        have hk : wFrom x 5 9 = K := HWK.out
        by_cases hx : x = wB 9
        · have hx1 : ((wB 9).toList == x.toList) = true := by rw [hx]; simp
          have HF : Hid ((9 : Int) = (K : Int)) := Lib.hid (by rw [← hk, wFrom_yes hx (by omega)]; rfl)
          clear hk hx
          go_wp2
          go_ret
          exact int_new HF.out (Below.refl _ _)
        · have hx1 : ((wB 9).toList == x.toList) = false := by rw [str_is]; simpa using fun e => hx e.symm
          have HF : Hid (wFrom x 4 10 = K) := Lib.hid (by rw [← hk]; exact (wFrom_no hx (by omega)).symm)
          clear hk hx
          go_wp2
          go_round
          case rel => exact ⟨10, rfl, by omega, HF.out⟩
          case measure => simp [intOf]
      · have i0 : ∀ w, (Instr.index 78 (.agg #[.string (wB 0), .string (wB 1), .string (wB 2), .string (wB 3), .string (wB 4), .string (wB 5), .string (wB 6), .string (wB 7), .string (wB 8), .string (wB 9), .string (wB 10), .string (wB 11), .string (wB 12), .string (wB 13)]) (.int .i64 10)).run Tryd.prog w = .ok (.string (wB 10)) w := fun _ => by kernel_rfl
        have he := wB_some 10 (by omega) (by omega)
        have hk : wFrom x 4 10 = K := HWK.out
        by_cases hx : x = wB 10
        · have hx1 : ((wB 10).toList == x.toList) = true := by rw [hx]; simp
          have HF : Hid ((10 : Int) = (K : Int)) := Lib.hid (by rw [← hk, wFrom_yes hx (by omega)]; rfl)
          clear hk hx
          go_wp2
          go_ret
          exact int_new HF.out (Below.refl _ _)
        · have hx1 : ((wB 10).toList == x.toList) = false := by rw [str_is]; simpa using fun e => hx e.symm
          have HF : Hid (wFrom x 3 11 = K) := Lib.hid (by rw [← hk]; exact (wFrom_no hx (by omega)).symm)
          clear hk hx
          go_wp2
          go_round
          case rel => exact ⟨11, rfl, by omega, HF.out⟩
          case measure => simp [intOf]
      · have i0 : ∀ w, (Instr.index 78 (.agg #[.string (wB 0), .string (wB 1), .string (wB 2), .string (wB 3), .string (wB 4), .string (wB 5), .string (wB 6), .string (wB 7), .string (wB 8), .string (wB 9), .string (wB 10), .string (wB 11), .string (wB 12), .string (wB 13)]) (.int .i64 11)).run Tryd.prog w = .ok (.string (wB 11)) w := fun _ => by kernel_rfl
        have he := wB_some 11 (by omega) (by omega)
        have hk : wFrom x 3 11 = K := HWK.out
        by_cases hx : x = wB 11
        · have hx1 : ((wB 11).toList == x.toList) = true := by rw [hx]; simp
          have HF : Hid ((11 : Int) = (K : Int)) := Lib.hid (by rw [← hk, wFrom_yes hx (by omega)]; rfl)
          clear hk hx
          go_wp2
          go_ret
          exact int_new HF.out (Below.refl _ _)
        · have hx1 : ((wB 11).toList == x.toList) = false := by rw [str_is]; simpa using fun e => hx e.symm
          have HF : Hid (wFrom x 2 12 = K) := Lib.hid (by rw [← hk]; exact (wFrom_no hx (by omega)).symm)
          clear hk hx
          go_wp2
          go_round
          case rel => exact ⟨12, rfl, by omega, HF.out⟩
          case measure => simp [intOf]
      · have i0 : ∀ w, (Instr.index 78 (.agg #[.string (wB 0), .string (wB 1), .string (wB 2), .string (wB 3), .string (wB 4), .string (wB 5), .string (wB 6), .string (wB 7), .string (wB 8), .string (wB 9), .string (wB 10), .string (wB 11), .string (wB 12), .string (wB 13)]) (.int .i64 12)).run Tryd.prog w = .ok (.string (wB 12)) w := fun _ => by kernel_rfl
        have he := wB_some 12 (by omega) (by omega)
        have hk : wFrom x 2 12 = K := HWK.out
        by_cases hx : x = wB 12
        · have hx1 : ((wB 12).toList == x.toList) = true := by rw [hx]; simp
          have HF : Hid ((12 : Int) = (K : Int)) := Lib.hid (by rw [← hk, wFrom_yes hx (by omega)]; rfl)
          clear hk hx
          go_wp2
          go_ret
          exact int_new HF.out (Below.refl _ _)
        · have hx1 : ((wB 12).toList == x.toList) = false := by rw [str_is]; simpa using fun e => hx e.symm
          have HF : Hid (wFrom x 1 13 = K) := Lib.hid (by rw [← hk]; exact (wFrom_no hx (by omega)).symm)
          clear hk hx
          go_wp2
          go_round
          case rel => exact ⟨13, rfl, by omega, HF.out⟩
          case measure => simp [intOf]
      · have i0 : ∀ w, (Instr.index 78 (.agg #[.string (wB 0), .string (wB 1), .string (wB 2), .string (wB 3), .string (wB 4), .string (wB 5), .string (wB 6), .string (wB 7), .string (wB 8), .string (wB 9), .string (wB 10), .string (wB 11), .string (wB 12), .string (wB 13)]) (.int .i64 13)).run Tryd.prog w = .ok (.string (wB 13)) w := fun _ => by kernel_rfl
        have he := wB_some 13 (by omega) (by omega)
        have hk : wFrom x 1 13 = K := HWK.out
        by_cases hx : x = wB 13
        · have hx1 : ((wB 13).toList == x.toList) = true := by rw [hx]; simp
          have HF : Hid ((13 : Int) = (K : Int)) := Lib.hid (by rw [← hk, wFrom_yes hx (by omega)]; rfl)
          clear hk hx
          go_wp2
          go_ret
          exact int_new HF.out (Below.refl _ _)
        · have hx1 : ((wB 13).toList == x.toList) = false := by rw [str_is]; simpa using fun e => hx e.symm
          have HF : Hid (wFrom x 0 14 = K) := Lib.hid (by rw [← hk]; exact (wFrom_no hx (by omega)).symm)
          clear hk hx
          go_wp2
          go_round
          case rel => exact ⟨14, rfl, by omega, HF.out⟩
          case measure => simp [intOf]
    · go_wp2
      go_ret
      refine int_new ?_ (Below.refl _ _)
      obtain rfl : k = 14 := by omega
      rw [← HWK.out]
      rfl

end Go.Proofs.YtlnlpahmfpjjdaaDoor
