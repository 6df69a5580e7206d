/-
  'is' at the two ropes that 'awake' looks at.
-/
import Derived.Test.YthpgjcoccdeklaaPiece
import Derived.Deep.DeepCutAuto
namespace Go.Proofs.Ythpgjcoccdeklaa
open Go.RowKit

/-- Four slots hold one of these rows. -/
def In4 (l : List (Int × Int × Int × Int)) (a b c d : Value) : Prop := ∃ x, x ∈ l ∧ a = .int .i64 x.1 ∧ b = .int .i64 x.2.1 ∧ c = .int .i64 x.2.2.1 ∧ d = .int .i64 x.2.2.2
def In2 (l : List (Int × Int)) (a b : Value) : Prop := ∃ x, x ∈ l ∧ a = .int .i64 x.1 ∧ b = .int .i64 x.2

/-- The rope's tree has that text and is flat. -/
def Flat (o : Option T) (l : List UInt8) : Prop := otext o = l ∧ odepth o ≤ 1

set_option maxHeartbeats 1600000 in
set_option maxRecDepth 100000 in
theorem is_one {B : Nat} {M : Mp} {w : World} (h : Inv B [] M w) {b : Nat} {o : Option T} (hr : RP M w (some ⟨b, 0, none⟩) o) (ho : Flat o [97, 98, 10, 99]) :
    Calls Try.prog 17 #[.pointer (some ⟨b, 0, none⟩), .string ⟨#[97, 98, 10, 99]⟩, .int .i64 3, .int .i64 4, .int .i64 1] w fun e w' => e = .returned (.bool true) ∧ St B M w M w' := by
  have hsz : osize o = 4 := by rw [osize_eq, ho.1]; rfl
  have hnl : onl o = 1 := by unfold onl; rw [ho.1]; decide
  have d0 := ho.2
  have kLen := len_any h hr
  rw [hsz] at kLen
  have kText := text_any h hr
  rw [ho.1] at kText
  have H := Lib.hid h
  have HR := Lib.hid hr
  have HO := Lib.hid ho
  have KLen := Lib.hid kLen
  have KText := Lib.hid kText
  have HSZ := Lib.hid hsz
  have HNL := Lib.hid hnl
  clear h hr ho kLen kText hsz hnl
  go_enter Try.func17, Try.ntmps17
  go_wp2_with fail
  refine KLen.out.mono ?_
  rintro e w' ⟨rfl, rfl⟩
  go_wp2_with fail
  refine KText.out.mono ?_
  rintro e w1 ⟨rfl, s1⟩
  have S1 := Lib.hid s1
  have R1 := Lib.hid (HR.out.step H.out s1)
  clear s1
  go_wp2_with fail
  have kSl := slice_any S1.out.inv R1.out 3 4 (by omega) (by rw [HSZ.out]; exact Nat.le_refl _)
  rw [HO.out.1] at kSl
  refine kSl.mono ?_
  clear kSl
  rintro e w2 ⟨rfl, s2⟩
  have S2 := Lib.hid (S1.out.trans s2)
  have R2 := Lib.hid (R1.out.step S1.out.inv s2)
  clear s2
  rw [show seg [97, 98, 10, 99] 3 4 = [99] from rfl]
  have hsl : ∀ w : World, (Instr.slice 9 (.string ⟨#[97, 98, 10, 99]⟩) (some (.int .i64 3)) (some (.int .i64 4)) none).run Try.prog w = .ok (.string ⟨#[99]⟩) w := fun w => run_slice_string (P := Try.prog) w 9 ⟨#[97, 98, 10, 99]⟩ .i64 .i64 3 4 Try.underlying9 (by decide) (by decide) (by decide)
  go_wp2_with fail
  go_loop [14, 15, 16, 17] (In4 [(0, 0, -1, 0), (0, 0, -1, 1), (0, 0, -1, 2), (1, 3, 3, 3), (1, 3, 3, 4)]) (fun _ _ _ i => 5 - (intOf i).toNat)
  case atStart => exact ⟨(0, 0, -1, 0), by decide, rfl, rfl, rfl, rfl⟩
  case round =>
    obtain ⟨x, hx, rfl, rfl, rfl, rfl⟩ := hrel
    simp only [List.mem_cons, List.not_mem_nil, or_false] at hx
    rcases hx with rfl | rfl | rfl | rfl | rfl
    · go_wp2_with fail
      go_round
      case rel => exact ⟨(0, 0, -1, 1), by decide, rfl, rfl, rfl, rfl⟩
      case measure => decide
    · go_wp2_with fail
      go_round
      case rel => exact ⟨(0, 0, -1, 2), by decide, rfl, rfl, rfl, rfl⟩
      case measure => decide
    · go_wp2_with fail
      go_round
      case rel => exact ⟨(1, 3, 3, 3), by decide, rfl, rfl, rfl, rfl⟩
      case measure => decide
    · go_wp2_with fail
      go_round
      case rel => exact ⟨(1, 3, 3, 4), by decide, rfl, rfl, rfl, rfl⟩
      case measure => decide
    · go_wp2_with fail
      have kLi := line_any S2.out.inv R2.out 3 (by rw [HSZ.out]; decide)
      rw [HO.out.1] at kLi
      refine kLi.mono ?_
      clear kLi
      rintro e w3 ⟨rfl, s3⟩
      have S3 := Lib.hid (S2.out.trans s3)
      have R3 := Lib.hid (R2.out.step S2.out.inv s3)
      clear s3
      rw [show List.count (10 : UInt8) (List.take 3 [97, 98, 10, 99]) = 1 from by decide, show behind [97, 98, 10, 99] 1 = 3 from by decide]
      go_wp2_with fail
      go_loop [21, 22] (In2 [(0, 0), (0, 1), (0, 2), (1, 3)]) (fun _ i => 5 - (intOf i).toNat)
      case atStart => exact ⟨(0, 0), by decide, rfl, rfl⟩
      case round =>
        obtain ⟨y, hy, rfl, rfl⟩ := hrel
        simp only [List.mem_cons, List.not_mem_nil, or_false] at hy
        rcases hy with rfl | rfl | rfl | rfl
        · go_wp2_with fail
          go_round
          case rel => exact ⟨(0, 1), by decide, rfl, rfl⟩
          case measure => decide
        · go_wp2_with fail
          go_round
          case rel => exact ⟨(0, 2), by decide, rfl, rfl⟩
          case measure => decide
        · go_wp2_with fail
          go_round
          case rel => exact ⟨(1, 3), by decide, rfl, rfl⟩
          case measure => decide
        · go_wp2_with fail
          have kSt := start_any S3.out.inv R3.out 1 (by rw [HNL.out]; decide)
          rw [HO.out.1, show behind [97, 98, 10, 99] 1 = 3 from by decide] at kSt
          refine kSt.mono ?_
          clear kSt
          rintro e w4 ⟨rfl, s4⟩
          have S4 := Lib.hid (S3.out.trans s4)
          have R4 := Lib.hid (R3.out.step S3.out.inv s4)
          clear s4
          go_wp2_with fail
          go_loop [26, 27] (In2 [(0, 5), (1, 2), (2, 1), (3, 0)]) (fun _ i => (intOf i).toNat)
          case atStart => exact ⟨(0, 5), by decide, rfl, rfl⟩
          case round =>
            obtain ⟨z, hz, rfl, rfl⟩ := hrel
            simp only [List.mem_cons, List.not_mem_nil, or_false] at hz
            rcases hz with rfl | rfl | rfl | rfl
            · go_wp2_with fail
              go_round
              case rel => exact ⟨(1, 2), by decide, rfl, rfl⟩
              case measure => decide
            · go_wp2_with fail
              go_round
              case rel => exact ⟨(2, 1), by decide, rfl, rfl⟩
              case measure => decide
            · go_wp2_with fail
              go_round
              case rel => exact ⟨(3, 0), by decide, rfl, rfl⟩
              case measure => decide
            · go_wp2_with fail
              have kLs := lines_any S4.out.inv R4.out
              rw [HNL.out] at kLs
              refine kLs.mono ?_
              clear kLs
              rintro e w5 ⟨rfl, s5⟩
              have S5 := Lib.hid (S4.out.trans s5)
              have R5 := Lib.hid (R4.out.step S4.out.inv s5)
              clear s5
              go_wp2_with fail
              refine (depth_any S5.out.inv R5.out).mono ?_
              rintro e w6 ⟨rfl, rfl⟩
              have hde : decide ((odepth o : Int) ≤ 20) = true := decide_eq_true (by omega)
              go_wp2_with fail
              go_ret
              exact ⟨rfl, S5.out⟩

set_option maxHeartbeats 1600000 in
set_option maxRecDepth 100000 in
theorem is_two {B : Nat} {M : Mp} {w : World} (h : Inv B [] M w) {b : Nat} {o : Option T} (hr : RP M w (some ⟨b, 0, none⟩) o) (ho : Flat o [97, 99]) :
    Calls Try.prog 17 #[.pointer (some ⟨b, 0, none⟩), .string ⟨#[97, 99]⟩, .int .i64 0, .int .i64 1, .int .i64 0] w fun e w' => e = .returned (.bool true) ∧ St B M w M w' := by
  have hsz : osize o = 2 := by rw [osize_eq, ho.1]; rfl
  have hnl : onl o = 0 := by unfold onl; rw [ho.1]; decide
  have d0 := ho.2
  have kLen := len_any h hr
  rw [hsz] at kLen
  have kText := text_any h hr
  rw [ho.1] at kText
  have H := Lib.hid h
  have HR := Lib.hid hr
  have HO := Lib.hid ho
  have KLen := Lib.hid kLen
  have KText := Lib.hid kText
  have HSZ := Lib.hid hsz
  have HNL := Lib.hid hnl
  clear h hr ho kLen kText hsz hnl
  go_enter Try.func17, Try.ntmps17
  go_wp2_with fail
  refine KLen.out.mono ?_
  rintro e w' ⟨rfl, rfl⟩
  go_wp2_with fail
  refine KText.out.mono ?_
  rintro e w1 ⟨rfl, s1⟩
  have S1 := Lib.hid s1
  have R1 := Lib.hid (HR.out.step H.out s1)
  clear s1
  go_wp2_with fail
  have kSl := slice_any S1.out.inv R1.out 0 1 (by omega) (by rw [HSZ.out]; decide)
  rw [HO.out.1] at kSl
  refine kSl.mono ?_
  clear kSl
  rintro e w2 ⟨rfl, s2⟩
  have S2 := Lib.hid (S1.out.trans s2)
  have R2 := Lib.hid (R1.out.step S1.out.inv s2)
  clear s2
  rw [show seg [97, 99] 0 1 = [97] from rfl]
  have hsl : ∀ w : World, (Instr.slice 9 (.string ⟨#[97, 99]⟩) (some (.int .i64 0)) (some (.int .i64 1)) none).run Try.prog w = .ok (.string ⟨#[97]⟩) w := fun w => run_slice_string (P := Try.prog) w 9 ⟨#[97, 99]⟩ .i64 .i64 0 1 Try.underlying9 (by decide) (by decide) (by decide)
  go_wp2_with fail
  go_loop [14, 15, 16, 17] (In4 [(0, 0, 0, 0), (0, 0, 0, 1), (0, 0, 0, 2)]) (fun _ _ _ i => 5 - (intOf i).toNat)
  case atStart => exact ⟨(0, 0, 0, 0), by decide, rfl, rfl, rfl, rfl⟩
  case round =>
    obtain ⟨x, hx, rfl, rfl, rfl, rfl⟩ := hrel
    simp only [List.mem_cons, List.not_mem_nil, or_false] at hx
    rcases hx with rfl | rfl | rfl
    · go_wp2_with fail
      go_round
      case rel => exact ⟨(0, 0, 0, 1), by decide, rfl, rfl, rfl, rfl⟩
      case measure => decide
    · go_wp2_with fail
      go_round
      case rel => exact ⟨(0, 0, 0, 2), by decide, rfl, rfl, rfl, rfl⟩
      case measure => decide
    · go_wp2_with fail
      have kLi := line_any S2.out.inv R2.out 0 (by rw [HSZ.out]; decide)
      rw [HO.out.1] at kLi
      refine kLi.mono ?_
      clear kLi
      rintro e w3 ⟨rfl, s3⟩
      have S3 := Lib.hid (S2.out.trans s3)
      have R3 := Lib.hid (R2.out.step S2.out.inv s3)
      clear s3
      rw [show List.count (10 : UInt8) (List.take 0 [97, 99]) = 0 from by decide, show behind [97, 99] 0 = 0 from by decide]
      go_wp2_with fail
      go_loop [21, 22] (In2 [(0, 0)]) (fun _ i => 5 - (intOf i).toNat)
      case atStart => exact ⟨(0, 0), by decide, rfl, rfl⟩
      case round =>
        obtain ⟨y, hy, rfl, rfl⟩ := hrel
        simp only [List.mem_cons, List.not_mem_nil, or_false] at hy
        subst hy
        go_wp2_with fail
        have kSt := start_any S3.out.inv R3.out 0 (Nat.zero_le _)
        rw [HO.out.1, show behind [97, 99] 0 = 0 from by decide] at kSt
        refine kSt.mono ?_
        clear kSt
        rintro e w4 ⟨rfl, s4⟩
        have S4 := Lib.hid (S3.out.trans s4)
        have R4 := Lib.hid (R3.out.step S3.out.inv s4)
        clear s4
        go_wp2_with fail
        go_loop [26, 27] (In2 [(0, 3), (1, 1), (2, 0)]) (fun _ i => (intOf i).toNat)
        case atStart => exact ⟨(0, 3), by decide, rfl, rfl⟩
        case round =>
          obtain ⟨z, hz, rfl, rfl⟩ := hrel
          simp only [List.mem_cons, List.not_mem_nil, or_false] at hz
          rcases hz with rfl | rfl | rfl
          · go_wp2_with fail
            go_round
            case rel => exact ⟨(1, 1), by decide, rfl, rfl⟩
            case measure => decide
          · go_wp2_with fail
            go_round
            case rel => exact ⟨(2, 0), by decide, rfl, rfl⟩
            case measure => decide
          · go_wp2_with fail
            have kLs := lines_any S4.out.inv R4.out
            rw [HNL.out] at kLs
            refine kLs.mono ?_
            clear kLs
            rintro e w5 ⟨rfl, s5⟩
            have S5 := Lib.hid (S4.out.trans s5)
            have R5 := Lib.hid (R4.out.step S4.out.inv s5)
            clear s5
            go_wp2_with fail
            refine (depth_any S5.out.inv R5.out).mono ?_
            rintro e w6 ⟨rfl, rfl⟩
            have hde : decide ((odepth o : Int) ≤ 16) = true := decide_eq_true (by omega)
            go_wp2_with fail
            go_ret
            exact ⟨rfl, S5.out⟩

end Go.Proofs.Ythpgjcoccdeklaa
