/-
  What a byte is: the project's and the document's words, walked.
-/
import Derived.Test.YtpnboieppkjfnaaLxL
import Derived.Test.YtpnboieppkjfnaaRow
import Derived.Test.YtpnboieppkjfnaaShelf
namespace Go.Proofs.Ytpnboieppkjfnaa
open Go.RowKit

def BoolPost (b : Bool) (w : World) (e : Ending) (w' : World) : Prop := e = .returned (.bool b) ∧ w = w'
def NatPost (n : Nat) (w : World) (e : Ending) (w' : World) : Prop := e = .returned (.int .i64 (n : Int)) ∧ w = w'

theorem ret_bool {a b : Bool} (h : a = b) : Ending.returned (.bool a) = .returned (.bool b) := by rw [h]
theorem ret_nat {a b : Int} (h : a = b) : Ending.returned (.int .i64 a) = .returned (.int .i64 b) := by rw [h]

set_option maxRecDepth 100000 in
theorem letter_any (c : UInt8) (w : World) : Calls Try.prog 49 #[.int .u8 (c.toNat : Int)] w (BoolPost (isLet c) w) := by
  have hc : (c.toNat : Int) < 256 := by have := c.toNat_lt; omega
  go_enter Try.func49, Try.ntmps49
  go_wp2
  all_goals
    go_ret
    refine ⟨ret_bool ?_, rfl⟩
    unfold isLet
    rw [Bool.eq_iff_iff]
    simp
    try omega

set_option maxRecDepth 100000 in
theorem digit_any (c : UInt8) (w : World) : Calls Try.prog 51 #[.int .u8 (c.toNat : Int)] w (BoolPost (isDig c) w) := by
  have hc : (c.toNat : Int) < 256 := by have := c.toNat_lt; omega
  go_enter Try.func51, Try.ntmps51
  go_wp2
  all_goals
    go_ret
    refine ⟨ret_bool ?_, rfl⟩
    unfold isDig
    rw [Bool.eq_iff_iff]
    simp
    try omega

set_option maxRecDepth 100000 in
theorem white_any (c : UInt8) (w : World) : Calls Try.prog 47 #[.int .u8 (c.toNat : Int)] w (BoolPost (isWhi c) w) := by
  have hc : (c.toNat : Int) < 256 := by have := c.toNat_lt; omega
  go_enter Try.func47, Try.ntmps47
  go_wp2
  all_goals
    go_ret
    refine ⟨ret_bool ?_, rfl⟩
    unfold isWhi
    rw [Bool.eq_iff_iff]
    simp
    try omega

set_option maxRecDepth 100000 in
theorem rLetter_any (c : UInt8) (w : World) : Calls Try.prog 41 #[.int .u8 (c.toNat : Int)] w (BoolPost (isLet c) w) := by
  have hc : (c.toNat : Int) < 256 := by have := c.toNat_lt; omega
  go_enter Try.func41, Try.ntmps41
  go_wp2
  all_goals
    go_ret
    refine ⟨ret_bool ?_, rfl⟩
    unfold isLet
    rw [Bool.eq_iff_iff]
    simp
    try omega

set_option maxRecDepth 100000 in
theorem rDigit_any (c : UInt8) (w : World) : Calls Try.prog 42 #[.int .u8 (c.toNat : Int)] w (BoolPost (isDig c) w) := by
  have hc : (c.toNat : Int) < 256 := by have := c.toNat_lt; omega
  go_enter Try.func42, Try.ntmps42
  go_wp2
  all_goals
    go_ret
    refine ⟨ret_bool ?_, rfl⟩
    unfold isDig
    rw [Bool.eq_iff_iff]
    simp
    try omega

set_option maxRecDepth 100000 in
theorem rWhite_any (c : UInt8) (w : World) : Calls Try.prog 22 #[.int .u8 (c.toNat : Int)] w (BoolPost (isWhi c) w) := by
  have hc : (c.toNat : Int) < 256 := by have := c.toNat_lt; omega
  go_enter Try.func22, Try.ntmps22
  go_wp2
  all_goals
    go_ret
    refine ⟨ret_bool ?_, rfl⟩
    unfold isWhi
    rw [Bool.eq_iff_iff]
    simp
    try omega

set_option maxRecDepth 100000 in
theorem endless_any (k : Nat) (c : UInt8) (w : World) (_hk : k ≤ 100) : Calls Try.prog 31 #[.int .i64 (k : Int), .int .u8 (c.toNat : Int)] w (BoolPost (badN k c) w) := by
  have hc : (c.toNat : Int) < 256 := by have := c.toNat_lt; omega
  go_enter Try.func31, Try.ntmps31
  go_wp2
  all_goals
    go_ret
    refine ⟨ret_bool ?_, rfl⟩
    unfold badN
    rw [Bool.eq_iff_iff]
    simp
    try omega

theorem letter_is {c : UInt8} {b : Bool} (h : isLet c = b) (W : World) : Calls Try.prog 49 #[.int .u8 (c.toNat : Int)] W (BoolPost b W) := h ▸ letter_any c W
theorem digit_is {c : UInt8} {b : Bool} (h : isDig c = b) (W : World) : Calls Try.prog 51 #[.int .u8 (c.toNat : Int)] W (BoolPost b W) := h ▸ digit_any c W
theorem white_is {c : UInt8} {b : Bool} (h : isWhi c = b) (W : World) : Calls Try.prog 47 #[.int .u8 (c.toNat : Int)] W (BoolPost b W) := h ▸ white_any c W

theorem rLetter_is {c : UInt8} {b : Bool} (h : isLet c = b) (W : World) : Calls Try.prog 41 #[.int .u8 (c.toNat : Int)] W (BoolPost b W) := h ▸ rLetter_any c W
theorem rDigit_is {c : UInt8} {b : Bool} (h : isDig c = b) (W : World) : Calls Try.prog 42 #[.int .u8 (c.toNat : Int)] W (BoolPost b W) := h ▸ rDigit_any c W
theorem rWhite_is {c : UInt8} {b : Bool} (h : isWhi c = b) (W : World) : Calls Try.prog 22 #[.int .u8 (c.toNat : Int)] W (BoolPost b W) := h ▸ rWhite_any c W

theorem endless_is {k : Nat} {c : UInt8} {b : Bool} (hk : k ≤ 100) (h : badN k c = b) (W : World) : Calls Try.prog 31 #[.int .i64 (k : Int), .int .u8 (c.toNat : Int)] W (BoolPost b W) := h ▸ endless_any k c W hk

end Go.Proofs.Ytpnboieppkjfnaa
