/-
  The document's own Trigraph, walked.
-/
import Derived.Test.YtpnboieppkjfnaaChL
import Derived.Test.YtpnboieppkjfnaaRow
namespace Go.Proofs.Ytpnboieppkjfnaa
open Go.RowKit

def TriPost (c : UInt8) (w : World) (e : Ending) (w' : World) : Prop :=
  e = .returned (.tuple #[.int .u8 ((triB c).toNat : Int), .bool (isTri c)]) ∧ w = w'

theorem triPost_sign {c : UInt8} {w : World} (k : Nat) (hk : k < 9) (x : Int) (h1 : signL.getD k 0 = c) (h2 : ((standL.getD k 0).toNat : Int) = x) : TriPost c w (.returned (.tuple #[.int .u8 x, .bool true])) w := by
  have h := tri_sign k hk
  rw [h1] at h
  refine ⟨?_, rfl⟩
  rw [h.1, h.2, h2]

theorem triPost_none {c : UInt8} {w : World} (h : ∀ j < 9, signL.getD j 0 ≠ c) : TriPost c w (.returned (.tuple #[.int .u8 0, .bool false])) w := by
  have h := tri_none h
  refine ⟨?_, rfl⟩
  unfold triB isTri
  rw [h]
  rfl

def RTriRel (c : UInt8) (i : Value) : Prop := ∃ k : Nat, i = .int .i64 (k : Int) ∧ k ≤ 9 ∧ ∀ j < k, signL.getD j 0 ≠ c

theorem sign_ne {c : UInt8} {n : Nat} (k : Nat) (h : ((n : Int) == (c.toNat : Int)) = false) (hn : (signL.getD k 0).toNat = n) : signL.getD k 0 ≠ c := by
  rintro rfl
  subst hn
  simp at h
theorem sign_eq {c : UInt8} {n : Nat} (k : Nat) (h : ((n : Int) == (c.toNat : Int)) = true) (hn : (signL.getD k 0).toNat = n) : signL.getD k 0 = c := by
  subst hn
  rw [beq_iff_eq] at h
  exact UInt8.toNat_inj.1 (by omega)
theorem sign_next {c : UInt8} {k : Nat} (h : ∀ j < k, signL.getD j 0 ≠ c) (h1 : signL.getD k 0 ≠ c) : ∀ j < k + 1, signL.getD j 0 ≠ c := by
  intro j hj
  by_cases e : j = k
  · rw [e]
    exact h1
  · exact h j (by omega)

set_option maxRecDepth 100000 in
set_option maxHeartbeats 1600000 in
theorem rTri_any (c : UInt8) (w : World) : Calls Try.prog 46 #[.int .u8 (c.toNat : Int)] w (TriPost c w) := by
  have hc : (c.toNat : Int) < 256 := by have := c.toNat_lt; omega
  go_enter Try.func46, Try.ntmps46
  go_wp2
  go_loop [4] (RTriRel c) (fun i => 9 - (intOf i).toNat)
  case atStart => exact ⟨0, rfl, by omega, fun j hj => by omega⟩
  case round =>
    obtain ⟨k, rfl, hk, hall⟩ := hrel
    have HA := Lib.hid hall
    clear hall
    obtain rfl | rfl | rfl | rfl | rfl | rfl | rfl | rfl | rfl | rfl : k = 0 ∨ k = 1 ∨ k = 2 ∨ k = 3 ∨ k = 4 ∨ k = 5 ∨ k = 6 ∨ k = 7 ∨ k = 8 ∨ k = 9 := by omega
    · go_wp2
      · go_ret2
        exact triPost_sign 0 (by omega) _ (sign_eq 0 ‹_› rfl) rfl
      · go_round
        case rel => exact ⟨1, rfl, by omega, sign_next HA.out (sign_ne 0 ‹_› rfl)⟩
        case measure => decide
    · go_wp2
      · go_ret2
        exact triPost_sign 1 (by omega) _ (sign_eq 1 ‹_› rfl) rfl
      · go_round
        case rel => exact ⟨2, rfl, by omega, sign_next HA.out (sign_ne 1 ‹_› rfl)⟩
        case measure => decide
    · go_wp2
      · go_ret2
        exact triPost_sign 2 (by omega) _ (sign_eq 2 ‹_› rfl) rfl
      · go_round
        case rel => exact ⟨3, rfl, by omega, sign_next HA.out (sign_ne 2 ‹_› rfl)⟩
        case measure => decide
    · go_wp2
      · go_ret2
        exact triPost_sign 3 (by omega) _ (sign_eq 3 ‹_› rfl) rfl
      · go_round
        case rel => exact ⟨4, rfl, by omega, sign_next HA.out (sign_ne 3 ‹_› rfl)⟩
        case measure => decide
    · go_wp2
      · go_ret2
        exact triPost_sign 4 (by omega) _ (sign_eq 4 ‹_› rfl) rfl
      · go_round
        case rel => exact ⟨5, rfl, by omega, sign_next HA.out (sign_ne 4 ‹_› rfl)⟩
        case measure => decide
    · go_wp2
      · go_ret2
        exact triPost_sign 5 (by omega) _ (sign_eq 5 ‹_› rfl) rfl
      · go_round
        case rel => exact ⟨6, rfl, by omega, sign_next HA.out (sign_ne 5 ‹_› rfl)⟩
        case measure => decide
    · go_wp2
      · go_ret2
        exact triPost_sign 6 (by omega) _ (sign_eq 6 ‹_› rfl) rfl
      · go_round
        case rel => exact ⟨7, rfl, by omega, sign_next HA.out (sign_ne 6 ‹_› rfl)⟩
        case measure => decide
    · go_wp2
      · go_ret2
        exact triPost_sign 7 (by omega) _ (sign_eq 7 ‹_› rfl) rfl
      · go_round
        case rel => exact ⟨8, rfl, by omega, sign_next HA.out (sign_ne 7 ‹_› rfl)⟩
        case measure => decide
    · go_wp2
      · go_ret2
        exact triPost_sign 8 (by omega) _ (sign_eq 8 ‹_› rfl) rfl
      · go_round
        case rel => exact ⟨9, rfl, by omega, sign_next HA.out (sign_ne 8 ‹_› rfl)⟩
        case measure => decide
    · go_wp2
      go_ret2
      exact triPost_none HA.out

end Go.Proofs.Ytpnboieppkjfnaa
