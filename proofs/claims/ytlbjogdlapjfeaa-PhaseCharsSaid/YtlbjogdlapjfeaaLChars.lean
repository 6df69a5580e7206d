/-
  PhaseChars, walked: what the project answers is what the document answers.
-/
import Derived.Test.YtlbjogdlapjfeaaAwake
namespace Go.Proofs.Ytlbjogdlapjfeaa
open Go.RowKit

theorem awake_more {W w : World} (b : Below W.heap.size W w) {e : Ending} {w' : World} (h : AwakePost w e w') : AwakePost W e w' := ⟨h.1, b.trans (h.2.mono b.size)⟩

theorem chars_same (l : List UInt8) : ∃ n, n = (charsL l).length ∧ n ≤ l.length + 1 := by
  refine ⟨_, rfl, ?_⟩
  have h := chs_len l _ 0 (Nat.le_refl _)
  unfold charsL withNl
  split
  · simp
  · split
    · omega
    · simp
      omega

set_option maxRecDepth 100000 in
set_option maxHeartbeats 1600000 in
theorem law_chars (s : ByteArray) (a b : Int) (c : UInt8) (w : World) (hs : s.size ≤ maxLen) (hfa : -9223372036854775808 ≤ a ∧ a ≤ 9223372036854775807) (_hfb : -9223372036854775808 ≤ b ∧ b ≤ 9223372036854775807) : Calls Try.prog 3 #[.string s, .int .i64 a, .int .i64 b, .int .u8 (c.toNat : Int)] w (AwakePost w) := by
  unfold maxLen at hs
  obtain ⟨-, ha⟩ := hfa
  clear _hfb
  by_cases hl : s.size ≤ 4000
  · have hl2 : s.size ≤ 100000 := by omega
    obtain ⟨N, hN, hN2⟩ := chars_same s.data.toList
    have hN3 : N ≤ 1000000 := by rw [len_byte] at hN2; omega
    have HN := Lib.hid hN
    have HSQ := Lib.hid (beq_self_eq_true (backL s.data.toList a b))
    clear hN hN2
    go_enter Try.func3, Try.ntmps3
    go_wp2_with (first
      | (go_at_call 8; (with_reducible refine (tri_any c _).mono ?_); rintro e w' ⟨rfl, rfl⟩)
      | (go_at_call 9; (with_reducible refine (rTri_any c _).mono ?_); rintro e w' ⟨rfl, rfl⟩)
      | (go_at_call 11; (with_reducible refine (chars_any s _ hl2).mono ?_); rintro e w1 ⟨a1, n1, cap1, hn1, rfl, u1⟩; obtain rfl : n1 = N := hn1.trans HN.out.symm; have U1 := Lib.hid u1; clear u1 hn1)
      | (go_at_call 12; (with_reducible refine (rChars_any s _ hl2).mono ?_); rintro e w2 ⟨a2, n2, cap2, hn2, rfl, u2⟩; obtain rfl : n2 = n1 := hn2.trans HN.out.symm; have U2 := Lib.hid u2; have V1 := Lib.hid (show CRow w _ _ w2 from Up.over U1.out u2.2); clear u2 hn2)
      | (go_at_call 10; (with_reducible refine (same_any V1.out U2.out HN.out hN3).mono ?_); rintro e w3 ⟨rfl, b3⟩; have B3 := Lib.hid (V1.out.2.trans (b3.mono V1.out.2.size)); clear b3)
      | (go_at_call 13; (with_reducible refine (back_any s a b _ hl2 ha).mono ?_); rintro e w4 ⟨rfl, b4⟩; have B4 := Lib.hid (B3.out.trans (b4.mono B3.out.size)); clear b4)
      | (go_at_call 14; (with_reducible refine (rBack_any s a b _ hl2).mono ?_); rintro e w5 ⟨rfl, b5⟩; have B5 := Lib.hid (B4.out.trans (b5.mono B4.out.size)); clear b5)
      | (go_at_call 7; (with_reducible refine (awake_any _).mono ?_); rintro e w6 ⟨rfl, b6⟩; have B6 := Lib.hid (B5.out.trans (b6.mono B5.out.size)); clear b6))
    go_ret
    exact ⟨rfl, B6.out⟩
  · have hl2 : ¬ (s.size : Int) ≤ 4000 := by omega
    go_enter Try.func3, Try.ntmps3
    go_wp2_with (go_at_call 7; (with_reducible refine (awake_any _).mono ?_); rintro e w6 ⟨rfl, b6⟩)
    go_ret
    exact ⟨rfl, b6⟩

end Go.Proofs.Ytlbjogdlapjfeaa
