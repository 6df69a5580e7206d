/-
  Trigraph of the project, walked.
-/
import Derived.Test.YtpnboieppkjfnaaRSpl
import Derived.Test.YtpnboieppkjfnaaShelf
namespace Go.Proofs.Ytpnboieppkjfnaa
open Go.RowKit

theorem sign_cases (c : UInt8) : (∃ k, k < 9 ∧ signL.getD k 0 = c) ∨ ∀ j < 9, signL.getD j 0 ≠ c := by
  by_cases h : ∃ k, k < 9 ∧ signL.getD k 0 = c
  · exact .inl h
  · exact .inr fun j hj e => h ⟨j, hj, e⟩

theorem index_at (k : Nat) (hk : k < 9) : Lib.indexByte signL (signL.getD k 0) = (k : Int) := by
  match k, hk with
  | 0, _ | 1, _ | 2, _ | 3, _ | 4, _ | 5, _ | 6, _ | 7, _ | 8, _ => decide
  | n + 9, h => omega

theorem index_out {c : UInt8} : ∀ l : List UInt8, (∀ b ∈ l, b ≠ c) → Lib.indexByte l c = -1
  | [], _ => rfl
  | b :: l, h => by
    have h1 := index_out l fun x hx => h x (List.mem_cons_of_mem _ hx)
    have h2 : (b == c) = false := by simpa using h b (List.mem_cons_self ..)
    rw [Lib.indexByte, h2, h1]
    rfl

theorem index_none {c : UInt8} (h : ∀ j < 9, signL.getD j 0 ≠ c) : Lib.indexByte signL c = -1 := by
  apply index_out
  intro b hb
  obtain ⟨j, hj, rfl⟩ := List.getElem_of_mem hb
  have := h j (by simpa [signL] using hj)
  simpa [List.getD, hj] using this

def IdxPost (w : World) (i : Int) (e : Ending) (w' : World) : Prop := e = .returned (.int .i64 i) ∧ w = w'

theorem idx_any (c : UInt8) (i : Int) (h : Lib.indexByte signL c = i) (w : World) : Calls Try.prog 64 #[.string ⟨#[61, 47, 39, 40, 41, 33, 60, 62, 45]⟩, .int .u8 (c.toNat : Int)] w (IdxPost w i) := by
  refine (Try.strings_IndexByte _ _ w).mono ?_
  rintro e w' ⟨rfl, rfl⟩
  refine ⟨?_, rfl⟩
  rw [← h]
  congr 2
  simp [signL]

set_option maxRecDepth 100000 in
set_option maxHeartbeats 1600000 in
theorem tri_any (c : UInt8) (w : World) : Calls Try.prog 63 #[.int .u8 (c.toNat : Int)] w (TriPost c w) := by
  have hc : (c.toNat : Int) < 256 := by have := c.toNat_lt; omega
  rcases sign_cases c with ⟨k, hk, hq⟩ | hn
  · have hI := index_at k hk
    rw [hq] at hI
    have HC := Lib.hid (idx_any c k hI w)
    have HQ := Lib.hid hq
    clear hI hq
    obtain rfl | rfl | rfl | rfl | rfl | rfl | rfl | rfl | rfl : k = 0 ∨ k = 1 ∨ k = 2 ∨ k = 3 ∨ k = 4 ∨ k = 5 ∨ k = 6 ∨ k = 7 ∨ k = 8 := by omega
    · go_enter Try.func63, Try.ntmps63
      go_wp2_with (go_at_call 64; (with_reducible refine HC.out.mono ?_); rintro e w1 ⟨rfl, rfl⟩)
      go_ret2
      exact triPost_sign 0 (by omega) _ HQ.out rfl
    · go_enter Try.func63, Try.ntmps63
      go_wp2_with (go_at_call 64; (with_reducible refine HC.out.mono ?_); rintro e w1 ⟨rfl, rfl⟩)
      go_ret2
      exact triPost_sign 1 (by omega) _ HQ.out rfl
    · go_enter Try.func63, Try.ntmps63
      go_wp2_with (go_at_call 64; (with_reducible refine HC.out.mono ?_); rintro e w1 ⟨rfl, rfl⟩)
      go_ret2
      exact triPost_sign 2 (by omega) _ HQ.out rfl
    · go_enter Try.func63, Try.ntmps63
      go_wp2_with (go_at_call 64; (with_reducible refine HC.out.mono ?_); rintro e w1 ⟨rfl, rfl⟩)
      go_ret2
      exact triPost_sign 3 (by omega) _ HQ.out rfl
    · go_enter Try.func63, Try.ntmps63
      go_wp2_with (go_at_call 64; (with_reducible refine HC.out.mono ?_); rintro e w1 ⟨rfl, rfl⟩)
      go_ret2
      exact triPost_sign 4 (by omega) _ HQ.out rfl
    · go_enter Try.func63, Try.ntmps63
      go_wp2_with (go_at_call 64; (with_reducible refine HC.out.mono ?_); rintro e w1 ⟨rfl, rfl⟩)
      go_ret2
      exact triPost_sign 5 (by omega) _ HQ.out rfl
    · go_enter Try.func63, Try.ntmps63
      go_wp2_with (go_at_call 64; (with_reducible refine HC.out.mono ?_); rintro e w1 ⟨rfl, rfl⟩)
      go_ret2
      exact triPost_sign 6 (by omega) _ HQ.out rfl
    · go_enter Try.func63, Try.ntmps63
      go_wp2_with (go_at_call 64; (with_reducible refine HC.out.mono ?_); rintro e w1 ⟨rfl, rfl⟩)
      go_ret2
      exact triPost_sign 7 (by omega) _ HQ.out rfl
    · go_enter Try.func63, Try.ntmps63
      go_wp2_with (go_at_call 64; (with_reducible refine HC.out.mono ?_); rintro e w1 ⟨rfl, rfl⟩)
      go_ret2
      exact triPost_sign 8 (by omega) _ HQ.out rfl
  · have HC := Lib.hid (idx_any c (-1) (index_none hn) w)
    have HN := Lib.hid hn
    clear hn
    go_enter Try.func63, Try.ntmps63
    go_wp2_with (go_at_call 64; (with_reducible refine HC.out.mono ?_); rintro e w1 ⟨rfl, rfl⟩)
    go_ret2
    exact triPost_none HN.out

def AtPost (l : List UInt8) (k : Nat) (w : World) (e : Ending) (w' : World) : Prop :=
  e = .returned (.tuple #[.int .u8 (((triAt l k).getD 0).toNat : Int), .bool (triAt l k).isSome]) ∧ w = w'

theorem at_none {l : List UInt8} {k : Nat} {w : World} (h : triAt l k = none) : AtPost l k w (.returned (.tuple #[.int .u8 0, .bool false])) w := by
  refine ⟨?_, rfl⟩
  rw [h]
  rfl
theorem at_is {l : List UInt8} {k : Nat} {w : World} {c : UInt8} (h : triAt l k = tri c) : AtPost l k w (.returned (.tuple #[.int .u8 ((triB c).toNat : Int), .bool (isTri c)])) w := by
  refine ⟨?_, rfl⟩
  rw [h]
  rfl

theorem triAt_short {s : ByteArray} {k : Nat} (h : ¬ k + 2 < s.size) : triAt s.data.toList k = none := by
  unfold triAt
  rw [if_neg]
  rw [len_byte]
  exact fun h1 => h h1.1
theorem triAt_a {s : ByteArray} {k : Nat} (hk : k < s.size) (h : ¬ s[k] = 63) : triAt s.data.toList k = none := by
  apply triAt_not
  rw [get_byte s k hk]
  exact h
theorem triAt_b {s : ByteArray} {k : Nat} (hk : k + 1 < s.size) (h : ¬ s[k + 1] = 63) : triAt s.data.toList k = none := by
  apply triAt_not2
  rw [get_byte s (k + 1) hk]
  exact h
theorem triAt_c {s : ByteArray} {k : Nat} (hk : k + 2 < s.size) (ha : s[k] = 63) (hb : s[k + 1] = 63) : triAt s.data.toList k = tri s[k + 2] := by
  unfold triAt
  rw [if_pos ⟨by rw [len_byte]; exact hk, by rw [get_byte s k (by omega)]; exact ha, by rw [get_byte s (k + 1) (by omega)]; exact hb⟩, get_byte s (k + 2) hk]

theorem byte_is {c : UInt8} {x : Nat} (hx : x < 256) (h : ¬ c = UInt8.ofNat x) : ¬ ((c.toNat : Nat) : Int) = (x : Int) := fun e => h (by
  apply UInt8.toNat_inj.1
  simp
  omega)

set_option maxRecDepth 100000 in
set_option maxHeartbeats 1600000 in
theorem triAt_any (s : ByteArray) (k : Nat) (w : World) (hk : k < s.size) (hs : s.size ≤ 100000) : Calls Try.prog 61 #[.string s, .int .i64 (k : Int)] w (AtPost s.data.toList k w) := by
  by_cases h2 : k + 2 < s.size
  · by_cases ha : s[k] = 63
    · by_cases hb : s[k + 1] = 63
      · have HT := Lib.hid (triAt_c h2 ha hb)
        have ea : (((s[k].toNat : Nat) : Int) != 63) = false := by rw [ha]; rfl
        have eb : (((s[k + 1].toNat : Nat) : Int) != 63) = false := by rw [hb]; rfl
        clear ha hb
        go_enter Try.func61, Try.ntmps61
        go_wp2_with (go_at_call 63; (with_reducible refine (tri_any (s[k + 2]'h2) _).mono ?_); rintro e w1 ⟨rfl, rfl⟩)
        go_ret2
        exact at_is HT.out
      · have HT := Lib.hid (triAt_b (by omega) hb)
        have ea : (((s[k].toNat : Nat) : Int) != 63) = false := by rw [ha]; rfl
        have eb : (((s[k + 1].toNat : Nat) : Int) != 63) = true := by simpa using byte_is (x := 63) (by omega) hb
        clear ha hb
        go_enter Try.func61, Try.ntmps61
        go_wp2
        go_ret2
        exact at_none HT.out
    · have HT := Lib.hid (triAt_a (by omega) ha)
      have ea : (((s[k].toNat : Nat) : Int) != 63) = true := by simpa using byte_is (x := 63) (by omega) ha
      clear ha
      go_enter Try.func61, Try.ntmps61
      go_wp2
      go_ret2
      exact at_none HT.out
  · have HT := Lib.hid (triAt_short h2)
    go_enter Try.func61, Try.ntmps61
    go_wp2
    go_ret2
    exact at_none HT.out

end Go.Proofs.Ytpnboieppkjfnaa
