/-
  Texts of the proof, put together: Shelf, LxC, RTri, RPlain.
-/
import Derived.Test.YtipipookgcdfbaaRows
import Derived.Lib.Bytealg
import Derived.Lib.IndexBytes
import Derived.Lib.Strings
import Derived.Lib.Slices
import Derived.Lib.Walk
import Derived.Laws.Strings3
import Derived.Laws.Externs
import Derived.WalkKit
import Derived.Test.YtipipookgcdfbaaG02
import Derived.Test.YtipipookgcdfbaaG01

/-
  strings.HasPrefix and strings.IndexByte, walked at this program.
-/
namespace Go.Proofs
open Go.RowKit Go.Lib

set_option maxRecDepth 100000 in
theorem Try.stringslite_HasPrefix (s p : ByteArray) (w : World) : Calls Try.prog 76 #[.string s, .string p] w fun e w' => e = .returned (.bool (Lib.hasPrefix s.data.toList p.data.toList)) ∧ w' = w := by
  rw [← Lib.hasPrefix_of_take, ← Lib.size_eq, ← Lib.size_eq]
  go_enter Try.func76, Try.ntmps76
  go_wp2
  · rename_i h
    go_ret
    refine ⟨?_, rfl⟩
    show Ending.returned (Value.bool ((s.extract 0 p.size).toList == p.toList)) = _
    rw [Lib.extract_toList, Lib.toList_data]
    simp only [Nat.sub_zero, List.drop_zero]
    congr 2
    have : p.size ≤ s.size := by omega
    simp [this]
  · go_ret
    refine ⟨?_, rfl⟩
    have h : ¬ p.size ≤ s.size := by omega
    simp [h]

set_option maxRecDepth 100000 in
theorem Try.strings_HasPrefix (s p : ByteArray) (w : World) : Calls Try.prog 65 #[.string s, .string p] w fun e w' => e = .returned (.bool (Lib.hasPrefix s.data.toList p.data.toList)) ∧ w' = w := by
  go_enter Try.func65, Try.ntmps65
  go_wp2_with (go_at_call 76; refine (Try.stringslite_HasPrefix _ _ _).mono ?_; rintro e w' ⟨rfl, hw⟩; rw [hw])
  go_ret
  exact ⟨rfl, rfl⟩

set_option maxRecDepth 100000 in
theorem Try.stringslite_IndexByte (s : ByteArray) (c : Int) (w : World) : Calls Try.prog 50 #[.string s, .int .u8 c] w fun e w' => e = .returned (.int .i64 (Lib.indexByte s.data.toList c.toNat.toUInt8)) ∧ w' = w := by
  go_enter Try.func50, Try.ntmps50
  go_wp2
  rw [run_callFunc_extern Try.func71 (by kernel_rfl) (by kernel_rfl) (by kernel_rfl) (e := Extern.BytealgIndexByte.indexByte) (by kernel_rfl), Lib.run_indexByteString]
  simp only [Result.andThen]
  go_wp2
  go_ret
  exact ⟨rfl, rfl⟩

set_option maxRecDepth 100000 in
theorem Try.strings_IndexByte (s : ByteArray) (c : Int) (w : World) : Calls Try.prog 34 #[.string s, .int .u8 c] w fun e w' => e = .returned (.int .i64 (Lib.indexByte s.data.toList c.toNat.toUInt8)) ∧ w' = w := by
  go_enter Try.func34, Try.ntmps34
  go_wp2_with (go_at_call 50; refine (Try.stringslite_IndexByte _ _ _).mono ?_; rintro e w' ⟨rfl, hw⟩; rw [hw])
  go_ret
  exact ⟨rfl, rfl⟩

end Go.Proofs

/-
  What a byte is: the project's and the document's words, walked.
-/
namespace Go.Proofs.Ytipipookgcdfbaa
open Go.RowKit

def BoolPost (b : Bool) (w : World) (e : Ending) (w' : World) : Prop := e = .returned (.bool b) ∧ w = w'
def NatPost (n : Nat) (w : World) (e : Ending) (w' : World) : Prop := e = .returned (.int .i64 (n : Int)) ∧ w = w'

theorem ret_bool {a b : Bool} (h : a = b) : Ending.returned (.bool a) = .returned (.bool b) := by rw [h]
theorem ret_nat {a b : Int} (h : a = b) : Ending.returned (.int .i64 a) = .returned (.int .i64 b) := by rw [h]

set_option maxRecDepth 100000 in
theorem letter_any (c : UInt8) (w : World) : Calls Try.prog 67 #[.int .u8 (c.toNat : Int)] w (BoolPost (isLet c) w) := by
  have hc : (c.toNat : Int) < 256 := by have := c.toNat_lt; omega
  go_enter Try.func67, Try.ntmps67
  go_wp2
  all_goals
    go_ret
    refine ⟨ret_bool ?_, rfl⟩
    unfold isLet
    rw [Bool.eq_iff_iff]
    simp
    try omega

set_option maxRecDepth 100000 in
theorem digit_any (c : UInt8) (w : World) : Calls Try.prog 69 #[.int .u8 (c.toNat : Int)] w (BoolPost (isDig c) w) := by
  have hc : (c.toNat : Int) < 256 := by have := c.toNat_lt; omega
  go_enter Try.func69, Try.ntmps69
  go_wp2
  all_goals
    go_ret
    refine ⟨ret_bool ?_, rfl⟩
    unfold isDig
    rw [Bool.eq_iff_iff]
    simp
    try omega

set_option maxRecDepth 100000 in
theorem white_any (c : UInt8) (w : World) : Calls Try.prog 64 #[.int .u8 (c.toNat : Int)] w (BoolPost (isWhi c) w) := by
  have hc : (c.toNat : Int) < 256 := by have := c.toNat_lt; omega
  go_enter Try.func64, Try.ntmps64
  go_wp2
  all_goals
    go_ret
    refine ⟨ret_bool ?_, rfl⟩
    unfold isWhi
    rw [Bool.eq_iff_iff]
    simp
    try omega

set_option maxRecDepth 100000 in
theorem rLetter_any (c : UInt8) (w : World) : Calls Try.prog 58 #[.int .u8 (c.toNat : Int)] w (BoolPost (isLet c) w) := by
  have hc : (c.toNat : Int) < 256 := by have := c.toNat_lt; omega
  go_enter Try.func58, Try.ntmps58
  go_wp2
  all_goals
    go_ret
    refine ⟨ret_bool ?_, rfl⟩
    unfold isLet
    rw [Bool.eq_iff_iff]
    simp
    try omega

set_option maxRecDepth 100000 in
theorem rDigit_any (c : UInt8) (w : World) : Calls Try.prog 59 #[.int .u8 (c.toNat : Int)] w (BoolPost (isDig c) w) := by
  have hc : (c.toNat : Int) < 256 := by have := c.toNat_lt; omega
  go_enter Try.func59, Try.ntmps59
  go_wp2
  all_goals
    go_ret
    refine ⟨ret_bool ?_, rfl⟩
    unfold isDig
    rw [Bool.eq_iff_iff]
    simp
    try omega

set_option maxRecDepth 100000 in
theorem rWhite_any (c : UInt8) (w : World) : Calls Try.prog 40 #[.int .u8 (c.toNat : Int)] w (BoolPost (isWhi c) w) := by
  have hc : (c.toNat : Int) < 256 := by have := c.toNat_lt; omega
  go_enter Try.func40, Try.ntmps40
  go_wp2
  all_goals
    go_ret
    refine ⟨ret_bool ?_, rfl⟩
    unfold isWhi
    rw [Bool.eq_iff_iff]
    simp
    try omega

set_option maxRecDepth 100000 in
theorem endless_any (k : Nat) (c : UInt8) (w : World) (_hk : k ≤ 100) : Calls Try.prog 49 #[.int .i64 (k : Int), .int .u8 (c.toNat : Int)] w (BoolPost (badN k c) w) := by
  have hc : (c.toNat : Int) < 256 := by have := c.toNat_lt; omega
  go_enter Try.func49, Try.ntmps49
  go_wp2
  all_goals
    go_ret
    refine ⟨ret_bool ?_, rfl⟩
    unfold badN
    rw [Bool.eq_iff_iff]
    simp
    try omega

theorem letter_is {c : UInt8} {b : Bool} (h : isLet c = b) (W : World) : Calls Try.prog 67 #[.int .u8 (c.toNat : Int)] W (BoolPost b W) := h ▸ letter_any c W
theorem digit_is {c : UInt8} {b : Bool} (h : isDig c = b) (W : World) : Calls Try.prog 69 #[.int .u8 (c.toNat : Int)] W (BoolPost b W) := h ▸ digit_any c W
theorem white_is {c : UInt8} {b : Bool} (h : isWhi c = b) (W : World) : Calls Try.prog 64 #[.int .u8 (c.toNat : Int)] W (BoolPost b W) := h ▸ white_any c W

theorem rLetter_is {c : UInt8} {b : Bool} (h : isLet c = b) (W : World) : Calls Try.prog 58 #[.int .u8 (c.toNat : Int)] W (BoolPost b W) := h ▸ rLetter_any c W
theorem rDigit_is {c : UInt8} {b : Bool} (h : isDig c = b) (W : World) : Calls Try.prog 59 #[.int .u8 (c.toNat : Int)] W (BoolPost b W) := h ▸ rDigit_any c W
theorem rWhite_is {c : UInt8} {b : Bool} (h : isWhi c = b) (W : World) : Calls Try.prog 40 #[.int .u8 (c.toNat : Int)] W (BoolPost b W) := h ▸ rWhite_any c W

theorem endless_is {k : Nat} {c : UInt8} {b : Bool} (hk : k ≤ 100) (h : badN k c = b) (W : World) : Calls Try.prog 49 #[.int .i64 (k : Int), .int .u8 (c.toNat : Int)] W (BoolPost b W) := h ▸ endless_any k c W hk

end Go.Proofs.Ytipipookgcdfbaa

/-
  The document's own Trigraph, walked.
-/
namespace Go.Proofs.Ytipipookgcdfbaa
open Go.RowKit

def TriPost (c : UInt8) (w : World) (e : Ending) (w' : World) : Prop :=
  e = .returned (.tuple #[.int .u8 ((triB c).toNat : Int), .bool (isTri c)]) ∧ w = w'

theorem triPost_sign {c : UInt8} {w : World} (k : Nat) (hk : k < 9) (x : Int) (h1 : signL.getD k 0 = c) (h2 : ((standL.getD k 0).toNat : Int) = x) : TriPost c w (.returned (.tuple #[.int .u8 x, .bool true])) w := by
  have h := tri_sign k hk
  rw [h1] at h
  refine ⟨?_, rfl⟩
  rw [h.1, h.2, h2]

theorem triPost_none {c : UInt8} {w : World} (h : ∀ j < 9, signL.getD j 0 ≠ c) : TriPost c w (.returned (.tuple #[.int .u8 0, .bool false])) w := by
  have h := tri_none h
  refine ⟨?_, rfl⟩
  unfold triB isTri
  rw [h]
  rfl

def RTriRel (c : UInt8) (i : Value) : Prop := ∃ k : Nat, i = .int .i64 (k : Int) ∧ k ≤ 9 ∧ ∀ j < k, signL.getD j 0 ≠ c

theorem sign_ne {c : UInt8} {n : Nat} (k : Nat) (h : ((n : Int) == (c.toNat : Int)) = false) (hn : (signL.getD k 0).toNat = n) : signL.getD k 0 ≠ c := by
  rintro rfl
  subst hn
  simp at h
theorem sign_eq {c : UInt8} {n : Nat} (k : Nat) (h : ((n : Int) == (c.toNat : Int)) = true) (hn : (signL.getD k 0).toNat = n) : signL.getD k 0 = c := by
  subst hn
  rw [beq_iff_eq] at h
  exact UInt8.toNat_inj.1 (by omega)
theorem sign_next {c : UInt8} {k : Nat} (h : ∀ j < k, signL.getD j 0 ≠ c) (h1 : signL.getD k 0 ≠ c) : ∀ j < k + 1, signL.getD j 0 ≠ c := by
  intro j hj
  by_cases e : j = k
  · rw [e]
    exact h1
  · exact h j (by omega)

set_option maxRecDepth 100000 in
set_option maxHeartbeats 1600000 in
theorem rTri_any (c : UInt8) (w : World) : Calls Try.prog 82 #[.int .u8 (c.toNat : Int)] w (TriPost c w) := by
  have hc : (c.toNat : Int) < 256 := by have := c.toNat_lt; omega
  go_enter Try.func82, Try.ntmps82
  go_wp2
  go_loop [4] (RTriRel c) (fun i => 9 - (intOf i).toNat)
  case atStart => exact ⟨0, rfl, by omega, fun j hj => by omega⟩
  case round =>
    obtain ⟨k, rfl, hk, hall⟩ := hrel
    have HA := Lib.hid hall
    clear hall
    obtain rfl | rfl | rfl | rfl | rfl | rfl | rfl | rfl | rfl | rfl : k = 0 ∨ k = 1 ∨ k = 2 ∨ k = 3 ∨ k = 4 ∨ k = 5 ∨ k = 6 ∨ k = 7 ∨ k = 8 ∨ k = 9 := by omega
    · go_wp2
      · go_ret2
        exact triPost_sign 0 (by omega) _ (sign_eq 0 ‹_› rfl) rfl
      · go_round
        case rel => exact ⟨1, rfl, by omega, sign_next HA.out (sign_ne 0 ‹_› rfl)⟩
        case measure => decide
    · go_wp2
      · go_ret2
        exact triPost_sign 1 (by omega) _ (sign_eq 1 ‹_› rfl) rfl
      · go_round
        case rel => exact ⟨2, rfl, by omega, sign_next HA.out (sign_ne 1 ‹_› rfl)⟩
        case measure => decide
    · go_wp2
      · go_ret2
        exact triPost_sign 2 (by omega) _ (sign_eq 2 ‹_› rfl) rfl
      · go_round
        case rel => exact ⟨3, rfl, by omega, sign_next HA.out (sign_ne 2 ‹_› rfl)⟩
        case measure => decide
    · go_wp2
      · go_ret2
        exact triPost_sign 3 (by omega) _ (sign_eq 3 ‹_› rfl) rfl
      · go_round
        case rel => exact ⟨4, rfl, by omega, sign_next HA.out (sign_ne 3 ‹_› rfl)⟩
        case measure => decide
    · go_wp2
      · go_ret2
        exact triPost_sign 4 (by omega) _ (sign_eq 4 ‹_› rfl) rfl
      · go_round
        case rel => exact ⟨5, rfl, by omega, sign_next HA.out (sign_ne 4 ‹_› rfl)⟩
        case measure => decide
    · go_wp2
      · go_ret2
        exact triPost_sign 5 (by omega) _ (sign_eq 5 ‹_› rfl) rfl
      · go_round
        case rel => exact ⟨6, rfl, by omega, sign_next HA.out (sign_ne 5 ‹_› rfl)⟩
        case measure => decide
    · go_wp2
      · go_ret2
        exact triPost_sign 6 (by omega) _ (sign_eq 6 ‹_› rfl) rfl
      · go_round
        case rel => exact ⟨7, rfl, by omega, sign_next HA.out (sign_ne 6 ‹_› rfl)⟩
        case measure => decide
    · go_wp2
      · go_ret2
        exact triPost_sign 7 (by omega) _ (sign_eq 7 ‹_› rfl) rfl
      · go_round
        case rel => exact ⟨8, rfl, by omega, sign_next HA.out (sign_ne 7 ‹_› rfl)⟩
        case measure => decide
    · go_wp2
      · go_ret2
        exact triPost_sign 8 (by omega) _ (sign_eq 8 ‹_› rfl) rfl
      · go_round
        case rel => exact ⟨9, rfl, by omega, sign_next HA.out (sign_ne 8 ‹_› rfl)⟩
        case measure => decide
    · go_wp2
      go_ret2
      exact triPost_none HA.out

end Go.Proofs.Ytipipookgcdfbaa

/-
  The document's own walk over bytes, trigraphs as one, in memory.
-/
namespace Go.Proofs.Ytipipookgcdfbaa
open Go.RowKit

/-- The cells of characters. -/
def rcell (r : Rn) : List Value := [.int .u8 (r.c.toNat : Int), .int .i64 (r.f : Int), .int .i64 (r.t : Int)]
def rcells (L : List Rn) : List Value := L.flatMap rcell

theorem rcells_append (a b : List Rn) : rcells (a ++ b) = rcells a ++ rcells b := by simp [rcells]
theorem rcells_len (L : List Rn) : (rcells L).length = L.length * 3 := by
  induction L with
  | nil => rfl
  | cons a r ih => simp [rcells, rcell] at ih ⊢; omega
theorem rcell_one (r : Rn) : ∀ u ∈ rcell r, u.oneCell' = true := by
  intro u hu
  simp only [rcell, List.mem_cons, List.not_mem_nil, or_false] at hu
  rcases hu with rfl | rfl | rfl <;> rfl
theorem rcells_get : ∀ (L : List Rn) (i : Nat) (r : Rn), L[i]? = some r → (rcells L)[i * 3]? = some (.int .u8 (r.c.toNat : Int)) ∧ (rcells L)[i * 3 + 1]? = some (.int .i64 (r.f : Int)) ∧ (rcells L)[i * 3 + 2]? = some (.int .i64 (r.t : Int))
  | [], i, r, h => by simp at h
  | a :: q, 0, r, h => by
    simp at h
    subst h
    exact ⟨rfl, rfl, rfl⟩
  | a :: q, i + 1, r, h => by
    have := rcells_get q i r (by simpa using h)
    show (rcell a ++ rcells q)[(i + 1) * 3]? = _ ∧ (rcell a ++ rcells q)[(i + 1) * 3 + 1]? = _ ∧ (rcell a ++ rcells q)[(i + 1) * 3 + 2]? = _
    have hl : (rcell a).length = 3 := rfl
    rw [show (i + 1) * 3 = 3 + i * 3 from by omega, show 3 + i * 3 + 1 = 3 + (i * 3 + 1) from by omega, show 3 + i * 3 + 2 = 3 + (i * 3 + 2) from by omega, List.getElem?_append_right (by omega), List.getElem?_append_right (by omega), List.getElem?_append_right (by omega), hl]
    simpa using this

theorem src_three (w : World) (x y z : Int) (e : TypeId) : Src (w.alloc (.cells #[.int .u8 x, .int .i64 y, .int .i64 z] e)) (.slice (some ⟨w.heap.size, 0, none⟩) 1 1) 1 3 [.int .u8 x, .int .i64 y, .int .i64 z] :=
  .inr ⟨_, 1, rfl, rfl, fun j u hj => by
    match j, hj with
    | 0, hj => simp at hj; subst hj; simp [Addr.add]
    | 1, hj => simp at hj; subst hj; simp [Addr.add]
    | 2, hj => simp at hj; subst hj; simp [Addr.add]⟩

theorem three_one {x y z : Int} : ∀ u ∈ [Value.int .u8 x, .int .i64 y, .int .i64 z], u.oneCell' = true := by
  intro u hu
  simp only [List.mem_cons, List.not_mem_nil, or_false] at hu
  rcases hu with rfl | rfl | rfl <;> rfl

theorem rcells_push {L : List Rn} {r : Rn} {x y z : Int} (hx : x = (r.c.toNat : Int)) (hy : y = (r.f : Int)) (hz : z = (r.t : Int)) : rcells L ++ [.int .u8 x, .int .i64 y, .int .i64 z] = rcells (L ++ [r]) := by
  rw [rcells_append, hx, hy, hz]
  simp [rcells, rcell]

theorem Try.infoRRune : (Try.prog.info? 71).map (fun i => (i.zero, i.size, i.bytes)) = some (some (.agg #[.int .u8 0, .int .i64 0, .int .i64 0]), 3, 24) := by kernel_rfl

theorem get_byte (s : ByteArray) (i : Nat) (h : i < s.size) : s.data.toList.getD i 0 = s[i] := by
  obtain ⟨d⟩ := s
  have h' : i < d.size := h
  show d.toList.getD i 0 = d[i]
  simp [List.getD, h']

theorem len_byte (s : ByteArray) : s.data.toList.length = s.size := by
  obtain ⟨d⟩ := s
  simp [ByteArray.size]

/-- A row of the document's characters. -/
def RRow (W : World) (v : Value) (L : List Rn) (w : World) : Prop := Up W 71 3 v L.length (rcells L) w

theorem RRow.push {W : World} {v : Value} {L : List Rn} {w : World} {x y z : Int} (r : Rn) (h : Up W 71 3 v (L.length + 1) (rcells L ++ [.int .u8 x, .int .i64 y, .int .i64 z]) w) (hx : x = (r.c.toNat : Int)) (hy : y = (r.f : Int)) (hz : z = (r.t : Int)) : RRow W v (L ++ [r]) w := by
  rw [rcells_push hx hy hz] at h
  unfold RRow
  rw [List.length_append]
  exact h

theorem one_tri {s : ByteArray} {k : Nat} (h2 : k + 2 < s.size) (ha : ((s[k].toNat : Nat) : Int) = 63) (hb : (((s[k + 1].toNat : Nat) : Int) == 63) = true) (ht : isTri s[k + 2] = true) : one s.data.toList k = ⟨triB s[k + 2], k, k + 3⟩ := by
  rw [beq_iff_eq] at hb
  have e1 : s.data.toList.getD k 0 = 63 := by rw [get_byte s k (by omega)]; exact UInt8.toNat_inj.1 (by show _ = 63; omega)
  have e2 : s.data.toList.getD (k + 1) 0 = 63 := by rw [get_byte s (k + 1) (by omega)]; exact UInt8.toNat_inj.1 (by show _ = 63; omega)
  have e3 : triAt s.data.toList k = tri s[k + 2] := by
    unfold triAt
    rw [if_pos ⟨by rw [len_byte]; exact h2, e1, e2⟩, get_byte s (k + 2) h2]
  unfold one
  unfold isTri at ht
  unfold triB
  rw [e3]
  cases hq : tri s[k + 2] with
  | none => rw [hq] at ht; cases ht
  | some d => rfl

theorem one_not {s : ByteArray} {k : Nat} (hk : k < s.size) (h : triAt s.data.toList k = none) : one s.data.toList k = ⟨s[k], k, k + 1⟩ := by
  unfold one
  rw [h, get_byte s k hk]

theorem one_short {s : ByteArray} {k : Nat} (hk : k < s.size) (h : ¬ k + 2 < s.size) : one s.data.toList k = ⟨s[k], k, k + 1⟩ := by
  apply one_not hk
  unfold triAt
  rw [if_neg]
  rw [len_byte]
  exact fun h1 => h h1.1

theorem one_a {s : ByteArray} {k : Nat} (hk : k < s.size) (h : ¬ ((s[k].toNat : Nat) : Int) = 63) : one s.data.toList k = ⟨s[k], k, k + 1⟩ := by
  apply one_not hk
  apply triAt_not
  rw [get_byte s k hk]
  intro e
  rw [e] at h
  exact h rfl

theorem one_b {s : ByteArray} {k : Nat} (hk : k + 1 < s.size) (h : (((s[k + 1].toNat : Nat) : Int) == 63) = false) : one s.data.toList k = ⟨s[k], k, k + 1⟩ := by
  apply one_not (by omega)
  apply triAt_not2
  rw [get_byte s (k + 1) hk]
  intro e
  rw [e] at h
  exact absurd h (by decide)

theorem one_no {s : ByteArray} {k : Nat} (hk : k + 2 < s.size) (h : isTri s[k + 2] = false) : one s.data.toList k = ⟨s[k], k, k + 1⟩ := by
  apply one_not (by omega)
  unfold triAt
  split
  · rw [get_byte s (k + 2) hk]
    unfold isTri at h
    simpa using h
  · rfl

def RPlainRel (W : World) (l : List UInt8) (o i : Value) (w : World) : Prop :=
  ∃ (k : Nat) (L : List Rn) (a : Option Addr) (n cap : Nat), i = .int .i64 (k : Int) ∧ k ≤ l.length ∧ L.length ≤ k ∧ o = .slice a n cap ∧ n = L.length ∧ L ++ pls l k = pls l 0 ∧ RRow W o L w

def RRowPost (W : World) (L : List Rn) (e : Ending) (w' : World) : Prop :=
  ∃ (a : Option Addr) (n cap : Nat), n = L.length ∧ e = .returned (.slice a n cap) ∧ RRow W (.slice a n cap) L w'

theorem pls_push {l : List UInt8} {k : Nat} {L : List Rn} {r : Rn} (hk : k < l.length) (h : L ++ pls l k = pls l 0) (ho : one l k = r) : (L ++ [r]) ++ pls l r.t = pls l 0 := by
  rw [← h, pls_step hk, ho, List.append_assoc]
  rfl

theorem rplain_next {W : World} {s : ByteArray} {k : Nat} {L : List Rn} {w : World} {a : Option Addr} {cap : Nat} {r : Rn} {x : Int} (hx : x = (r.t : Int)) (hk : k < s.size) (hLk : L.length ≤ k) (ho : one s.data.toList k = r) (hL : L ++ pls s.data.toList k = pls s.data.toList 0) (hU : RRow W (.slice a (L.length + 1) cap) (L ++ [r]) w) :
    RPlainRel W s.data.toList (.slice a (L.length + 1) cap) (.int .i64 x) w := by
  have h1 := one_t s.data.toList k
  have hl := len_byte s
  rw [ho] at h1
  refine ⟨r.t, L ++ [r], a, L.length + 1, cap, by rw [hx], by have := h1.2.2 (by omega); omega, by simp; omega, rfl, by simp, pls_push (by omega) hL ho, hU⟩

set_option maxRecDepth 100000 in
set_option maxHeartbeats 1600000 in
theorem rPlain_any (s : ByteArray) (w : World) (hs : s.size ≤ 100000) : Calls Try.prog 75 #[.string s] w (RRowPost w (pls s.data.toList 0)) := by
  obtain ⟨i0, hi, hz0, hz1, hz2⟩ := info_parts Try.infoRRune
  have R0 : Up w 71 3 (.slice none 0 0) 0 [] w := up_nil w _ 3
  have HR0 := Lib.hid R0
  clear R0
  have hlen := len_byte s
  have HL := Lib.hid hlen
  clear hlen
  go_enter Try.func75, Try.ntmps75
  go_wp2
  go_loopw [3, 4] (fun o i w' => RPlainRel w s.data.toList o i w') (fun _ i _ => s.size - (intOf i).toNat)
  case atStart => exact ⟨0, [], none, 0, 0, rfl, Nat.zero_le _, Nat.le_refl _, rfl, rfl, rfl, HR0.out⟩
  case round =>
    obtain ⟨k, L, a, n, cap, rfl, hk, hLk, rfl, rfl, hL, hU⟩ := hrel
    rw [HL.out] at hk
    have HU := Lib.hid hU
    have HLL := Lib.hid hL
    clear hU hL
    by_cases hlt : k < s.size
    · by_cases h2 : k + 2 < s.size
      · go_wp2_with (first
          | (go_at_call 82; (with_reducible refine (rTri_any (s[k + 2]'h2) _).mono ?_); rintro e w1 ⟨rfl, rfl⟩)
          | (at_builtin; refine wpList_append_ex rfl (.tmp 48) (.tmp 56) 68 rfl _ (app_up Try.underlying68 hi hz0 hz1 hz2 rfl (by decide) (by decide) (HU.out.alloc _) (src_three _ _ _ _ _) three_one (by omega)) ?_; intro v2 w2 hu2; obtain ⟨a2, cap2, rfl, -, -, -⟩ := row_form hu2.1; have U2 := Lib.hid (RRow.push ⟨s[k], k, k + 1⟩ hu2 (by first | rfl | (show _ = ((s[k].toNat : Nat) : Int); omega)) rfl (by simp)); clear hu2)
          | (at_builtin; refine wpList_append_ex rfl (.tmp 38) (.tmp 44) 68 rfl _ (app_up Try.underlying68 hi hz0 hz1 hz2 rfl (by decide) (by decide) (HU.out.alloc _) (src_three _ _ _ _ _) three_one (by omega)) ?_; intro v2 w2 hu2; obtain ⟨a2, cap2, rfl, -, -, -⟩ := row_form hu2.1; have U2 := Lib.hid (RRow.push ⟨triB s[k + 2], k, k + 3⟩ hu2 (by first | rfl | (show _ = ((s[k].toNat : Nat) : Int); omega)) rfl (by simp)); clear hu2))
        all_goals go_roundw
        all_goals (first
          | (case rel => exact rplain_next (by simp) hlt hLk (by first | exact one_tri h2 ‹_› ‹_› ‹_› | exact one_a hlt ‹_› | exact one_b (by omega) ‹_› | exact one_no h2 ‹_›) HLL.out U2.out)
          | (case measure => simp [intOf]; omega))
      · go_wp2_with (at_builtin; refine wpList_append_ex rfl (.tmp 48) (.tmp 56) 68 rfl _ (app_up Try.underlying68 hi hz0 hz1 hz2 rfl (by decide) (by decide) (HU.out.alloc _) (src_three _ _ _ _ _) three_one (by omega)) ?_; intro v2 w2 hu2; obtain ⟨a2, cap2, rfl, -, -, -⟩ := row_form hu2.1; have U2 := Lib.hid (RRow.push ⟨s[k], k, k + 1⟩ hu2 (by first | rfl | (show _ = ((s[k].toNat : Nat) : Int); omega)) rfl (by simp)); clear hu2)
        go_roundw
        case rel => exact rplain_next (by simp) hlt hLk (one_short hlt h2) HLL.out U2.out
        case measure => simp [intOf]; omega
    · go_wp2
      go_ret
      have e : pls s.data.toList k = [] := pls_end (by rw [HL.out]; omega)
      have h3 := HLL.out
      rw [e, List.append_nil] at h3
      rw [← h3]
      exact ⟨a, _, cap, rfl, rfl, HU.out⟩

end Go.Proofs.Ytipipookgcdfbaa
