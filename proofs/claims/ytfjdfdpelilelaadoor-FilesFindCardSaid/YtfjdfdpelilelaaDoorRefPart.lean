/-
  part: may a part be?
-/
import Derived.Test.YtfjdfdpelilelaaDoorPathL
import Derived.Test.YtfjdfdpelilelaaDoorRows
import Derived.WalkKit
import Derived.LoopTactic
import Derived.Lib.Hide
namespace Go.Proofs.YtfjdfdpelilelaaDoor
open Go.RowKit

theorem okByte_yes {c : UInt8} (h : okByte c = true) : (97 ≤ (c.toNat : Int) ∧ (c.toNat : Int) ≤ 122) ∨ (65 ≤ (c.toNat : Int) ∧ (c.toNat : Int) ≤ 90) ∨ (48 ≤ (c.toNat : Int) ∧ (c.toNat : Int) ≤ 57) ∨ (c.toNat : Int) = 46 ∨ (c.toNat : Int) = 45 ∨ (c.toNat : Int) = 95 := by
  simp only [okByte, Bool.or_eq_true, Bool.and_eq_true, decide_eq_true_eq, beq_iff_eq, UInt8.le_iff_toNat_le] at h
  rcases h with ((((h | h) | h) | h) | h) | h
  · left; have h1 := h.1; have h2 := h.2; simp at h1 h2; omega
  · right; left; have h1 := h.1; have h2 := h.2; simp at h1 h2; omega
  · right; right; left; have h1 := h.1; have h2 := h.2; simp at h1 h2; omega
  · right; right; right; left; rw [h]; rfl
  · right; right; right; right; left; rw [h]; rfl
  · right; right; right; right; right; rw [h]; rfl

theorem okByte_no {c : UInt8} (h : okByte c = false) : ¬ (97 ≤ (c.toNat : Int) ∧ (c.toNat : Int) ≤ 122) ∧ ¬ (65 ≤ (c.toNat : Int) ∧ (c.toNat : Int) ≤ 90) ∧ ¬ (48 ≤ (c.toNat : Int) ∧ (c.toNat : Int) ≤ 57) ∧ ¬ (c.toNat : Int) = 46 ∧ ¬ (c.toNat : Int) = 45 ∧ ¬ (c.toNat : Int) = 95 := by
  simp only [okByte, Bool.or_eq_false_iff, Bool.and_eq_false_iff, decide_eq_false_iff_not, beq_eq_false_iff_ne, UInt8.le_iff_toNat_le, ne_eq] at h
  obtain ⟨⟨⟨⟨⟨h1, h2⟩, h3⟩, h4⟩, h5⟩, h6⟩ := h
  refine ⟨?_, ?_, ?_, ?_, ?_, ?_⟩
  · simp at h1; omega
  · simp at h2; omega
  · simp at h3; omega
  · intro e; exact h4 (UInt8.toNat_inj.1 (by have : c.toNat = 46 := by omega
                                             rw [this]; rfl))
  · intro e; exact h5 (UInt8.toNat_inj.1 (by have : c.toNat = 45 := by omega
                                             rw [this]; rfl))
  · intro e; exact h6 (UInt8.toNat_inj.1 (by have : c.toNat = 95 := by omega
                                             rw [this]; rfl))

theorem psize (s : ByteArray) : s.data.toList.length = s.size := by simp

theorem at_toList (s : ByteArray) (k : Nat) (h : k < s.size) : s.data.toList[k]? = some (s[k]'h) := by
  rw [List.getElem?_eq_getElem (by rw [psize]; exact h)]
  rfl

theorem all_take {p : UInt8 → Bool} {l : List UInt8} {k : Nat} {c : UInt8} (h : (l.take k).all p = true) (hc : l[k]? = some c) (hp : p c = true) : (l.take (k + 1)).all p = true := by
  rw [List.take_add_one, hc]
  simp [h, hp]

theorem all_no {p : UInt8 → Bool} {l : List UInt8} {k : Nat} {c : UInt8} (hc : l[k]? = some c) (hp : p c = false) : l.all p = false := by
  rw [List.all_eq_false]
  exact ⟨c, List.mem_of_getElem? hc, by rw [hp]; decide⟩

/-- The loop's relation: all bytes so far may be. -/
def PartRel (s : ByteArray) (i : Value) : Prop := ∃ k : Nat, k ≤ s.size ∧ i = .int .i64 (k : Int) ∧ (s.data.toList.take k).all okByte = true

theorem list_beq (s : ByteArray) (l : List UInt8) : (s.toList == l) = (s.data.toList == l) := by rw [ByteArray.toList_eq]

set_option maxHeartbeats 1600000 in
theorem part_any (s : ByteArray) (w : World) (hs : s.size ≤ 1000000) :
    Calls Tryd.prog 47 #[.string s] w fun e w' => e = .returned (.bool (partB s.data.toList)) ∧ w = w' := by
  obtain ⟨x, hx⟩ : ∃ x, partB s.data.toList = x := ⟨_, rfl⟩
  rw [hx]
  have HX := Lib.hid hx
  clear hx
  go_enter Tryd.func47, Tryd.ntmps47
  go_wp2
  go_loop [3] (PartRel s) (fun i => s.size - (intOf i).toNat)
  case atStart => exact ⟨0, Nat.zero_le _, rfl, rfl⟩
  case round =>
    obtain ⟨k, hk, rfl, hall⟩ := hrel
    have HA := Lib.hid hall
    clear hall
    by_cases hlt : k < s.size
    · have hat := Lib.hid (at_toList s k hlt)
      cases hok : okByte (s[k]'hlt) with
      | true =>
        have hy := okByte_yes hok
        have HN := Lib.hid (all_take HA.out hat.out hok)
        clear hok
        obtain ⟨d, hd⟩ : ∃ d : Nat, (s[k]'hlt).toNat = d := ⟨_, rfl⟩
        rw [hd] at hy
        rcases hy with hy | hy | hy | hy | hy | hy
        · have e1 : ¬ (d < 97) := by omega
          have e2 : ¬ (122 < d) := by omega
          go_wp2
          go_round
          case rel => exact ⟨k + 1, hlt, by go_num, HN.out⟩
          case measure => simp [intOf]; omega
        · have e1 : d < 97 := by omega
          have e2 : ¬ (d < 65) := by omega
          have e3 : ¬ (90 < d) := by omega
          go_wp2
          go_round
          case rel => exact ⟨k + 1, hlt, by go_num, HN.out⟩
          case measure => simp [intOf]; omega
        · have e1 : d < 97 := by omega
          have e2 : d < 65 := by omega
          have e3 : ¬ (d < 48) := by omega
          have e4 : ¬ (57 < d) := by omega
          go_wp2
          go_round
          case rel => exact ⟨k + 1, hlt, by go_num, HN.out⟩
          case measure => simp [intOf]; omega
        · obtain rfl : d = 46 := by omega
          go_wp2
          go_round
          case rel => exact ⟨k + 1, hlt, by go_num, HN.out⟩
          case measure => simp [intOf]; omega
        · obtain rfl : d = 45 := by omega
          go_wp2
          go_round
          case rel => exact ⟨k + 1, hlt, by go_num, HN.out⟩
          case measure => simp [intOf]; omega
        · obtain rfl : d = 95 := by omega
          go_wp2
          go_round
          case rel => exact ⟨k + 1, hlt, by go_num, HN.out⟩
          case measure => simp [intOf]; omega
      | false =>
        obtain ⟨n1, n2, n3, n4, n5, n6⟩ := okByte_no hok
        have HF := Lib.hid (show x = false from by rw [← HX.out]; unfold partB; rw [all_no hat.out hok]; rfl)
        clear hok
        have m4 : ((((s[k]'hlt).toNat : Int) != 46)) = true := by simpa using n4
        have m5 : ((((s[k]'hlt).toNat : Int) != 45)) = true := by simpa using n5
        have m6 : ((((s[k]'hlt).toNat : Int) != 95)) = true := by simpa using n6
        clear n4 n5 n6
        go_wp2
        all_goals go_ret
        all_goals exact ⟨by rw [HF.out]; rfl, rfl⟩
    · have hke : k = s.size := by omega
      subst hke
      rw [List.take_of_length_le (by rw [psize]; exact Nat.le_refl _)] at HA
      have hp : ∀ y, ((decide (1 ≤ s.size) && decide (s.size ≤ 20) && !(s.toList == [46]) && !(s.toList == [46, 46])) = y) → y = x := by
        intro y hy
        rw [← HX.out, ← hy]
        unfold partB
        rw [HA.out, psize, ByteArray.toList_eq, Bool.true_and]
      have HP := Lib.hid hp
      clear hp
      go_wp2
      all_goals go_ret
      · refine ⟨congrArg (fun b => Ending.returned (Value.bool b)) (HP.out false ?_), rfl⟩
        have e : s.toList = [46] := by assumption
        rw [e]
        simp
      · refine ⟨congrArg (fun b => Ending.returned (Value.bool b)) (HP.out (!(s.toList == [46]) && !(s.toList == [46, 46])) ?_), rfl⟩
        have e1 : 1 ≤ s.size := by omega
        have e2 : s.size ≤ 20 := by omega
        simp [e1, e2]
      · refine ⟨congrArg (fun b => Ending.returned (Value.bool b)) (HP.out false ?_), rfl⟩
        have e2 : ¬ s.size ≤ 20 := by omega
        simp [e2]
      · refine ⟨congrArg (fun b => Ending.returned (Value.bool b)) (HP.out false ?_), rfl⟩
        have e1 : ¬ 1 ≤ s.size := by omega
        simp [e1]

end Go.Proofs.YtfjdfdpelilelaaDoor
