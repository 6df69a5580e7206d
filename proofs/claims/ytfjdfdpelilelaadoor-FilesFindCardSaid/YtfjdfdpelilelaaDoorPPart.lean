/-
  isPartByte, isPart: may a part be?
-/
import Derived.Test.YtfjdfdpelilelaaDoorRefPart
namespace Go.Proofs.YtfjdfdpelilelaaDoor
open Go.RowKit

set_option maxHeartbeats 1600000 in
theorem isPartByte_any (c : UInt8) (w : World) :
    Calls Tryd.prog 68 #[.int .u8 (c.toNat : Int)] w fun e w' => e = .returned (.bool (okByte c)) ∧ w = w' := by
  have hb : c.toNat < 256 := c.toNat_lt
  cases hok : okByte c with
  | true =>
    have hy := okByte_yes hok
    clear hok
    generalize c.toNat = d at hy hb ⊢
    rcases hy with hy | hy | hy | hy | hy | hy
    · have e1 : ¬ (d < 97) := by omega
      have e2 : ¬ (122 < d) := by omega
      go_enter Tryd.func68, Tryd.ntmps68
      go_wp2
      go_ret
      exact ⟨rfl, rfl⟩
    · have e1 : d < 97 := by omega
      have e2 : ¬ (d < 65) := by omega
      have e3 : ¬ (90 < d) := by omega
      go_enter Tryd.func68, Tryd.ntmps68
      go_wp2
      go_ret
      exact ⟨rfl, rfl⟩
    · have e1 : d < 97 := by omega
      have e2 : d < 65 := by omega
      have e3 : ¬ (d < 48) := by omega
      have e4 : ¬ (57 < d) := by omega
      go_enter Tryd.func68, Tryd.ntmps68
      go_wp2
      go_ret
      exact ⟨rfl, rfl⟩
    · obtain rfl : d = 46 := by omega
      go_enter Tryd.func68, Tryd.ntmps68
      go_wp2
      go_ret
      exact ⟨rfl, rfl⟩
    · obtain rfl : d = 45 := by omega
      go_enter Tryd.func68, Tryd.ntmps68
      go_wp2
      go_ret
      exact ⟨rfl, rfl⟩
    · obtain rfl : d = 95 := by omega
      go_enter Tryd.func68, Tryd.ntmps68
      go_wp2
      go_ret
      exact ⟨rfl, rfl⟩
  | false =>
    obtain ⟨n1, n2, n3, n4, n5, n6⟩ := okByte_no hok
    clear hok
    generalize c.toNat = d at n1 n2 n3 n4 n5 n6 hb ⊢
    have m4 : (((d : Int) == 46)) = false := by simpa using n4
    have m5 : (((d : Int) == 45)) = false := by simpa using n5
    have m6 : (((d : Int) == 95)) = false := by simpa using n6
    clear n4 n5 n6
    go_enter Tryd.func68, Tryd.ntmps68
    go_wp2
    all_goals go_ret
    all_goals exact ⟨rfl, rfl⟩

set_option maxHeartbeats 1600000 in
theorem isPart_empty (w : World) : Calls Tryd.prog 49 #[.string ⟨#[]⟩] w fun e w' => e = .returned (.bool false) ∧ w = w' := by
  go_enter Tryd.func49, Tryd.ntmps49
  go_wp2
  go_ret
  exact ⟨rfl, rfl⟩

set_option maxHeartbeats 1600000 in
theorem isPart_dot (w : World) : Calls Tryd.prog 49 #[.string ⟨#[46]⟩] w fun e w' => e = .returned (.bool false) ∧ w = w' := by
  go_enter Tryd.func49, Tryd.ntmps49
  go_wp2
  go_ret
  exact ⟨rfl, rfl⟩

set_option maxHeartbeats 1600000 in
theorem isPart_up (w : World) : Calls Tryd.prog 49 #[.string ⟨#[46, 46]⟩] w fun e w' => e = .returned (.bool false) ∧ w = w' := by
  go_enter Tryd.func49, Tryd.ntmps49
  go_wp2
  go_ret
  exact ⟨rfl, rfl⟩

theorem lit_of {s : ByteArray} {l : List UInt8} (h : s.data.toList = l) : s = ⟨l.toArray⟩ := by
  subst h
  simp

set_option maxHeartbeats 1600000 in
theorem isPart_any (s : ByteArray) (w : World) (hs : s.size ≤ 1000000) :
    Calls Tryd.prog 49 #[.string s] w fun e w' => e = .returned (.bool (partB s.data.toList)) ∧ w = w' := by
  by_cases h0 : s.data.toList = []
  · rw [h0, lit_of h0]
    exact isPart_empty w
  by_cases h1 : s.data.toList = [46]
  · rw [h1, lit_of h1]
    exact isPart_dot w
  by_cases h2 : s.data.toList = [46, 46]
  · rw [h2, lit_of h2]
    exact isPart_up w
  have e0 : (s.toList == []) = false := by rw [ByteArray.toList_eq]; simpa using h0
  have e0' : s.toList.isEmpty = false := by rw [ByteArray.toList_eq]; simpa using h0
  have e1 : (s.toList == [46]) = false := by rw [ByteArray.toList_eq]; simpa using h1
  have e2 : (s.toList == [46, 46]) = false := by rw [ByteArray.toList_eq]; simpa using h2
  have hp0 : partB s.data.toList = (s.data.toList.all okByte && decide (s.size ≤ 20)) := by
    unfold partB
    rw [psize]
    have h3 : 1 ≤ s.size := by
      rw [← psize]
      cases hl : s.data.toList with
      | nil => exact absurd hl h0
      | cons a r => simp
    have a1 : (s.data.toList == [46]) = false := by simpa using h1
    have a2 : (s.data.toList == [46, 46]) = false := by simpa using h2
    rw [a1, a2, decide_eq_true h3]
    simp
  obtain ⟨x, hx⟩ : ∃ x, partB s.data.toList = x := ⟨_, rfl⟩
  rw [hx] at hp0 ⊢
  have HX := Lib.hid hp0
  clear hp0 hx h0 h1 h2
  by_cases hb : 20 < s.size
  · have HF := Lib.hid (show x = false from by rw [HX.out, decide_eq_false (by omega), Bool.and_false])
    go_enter Tryd.func49, Tryd.ntmps49
    go_wp2
    go_ret
    exact ⟨by rw [HF.out]; rfl, rfl⟩
  · have HY := Lib.hid (show x = s.data.toList.all okByte from by rw [HX.out, decide_eq_true (by omega), Bool.and_true])
    go_enter Tryd.func49, Tryd.ntmps49
    go_wp2
    go_loop [21] (PartRel s) (fun i => s.size - (intOf i).toNat)
    case atStart => exact ⟨0, Nat.zero_le _, rfl, rfl⟩
    case round =>
      obtain ⟨k, hk, rfl, hall⟩ := hrel
      have HA := Lib.hid hall
      clear hall
      by_cases hlt : k < s.size
      · have hat := Lib.hid (at_toList s k hlt)
        have kP := fun (w : World) => isPartByte_any (s[k]'hlt) w
        cases hok : okByte (s[k]'hlt) with
        | true =>
          rw [hok] at kP
          have KP := Lib.hid kP
          have HN := Lib.hid (all_take HA.out hat.out hok)
          clear hok kP
          go_wp2_with (go_at_call 68; refine (KP.out _).mono ?_; rintro e w' ⟨rfl, rfl⟩)
          go_round
          case rel => exact ⟨k + 1, hlt, by go_num, HN.out⟩
          case measure => simp [intOf]; omega
        | false =>
          rw [hok] at kP
          have KP := Lib.hid kP
          have HF := Lib.hid (show x = false from by rw [HY.out, all_no hat.out hok])
          clear hok kP
          go_wp2_with (go_at_call 68; refine (KP.out _).mono ?_; rintro e w' ⟨rfl, rfl⟩)
          go_ret
          exact ⟨by rw [HF.out]; rfl, rfl⟩
      · have hke : k = s.size := by omega
        subst hke
        rw [List.take_of_length_le (by rw [psize]; exact Nat.le_refl _)] at HA
        have HF := Lib.hid (show x = true from by rw [HY.out, HA.out])
        go_wp2
        go_ret
        exact ⟨by rw [HF.out]; rfl, rfl⟩

end Go.Proofs.YtfjdfdpelilelaaDoor
