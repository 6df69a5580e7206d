/-
  Dir: what stands ahead of the last slash.
-/
import Derived.Test.YtfjdfdpelilelaaDoorRefParts
namespace Go.Proofs.YtfjdfdpelilelaaDoor
open Go.RowKit

theorem dirGo_yes {l : List UInt8} {k : Nat} (h : l[k]? = some 47) : dirGo l (k + 1) = l.take k := by
  rw [dirGo, if_pos h]

theorem dirGo_no {l : List UInt8} {k : Nat} {c : UInt8} (h : l[k]? = some c) (hc : c ≠ 47) : dirGo l (k + 1) = dirGo l k := by
  rw [dirGo, if_neg (by rw [h]; intro e; exact hc (Option.some.inj e))]

def DirRel (s : ByteArray) (x : List UInt8) (i : Value) : Prop :=
  (i = .int .i64 (-1) ∧ ([] : List UInt8) = x) ∨ ∃ k : Nat, k < s.size ∧ i = .int .i64 (k : Int) ∧ dirGo s.data.toList (k + 1) = x

set_option maxHeartbeats 1600000 in
theorem dir_any (s : ByteArray) (w : World) (hs : s.size ≤ 1000000) :
    Calls Tryd.prog 35 #[.string s] w fun e w' => e = .returned (.string ⟨(dirL s.data.toList).toArray⟩) ∧ w = w' := by
  obtain ⟨x, hx⟩ : ∃ x, dirL s.data.toList = x := ⟨_, rfl⟩
  rw [hx]
  unfold dirL at hx
  rw [psize] at hx
  have HX := Lib.hid hx
  clear hx
  go_enter Tryd.func35, Tryd.ntmps35
  go_wp2
  go_loop [3] (DirRel s x) (fun i => (intOf i + 1).toNat)
  case atStart =>
    by_cases h0 : s.size = 0
    · left
      refine ⟨by go_num, ?_⟩
      rw [← HX.out, h0]
      rfl
    · right
      refine ⟨s.size - 1, by omega, by go_num, ?_⟩
      rw [show s.size - 1 + 1 = s.size from by omega]
      exact HX.out
  case round =>
    rcases hrel with ⟨rfl, hn⟩ | ⟨k, hk, rfl, hd⟩
    · go_wp2
      go_ret
      exact ⟨by rw [← hn]; rfl, rfl⟩
    · have HD := Lib.hid hd
      clear hd
      have hat := Lib.hid (at_toList s k hk)
      have hge : (0 : Int) ≤ (k : Int) := by omega
      by_cases hb : s[k]'hk = 47
      · have hb1 : ((((s[k]'hk).toNat : Int)) == 47) = true := by rw [hb]; rfl
        have HB := Lib.hid hb
        clear hb
        go_wp2
        go_ret
        refine ⟨?_, rfl⟩
        rw [← HD.out, dirGo_yes (by rw [hat.out, HB.out]), extract_cut]
        simp [cutL]
      · have hb1 : ((((s[k]'hk).toNat : Int)) == 47) = false := by
          rw [beq_eq_false_iff_ne]
          intro e
          apply hb
          apply UInt8.toNat_inj.1
          have : (s[k]'hk).toNat = 47 := by omega
          rw [this]
          rfl
        have HB := Lib.hid hb
        clear hb
        go_wp2
        go_round
        case rel =>
          rcases Nat.eq_zero_or_pos k with rfl | hp
          · left
            refine ⟨by go_num, ?_⟩
            rw [← HD.out, dirGo_no hat.out HB.out]
            rfl
          · right
            refine ⟨k - 1, by omega, by go_num, ?_⟩
            rw [← HD.out, dirGo_no hat.out HB.out, show k - 1 + 1 = k from by omega]
        case measure => simp [intOf] <;> omega

end Go.Proofs.YtfjdfdpelilelaaDoor
