/-
  Texts of the proof, put together: LDWords.
-/
import Derived.Test.YtlnlpahmfpjjdaaDoorG63

/-
  DirectWords, walked.
-/
namespace Go.Proofs.YtlnlpahmfpjjdaaDoor
open Go.RowKit

def blkB (c : UInt8) : Bool := c == 32 || c == 9
def prnB (c : UInt8) : Bool := decide (32 ≤ c.toNat) && decide (c.toNat ≤ 126) && !(c == 92) && !(c == 63) && !(c == 47)

/-- Round: somewhere from 0 to n - 1. -/
theorem round7_any (a : Int) (n : Nat) (h1 : 1 ≤ n) (hn : n ≤ 1000000) (w : World) :
    Calls Tryd.prog 19 #[.int .i64 a, .int .i64 (n : Int)] w fun e w' => (∃ k : Nat, k < n ∧ e = .returned (.int .i64 (k : Int))) ∧ w = w' := by
  obtain ⟨m, hm⟩ : ∃ m, a.tmod (n : Int) = m := ⟨_, rfl⟩
  have hm1 : m < n := by rw [← hm]; exact Int.tmod_lt_of_pos _ (by omega)
  have hm2 : -(n : Int) < m := by
    rw [← hm]
    have := Int.lt_tmod_of_pos a (b := (n : Int)) (by omega)
    omega
  have hn0 : ¬ ((n : Int) = 0) := by omega
  go_enter Tryd.func19, Tryd.ntmps19
  go_wp2
  go_ret
  have r1 := Int.emod_nonneg (m + n) hn0
  have r2 := Int.emod_lt_of_pos (m + n) (b := (n : Int)) (by omega)
  exact ⟨⟨((m + n) % (n : Int)).toNat, by omega, ret_nat (by omega)⟩, rfl⟩

theorem blk_of {bl : ByteArray} (h : ∀ j (hj : j < bl.size), j < bl.size → blkB bl[j] = true) : Blk bl.data.toList := by
  intro c hc
  obtain ⟨j, hj, rfl⟩ := List.getElem_of_mem hc
  have hj' : j < bl.size := by rw [← len_byte]; exact hj
  have := h j hj' hj'
  have e : bl.data.toList[j] = bl[j] := rfl
  rw [e]
  unfold blkB at this
  simpa only [Bool.or_eq_true, beq_iff_eq] using this
theorem prn_of {re : ByteArray} (h : ∀ j (hj : j < re.size), j < re.size → prnB re[j] = true) : Prn re.data.toList := by
  intro c hc
  obtain ⟨j, hj, rfl⟩ := List.getElem_of_mem hc
  have hj' : j < re.size := by rw [← len_byte]; exact hj
  have h1 := h j hj' hj'
  have e : re.data.toList[j] = re[j] := rfl
  rw [e]
  unfold prnB at h1
  simp only [Bool.and_eq_true, decide_eq_true_eq, Bool.not_eq_true', beq_eq_false_iff_ne] at h1
  obtain ⟨⟨⟨⟨h2, -⟩, h3⟩, h4⟩, -⟩ := h1
  refine ⟨fun e => ?_, h3, h4⟩
  rw [e] at h2
  exact absurd h2 (by decide)

set_option maxRecDepth 100000 in
set_option maxHeartbeats 6400000 in
theorem words_law (kd : Int) (bl : ByteArray) (dg : Bool) (re : ByteArray) {W : World} (hbl : bl.size ≤ maxLen) (hre : re.size ≤ maxLen) (hW : WordsAt 0 W) (h0 : 0 < W.heap.size) :
    Calls Tryd.prog 4 #[.int .i64 kd, .string bl, .bool dg, .string re] W (TruePost W) := by
  unfold maxLen at hbl hre
  have HA : Hid (∀ X : World, Below W.heap.size W X → Calls Tryd.prog 11 #[] X (TruePost X)) := Lib.hid (fun X b => awake7_any (hW.next b h0) (Nat.lt_of_lt_of_le h0 b.size))
  have HW := Lib.hid hW
  clear hW
  by_cases hs : bl.size ≤ 20 ∧ re.size ≤ 100
  · obtain ⟨hs1, hs2⟩ := hs
    go_enter Tryd.func4, Tryd.ntmps4
    go_wp2
    go_loop [9] (fun i => ∃ k : Nat, i = .int .i64 (k : Int) ∧ k ≤ bl.size ∧ (∀ j (hj : j < bl.size), j < k → blkB bl[j] = true)) (fun i => bl.size - (intOf i).toNat)
    case atStart => exact ⟨0, rfl, Nat.zero_le _, fun j _ hj => by omega⟩
    case round =>
      obtain ⟨k, rfl, hk, hall⟩ := hrel
      have HALL := Lib.hid hall
      clear hall
      by_cases hlt : k < bl.size
      · by_cases hc : blkB bl[k] = true
        · have HC : Hid (∀ j (hj : j < bl.size), j < k + 1 → blkB bl[j] = true) := Lib.hid (fun j hj hjk => by
            rcases Nat.lt_or_ge j k with h | h
            · exact HALL.out j hj h
            · obtain rfl : j = k := by omega
              exact hc)
          have hcs : ((bl[k].toNat : Int) != 32) = false ∨ ((bl[k].toNat : Int) != 32) = true ∧ ((bl[k].toNat : Int) != 9) = false := by
            unfold blkB at hc
            simp only [Bool.or_eq_true, beq_iff_eq] at hc
            rcases hc with h | h
            · left; rw [h]; decide
            · right; rw [h]; decide
          clear hc
          rcases hcs with h1 | ⟨h1, h2⟩
          all_goals
            go_wp2
            go_round
            case rel => exact ⟨k + 1, by go_num, hlt, HC.out⟩
            case measure => simp [intOf]; omega
        · have h1 : ((bl[k].toNat : Int) != 32) = true := by
            rw [bne_iff_ne]
            intro e
            apply hc
            unfold blkB
            have : bl[k] = 32 := UInt8.toNat_inj.1 (by have : (32 : UInt8).toNat = 32 := rfl; omega)
            rw [this]
            rfl
          have h2 : ((bl[k].toNat : Int) != 9) = true := by
            rw [bne_iff_ne]
            intro e
            apply hc
            unfold blkB
            have : bl[k] = 9 := UInt8.toNat_inj.1 (by have : (9 : UInt8).toNat = 9 := rfl; omega)
            rw [this]
            rfl
          clear hc
          go_wp2_with (go_at_call 11; (with_reducible refine (HA.out _ (Below.refl _ _)).mono ?_); rintro e w8 ⟨rfl, hb⟩; have HB8 := Lib.hid hb; clear hb)
          go_ret
          exact ⟨rfl, HB8.out⟩
      · go_wp2
        go_loop [10] (fun i => ∃ k : Nat, i = .int .i64 (k : Int) ∧ k ≤ re.size ∧ (∀ j (hj : j < re.size), j < k → prnB re[j] = true)) (fun i => re.size - (intOf i).toNat)
        case atStart => exact ⟨0, rfl, Nat.zero_le _, fun j _ hj => by omega⟩
        case round =>
          obtain ⟨m, rfl, hm, hrall⟩ := hrel
          have HRALL := Lib.hid hrall
          clear hrall
          by_cases hltm : m < re.size
          · by_cases hc : prnB re[m] = true
            · have HC : Hid (∀ j (hj : j < re.size), j < m + 1 → prnB re[j] = true) := Lib.hid (fun j hj hjk => by
                rcases Nat.lt_or_ge j m with h | h
                · exact HRALL.out j hj h
                · obtain rfl : j = m := by omega
                  exact hc)
              obtain ⟨x, hx⟩ : ∃ x : Int, (re[m].toNat : Int) = x := ⟨_, rfl⟩
              have hxs : 32 ≤ x ∧ x ≤ 126 ∧ (x == 92) = false ∧ (x == 63) = false ∧ (x == 47) = false := by
                unfold prnB at hc
                simp only [Bool.and_eq_true, decide_eq_true_eq, Bool.not_eq_true', beq_eq_false_iff_ne] at hc
                obtain ⟨⟨⟨⟨h2, h3⟩, h4⟩, h5⟩, h6⟩ := hc
                have ne : ∀ n : Nat, n < 256 → re[m] ≠ UInt8.ofNat n → (x == (n : Int)) = false := fun n hn hne => by
                  rw [beq_eq_false_iff_ne]
                  intro e
                  apply hne
                  apply UInt8.toNat_inj.1
                  simp
                  omega
                exact ⟨by omega, by omega, ne 92 (by omega) h4, ne 63 (by omega) h5, ne 47 (by omega) h6⟩
              obtain ⟨x1, x2, x3, x4, x5⟩ := hxs
              clear hc
              go_wp2
              go_round
              case rel => exact ⟨m + 1, by go_num, hltm, HC.out⟩
              case measure => simp [intOf]; omega
            · obtain ⟨x, hx⟩ : ∃ x : Int, (re[m].toNat : Int) = x := ⟨_, rfl⟩
              have hcs : x < 32 ∨ (32 ≤ x ∧ 126 < x) ∨ x = 92 ∨ x = 63 ∨ x = 47 := by
                rcases Classical.em (x < 32 ∨ (32 ≤ x ∧ 126 < x) ∨ x = 92 ∨ x = 63 ∨ x = 47) with h | h
                · exact h
                · exfalso
                  apply hc
                  unfold prnB
                  have ne : ∀ n : Nat, n < 256 → x ≠ (n : Int) → re[m] ≠ UInt8.ofNat n := fun n hn hne e => by
                    apply hne
                    rw [← hx, e]
                    simp
                    omega
                  simp only [Bool.and_eq_true, decide_eq_true_eq, Bool.not_eq_true', beq_eq_false_iff_ne]
                  exact ⟨⟨⟨⟨by omega, by omega⟩, ne 92 (by omega) (by omega)⟩, ne 63 (by omega) (by omega)⟩, ne 47 (by omega) (by omega)⟩
              clear hc
              rcases hcs with h1 | ⟨h1, h2⟩ | rfl | rfl | rfl
              all_goals
                go_wp2_with (go_at_call 11; (with_reducible refine (HA.out _ (Below.refl _ _)).mono ?_); rintro e w8 ⟨rfl, hb⟩; have HB8 := Lib.hid hb; clear hb)
                go_ret
                exact ⟨rfl, HB8.out⟩
          · have hb1 : Blk bl.data.toList := blk_of (by obtain rfl : k = bl.size := (by omega); exact HALL.out)
            have hr1 : Prn re.data.toList := prn_of (by obtain rfl : m = re.size := (by omega); exact HRALL.out)
            have HRD : Hid (∀ X : World, Calls Tryd.prog 19 #[.int .i64 kd, .int .i64 12] X fun e w' => (∃ k : Nat, k < 12 ∧ e = .returned (.int .i64 (k : Int))) ∧ X = w') := Lib.hid (fun X => round7_any kd 12 (by omega) (by omega) X)
            cases dg with
            | false =>
              have HBN : Hid (∀ k0 : Nat, k0 < 12 → ∃ wv nb, Bun W bl re ⟨#[35]⟩ (2 + (k0 : Int)) wv nb) := Lib.hid (fun k0 hk0 => bun_of HW.out h0 (.inl rfl) hb1 hr1 hs1 hs2 hk0)
              clear hb1 hr1
              go_wp2_with (first
                | (go_at_call 19; (with_reducible refine (HRD.out _).mono ?_); rintro e w1 ⟨⟨k0, hk0, rfl⟩, rfl⟩; obtain ⟨wv, nb, hbn⟩ := HBN.out k0 hk0; (have hk0I : (k0 : Int) < 12 := (by omega)); have hwz := hbn.sz; have hwn := hbn.ne; have BN := Lib.hid hbn; clear hbn)
                | (go_at_call 17; (with_reducible refine (BN.out.word _ (Below.refl _ _)).mono ?_); rintro e w1 ⟨rfl, rfl⟩)
                | (go_at_call 20; first
                    | ((with_reducible refine (BN.out.a _ (Below.refl _ _)).mono ?_); rintro e w1 ⟨va, na, ca, rfl, hb, hka, hra⟩; have HB1 := Lib.hid hb; have HKA := Lib.hid hka; have HRA := Lib.hid hra; clear hb hka hra)
                    | ((with_reducible refine (BN.out.b _).mono ?_); rintro e w4 ⟨v4, c4, rfl, hb⟩; have HB4 := Lib.hid (below_up HB3.out hb); clear hb)
                    | ((with_reducible refine (BN.out.c _ HB4.out).mono ?_); rintro e w5 ⟨v5, n5, c5, rfl, hb, hk⟩; have HB5 := Lib.hid (below_up HB4.out hb); have HK5 := Lib.hid hk; clear hb hk)
                    | ((with_reducible refine (BN.out.d _ HB6.out).mono ?_); rintro e w7 ⟨v7, n7, c7, rfl, hb, hk⟩; have HB7 := Lib.hid (below_up HB6.out hb); have HK7 := Lib.hid hk; clear hb hk)
                    | ((with_reducible refine (BN.out.e _ HB8.out).mono ?_); rintro e w9 ⟨v9, n9, c9, rfl, hb, hk⟩; have HB9 := Lib.hid (below_up HB8.out hb); have HK9 := Lib.hid hk; clear hb hk)
                    | ((with_reducible refine (BN.out.f _ HB10.out).mono ?_); rintro e w11 ⟨v11, n11, c11, rfl, hb, hk⟩; have HB11 := Lib.hid (below_up HB10.out hb); have HK11 := Lib.hid hk; clear hb hk))
                | (go_at_call 12; first
                    | ((with_reducible refine (HKA.out _ (Below.refl _ _) HB1.out).mono ?_); rintro e w2 ⟨rfl, hb⟩; have H12 := Lib.hid hb; have HB2 := Lib.hid (below_up HB1.out hb); clear hb)
                    | ((with_reducible refine (HK5.out).mono ?_); rintro e w6 ⟨rfl, hb⟩; have HB6 := Lib.hid (below_up HB5.out hb); clear hb)
                    | ((with_reducible refine (HK7.out).mono ?_); rintro e w8 ⟨rfl, hb⟩; have HB8 := Lib.hid (below_up HB7.out hb); clear hb)
                    | ((with_reducible refine (HK9.out).mono ?_); rintro e w10 ⟨rfl, hb⟩; have HB10 := Lib.hid (below_up HB9.out hb); clear hb)
                    | ((with_reducible refine (HK11.out).mono ?_); rintro e w12 ⟨rfl, hb⟩; have HB12 := Lib.hid (below_up HB11.out hb); clear hb))
                | (go_at_call 15; (with_reducible refine (HRA.out _ H12.out HB2.out).mono ?_); rintro e w3 ⟨v3, c3, rfl, hb⟩; have HB3 := Lib.hid (below_up HB2.out hb); clear hb)
                | (go_at_call 11; (with_reducible refine (HA.out _ HB12.out).mono ?_); rintro e w13 ⟨rfl, hb⟩; have HB13 := Lib.hid (below_up HB12.out hb); clear hb))
              go_ret
              exact ⟨rfl, HB13.out⟩
            | true =>
              have HBN : Hid (∀ k0 : Nat, k0 < 12 → ∃ wv nb, Bun W bl re ⟨#[37, 58]⟩ (2 + (k0 : Int)) wv nb) := Lib.hid (fun k0 hk0 => bun_of HW.out h0 (.inr rfl) hb1 hr1 hs1 hs2 hk0)
              clear hb1 hr1
              go_wp2_with (first
                | (go_at_call 19; (with_reducible refine (HRD.out _).mono ?_); rintro e w1 ⟨⟨k0, hk0, rfl⟩, rfl⟩; obtain ⟨wv, nb, hbn⟩ := HBN.out k0 hk0; (have hk0I : (k0 : Int) < 12 := (by omega)); have hwz := hbn.sz; have hwn := hbn.ne; have BN := Lib.hid hbn; clear hbn)
                | (go_at_call 17; (with_reducible refine (BN.out.word _ (Below.refl _ _)).mono ?_); rintro e w1 ⟨rfl, rfl⟩)
                | (go_at_call 20; first
                    | ((with_reducible refine (BN.out.a _ (Below.refl _ _)).mono ?_); rintro e w1 ⟨va, na, ca, rfl, hb, hka, hra⟩; have HB1 := Lib.hid hb; have HKA := Lib.hid hka; have HRA := Lib.hid hra; clear hb hka hra)
                    | ((with_reducible refine (BN.out.b _).mono ?_); rintro e w4 ⟨v4, c4, rfl, hb⟩; have HB4 := Lib.hid (below_up HB3.out hb); clear hb)
                    | ((with_reducible refine (BN.out.c _ HB4.out).mono ?_); rintro e w5 ⟨v5, n5, c5, rfl, hb, hk⟩; have HB5 := Lib.hid (below_up HB4.out hb); have HK5 := Lib.hid hk; clear hb hk)
                    | ((with_reducible refine (BN.out.d _ HB6.out).mono ?_); rintro e w7 ⟨v7, n7, c7, rfl, hb, hk⟩; have HB7 := Lib.hid (below_up HB6.out hb); have HK7 := Lib.hid hk; clear hb hk)
                    | ((with_reducible refine (BN.out.e _ HB8.out).mono ?_); rintro e w9 ⟨v9, n9, c9, rfl, hb, hk⟩; have HB9 := Lib.hid (below_up HB8.out hb); have HK9 := Lib.hid hk; clear hb hk)
                    | ((with_reducible refine (BN.out.f _ HB10.out).mono ?_); rintro e w11 ⟨v11, n11, c11, rfl, hb, hk⟩; have HB11 := Lib.hid (below_up HB10.out hb); have HK11 := Lib.hid hk; clear hb hk))
                | (go_at_call 12; first
                    | ((with_reducible refine (HKA.out _ (Below.refl _ _) HB1.out).mono ?_); rintro e w2 ⟨rfl, hb⟩; have H12 := Lib.hid hb; have HB2 := Lib.hid (below_up HB1.out hb); clear hb)
                    | ((with_reducible refine (HK5.out).mono ?_); rintro e w6 ⟨rfl, hb⟩; have HB6 := Lib.hid (below_up HB5.out hb); clear hb)
                    | ((with_reducible refine (HK7.out).mono ?_); rintro e w8 ⟨rfl, hb⟩; have HB8 := Lib.hid (below_up HB7.out hb); clear hb)
                    | ((with_reducible refine (HK9.out).mono ?_); rintro e w10 ⟨rfl, hb⟩; have HB10 := Lib.hid (below_up HB9.out hb); clear hb)
                    | ((with_reducible refine (HK11.out).mono ?_); rintro e w12 ⟨rfl, hb⟩; have HB12 := Lib.hid (below_up HB11.out hb); clear hb))
                | (go_at_call 15; (with_reducible refine (HRA.out _ H12.out HB2.out).mono ?_); rintro e w3 ⟨v3, c3, rfl, hb⟩; have HB3 := Lib.hid (below_up HB2.out hb); clear hb)
                | (go_at_call 11; (with_reducible refine (HA.out _ HB12.out).mono ?_); rintro e w13 ⟨rfl, hb⟩; have HB13 := Lib.hid (below_up HB12.out hb); clear hb))
              go_ret
              exact ⟨rfl, HB13.out⟩
  · by_cases hs1 : bl.size ≤ 20
    · have hs2 : ¬ re.size ≤ 100 := fun h => hs ⟨hs1, h⟩
      clear hs
      go_enter Tryd.func4, Tryd.ntmps4
      go_wp2_with (go_at_call 11; (with_reducible refine (HA.out _ (Below.refl _ _)).mono ?_); rintro e w8 ⟨rfl, hb⟩; have HB8 := Lib.hid hb; clear hb)
      go_ret
      exact ⟨rfl, HB8.out⟩
    · clear hs
      go_enter Tryd.func4, Tryd.ntmps4
      go_wp2_with (go_at_call 11; (with_reducible refine (HA.out _ (Below.refl _ _)).mono ?_); rintro e w8 ⟨rfl, hb⟩; have HB8 := Lib.hid hb; clear hb)
      go_ret
      exact ⟨rfl, HB8.out⟩

end Go.Proofs.YtlnlpahmfpjjdaaDoor
