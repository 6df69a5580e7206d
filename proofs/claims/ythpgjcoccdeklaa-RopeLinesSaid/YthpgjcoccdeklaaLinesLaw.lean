/-
  RopeLines: lines begin one behind the other, each behind a line's end; each place is in the line whose start it has.
-/
import Derived.Test.YthpgjcoccdeklaaFull
namespace Go.Proofs.Ythpgjcoccdeklaa
open Go.RowKit

/-- Where the line ahead began. -/
def lastOf (l : List UInt8) : Nat → Int
  | 0 => -1
  | n + 1 => behind l n

theorem behind_lt (l : List UInt8) (n : Nat) (h : n + 1 ≤ l.count 10) : behind l n < behind l (n + 1) := by
  have e := behind_step l n h
  have := e.2
  omega

theorem byte_of {s : ByteArray} {q : Nat} {x : UInt8} (h : s.data.toList[q]? = some x) : ∃ hq : q < s.size, s[q]'hq = x := by
  rw [List.getElem?_eq_some_iff] at h
  obtain ⟨h1, h2⟩ := h
  have hq : q < s.size := by have e : s.data.toList.length = s.size := bsize s
                             omega
  exact ⟨hq, by rw [← h2]; rfl⟩

set_option maxHeartbeats 1600000 in
set_option maxRecDepth 100000 in
theorem lines_yes {B : Nat} {M : Mp} {w : World} (h : Inv B [] M w) (s : ByteArray) (hmax : s.size ≤ maxLen) :
    Calls Try.prog 5 #[.string s] w (Yes B M w) := by
  unfold maxLen at hmax
  by_cases hbig : 800 < s.size
  · have S0 := Lib.hid (St.refl h)
    clear h
    go_enter Try.func5, Try.ntmps5
    go_wp2_with (go_at_call 6; refine (awake_yes S0.out).mono ?_; rintro e w' ⟨rfl, hs⟩; have HS := Lib.hid hs; clear hs)
    go_ret
    exact ⟨rfl, HS.out⟩
  · have hs8 : s.size ≤ 800 := by omega
    have H := Lib.hid h
    clear h hmax hbig
    go_enter Try.func5, Try.ntmps5
    go_wp2_with fail
    refine (new_any H.out s (by omega)).mono ?_
    rintro e w1 ⟨M1, b1, o, rfl, r1, ⟨g1, -, -⟩, s1⟩
    have G := Lib.hid g1
    have hsz : osize o = s.size := by rw [osize_eq, g1, bsize]
    have hnl : onl o ≤ 800 := by
      have := (r1.le s1.inv).1
      omega
    have HSZ := Lib.hid hsz
    have S1 := Lib.hid s1
    have R1 := Lib.hid r1
    clear g1 r1 s1 hsz
    go_wp2_with fail
    go_loopw [5, 6] (fun v i wr => ∃ n : Nat, n ≤ onl o + 1 ∧ i = .int .i64 (n : Int) ∧ v = .int .i64 (lastOf (otext o) n) ∧ St B M1 w1 M1 wr) (fun _ i _ => 900 - (intOf i).toNat)
    case atStart => exact ⟨0, Nat.zero_le _, rfl, rfl, St.refl S1.out.inv⟩
    case round =>
      obtain ⟨n, hn, rfl, rfl, s2⟩ := hrel
      have S2 := Lib.hid s2
      have R2 := Lib.hid (R1.out.step S1.out.inv s2)
      clear s2
      by_cases hlt : n ≤ onl o
      · have kLs := lines_any S2.out.inv R2.out
        have kSt := fun (w' : World) (M' : Mp) (hi : Inv B [] M' w') (hr : RP M' w' (some ⟨b1, 0, none⟩) o) => start_any hi hr n hlt
        have hble := behind_le (otext o) n
        rw [← osize_eq, HSZ.out] at hble
        cases n with
        | zero =>
          go_wp2_with fail
          refine kLs.mono ?_
          clear kLs
          rintro e w3 ⟨rfl, s3⟩
          have S3 := Lib.hid (S2.out.trans s3)
          have R3 := Lib.hid (R2.out.step S2.out.inv s3)
          clear s3
          have hlt2 : ((0 : Int) < (onl o : Int) + 1) := by omega
          go_wp2_with fail
          refine (kSt _ _ S3.out.inv R3.out).mono ?_
          clear kSt
          rintro e w4 ⟨rfl, s4⟩
          have S4 := Lib.hid (S3.out.trans s4)
          clear s4
          rw [behind_zero]
          simp only [lastOf]
          go_wp2_with fail
          exact ⟨⟨1, by omega, rfl, by simp [lastOf, behind_zero], S4.out⟩, by simp [intOf]⟩
        | succ j =>
          have hbl := behind_lt (otext o) j hlt
          obtain ⟨hp1, hp2⟩ := behind_ahead (otext o) (j + 1) (by omega) hlt
          obtain ⟨q, hq⟩ : ∃ q, behind (otext o) (j + 1) = q + 1 := ⟨behind (otext o) (j + 1) - 1, by omega⟩
          obtain ⟨p, hp⟩ : ∃ p, behind (otext o) j = p := ⟨_, rfl⟩
          rw [hq, Nat.add_sub_cancel, G.out] at hp2
          obtain ⟨hqs, hqb⟩ := byte_of hp2
          rw [hq, hp] at hbl
          rw [hq] at hble
          rw [hq] at kSt
          have hlast : lastOf (otext o) (j + 1) = (p : Int) := by simp only [lastOf]; rw [hp]
          have hnext : lastOf (otext o) (j + 1 + 1) = (q : Int) + 1 := by simp only [lastOf]; rw [hq]; omega
          have HNX := Lib.hid hnext
          rw [hlast]
          clear hp1 hp2 hq hp hlast hnext
          have hlt2 : (((j + 1 : Nat) : Int) < (onl o : Int) + 1) := by omega
          have hi0 : (((j : Int) + 1) == 0) = false := beq_eq_false_iff_ne.2 (by omega)
          go_wp2_with fail
          refine kLs.mono ?_
          clear kLs
          rintro e w3 ⟨rfl, s3⟩
          have S3 := Lib.hid (S2.out.trans s3)
          have R3 := Lib.hid (R2.out.step S2.out.inv s3)
          clear s3
          go_wp2_with fail
          refine (kSt _ _ S3.out.inv R3.out).mono ?_
          clear kSt
          rintro e w4 ⟨rfl, s4⟩
          have S4 := Lib.hid (S3.out.trans s4)
          clear s4
          go_wp2_with fail
          exact ⟨⟨j + 1 + 1, by omega, by go_num, by rw [HNX.out], S4.out⟩, by simp [intOf]; omega⟩
      · have hge : ¬ ((n : Int) < (onl o : Int) + 1) := by omega
        go_wp2_with fail
        refine (lines_any S2.out.inv R2.out).mono ?_
        rintro e w3 ⟨rfl, s3⟩
        have S3 := Lib.hid (S2.out.trans s3)
        have R3 := Lib.hid (R2.out.step S2.out.inv s3)
        clear s3
        go_wp2_with fail
        obtain ⟨wo, hwo⟩ : ∃ wo : World, wo = w3 := ⟨_, rfl⟩
        go_loopw [9] (fun v wr2 => ∃ a : Nat, a ≤ s.size + 1 ∧ v = .int .i64 (a : Int) ∧ St B M1 w1 M1 wr2) (fun v _ => 900 - (intOf v).toNat)
        case atStart => exact ⟨0, Nat.zero_le _, rfl, S3.out⟩
        case round =>
          obtain ⟨a, ha, rfl, s4⟩ := hrel
          have S4 := Lib.hid s4
          have R4 := Lib.hid (R1.out.step S1.out.inv s4)
          clear s4
          by_cases hat : a ≤ s.size
          · obtain ⟨hb1, hb2⟩ := behind_place (otext o) a
            have hc1 : ((otext o).take a).count 10 ≤ onl o := List.Sublist.count_le _ (List.take_sublist _ _)
            obtain ⟨c, hc⟩ : ∃ c, ((otext o).take a).count 10 = c := ⟨_, rfl⟩
            obtain ⟨q, hq⟩ : ∃ q, behind (otext o) c = q := ⟨_, rfl⟩
            have kLi := line_any S4.out.inv R4.out a (by rw [HSZ.out]; omega)
            rw [hc] at hb1 hb2 hc1 kLi
            rw [hq] at hb1 hb2 kLi
            have HQ := Lib.hid hq
            have HB2 := Lib.hid hb2
            clear hc hq hb2
            go_wp2_with fail
            refine kLi.mono ?_
            clear kLi
            rintro e w5 ⟨rfl, s5⟩
            have S5 := Lib.hid (S4.out.trans s5)
            have R5 := Lib.hid (R4.out.step S4.out.inv s5)
            clear s5
            go_wp2_with fail
            have kSt := start_any S5.out.inv R5.out c hc1
            rw [HQ.out] at kSt
            refine kSt.mono ?_
            clear kSt
            rintro e w6 ⟨rfl, s6⟩
            have S6 := Lib.hid (S5.out.trans s6)
            clear s6
            go_wp2_with fail
            go_loop [15] (fun v => ∃ j : Nat, q ≤ j ∧ j ≤ a ∧ v = .int .i64 (j : Int)) (fun v => a - (intOf v).toNat)
            case atStart => exact ⟨q, Nat.le_refl _, hb1, rfl⟩
            case round =>
              obtain ⟨j, hj1, hj2, rfl⟩ := hrel
              by_cases hja : j < a
              · have hjs : j < s.size := by omega
                have hne : (((s[j]'hjs).toNat : Int) == 10) = false := by
                  rw [beq_eq_false_iff_ne]
                  intro e
                  apply HB2.out j hj1 hja
                  rw [G.out, List.getElem?_eq_getElem (by rw [bsize]; exact hjs)]
                  have e2 : s.data.toList[j]'(by rw [bsize]; exact hjs) = s[j]'hjs := rfl
                  rw [e2]
                  congr 1
                  apply UInt8.toNat_inj.1
                  have : (s[j]'hjs).toNat = 10 := by omega
                  rw [this]
                  rfl
                go_wp2_with fail
                go_round
                case rel => exact ⟨j + 1, by omega, by omega, by go_num⟩
                case measure => simp [intOf]; omega
              · have hje : ¬ ((j : Int) < (a : Int)) := by omega
                go_wp2_with fail
                exact ⟨⟨a + 1, by omega, by go_num, S6.out⟩, by simp [intOf]; omega⟩
          · have hge2 : ¬ ((a : Int) ≤ (s.size : Int)) := by omega
            go_wp2_with fail
            refine (lines_any S4.out.inv R4.out).mono ?_
            rintro e w5 ⟨rfl, s5⟩
            have S5 := Lib.hid (S4.out.trans s5)
            have R5 := Lib.hid (R4.out.step S4.out.inv s5)
            clear s5
            go_wp2_with fail
            refine (start_no S5.out.inv R5.out ((onl o : Int) + 1) (by omega)).mono ?_
            rintro e w6 ⟨rfl, s6⟩
            have S6 := Lib.hid (S1.out.trans (S5.out.trans s6))
            clear s6
            go_wp2_with fail
            refine (awake_yes S6.out).mono ?_
            rintro e w' ⟨rfl, hs⟩
            have HS := Lib.hid hs
            clear hs
            go_wp2_with fail
            go_ret
            exact ⟨rfl, HS.out⟩

end Go.Proofs.Ythpgjcoccdeklaa
