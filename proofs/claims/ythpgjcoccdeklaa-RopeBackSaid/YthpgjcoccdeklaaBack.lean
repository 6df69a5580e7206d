/-
  RopeBack: what is put in, and taken out again, leaves the text; pieces are the text; a place's line and column lead back to it.
-/
import Derived.Test.YthpgjcoccdeklaaFull
namespace Go.Proofs.Ythpgjcoccdeklaa
open Go.RowKit

theorem eta (s : ByteArray) : (⟨s.data.toList.toArray⟩ : ByteArray) = s := by
  apply ByteArray.ext
  simp

set_option maxHeartbeats 3200000 in
set_option maxRecDepth 100000 in
theorem back_yes {B : Nat} {M : Mp} {w : World} (h : Inv B [] M w) (s : ByteArray) (at' : Int) (m : ByteArray) (hmax : s.size ≤ maxLen) (hmax2 : m.size ≤ maxLen) :
    Calls Try.prog 3 #[.string s, .int .i64 at', .string m] w (Yes B M w) := by
  unfold maxLen at hmax hmax2
  by_cases hbig : 3000 < s.size
  · have S0 := Lib.hid (St.refl h)
    clear h
    go_enter Try.func3, Try.ntmps3
    go_wp2_with (go_at_call 6; refine (awake_yes S0.out).mono ?_; rintro e w' ⟨rfl, hs⟩; have HS := Lib.hid hs; clear hs)
    go_ret
    exact ⟨rfl, HS.out⟩
  · by_cases hbig2 : 3000 < m.size
    · have S0 := Lib.hid (St.refl h)
      clear h
      go_enter Try.func3, Try.ntmps3
      go_wp2_with (go_at_call 6; refine (awake_yes S0.out).mono ?_; rintro e w' ⟨rfl, hs⟩; have HS := Lib.hid hs; clear hs)
      go_ret
      exact ⟨rfl, HS.out⟩
    · have hs3 : s.size ≤ 3000 := by omega
      have hm3 : m.size ≤ 3000 := by omega
      have H := Lib.hid h
      clear h hmax hmax2 hbig hbig2
      go_enter Try.func3, Try.ntmps3
      go_wp2_with fail
      refine (new_any H.out s (by omega)).mono ?_
      rintro e w1 ⟨M1, b1, o, rfl, r1, ⟨g1, -, -⟩, s1⟩
      have G := Lib.hid g1
      have HSZ := Lib.hid (show osize o = s.size from by rw [osize_eq, g1, bsize])
      have S1 := Lib.hid s1
      have R1 := Lib.hid r1
      clear g1 r1 s1
      go_wp2_with fail
      rw [show ((s.size : Int) + 1) = ((s.size + 1 : Nat) : Int) from by omega]
      refine (round_any at' (s.size + 1) (by omega) (by omega) _).mono ?_
      rintro e w' ⟨⟨k, hk, rfl⟩, rfl⟩
      go_wp2_with fail
      refine (insert_any S1.out.inv R1.out k m (by rw [HSZ.out]; omega) (by rw [HSZ.out]; omega)).mono ?_
      rintro e w2 ⟨M2, b2, oa, rfl, r2, ⟨g2, -⟩, s2⟩
      rw [G.out] at g2
      have GA := Lib.hid g2
      have hsa : osize oa = s.size + m.size := by
        rw [osize_eq, g2, List.length_append, List.length_append, List.length_take, List.length_drop, bsize, bsize]
        omega
      have HSA := Lib.hid hsa
      have S2 := Lib.hid (S1.out.trans s2)
      have R2 := Lib.hid r2
      clear g2 r2 s2 hsa
      go_wp2_with fail
      rw [show ((k : Int) + (m.size : Int)) = ((k + m.size : Nat) : Int) from by omega]
      refine (delete_any S2.out.inv R2.out k (k + m.size) (by omega) (by rw [HSA.out]; omega)).mono ?_
      rintro e w3 ⟨M3, b3, ob, rfl, r3, ⟨g3, -⟩, s3⟩
      have hpre : (s.data.toList.take k).length = k := by rw [List.length_take, bsize]; omega
      have hob : otext ob = s.data.toList := by
        rw [g3, GA.out]
        have e1 : ((s.data.toList.take k) ++ (m.data.toList ++ s.data.toList.drop k)).take k = s.data.toList.take k := by
          rw [List.take_append_of_le_length (by omega), List.take_of_length_le (by omega)]
        have e2 : ((s.data.toList.take k) ++ (m.data.toList ++ s.data.toList.drop k)).drop (k + m.size) = s.data.toList.drop k := by
          rw [List.drop_append, List.drop_of_length_le (by omega), hpre, List.nil_append, List.drop_append, List.drop_of_length_le (by rw [bsize]; omega), bsize, List.nil_append]
          have e : k + m.size - k - m.size = 0 := by omega
          rw [e, List.drop_zero]
        rw [e1, e2]
        simp
      have HOB := Lib.hid hob
      have S3 := Lib.hid (S2.out.trans s3)
      have R3 := Lib.hid r3
      have R23 := Lib.hid (R2.out.step S2.out.inv s3)
      clear g3 r3 s3 hob
      have hx1 : seg (otext oa) k (k + m.size) = m.data.toList := by
        rw [GA.out, seg_right (Nat.le_of_eq hpre), hpre, Nat.sub_self, show k + m.size - k = m.size from by omega]
        rw [seg_left (Nat.le_of_eq (bsize m).symm)]
        unfold seg
        rw [List.drop_zero, List.take_of_length_le (by rw [bsize]; omega)]
      have hx2 : seg (otext oa) 0 k = s.data.toList.take k := by
        rw [GA.out, seg_left (Nat.le_of_eq hpre.symm)]
        unfold seg
        rw [List.drop_zero, List.take_of_length_le (by rw [hpre]; omega)]
      have hx3 : seg (otext oa) (k + m.size) (s.size + m.size) = s.data.toList.drop k := by
        rw [GA.out, ← List.append_assoc, seg_right (Nat.le_of_eq (by rw [List.length_append, hpre, bsize])), List.length_append, hpre, bsize, Nat.sub_self]
        unfold seg
        rw [List.drop_zero, List.take_of_length_le (by rw [List.length_drop, bsize]; omega)]
      have X1 := Lib.hid hx1
      have X2 := Lib.hid hx2
      have X3 := Lib.hid hx3
      clear hx1 hx2 hx3 hpre
      go_wp2_with fail
      rw [show ((k : Int) + (m.size : Int)) = ((k + m.size : Nat) : Int) from by omega]
      have kSl := slice_any S3.out.inv R23.out k (k + m.size) (by omega) (by rw [HSA.out]; omega)
      rw [X1.out, eta] at kSl
      refine kSl.mono ?_
      clear kSl
      rintro e w4 ⟨rfl, s4⟩
      have S4 := Lib.hid (S3.out.trans s4)
      have R4 := Lib.hid (R23.out.step S3.out.inv s4)
      have R4b := Lib.hid (R3.out.step S3.out.inv s4)
      clear s4
      go_wp2_with fail
      obtain ⟨P, hP⟩ : ∃ P : ByteArray, (⟨(s.data.toList.take k).toArray⟩ : ByteArray) = P := ⟨_, rfl⟩
      obtain ⟨Q, hQ⟩ : ∃ Q : ByteArray, (⟨(s.data.toList.drop k).toArray⟩ : ByteArray) = Q := ⟨_, rfl⟩
      have hPQ : P ++ Q = s := by
        rw [← hP, ← hQ]
        apply ByteArray.ext
        simp
      have kSl := slice_any S4.out.inv R4.out 0 k (by omega) (by rw [HSA.out]; omega)
      rw [X2.out, hP] at kSl
      have HPP := Lib.hid hP
      have HQQ := Lib.hid hQ
      have HPQ := Lib.hid hPQ
      clear hP hQ hPQ
      refine kSl.mono ?_
      clear kSl
      rintro e w5 ⟨rfl, s5⟩
      have S5 := Lib.hid (S4.out.trans s5)
      have R5 := Lib.hid (R4.out.step S4.out.inv s5)
      have R5b := Lib.hid (R4b.out.step S4.out.inv s5)
      clear s5
      go_wp2_with fail
      refine (len_any S5.out.inv R5.out).mono ?_
      rintro e w' ⟨rfl, rfl⟩
      rw [HSA.out]
      go_wp2_with fail
      rw [show ((k : Int) + (m.size : Int)) = ((k + m.size : Nat) : Int) from by omega]
      have kSl := slice_any S5.out.inv R5.out (k + m.size) (s.size + m.size) (by omega) (by rw [HSA.out]; omega)
      rw [X3.out, HQQ.out] at kSl
      refine kSl.mono ?_
      clear kSl
      rintro e w6 ⟨rfl, s6⟩
      have S6 := Lib.hid (S5.out.trans s6)
      have R6 := Lib.hid (R5.out.step S5.out.inv s6)
      have R6b := Lib.hid (R5b.out.step S5.out.inv s6)
      clear s6
      go_wp2_with fail
      have kTx := text_any S6.out.inv R6b.out
      rw [HOB.out, eta] at kTx
      refine kTx.mono ?_
      clear kTx
      rintro e w7 ⟨rfl, s7⟩
      have S7 := Lib.hid (S6.out.trans s7)
      have R7 := Lib.hid (R6.out.step S6.out.inv s7)
      clear s7
      have hcat := fits (a := P) (b := Q) (by rw [← ByteArray.size_append, HPQ.out]; omega)
      have hcmp : ((P ++ Q).toList == s.toList) = true := by rw [HPQ.out]; simp
      go_wp2_with fail
      clear hcat hcmp
      have hb1 : behind (otext oa) (((otext oa).take k).count 10) ≤ k := (behind_place (otext oa) k).1
      have hc1 : ((otext oa).take k).count 10 ≤ onl oa := List.Sublist.count_le _ (List.take_sublist _ _)
      have hle7 := (R7.out.le S7.out.inv).1
      rw [HSA.out] at hle7
      obtain ⟨n, hn⟩ : ∃ n, ((otext oa).take k).count 10 = n := ⟨_, rfl⟩
      obtain ⟨q, hq⟩ : ∃ q, behind (otext oa) n = q := ⟨_, rfl⟩
      have kLi := line_any S7.out.inv R7.out k (by rw [HSA.out]; omega)
      rw [hn] at hb1 hc1 kLi
      rw [hq] at hb1 kLi
      have HQ1 := Lib.hid hq
      clear hn hq
      refine kLi.mono ?_
      clear kLi
      rintro e w8 ⟨rfl, s8⟩
      have S8 := Lib.hid (S7.out.trans s8)
      have R8 := Lib.hid (R7.out.step S7.out.inv s8)
      clear s8
      go_wp2_with fail
      have kSt := start_any S8.out.inv R8.out n hc1
      rw [HQ1.out] at kSt
      refine kSt.mono ?_
      clear kSt
      rintro e w9 ⟨rfl, s9⟩
      have S9 := Lib.hid (S8.out.trans s9)
      have R9 := Lib.hid (R8.out.step S8.out.inv s9)
      clear s9
      go_wp2_with fail
      refine (lines_any S9.out.inv R9.out).mono ?_
      rintro e w10 ⟨rfl, s10⟩
      have S10 := Lib.hid (S9.out.trans s10)
      clear s10
      have hlt : ((n : Int) < (onl oa : Int) + 1) := by omega
      go_wp2_with fail
      refine (awake_yes S10.out).mono ?_
      rintro e w' ⟨rfl, hs⟩
      have HS := Lib.hid hs
      clear hs
      go_wp2_with fail
      go_ret
      exact ⟨rfl, HS.out⟩

end Go.Proofs.Ythpgjcoccdeklaa
