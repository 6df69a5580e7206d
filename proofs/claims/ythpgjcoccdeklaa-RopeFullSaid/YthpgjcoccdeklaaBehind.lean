/-
  behindBreak: where the one behind a line break begins.
-/
import Derived.Test.YthpgjcoccdeklaaAhead
import Derived.Test.YthpgjcoccdeklaaLines
namespace Go.Proofs.Ythpgjcoccdeklaa
open Go.RowKit

/-- The first loop's relation: what is gone by, and what is still to go. -/
def BehindRel (B : Nat) (M : Mp) (w : World) (total : Nat) (n i c : Value) (wr : World) : Prop :=
  ∃ (b : Nat) (t : T) (k : Nat) (m : Nat), n = .pointer (some ⟨b, 0, none⟩) ∧ M b = some t ∧ i = .int .i64 (k : Int) ∧ 1 ≤ k ∧ k ≤ t.text.count 10 ∧ c = .int .i64 (m : Int) ∧ m + behind t.text k = total ∧ m ≤ lim ∧ m + t.size ≤ lim ∧ St B M w M wr

set_option maxHeartbeats 1600000 in
theorem behind_some {B : Nat} {M : Mp} {w : World} (h : Inv B [] M w) {b : Nat} {t : T} (hb : M b = some t) (k : Nat) (hk1 : 1 ≤ k) (hk : k ≤ t.text.count 10) :
    Calls Try.prog 26 #[.pointer (some ⟨b, 0, none⟩), .int .i64 (k : Int)] w fun e w' => e = .returned (.int .i64 (behind t.text k : Nat)) ∧ St B M w M w' := by
  have hnot : ∀ (x : Bool) (w : World), (Op.unary .not (.bool x)).run Try.prog w = .ok (.bool (!x)) w := fun _ _ => rfl
  have hk0 : ((k : Int) == 0) = false := beq_eq_false_iff_ne.2 (by omega)
  have hs0 : BehindRel B M w (behind t.text k) (.pointer (some ⟨b, 0, none⟩)) (.int .i64 (k : Int)) (.int .i64 0) w := ⟨b, t, k, 0, rfl, hb, rfl, hk1, hk, rfl, by omega, by unfold lim; omega, by have := (h.full b t hb).2; omega, St.refl h⟩
  have HS := Lib.hid hs0
  clear hs0 h hb
  go_enter Try.func26, Try.ntmps26
  go_wp2
  go_loopw [0, 1, 5] (BehindRel B M w (behind t.text k)) (fun n _ _ _ => nnAt M n)
  case atStart => exact HS.out
  case round =>
    clear hk0 hk1 hk
    obtain ⟨b1, t1, k1, m1, rfl, hb1, rfl, hk0, hk1, rfl, hm1, hml, hms, hs1⟩ := hrel
    have HI := Lib.hid hs1.inv
    have HS1 := Lib.hid hs1
    have HM := Lib.hid hm1
    have HB1 := Lib.hid hb1
    unfold lim at hml hms
    cases t1 with
    | leaf s =>
      obtain ⟨c0, c2, _, _⟩ := hs1.inv.leafCells hb1
      simp only [T.size] at hms
      simp only [T.text] at hk1
      have hkb : k1 ≤ 1000000 := by
        have e : s.data.toList.length = s.size := by simp
        have e2 := List.count_le_length (a := (10 : UInt8)) (l := s.data.toList)
        omega
      clear hs1 hm1 hb1
      go_wp2_with (go_at_call 36; refine (isLeaf_any HI.out HB1.out).mono ?_; simp only [isLeafB]; rintro e w' ⟨rfl, rfl⟩)
      go_loop [7, 42] (fun v i => ∃ q : Nat, q ≤ k1 ∧ i = .int .i64 (q : Int) ∧ v = .int .i64 (behind s.data.toList q : Nat)) (fun _ i => k1 - (intOf i).toNat)
      case atStart => exact ⟨0, Nat.zero_le _, rfl, by rw [behind_zero]; rfl⟩
      case round =>
        obtain ⟨q, hq, rfl, rfl⟩ := hrel
        have hble := behind_le s.data.toList q
        have hbs : behind s.data.toList q ≤ s.size := by have e : s.data.toList.length = s.size := by simp
                                                         omega
        clear hble
        by_cases hlt : q < k1
        · obtain ⟨z, hz, hz0, hz1⟩ : ∃ z : Int, Lib.indexByte ((s.extract (behind s.data.toList q) s.size).data.toList) (10 : Int).toNat.toUInt8 = z ∧ 0 ≤ z ∧ (behind s.data.toList (q + 1) : Int) = behind s.data.toList q + (z + 1) := by
            have e := behind_step s.data.toList q (by omega)
            have d : (s.extract (behind s.data.toList q) s.size).data.toList = s.data.toList.drop (behind s.data.toList q) := by
              simp only [ByteArray.data_extract, Array.toList_extract, List.extract_eq_take_drop]
              rw [List.take_of_length_le]
              rw [List.length_drop]
              have e : s.data.toList.length = s.size := by simp
              omega
            refine ⟨_, rfl, ?_, ?_⟩ <;> rw [d]
            · exact e.2
            · exact e.1
          have hb2 := behind_le s.data.toList (q + 1)
          have hzb : z ≤ 1000000 := by
            have e : s.data.toList.length = s.size := by simp
            omega
          have HZ := Lib.hid hz
          have HZ1 := Lib.hid hz1
          clear hz hz1 hb2
          go_wp2_with (go_at_call 38; refine (Try.strings_IndexByte _ _ _).mono ?_; rintro e w' ⟨rfl, rfl⟩; rw [HZ.out])
          go_round
          case rel => exact ⟨q + 1, by omega, by go_num, by rw [HZ1.out]⟩
          case measure => simp [intOf]; omega
        · go_wp2
          go_ret
          refine ⟨ret_int ?_, HS1.out⟩
          have h := HM.out
          have e : q = k1 := by omega
          subst e
          simp only [T.text] at h
          omega
    | node l r =>
      obtain ⟨bl, br, ml, mr, c0, c1, _, _⟩ := hs1.inv.nodeCells hb1
      obtain ⟨_, _, _, _, _, _, cl, _⟩ := hs1.inv.cells ml
      simp only [T.size] at hms
      have hk2 : k1 ≤ l.text.count 10 + r.text.count 10 := by simpa [T.text] using hk1
      have hnl := T.nl_le l
      have hnr := T.nl_le r
      unfold T.nl at hnl hnr
      have hkb : k1 ≤ 1000000 := by omega
      have hb1lt := hs1.inv.lt hb1
      have hbllt := hs1.inv.lt ml
      have ML := Lib.hid ml
      have MR := Lib.hid mr
      clear hs1 hm1 hb1 ml mr hk1
      by_cases hle : l.text.count 10 < k1
      · go_wp2_with (first
          | (go_at_call 36; refine (isLeaf_any HI.out HB1.out).mono ?_; simp only [isLeafB]; rintro e w' ⟨rfl, rfl⟩)
          | (go_at_call 27; refine (lineBreaks_any HI.out (.inr ⟨bl, l, rfl, rfl, ML.out⟩)).mono ?_; rintro e w2 ⟨rfl, s2⟩; have d0 := (s2.fr.low b1 0 hb1lt (by omega)).trans c0; have d1 := (s2.fr.low b1 1 hb1lt (by omega)).trans c1; have dl := (s2.fr.low bl 3 hbllt (by omega)).trans cl; have S2 := Lib.hid (HS1.out.trans s2); clear s2; simp only [otext]))
        go_roundw
        case rel =>
          refine ⟨br, r, k1 - l.text.count 10, m1 + l.size, rfl, MR.out, ?_, by omega, by omega, ?_, ?_, by unfold lim; omega, by unfold lim; omega, S2.out⟩
          · rw [show ((k1 - l.text.count 10 : Nat) : Int) = (k1 : Int) - (l.text.count 10 : Nat) from by omega]
          · rw [show ((m1 + l.size : Nat) : Int) = (m1 : Int) + l.size from by omega]
          · have h := HM.out
            simp only [T.text] at h
            rw [behind_right _ _ _ hle, ← T.size_eq] at h
            omega
        case measure =>
          rw [nnAt_eq HB1.out, nnAt_eq MR.out]
          simp only [T.nn]
          omega
      · have hle2 : k1 ≤ l.text.count 10 := by omega
        go_wp2_with (first
          | (go_at_call 36; refine (isLeaf_any HI.out HB1.out).mono ?_; simp only [isLeafB]; rintro e w' ⟨rfl, rfl⟩)
          | (go_at_call 27; refine (lineBreaks_any HI.out (.inr ⟨bl, l, rfl, rfl, ML.out⟩)).mono ?_; rintro e w2 ⟨rfl, s2⟩; have d0 := (s2.fr.low b1 0 hb1lt (by omega)).trans c0; have S2 := Lib.hid (HS1.out.trans s2); clear s2; simp only [otext]))
        go_roundw
        case rel =>
          refine ⟨bl, l, k1, m1, rfl, ML.out, rfl, hk0, hle2, rfl, ?_, by unfold lim; omega, by unfold lim; omega, S2.out⟩
          have h := HM.out
          simp only [T.text] at h
          rw [behind_left _ _ _ hle2] at h
          exact h
        case measure =>
          rw [nnAt_eq HB1.out, nnAt_eq ML.out]
          simp only [T.nn]
          omega

end Go.Proofs.Ythpgjcoccdeklaa
