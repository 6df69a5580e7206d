/-
  breaksAhead: how many line breaks stand ahead of a place.
-/
import Derived.Test.YthpgjcoccdeklaaBreaks2
import Derived.LoopTactic
namespace Go.Proofs.Ythpgjcoccdeklaa
open Go.RowKit

theorem ret_int {k : IntKind} {a b : Int} (h : a = b) : Ending.returned (.int k a) = .returned (.int k b) := by rw [h]

/-- How many branches a node's tree has: a loop's measure. -/
def nnAt (M : Mp) : Value → Nat
  | .pointer (some a) => (M a.block).elim 0 T.nn
  | _ => 0

theorem nnAt_eq {M : Mp} {b : Nat} {t : T} (h : M b = some t) : nnAt M (.pointer (some ⟨b, 0, none⟩)) = t.nn := by simp [nnAt, h]

/-- The loop's relation: what is counted, and what is still to count. -/
def AheadRel (B : Nat) (M : Mp) (w : World) (total : Nat) (n i c : Value) (wr : World) : Prop :=
  ∃ (b : Nat) (t : T) (k : Nat) (m : Nat), n = .pointer (some ⟨b, 0, none⟩) ∧ M b = some t ∧ i = .int .i64 (k : Int) ∧ k ≤ t.size ∧ c = .int .i64 (m : Int) ∧ m + (t.text.take k).count 10 = total ∧ St B M w M wr

theorem count_split (a b : List UInt8) (k : Nat) (h : a.length ≤ k) : ((a ++ b).take k).count 10 = a.count 10 + (b.take (k - a.length)).count 10 := by
  rw [List.take_append, List.count_append, List.take_of_length_le h]

theorem count_left (a b : List UInt8) (k : Nat) (h : k ≤ a.length) : (a ++ b).take k = a.take k := by
  rw [List.take_append, Nat.sub_eq_zero_of_le h, List.take_zero, List.append_nil]

set_option maxHeartbeats 1600000 in
theorem ahead_some {B : Nat} {M : Mp} {w : World} (h : Inv B [] M w) {b : Nat} {t : T} (hb : M b = some t) (k : Nat) (hk : k ≤ t.size) :
    Calls Try.prog 25 #[.pointer (some ⟨b, 0, none⟩), .int .i64 (k : Int)] w fun e w' => e = .returned (.int .i64 ((t.text.take k).count 10 : Nat)) ∧ St B M w M w' := by
  have hnot : ∀ (x : Bool) (w : World), (Op.unary .not (.bool x)).run Try.prog w = .ok (.bool (!x)) w := fun _ _ => rfl
  have H := Lib.hid h
  have HB := Lib.hid hb
  have hst := AheadRel B M w ((t.text.take k).count 10)
  have hs0 : AheadRel B M w ((t.text.take k).count 10) (.pointer (some ⟨b, 0, none⟩)) (.int .i64 (k : Int)) (.int .i64 0) w := ⟨b, t, k, 0, rfl, hb, rfl, hk, rfl, by omega, St.refl h⟩
  have HS := Lib.hid hs0
  clear hs0 h hb hst
  go_enter Try.func25, Try.ntmps25
  go_wp2
  go_loopw [0, 1, 5] (AheadRel B M w ((t.text.take k).count 10)) (fun n _ _ _ => nnAt M n)
  case atStart => exact HS.out
  case round =>
    obtain ⟨b1, t1, k1, m1, rfl, hb1, rfl, hk1, rfl, hm1, hs1⟩ := hrel
    have HI := Lib.hid hs1.inv
    have HS1 := Lib.hid hs1
    have HM := Lib.hid hm1
    have HB1 := Lib.hid hb1
    cases t1 with
    | leaf s =>
      obtain ⟨c0, c2, _, _⟩ := hs1.inv.leafCells hb1
      have hlim := (hs1.inv.full b1 _ hb1).2
      simp only [T.size] at hk1 hlim
      unfold lim at hlim
      have hc : (s.extract 0 k1).data.toList = s.data.toList.take k1 := by simp [ByteArray.data_extract]
      have hcl := List.count_le_length (a := (10 : UInt8)) (l := s.data.toList.take k1)
      have hcl2 : (s.data.toList.take k1).length ≤ k1 := List.length_take_le _ _
      have hmb : m1 ≤ 1000000 := by
        have := HM.out
        have hx := List.count_le_length (a := (10 : UInt8)) (l := t.text.take k)
        have hy : (t.text.take k).length ≤ t.text.length := by rw [List.length_take]; omega
        have hz := (H.out.full b t HB.out).2
        rw [T.size_eq] at hz
        unfold lim at hz
        omega
      have HC := Lib.hid hc
      clear hs1 hm1 hb1 hc
      go_wp2_with (first
        | (go_at_call 36; refine (isLeaf_any HI.out HB1.out).mono ?_; simp only [isLeafB]; rintro e w' ⟨rfl, rfl⟩)
        | (go_at_call 37; refine (Try.strings_Count_one _ 10 _).mono ?_; rintro e w' ⟨rfl, rfl⟩; rw [HC.out]; unfold Lib.countByte))
      go_ret
      exact ⟨ret_int (by have h := HM.out; simp only [T.text] at h; omega), HS1.out⟩
    | node l r =>
      obtain ⟨bl, br, ml, mr, c0, c1, _, _⟩ := hs1.inv.nodeCells hb1
      obtain ⟨_, _, _, _, _, _, cl, _⟩ := hs1.inv.cells ml
      have hlim := (hs1.inv.full b1 _ hb1).2
      simp only [T.size] at hk1 hlim
      unfold lim at hlim
      have hmb : m1 ≤ 1000000 := by
        have := HM.out
        have hx := List.count_le_length (a := (10 : UInt8)) (l := t.text.take k)
        have hy : (t.text.take k).length ≤ t.text.length := by rw [List.length_take]; omega
        have hz := (H.out.full b t HB.out).2
        rw [T.size_eq] at hz
        unfold lim at hz
        omega
      have hnl := T.nl_le l
      unfold T.nl at hnl
      have hb1lt := hs1.inv.lt hb1
      have hbllt := hs1.inv.lt ml
      have ML := Lib.hid ml
      have MR := Lib.hid mr
      clear hs1 hm1 hb1 ml mr
      by_cases hle : k1 ≤ l.size
      · go_wp2_with (go_at_call 36; refine (isLeaf_any HI.out HB1.out).mono ?_; simp only [isLeafB]; rintro e w' ⟨rfl, rfl⟩)
        go_roundw
        case rel =>
          refine ⟨bl, l, k1, m1, rfl, ML.out, rfl, hle, rfl, ?_, HS1.out⟩
          have h := HM.out
          simp only [T.text] at h
          rw [count_left _ _ _ (by rw [← T.size_eq]; exact hle)] at h
          exact h
        case measure =>
          rw [nnAt_eq HB1.out, nnAt_eq ML.out]
          simp only [T.nn]
          omega
      · have hlt : l.size < k1 := by omega
        go_wp2_with (first
          | (go_at_call 36; refine (isLeaf_any HI.out HB1.out).mono ?_; simp only [isLeafB]; rintro e w' ⟨rfl, rfl⟩)
          | (go_at_call 27; refine (lineBreaks_any HI.out (.inr ⟨bl, l, rfl, rfl, ML.out⟩)).mono ?_; rintro e w2 ⟨rfl, s2⟩; have d0 := (s2.fr.low b1 0 hb1lt (by omega)).trans c0; have d1 := (s2.fr.low b1 1 hb1lt (by omega)).trans c1; have dl := (s2.fr.low bl 3 hbllt (by omega)).trans cl; have S2 := Lib.hid (HS1.out.trans s2); clear s2; simp only [otext]))
        go_roundw
        case rel =>
          refine ⟨br, r, k1 - l.size, m1 + l.text.count 10, rfl, MR.out, ?_, by omega, ?_, ?_, S2.out⟩
          · rw [show ((k1 - l.size : Nat) : Int) = (k1 : Int) - l.size from by omega]
          · rw [show ((m1 + l.text.count 10 : Nat) : Int) = (m1 : Int) + (l.text.count 10 : Nat) from by omega]
          · have h := HM.out
            simp only [T.text] at h
            rw [count_split _ _ _ (by rw [← T.size_eq]; omega), ← T.size_eq] at h
            omega
        case measure =>
          rw [nnAt_eq HB1.out, nnAt_eq MR.out]
          simp only [T.nn]
          omega

theorem ahead_any {B : Nat} {M : Mp} {w : World} (h : Inv B [] M w) {p : Option Addr} {o : Option T} (hp : PT M p o) (k : Nat) (hk : k ≤ osize o) :
    Calls Try.prog 25 #[.pointer p, .int .i64 (k : Int)] w fun e w' => e = .returned (.int .i64 (((otext o).take k).count 10 : Nat)) ∧ St B M w M w' := by
  rcases hp with ⟨rfl, rfl⟩ | ⟨b, t, rfl, rfl, hb⟩
  · have S := Lib.hid (St.refl h)
    clear h hk
    go_enter Try.func25, Try.ntmps25
    go_wp2
    go_ret
    exact ⟨by simp [otext], S.out⟩
  · exact ahead_some h hb k hk

end Go.Proofs.Ythpgjcoccdeklaa
