/-
  Parts: a text at each slash.
-/
import Derived.Test.YtfjdfdpelilelaaDoorRefPart
namespace Go.Proofs.YtfjdfdpelilelaaDoor
open Go.RowKit

def cutL (l : List UInt8) (f k : Nat) : List UInt8 := (l.drop f).take (k - f)

/-- Texts as cells. -/
def strs (xs : List (List UInt8)) : List Value := xs.map fun x => Value.string ⟨x.toArray⟩

theorem strs_append (a b : List (List UInt8)) : strs (a ++ b) = strs a ++ strs b := by simp [strs]
theorem strs_length (a : List (List UInt8)) : (strs a).length = a.length := by simp [strs]

theorem extract_cut (s : ByteArray) (f k : Nat) : s.extract f k = ⟨(cutL s.data.toList f k).toArray⟩ := by
  apply ByteArray.ext
  rw [ByteArray.data_extract]
  apply Array.toList_inj.1
  simp only [cutL, Array.toList_extract, List.extract_eq_take_drop]

theorem cut_self (l : List UInt8) (k : Nat) : cutL l k k = [] := by simp [cutL]

theorem cut_snoc {l : List UInt8} {f k : Nat} {c : UInt8} (h : f ≤ k) (hc : l[k]? = some c) : cutL l f (k + 1) = cutL l f k ++ [c] := by
  unfold cutL
  rw [show k + 1 - f = (k - f) + 1 from by omega, List.take_add_one, List.getElem?_drop, show f + (k - f) = k from by omega, hc]
  rfl

theorem drop_cons {l : List UInt8} {k : Nat} {c : UInt8} (hc : l[k]? = some c) : l.drop k = c :: l.drop (k + 1) := by
  rw [List.getElem?_eq_some_iff] at hc
  obtain ⟨h, rfl⟩ := hc
  exact List.drop_eq_getElem_cons h

/-- A list of texts that the call has made itself. -/
def OwnStrs (B : Nat) (v : Value) (xs : List (List UInt8)) (w : World) : Prop := w.ownsRow B 9 1 v xs.length (strs xs)

def PartsRel (s : ByteArray) (w : World) (v f i : Value) (wr : World) : Prop :=
  ∃ (k a : Nat) (done : List (List UInt8)), i = .int .i64 (k : Int) ∧ f = .int .i64 (a : Int) ∧ OwnStrs w.heap.size v done wr ∧ Below w.heap.size w wr ∧ done.length ≤ k ∧
    ((k ≤ s.size ∧ a ≤ k ∧ partsL s.data.toList = done ++ partsAux (cutL s.data.toList a k) (s.data.toList.drop k)) ∨ (k = s.size + 1 ∧ a ≤ k ∧ partsL s.data.toList = done))

def PartsPost (s : ByteArray) (w : World) (e : Ending) (w' : World) : Prop :=
  ∃ v, e = .returned v ∧ OwnStrs w.heap.size v (partsL s.data.toList) w' ∧ Below w.heap.size w w'

theorem Tryd.infoStr : (Tryd.prog.info? 9).map (fun i => (i.zero, i.size, i.bytes)) = some (some (.string ⟨#[]⟩), 1, 16) := by kernel_rfl

theorem own_put {B : Nat} {v' : Value} {xs : List (List UInt8)} {x : List UInt8} {w : World} (h : w.ownsRow B 9 1 v' (xs.length + 1) (strs xs ++ [Value.string ⟨x.toArray⟩])) : OwnStrs B v' (xs ++ [x]) w := by
  unfold OwnStrs
  rw [strs_append, List.length_append]
  exact h

set_option maxHeartbeats 1600000 in
set_option maxRecDepth 100000 in
theorem parts_any (s : ByteArray) (w : World) (hs : s.size ≤ 1000000) : Calls Tryd.prog 46 #[.string s] w (PartsPost s w) := by
  obtain ⟨i0, hi, hz0, hz1, hz2⟩ := info_parts Tryd.infoStr
  go_enter Tryd.func46, Tryd.ntmps46
  go_wp2
  go_loopw [3, 4, 5] (PartsRel s w) (fun _ _ i _ => s.size + 1 - (intOf i).toNat)
  case atStart => exact ⟨0, 0, [], rfl, rfl, World.ownsRow_nil _ _ _ _, Below.refl _ _, Nat.le_refl _, .inl ⟨Nat.zero_le _, Nat.le_refl _, by rw [cut_self]; rfl⟩⟩
  case round =>
    obtain ⟨k, a, done, rfl, rfl, hown, hbel, hdl, hcase⟩ := hrel
    have HO := Lib.hid hown
    have HB := Lib.hid hbel
    have HC := Lib.hid hcase
    clear hown hbel hcase
    by_cases hk : k ≤ s.size
    · have hal : a ≤ k ∧ partsL s.data.toList = done ++ partsAux (cutL s.data.toList a k) (s.data.toList.drop k) := by
        rcases HC.out with h | h
        · exact h.2
        · omega
      have hak := hal.1
      have HP := Lib.hid hal.2
      clear hal
      by_cases he : k = s.size
      · have he1 : (((k : Nat) : Int) == (s.size : Int)) = true := by rw [beq_iff_eq]; omega
        have HE := Lib.hid he
        clear he
        go_wp2_with (at_builtin; refine wpList_append_own _ rfl _ _ 22 rfl w.heap.size 9 i0 (.string ⟨#[]⟩) 1 16 Tryd.underlying22 hi hz0 hz1 hz2 rfl (by decide) _ _ _ rfl (HO.out.alloc _) ⟨wr.heap.size, 0, none⟩ 1 1 [.string (s.extract a k)] rfl rfl ?c1 ?c2 ?c3 ?c4 ?c5 ?_)
        case c1 =>
          intro j u hj
          match j, hj with
          | 0, hj => simp at hj; subst hj; simp [Addr.add]
        case c2 => intro u hu; simp at hu; subst hu; rfl
        case c3 => unfold maxLen; omega
        case c4 => omega
        case c5 => have := HB.out.size; simp; omega
        intro v' w1 hown' hgrow _
        have hbel1 : Below w.heap.size w w1 := (HB.out.alloc HB.out.size _).grown hgrow (by have := HB.out.size; simp; omega) (fun g hg => (World.ownsRow.lt HO.out g hg).1)
        rw [extract_cut] at hown'
        have HO' := Lib.hid (own_put (x := cutL s.data.toList a k) hown')
        have HB' := Lib.hid hbel1
        clear hown' hgrow hbel1
        go_wp2
        go_roundw
        case rel =>
          refine ⟨k + 1, k + 1, done ++ [cutL s.data.toList a k], by go_num, by go_num, HO'.out, HB'.out, by simp; omega, .inr ⟨by rw [HE.out], Nat.le_refl _, ?_⟩⟩
          rw [HP.out, HE.out, List.drop_of_length_le (by rw [psize]; exact Nat.le_refl _)]
          rfl
        case measure => simp [intOf]; omega
      · have he1 : (((k : Nat) : Int) == (s.size : Int)) = false := by rw [beq_eq_false_iff_ne]; omega
        have hlt : k < s.size := by omega
        have hat := Lib.hid (at_toList s k hlt)
        by_cases hb : s[k]'hlt = 47
        · have hb1 : ((((s[k]'hlt).toNat : Int)) == 47) = true := by rw [hb]; rfl
          have HBY := Lib.hid hb
          clear hb
          go_wp2_with (at_builtin; refine wpList_append_own _ rfl _ _ 22 rfl w.heap.size 9 i0 (.string ⟨#[]⟩) 1 16 Tryd.underlying22 hi hz0 hz1 hz2 rfl (by decide) _ _ _ rfl (HO.out.alloc _) ⟨wr.heap.size, 0, none⟩ 1 1 [.string (s.extract a k)] rfl rfl ?c1 ?c2 ?c3 ?c4 ?c5 ?_)
          case c1 =>
            intro j u hj
            match j, hj with
            | 0, hj => simp at hj; subst hj; simp [Addr.add]
          case c2 => intro u hu; simp at hu; subst hu; rfl
          case c3 => unfold maxLen; omega
          case c4 => omega
          case c5 => have := HB.out.size; simp; omega
          intro v' w1 hown' hgrow _
          have hbel1 : Below w.heap.size w w1 := (HB.out.alloc HB.out.size _).grown hgrow (by have := HB.out.size; simp; omega) (fun g hg => (World.ownsRow.lt HO.out g hg).1)
          rw [extract_cut] at hown'
          have HO' := Lib.hid (own_put (x := cutL s.data.toList a k) hown')
          have HB' := Lib.hid hbel1
          clear hown' hgrow hbel1
          go_wp2
          go_roundw
          case rel =>
            refine ⟨k + 1, k + 1, done ++ [cutL s.data.toList a k], by go_num, by go_num, HO'.out, HB'.out, by simp; omega, .inl ⟨hlt, Nat.le_refl _, ?_⟩⟩
            rw [HP.out, drop_cons hat.out, HBY.out, cut_self]
            simp [partsAux]
          case measure => simp [intOf]; omega
        · have hb1 : ((((s[k]'hlt).toNat : Int)) == 47) = false := by
            rw [beq_eq_false_iff_ne]
            intro e
            apply hb
            apply UInt8.toNat_inj.1
            have : (s[k]'hlt).toNat = 47 := by omega
            rw [this]
            rfl
          have HBY := Lib.hid hb
          clear hb
          go_wp2
          go_roundw
          case rel =>
            refine ⟨k + 1, a, done, by go_num, rfl, HO.out, HB.out, by omega, .inl ⟨hlt, by omega, ?_⟩⟩
            rw [HP.out, drop_cons hat.out, cut_snoc hak hat.out]
            simp [partsAux, HBY.out]
          case measure => simp [intOf]; omega
    · have hP : partsL s.data.toList = done := by
        rcases HC.out with h | h
        · omega
        · exact h.2.2
      have HP := Lib.hid hP
      clear hP
      have hk2 : ¬ ((k : Int) ≤ (s.size : Int)) := by omega
      go_wp2
      go_ret
      exact ⟨_, rfl, by rw [HP.out]; exact HO.out, HB.out⟩

end Go.Proofs.YtfjdfdpelilelaaDoor
