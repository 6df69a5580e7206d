/-
  Valid: it is a path.
-/
import Derived.Test.YtfjdfdpelilelaaDoorPPart
import Derived.Test.YtfjdfdpelilelaaDoorPStr
namespace Go.Proofs.YtfjdfdpelilelaaDoor
open Go.RowKit

theorem cell_strs {B : Nat} {w w' : World} {xs : List (List UInt8)} (hw : w' = w.alloc (.cells (strs xs).toArray 9)) (hB : B = w.heap.size) :
    ∀ j x, xs[j]? = some x → w'.cell? ⟨B, j, none⟩ = some (.string ⟨x.toArray⟩) := by
  intro j x hx
  subst hw hB
  have hj : j < xs.length := (List.getElem?_eq_some_iff.1 hx).1
  rw [Lib.cell_of_heap (heap_alloc_new _ _)]
  simp [strs, hx]

theorem below_strs {w w' : World} {o : Obj} (hw : w' = w.alloc o) : Below w.heap.size w w' ∧ w.heap.size < w'.heap.size := by
  subst hw
  exact ⟨(Below.refl _ _).alloc (Nat.le_refl _) _, by simp⟩

set_option maxHeartbeats 1600000 in
theorem validp_any (s : ByteArray) (w : World) (hs : s.size ≤ 1000000) :
    Calls Tryd.prog 25 #[.string s] w fun e w' => e = .returned (.bool (validB s.data.toList)) ∧ Below w.heap.size w w' := by
  obtain ⟨x, hx⟩ : ∃ x, validB s.data.toList = x := ⟨_, rfl⟩
  rw [hx]
  by_cases hbig : 80 < s.size
  · have hf : x = false := by
      rw [← hx]
      unfold validB
      rw [psize]
      have e : decide (s.size ≤ 80) = false := decide_eq_false (by omega)
      rw [e]
      rfl
    subst hf
    clear hx
    go_enter Tryd.func25, Tryd.ntmps25
    go_wp2
    go_ret
    exact ⟨rfl, Below.refl _ _⟩
  · have hall : (partsL s.data.toList).all partB = x := by
      rw [← hx]
      unfold validB
      rw [psize]
      have e : decide (s.size ≤ 80) = true := decide_eq_true (by omega)
      rw [e, Bool.true_and]
    have HALL := Lib.hid hall
    have hlen := partsAux_len [] s.data.toList
    have hpos := partsAux_pos [] s.data.toList
    have hmem := partsAux_mem [] s.data.toList
    rw [psize] at hlen hmem
    have HM := Lib.hid hmem
    have HS := Lib.hid (fun W => split_any s W hs)
    clear hx hall hmem
    unfold partsL at HALL HS
    generalize partsAux [] s.data.toList = xs at *
    go_enter Tryd.func25, Tryd.ntmps25
    go_wp2_with fail
    refine (HS.out _).mono ?_
    rintro e w1 ⟨rfl, hw1⟩
    have HC := Lib.hid (cell_strs hw1 rfl)
    have HB := Lib.hid (below_strs hw1)
    clear hw1
    obtain ⟨g, hg⟩ : ∃ g, w.heap.size = g := ⟨_, rfl⟩
    rw [hg] at HC
    simp only [hg]
    have HG := Lib.hid hg
    clear hg
    go_wp2
    go_loop [11] (ValidRel xs) (fun i => xs.length - (intOf i).toNat)
    case atStart => exact ⟨0, Nat.zero_le _, rfl, rfl⟩
    case round =>
      obtain ⟨k, hk, rfl, hta⟩ := hrel
      have HT := Lib.hid hta
      clear hta
      by_cases hlt : k < xs.length
      · obtain ⟨c, hc⟩ : ∃ c, xs[k]? = some c := ⟨_, List.getElem?_eq_getElem hlt⟩
        have hcl := HC.out k c hc
        have hcs := HM.out c (List.mem_of_getElem? hc)
        have hz : (⟨c.toArray⟩ : ByteArray).data.toList = c := by simp
        have hzs : (⟨c.toArray⟩ : ByteArray).size ≤ 1000000 := by
          have e : (⟨c.toArray⟩ : ByteArray).size = c.length := by simp [ByteArray.size]
          rw [e]
          simp only [List.length_nil, Nat.zero_add] at hcs
          omega
        have kP := fun (w : World) => isPart_any ⟨c.toArray⟩ w hzs
        rw [hz] at kP
        have KP := Lib.hid kP
        have HCC := Lib.hid hc
        clear hc hz hzs kP
        cases hp : partB c with
        | true =>
          have HN := Lib.hid (allp_take HT.out HCC.out hp)
          rw [hp] at KP
          clear hp
          go_wp2_with (go_at_call 49; refine (KP.out _).mono ?_; rintro e w' ⟨rfl, rfl⟩)
          go_round
          case rel => exact ⟨k + 1, hlt, by go_num, HN.out⟩
          case measure => simp [intOf]; omega
        | false =>
          have HF := Lib.hid (show x = false from by rw [← HALL.out]; exact allp_no HCC.out hp)
          rw [hp] at KP
          clear hp
          go_wp2_with (go_at_call 49; refine (KP.out _).mono ?_; rintro e w' ⟨rfl, rfl⟩)
          go_ret
          exact ⟨by rw [HF.out]; rfl, HB.out.1⟩
      · have HF := Lib.hid (show x = true from by rw [← HALL.out, ← HT.out, List.take_of_length_le (by omega)])
        have hge : ¬ ((k : Int) < (xs.length : Int)) := by omega
        go_wp2
        go_ret
        exact ⟨by rw [HF.out]; rfl, HB.out.1⟩

end Go.Proofs.YtfjdfdpelilelaaDoor
