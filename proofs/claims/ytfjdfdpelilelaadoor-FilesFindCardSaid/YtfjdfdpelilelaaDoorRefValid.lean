/-
  Valid: it is a path.
-/
import Derived.Test.YtfjdfdpelilelaaDoorRefParts
import Derived.Lib.Builder
namespace Go.Proofs.YtfjdfdpelilelaaDoor
open Go.RowKit

theorem partsAux_pos (acc l : List UInt8) : 1 ≤ (partsAux acc l).length := by
  induction l generalizing acc with
  | nil => simp [partsAux]
  | cons c r ih =>
    unfold partsAux
    split
    · simp
    · exact ih _

/-- A list of texts that is not empty, as a walk reads it. -/
theorem OwnStrs.form {B : Nat} {v : Value} {xs : List (List UInt8)} {w : World} (h : OwnStrs B v xs w) (hn : 1 ≤ xs.length) :
    ∃ g cap, v = .slice (some ⟨g, 0, none⟩) xs.length cap ∧ B ≤ g ∧ xs.length ≤ cap ∧ cap ≤ maxLen ∧ ∀ j x, xs[j]? = some x → w.cell? ⟨g, j, none⟩ = some (.string ⟨x.toArray⟩) := by
  obtain ⟨h1, h2 | ⟨g, cap, cur, rfl, hg, hh, hc, hm, hs, ht⟩⟩ := h
  · omega
  · refine ⟨g, cap, rfl, hg, hc, hm, fun j x hx => ?_⟩
    rw [Lib.cell_of_heap hh, ← Array.getElem?_toList]
    have hj : j < xs.length := by
      rcases Nat.lt_or_ge j xs.length with h | h
      · exact h
      · rw [List.getElem?_eq_none h] at hx; cases hx
    have e : (cur.toList.take (xs.length * 1))[j]? = (strs xs)[j]? := by rw [ht]
    rw [List.getElem?_take_of_lt (by omega)] at e
    rw [e]
    simp [strs, hx]

theorem OwnStrs.nil {B : Nat} {v : Value} {w : World} (h : OwnStrs B v [] w) : ∃ a cap, v = .slice a 0 cap := by
  obtain ⟨_, ⟨rfl, _⟩ | ⟨g, cap, cur, rfl, _⟩⟩ := h
  · exact ⟨none, 0, rfl⟩
  · exact ⟨_, cap, rfl⟩

theorem partsAux_mem (acc l : List UInt8) : ∀ x ∈ partsAux acc l, x.length ≤ acc.length + l.length := by
  induction l generalizing acc with
  | nil => intro x hx; simp [partsAux] at hx; subst hx; simp
  | cons c r ih =>
    intro x hx
    unfold partsAux at hx
    split at hx
    · rcases List.mem_cons.1 hx with rfl | hx
      · simp
      · have := ih [] x hx
        simp only [List.length_cons, List.length_nil] at this ⊢
        omega
    · have := ih (acc ++ [c]) x hx
      simp only [List.length_append, List.length_cons, List.length_nil] at this ⊢
      omega

def ValidRel (xs : List (List UInt8)) (i : Value) : Prop := ∃ k : Nat, k ≤ xs.length ∧ i = .int .i64 (k : Int) ∧ (xs.take k).all partB = true

theorem allp_take {p : List UInt8 → Bool} {l : List (List UInt8)} {k : Nat} {c : List UInt8} (h : (l.take k).all p = true) (hc : l[k]? = some c) (hp : p c = true) : (l.take (k + 1)).all p = true := by
  rw [List.take_add_one, hc]
  simp [h, hp]

theorem allp_no {p : List UInt8 → Bool} {l : List (List UInt8)} {k : Nat} {c : List UInt8} (hc : l[k]? = some c) (hp : p c = false) : l.all p = false := by
  rw [List.all_eq_false]
  exact ⟨c, List.mem_of_getElem? hc, by rw [hp]; decide⟩

set_option maxHeartbeats 1600000 in
theorem valid_any (s : ByteArray) (w : World) :
    Calls Tryd.prog 24 #[.string s] w fun e w' => e = .returned (.bool (validB s.data.toList)) ∧ Below w.heap.size w w' := by
  have hnot : ∀ (x : Bool) (w : World), (Op.unary .not (.bool x)).run Tryd.prog w = .ok (.bool (!x)) w := fun _ _ => rfl
  obtain ⟨x, hx⟩ : ∃ x, validB s.data.toList = x := ⟨_, rfl⟩
  rw [hx]
  by_cases hbig : 80 < s.size
  · have hf : x = false := by
      rw [← hx]
      unfold validB
      rw [psize]
      have e : decide (s.size ≤ 80) = false := decide_eq_false (by omega)
      rw [e]
      rfl
    subst hf
    clear hx
    go_enter Tryd.func24, Tryd.ntmps24
    go_wp2
    go_ret
    exact ⟨rfl, Below.refl _ _⟩
  · have hall : (partsL s.data.toList).all partB = x := by
      rw [← hx]
      unfold validB
      rw [psize]
      have e : decide (s.size ≤ 80) = true := decide_eq_true (by omega)
      rw [e, Bool.true_and]
    have HALL := Lib.hid hall
    have hlen := partsAux_len [] s.data.toList
    have hpos := partsAux_pos [] s.data.toList
    have hmem := partsAux_mem [] s.data.toList
    rw [psize] at hlen hmem
    have HM := Lib.hid hmem
    clear hx hall hmem
    go_enter Tryd.func24, Tryd.ntmps24
    go_wp2_with fail
    refine (parts_any s _ (by omega)).mono ?_
    rintro e w1 ⟨v, rfl, hown, hbel⟩
    unfold partsL at hown HALL
    generalize partsAux [] s.data.toList = xs at *
    obtain ⟨g, cap, rfl, hg, hc1, hc2, hcell⟩ := OwnStrs.form hown hpos
    have HB := Lib.hid hbel
    have HC := Lib.hid hcell
    clear hown hbel hcell
    unfold maxLen at hc2
    go_wp2
    go_loop [4] (ValidRel xs) (fun i => xs.length - (intOf i).toNat)
    case atStart => exact ⟨0, Nat.zero_le _, rfl, rfl⟩
    case round =>
      obtain ⟨k, hk, rfl, hta⟩ := hrel
      have HT := Lib.hid hta
      clear hta
      by_cases hlt : k < xs.length
      · obtain ⟨c, hc⟩ : ∃ c, xs[k]? = some c := ⟨_, List.getElem?_eq_getElem hlt⟩
        have hcl := HC.out k c hc
        have hcs := HM.out c (List.mem_of_getElem? hc)
        have hz : (⟨c.toArray⟩ : ByteArray).data.toList = c := by simp
        have hzs : (⟨c.toArray⟩ : ByteArray).size ≤ 1000000 := by
          have e : (⟨c.toArray⟩ : ByteArray).size = c.length := by simp [ByteArray.size]
          rw [e]
          simp only [List.length_nil, Nat.zero_add] at hcs
          omega
        have kP := fun (w : World) => part_any ⟨c.toArray⟩ w hzs
        rw [hz] at kP
        have KP := Lib.hid kP
        have HCC := Lib.hid hc
        clear hc hz hzs kP
        cases hp : partB c with
        | true =>
          have HN := Lib.hid (allp_take HT.out HCC.out hp)
          rw [hp] at KP
          clear hp
          go_wp2_with (go_at_call 47; refine (KP.out _).mono ?_; rintro e w' ⟨rfl, rfl⟩)
          go_round
          case rel => exact ⟨k + 1, hlt, by go_num, HN.out⟩
          case measure => simp [intOf]; omega
        | false =>
          have HF := Lib.hid (show x = false from by rw [← HALL.out]; exact allp_no HCC.out hp)
          rw [hp] at KP
          clear hp
          go_wp2_with (go_at_call 47; refine (KP.out _).mono ?_; rintro e w' ⟨rfl, rfl⟩)
          go_ret
          exact ⟨by rw [HF.out]; rfl, HB.out⟩
      · have HF := Lib.hid (show x = true from by rw [← HALL.out, ← HT.out, List.take_of_length_le (by omega)])
        have hge : ¬ ((k : Int) < (xs.length : Int)) := by omega
        go_wp2
        go_ret
        exact ⟨by rw [HF.out]; rfl, HB.out⟩

end Go.Proofs.YtfjdfdpelilelaaDoor
