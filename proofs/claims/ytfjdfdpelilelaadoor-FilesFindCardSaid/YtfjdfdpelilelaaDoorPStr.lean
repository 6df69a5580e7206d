/-
  What package paths calls of the library: Split and Join at a slash, Clone, HasPrefix and LastIndexByte of a slash.
-/
import Derived.Test.YtfjdfdpelilelaaDoorShelf
import Derived.Test.YtfjdfdpelilelaaDoorSplitL
import Derived.Test.YtfjdfdpelilelaaDoorRefStrs
import Derived.Test.YtfjdfdpelilelaaDoorRefClean
namespace Go.Proofs.YtfjdfdpelilelaaDoor
open Go.RowKit Go.Shelf

theorem slash_index (x : ByteArray) : Go.Lib.indexB x ⟨#[47]⟩ = Go.Lib.indexByte x.data.toList 47 := Go.Lib.index_one x.data.toList 47

theorem slash_count (x : ByteArray) : Go.Lib.countB x ⟨#[47]⟩ = x.data.toList.count 47 := Go.Lib.count_one 47 x.data.toList

theorem parts_count (s : ByteArray) : (partsL s.data.toList).length = Go.Lib.countB s ⟨#[47]⟩ + 1 := by
  rw [← split_parts, List.length_map]
  exact Go.Lib.splitB_all ⟨#[47]⟩ (Nat.le_refl 1) 0 _ s rfl

theorem strs_split (s : ByteArray) : (Go.Lib.splitB ⟨#[47]⟩ 0 (Go.Lib.countB s ⟨#[47]⟩) s).map Value.string = strs (partsL s.data.toList) := by
  rw [← split_parts]
  unfold strs
  rw [List.map_map]
  apply List.map_congr_left
  intro x _
  simp

theorem count_le (l : List UInt8) : l.count 47 ≤ l.length := List.count_le_length

set_option maxHeartbeats 1000000 in
theorem genSplit_any (s : ByteArray) (w : World) (hs : s.size ≤ 1000000) :
    Calls Tryd.prog 67 #[.string s, .string ⟨#[47]⟩, .int .i64 0, .int .i64 (-1)] w fun e w' =>
      e = .returned (.slice (some ⟨w.heap.size, 0, none⟩) (partsL s.data.toList).length (partsL s.data.toList).length) ∧ w' = w.alloc (.cells (strs (partsL s.data.toList)).toArray 9) := by
  have hlen := Go.Lib.splitB_all ⟨#[47]⟩ (Nat.le_refl 1) 0 _ s rfl
  have hcl : Go.Lib.countB s ⟨#[47]⟩ ≤ s.size := by
    rw [slash_count]
    exact count_le _
  have c := Any.strings_genSplit_core Tryd.lays221 (by kernel_rfl) s ⟨#[47]⟩ 0 (-1) (Go.Lib.countB s ⟨#[47]⟩ + 1) w (by omega) (Nat.le_refl 1) (Nat.zero_le _)
    (fun x c _ => (Tryd.strings_Index_one x 47 _).mono fun e w' ⟨he, hw⟩ => ⟨by rw [he, slash_index], hw⟩)
    ((Tryd.strings_Count_one s 47 w).mono fun e w' ⟨he, hw⟩ => ⟨by rw [he, slash_count]; rfl, hw⟩) (by decide) (by decide) (by rw [if_pos (by decide)]; omega)
  rw [Nat.add_sub_cancel, hlen] at c
  have e2 : Go.Lib.cellsOf (Go.Lib.splitB ⟨#[47]⟩ 0 (Go.Lib.countB s ⟨#[47]⟩) s) (Go.Lib.countB s ⟨#[47]⟩ + 1) = (strs (partsL s.data.toList)).toArray := by
    rw [← strs_split, ← hlen]
    exact Go.Lib.cellsOf_full _
  rw [e2, ← parts_count] at c
  exact c

set_option maxHeartbeats 1000000 in
theorem split_any (s : ByteArray) (w : World) (hs : s.size ≤ 1000000) :
    Calls Tryd.prog 48 #[.string s, .string ⟨#[47]⟩] w fun e w' =>
      e = .returned (.slice (some ⟨w.heap.size, 0, none⟩) (partsL s.data.toList).length (partsL s.data.toList).length) ∧ w' = w.alloc (.cells (strs (partsL s.data.toList)).toArray 9) := by
  have c := genSplit_any s w hs
  go_enter Tryd.func48, Tryd.ntmps48
  go_wp2_with (go_at_call 67; refine c.mono ?_; rintro e w' ⟨rfl, hw⟩; rw [hw])
  go_ret
  exact ⟨rfl, rfl⟩

/-- What Join reads and gives, of a list that the call has made itself. -/
theorem joins_any (B : Nat) (v : Value) (out : List (List UInt8)) (w : World) (h : OwnStrs B v out w) (hs : (joinL out).length ≤ 1000000) (hn : out.length ≤ 1000000) :
    Calls Tryd.prog 97 #[v, .string ⟨#[47]⟩] w fun e w' => e = .returned (.string ⟨(joinL out).toArray⟩) ∧ Below w.heap.size w w' := by
  rcases Nat.eq_zero_or_pos out.length with hz | hz
  · have : out = [] := List.eq_nil_of_length_eq_zero hz
    subst this
    obtain ⟨a0, c0, rfl⟩ := OwnStrs.nil h
    exact (Tryd.strings_Join_none a0 c0 ⟨#[47]⟩ w).mono fun e w' ⟨he, hw⟩ => ⟨he, hw ▸ Below.refl _ _⟩
  · have hlt := h
    obtain ⟨g, cp, rfl, hg, hcp, hcm, hcells⟩ := OwnStrs.form h hz
    have e1 : (out.map fun x => (⟨x.toArray⟩ : ByteArray)).map (·.data.toList) = out := by
      rw [List.map_map]
      conv => rhs; rw [← List.map_id out]
      apply List.map_congr_left
      intro x _
      simp
    have hgw : g < w.heap.size := (World.ownsRow.lt hlt g rfl).2
    have c := Tryd.strings_Join g 0 cp (out.map fun x => (⟨x.toArray⟩ : ByteArray)) ⟨#[47]⟩ w
      (fun j x hx => by
        rw [List.getElem?_map] at hx
        obtain ⟨y, hy, rfl⟩ := Option.map_eq_some_iff.1 hx
        rw [Nat.zero_add]
        exact hcells j y hy)
      hgw (by rw [List.length_map]; omega) (by rw [List.length_map]; exact hcp)
      (by rw [e1, show (⟨#[47]⟩ : ByteArray).data.toList = [47] from rfl, join_joinL]; omega)
    rw [e1, show (⟨#[47]⟩ : ByteArray).data.toList = [47] from rfl, join_joinL, List.length_map] at c
    exact c

theorem strClone_any (s : ByteArray) (w : World) (hs : s.size ≤ 1000000) :
    Calls Tryd.prog 26 #[.string s] w fun e w' => e = .returned (.string s) ∧ Below w.heap.size w w' := by
  have c := Tryd.stringslite_Clone s w (by omega)
  go_enter Tryd.func26, Tryd.ntmps26
  go_wp2_with (go_at_call 50; refine c.mono ?_; rintro e w' ⟨rfl, hw⟩)
  go_ret
  exact ⟨rfl, hw⟩

end Go.Proofs.YtfjdfdpelilelaaDoor
