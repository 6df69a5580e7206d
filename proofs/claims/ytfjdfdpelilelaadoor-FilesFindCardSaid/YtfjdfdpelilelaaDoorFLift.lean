/-
  Lists of texts that came in, as the laws of files read them.
-/
import Derived.Test.YtfjdfdpelilelaaDoorPLift
import Derived.Test.YtfjdfdpelilelaaDoorFNew
namespace Go.Proofs.YtfjdfdpelilelaaDoor
open Go.ChangeShapes Go.WideShapes Go.ChangeAt Go.RowKit Go.ChangeMaps

theorem lift_cell1 : Tryd.prog.cellsOf 9 = 1 := by kernel_rfl

theorem read_strs {H : Type} {enc : TypeId × Value → H} {W : World} {base : Nat} {sp : Nat → Bool} {held : Bool} {fuel : Nat} {a : Option Addr} {len cap : Nat} {x : DataW H × List MemPlace}
    (h : DataW.trod enc Tryd.prog W base sp held fuel 22 (Value.cells (.slice a len cap)).toList = some x) :
    ∃ xs : List (List UInt8), xs.length = len ∧ StrsAt a xs W ∧ len ≤ 9223372036854775807 ∧ ∀ y ∈ xs, y.length ≤ 9223372036854775807 := by
  rcases open_strings Tryd.underlying22 Tryd.underlying9 lift_cell1 h with ⟨hcs, -⟩ | ⟨a0, len', cap', ss, hcs, -, hl, hm, hz, -, hcell, hsz⟩
  · simp [Value.cells] at hcs
    obtain ⟨rfl, rfl, rfl⟩ := hcs
    exact ⟨[], rfl, fun i x hx => by simp at hx, by decide, fun y hy => by cases hy⟩
  · simp [Value.cells] at hcs
    obtain ⟨rfl, rfl, rfl⟩ := hcs
    have hlen : len ≤ ss.length := by
      rw [hz]
      split <;> omega
    unfold maxLen at hm hsz
    refine ⟨(ss.take len).map fun s => s.data.toList, by rw [List.length_map, List.length_take]; omega, ?_, by omega, ?_⟩
    · intro i x hx
      rw [List.getElem?_map] at hx
      obtain ⟨s, hs, rfl⟩ := Option.map_eq_some_iff.1 hx
      have hi : i < len := by
        rcases Nat.lt_or_ge i len with h | h
        · exact h
        · rw [List.getElem?_eq_none (by rw [List.length_take]; omega)] at hs; cases hs
      rw [List.getElem?_take_of_lt hi] at hs
      have hc := hcell i (by omega)
      rw [List.getD, hs] at hc
      have hlt := World.block_lt_of_cell? W _ hc
      rw [add_block] at hlt
      refine ⟨_, rfl, hlt, ?_⟩
      rw [hc]
      simp
    · intro y hy
      obtain ⟨s, hs, rfl⟩ := List.mem_map.1 hy
      have := hsz s (List.mem_of_mem_take hs)
      simpa using this

end Go.Proofs.YtfjdfdpelilelaaDoor
