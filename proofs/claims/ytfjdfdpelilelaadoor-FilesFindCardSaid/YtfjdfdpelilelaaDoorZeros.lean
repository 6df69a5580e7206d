/-
  string(make([]byte, n)): a text of n bytes; Round.
-/
import Derived.Test.YtfjdfdpelilelaaDoorReplace
import Derived.Test.YtfjdfdpelilelaaDoorPiece
import Derived.Laws.BytesArg
namespace Go.Proofs.YtfjdfdpelilelaaDoor
open Go.RowKit

theorem Tryd.infoByte5 : (Tryd.prog.info? 5).map (fun i => (i.zero, i.size, i.bytes)) = some (some (.int .u8 0), 1, 1) := by kernel_rfl

/-- What a make of n bytes and the text of it come to. -/
theorem zeros (n : Nat) (k : Int) (hk : k = (n : Int)) (hn : n ≤ 1000000) : ∃ (Z : Obj) (z : ByteArray), z.size = n ∧
    (∀ w : World, (Instr.makeSlice 54 (.int .i64 k) (.int .i64 k)).run Tryd.prog w = .ok (.slice (some ⟨w.heap.size, 0, none⟩) n n) (w.alloc Z)) ∧
    (∀ w : World, (convert 54 9 (.slice (some ⟨w.heap.size, 0, none⟩) n n)).run Tryd.prog (w.alloc Z) = .ok (.string z) (w.alloc Z)) ∧
    (∀ w : World, (convert 54 9 (.slice (some ⟨w.heap.size, 0, none⟩) n n)).run Tryd.prog (w.alloc Z).drew = .ok (.string z) (w.alloc Z).drew) := by
  subst hk
  obtain ⟨i0, hi, hz0, hz1, hz2⟩ := info_parts Tryd.infoByte5
  refine ⟨.cells (madeCells (Value.int .u8 0).cells (n * i0.size)) 5, strOfNums (List.replicate n 0), by rw [strOfNums_size, List.length_replicate], fun w => ?_, fun w => ?_, fun w => ?_⟩
  · have h := run_make (P := Tryd.prog) w 54 5 i0 (.int .u8 0) Tryd.underlying54 hi hz0 .i64 .i64 (n : Int) (n : Int) (by omega) (by omega) (by rw [hz2]; omega) (by omega)
    simpa using h
  · refine run_convert_bytes_arg (P := Tryd.prog) _ 54 5 Tryd.underlying54 Tryd.underlying5 w.heap.size 0 n n (List.replicate n 0) (by simp) (fun i hi => ?_) 9 Tryd.underlying9
    rw [Lib.cell_of_heap (heap_alloc_new w _)]
    rw [← Array.getElem?_toList]
    show (madeCells #[Value.int .u8 0] (n * i0.size)).toList[0 + i]? = _
    rw [toList_madeCells_one, hz1, Nat.mul_one, Nat.zero_add]
    simp [hi]
  · refine run_convert_bytes_arg (P := Tryd.prog) _ 54 5 Tryd.underlying54 Tryd.underlying5 w.heap.size 0 n n (List.replicate n 0) (by simp) (fun i hi => ?_) 9 Tryd.underlying9
    rw [World.cell?_drew, Lib.cell_of_heap (heap_alloc_new w _)]
    rw [← Array.getElem?_toList]
    show (madeCells #[Value.int .u8 0] (n * i0.size)).toList[0 + i]? = _
    rw [toList_madeCells_one, hz1, Nat.mul_one, Nat.zero_add]
    simp [hi]

theorem ret_intz {k : IntKind} {a b : Int} (h : a = b) : Ending.returned (.int k a) = .returned (.int k b) := by rw [h]

/-- Round: somewhere from 0 to n - 1. -/
theorem round_any (a : Int) (n : Nat) (h1 : 1 ≤ n) (hn : n ≤ 1000000) (w : World) :
    Calls Tryd.prog 17 #[.int .i64 a, .int .i64 (n : Int)] w fun e w' => (∃ k : Nat, k < n ∧ e = .returned (.int .i64 (k : Int))) ∧ w = w' := by
  obtain ⟨m, hm⟩ : ∃ m, a.tmod (n : Int) = m := ⟨_, rfl⟩
  have hm1 : m < n := by rw [← hm]; exact Int.tmod_lt_of_pos _ (by omega)
  have hm2 : -(n : Int) < m := by
    rw [← hm]
    have := Int.lt_tmod_of_pos a (b := (n : Int)) (by omega)
    omega
  have hn0 : ¬ ((n : Int) = 0) := by omega
  go_enter Tryd.func17, Tryd.ntmps17
  go_wp2
  go_ret
  have r1 := Int.emod_nonneg (m + n) hn0
  have r2 := Int.emod_lt_of_pos (m + n) (b := (n : Int)) (by omega)
  exact ⟨⟨((m + n) % (n : Int)).toNat, by omega, ret_intz (by omega)⟩, rfl⟩

end Go.Proofs.YtfjdfdpelilelaaDoor
