/-
  lineBreaks: how many line breaks a tree has, counted once a node.
-/
import Derived.Test.YtfjdfdpelilelaaDoorSmall
import Derived.Test.YtfjdfdpelilelaaDoorShelf
import Derived.Deep.RegionHeld3
import Derived.Deep.RegionWith
namespace Go.Proofs.YtfjdfdpelilelaaDoor
open Go.RowKit

theorem heap_set {w : World} {b j : Nat} {cs : Array Value} {T : TypeId} {fr : Nat × Nat} (h : w.heap[b]? = some (.cells cs T fr)) (v : Value) : (w.setCell ⟨b, j, none⟩ v).heap[b]? = some (.cells (cs.setIfInBounds j v) T fr) := by
  simp [World.setCell, Array.getElem?_modify, h]

theorem heap_set_size (w : World) (a : Addr) (v : Value) : (w.setCell a v).heap.size = w.heap.size := by simp [World.setCell]

theorem set5 (lp rp : Option Addr) (t : T) (d st q br d' : Int) : nodeObj lp rp t d' st q br = .cells ((#[Value.pointer lp, .pointer rp, .string t.str, .int .i64 (t.size : Int), .int .i64 (t.depth : Int), .int .u32 d, .int .i32 st, .int .u32 q, .int .i64 br]).setIfInBounds 5 (.int .u32 d')) 150 (0, 0) := rfl
theorem set6 (lp rp : Option Addr) (t : T) (d st q br st' : Int) : nodeObj lp rp t d st' q br = .cells ((#[Value.pointer lp, .pointer rp, .string t.str, .int .i64 (t.size : Int), .int .i64 (t.depth : Int), .int .u32 d, .int .i32 st, .int .u32 q, .int .i64 br]).setIfInBounds 6 (.int .i32 st')) 150 (0, 0) := rfl
theorem set8 (lp rp : Option Addr) (t : T) (d st q br br' : Int) : nodeObj lp rp t d st q br' = .cells ((#[Value.pointer lp, .pointer rp, .string t.str, .int .i64 (t.size : Int), .int .i64 (t.depth : Int), .int .u32 d, .int .i32 st, .int .u32 q, .int .i64 br]).setIfInBounds 8 (.int .i64 br')) 150 (0, 0) := rfl

theorem node_set5 {w : World} {b : Nat} {lp rp : Option Addr} {t : T} {d st q br : Int} (h : w.heap[b]? = some (nodeObj lp rp t d st q br)) (d' : Int) : (w.setCell ⟨b, 5, none⟩ (.int .u32 d')).heap[b]? = some (nodeObj lp rp t d' st q br) := heap_set h _
theorem node_set6 {w : World} {b : Nat} {lp rp : Option Addr} {t : T} {d st q br : Int} (h : w.heap[b]? = some (nodeObj lp rp t d st q br)) (st' : Int) : (w.setCell ⟨b, 6, none⟩ (.int .i32 st')).heap[b]? = some (nodeObj lp rp t d st' q br) := heap_set h _
theorem node_set8 {w : World} {b : Nat} {lp rp : Option Addr} {t : T} {d st q br : Int} (h : w.heap[b]? = some (nodeObj lp rp t d st q br)) (br' : Int) : (w.setCell ⟨b, 8, none⟩ (.int .i64 br')).heap[b]? = some (nodeObj lp rp t d st q br') := heap_set h _

theorem node_cells {w : World} {b : Nat} {lp rp : Option Addr} {t : T} {d st q br : Int} (h : w.heap[b]? = some (nodeObj lp rp t d st q br)) :
    w.cell? ⟨b, 0, none⟩ = some (.pointer lp) ∧ w.cell? ⟨b, 1, none⟩ = some (.pointer rp) ∧ w.cell? ⟨b, 2, none⟩ = some (.string t.str) ∧ w.cell? ⟨b, 5, none⟩ = some (.int .u32 d) ∧ w.cell? ⟨b, 6, none⟩ = some (.int .i32 st) ∧ w.cell? ⟨b, 8, none⟩ = some (.int .i64 br) := by
  unfold nodeObj at h
  refine ⟨?_, ?_, ?_, ?_, ?_, ?_⟩ <;> (rw [Lib.cell_of_heap h]; rfl)

theorem node_free {w : World} {b : Nat} {lp rp : Option Addr} {t : T} {d st q br : Int} (h : w.heap[b]? = some (nodeObj lp rp t d st q br)) (j : Nat) : w.frozen? ⟨b, j, none⟩ = false := Lib.frozen_of_heap h j

theorem Inv.upper {B : Nat} {L : List Nat} {M : Mp} {w : World} (h : Inv B L M w) {b : Nat} {t : T} (hb : M b = some t) : ∃ br, w.cell? ⟨b, 8, none⟩ = some (.int .i64 br) ∧ w.frozen? ⟨b, 8, none⟩ = false := by
  obtain ⟨lp, rp, d, st, q, br, hh, _⟩ := h.node b t hb
  exact ⟨br, (node_cells hh).2.2.2.2.2, node_free hh 8⟩

/-- A store into a node's upper cells. -/
theorem Fr.setUpper {M : Mp} {w : World} {b : Nat} {t : T} (hb : M b = some t) {j : Nat} (hj : 5 ≤ j) (v : Value) : Fr M w (w.setCell ⟨b, j, none⟩ v) :=
  ⟨rfl, rfl, rfl, Nat.le_of_eq (heap_set_size w _ v).symm, fun k _ hn => Below.heap_setCell _ _ _ _ (fun e => by
      have e' : k = b := e
      rw [e', hb] at hn; cases hn),
    fun k i _ hi => World.cell?_setCell_other _ _ _ _ (fun e => by
      have := congrArg Addr.off e
      simp at this
      omega)⟩

theorem Fr.of_drew {M : Mp} {w w' : World} (s : Fr M w.drew w') : Fr M w w' := ⟨s.os, s.tape, s.output, s.size, s.block, s.low⟩
theorem Fr.drew {M : Mp} {w w' : World} (s : Fr M w w') : Fr M w w'.drew := ⟨s.os, s.tape, s.output, s.size, s.block, s.low⟩

/-- Behind the closure: the node has its count, and nothing else of it has turned. -/
def Counted (B : Nat) (L : List Nat) (M : Mp) (w : World) (b : Nat) (t : T) (w2 : World) : Prop :=
  Inv B (b :: L) M w2 ∧ Fr M w w2 ∧ ∃ lp rp q, w2.heap[b]? = some (nodeObj lp rp t 0 1 q (t.nl : Int)) ∧ kids M t lp rp

/-- What lineBreaks leaves. -/
def LB (B : Nat) (L : List Nat) (M : Mp) (w : World) (t : T) (e : Ending) (w' : World) : Prop :=
  e = .returned (.int .i64 (t.nl : Int)) ∧ Inv B L M w' ∧ Fr M w w'

end Go.Proofs.YtfjdfdpelilelaaDoor
