/-
  branch: the node over two trees.
-/
import Derived.Test.YtfjdfdpelilelaaDoorSmall
import Derived.RegionTactic
import Derived.ChangeAlike
import Derived.BigRegion
namespace Go.Proofs.YtfjdfdpelilelaaDoor
open Go.RowKit

/-- What makes a tree hands back a pointer to it, in a world that has grown. -/
def Made (B : Nat) (M : Mp) (w : World) (o : Option T) (e : Ending) (w' : World) : Prop :=
  ∃ M' p, e = .returned (.pointer p) ∧ PT M' p o ∧ St B M w M' w'

theorem branch_fin {B : Nat} {M : Mp} {w : World} (h : Inv B [] M w) {bl br : Nat} {l r : T} (hl : M bl = some l) (hr : M br = some r) (hs : l.size + r.size ≤ lim) (v : Int) (hv : v = ((T.node l r).depth : Int)) :
    Made B M w (some (.node l r)) (.returned (.pointer (some ⟨w.heap.size, 0, none⟩)))
      (w.alloc (.cells #[.pointer (some ⟨bl, 0, none⟩), .pointer (some ⟨br, 0, none⟩), .string ⟨#[]⟩, .int .i64 ((l.size : Int) + r.size), .int .i64 v, .int .u32 0, .int .i32 0, .int .u32 0, .int .i64 0] 150)).drew := by
  subst hv
  have hb : Below w.heap.size w (w.alloc (.cells #[.pointer (some ⟨bl, 0, none⟩), .pointer (some ⟨br, 0, none⟩), .string ⟨#[]⟩, .int .i64 ((l.size : Int) + r.size), .int .i64 ((T.node l r).depth : Int), .int .u32 0, .int .i32 0, .int .u32 0, .int .i64 0] 150)).drew := ((Below.refl _ w).alloc (Nat.le_refl _) _).drew
  refine ⟨_, _, rfl, ?_, h.newNode hb (.node l r) (some ⟨bl, 0, none⟩) (some ⟨br, 0, none⟩) 0 0 w.heap.size (Nat.le_refl _) (heap_alloc_new w _) ⟨bl, br, rfl, rfl, hl, hr⟩ ⟨(h.full bl l hl).1, (h.full br r hr).1⟩ hs⟩
  exact .inr ⟨w.heap.size, .node l r, rfl, rfl, by simp⟩

theorem branch_any {B : Nat} {M : Mp} {w : World} (h : Inv B [] M w) {bl br : Nat} {l r : T} (hl : M bl = some l) (hr : M br = some r) (hs : l.size + r.size ≤ lim) :
    Calls Tryd.prog 70 #[.pointer (some ⟨bl, 0, none⟩), .pointer (some ⟨br, 0, none⟩)] w (Made B M w (some (.node l r))) := by
  obtain ⟨_, _, _, _, _, _, l3, l4⟩ := h.cells hl
  obtain ⟨_, _, _, _, _, _, r3, r4⟩ := h.cells hr
  obtain ⟨fl, _⟩ := h.full bl l hl
  obtain ⟨fr, _⟩ := h.full br r hr
  have dl := l.depth_le fl
  have dr := r.depth_le fr
  unfold lim at hs
  have hw : IntKind.i64.wrap ((l.size : Int) + r.size) = (l.size : Int) + r.size := IntWalk.i64_in _ (by omega)
  have H := Lib.hid h
  have HL := Lib.hid hl
  have HR := Lib.hid hr
  clear h hl hr
  go_enter Tryd.func70, Tryd.ntmps70
  go_wp2
  go_region
  all_goals go_wp2
  all_goals go_ret
  all_goals exact branch_fin H.out HL.out HR.out hs _ (by simp only [T.depth]; omega)

end Go.Proofs.YtfjdfdpelilelaaDoor
