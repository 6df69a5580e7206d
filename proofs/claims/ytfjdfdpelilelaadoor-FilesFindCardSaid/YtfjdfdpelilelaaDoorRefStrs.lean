/-
  Lists of texts that the call has made: appended to one another, and by one, at a step of a region that draws.
-/
import Derived.Test.YtfjdfdpelilelaaDoorRefValid
import Derived.Deep.RegionHeld3
import Derived.Deep.AppendLies
import Derived.Laws.AppendOwnNone
import Derived.OwnWalk
namespace Go.Proofs.YtfjdfdpelilelaaDoor
open Go.RowKit

theorem strs_oneCell (xs : List (List UInt8)) : ∀ u ∈ strs xs, u.oneCell' = true := by
  intro u hu
  simp only [strs, List.mem_map] at hu
  obtain ⟨x, _, rfl⟩ := hu
  rfl

theorem own_empty {B g : Nat} {w : World} (h : w.heap[g]? = some (.cells #[] 9)) (hB : B ≤ g) : OwnStrs B (.slice (some ⟨g, 0, none⟩) 0 0) [] w :=
  ⟨rfl, .inr ⟨g, 0, #[], rfl, hB, h, Nat.le_refl _, Nat.zero_le _, rfl, rfl⟩⟩

theorem row_below {B n : Nat} {v : Value} {xs : List Value} {w : World} (h : w.ownsRow B 9 1 v n xs) : ∀ k, v.ownBlock = some k → B ≤ k := fun k hk => (World.ownsRow.lt h k hk).1

theorem run_spread {ty : TypeId} {B : Nat} {d v : Value} {out : List (List UInt8)} {w : World} (hd : OwnStrs B d [] w) (hv : OwnStrs B v out w) (hlen : out.length ≤ 2000000) (hB : B ≤ w.heap.size) :
    ∃ v' w', (Builtin.append_ #[22, 22] ty #[d, v]).run Tryd.prog w = .ok v' w' ∧ OwnStrs B v' out w' ∧ w.grownBy w' d.ownBlock := by
  obtain ⟨i0, hi, hz0, hz1, hz2⟩ := info_parts Tryd.infoStr
  rcases hv.2 with ⟨rfl, h0⟩ | ⟨g, cap, cur, rfl, hg, hh, hc, hm, hs, ht⟩
  · have : out = [] := List.eq_nil_of_length_eq_zero h0
    subst this
    exact ⟨d, w, run_append_owned_none (P := Tryd.prog) (w := w) B 22 ty 9 i0 1 Tryd.underlying22 hi d 0 [] hd, hd, World.grownBy.refl w _⟩
  · obtain ⟨v', w', hr, h2, h3, -⟩ := run_append_own (P := Tryd.prog) w B 22 ty 9 i0 (.string ⟨#[]⟩) 1 16 Tryd.underlying22 hi hz0 hz1 hz2 rfl (by decide) d 0 [] hd ⟨g, 0, none⟩ out.length cap (strs out) (by rw [strs_length, Nat.mul_one]) (World.ownsRow.cells hv rfl) (strs_oneCell out) (by unfold maxLen; omega) (by omega) hB
    refine ⟨v', w', hr, ?_, h3⟩
    rw [Nat.zero_add, List.nil_append] at h2
    exact h2

theorem catFits {a b : ByteArray} (h : a.size + b.size ≤ 2000000) : (a.size + b.size > 9223372036854775807) = False := by
  simp only [eq_iff_iff, iff_false]
  omega

theorem bytes_of {S : ByteArray} {l : List UInt8} (h : S.data.toList = l) : S = ⟨l.toArray⟩ := by
  subst h
  simp

theorem cat_list (a b : ByteArray) : (a ++ b).data.toList = a.data.toList ++ b.data.toList := by simp

/-- What lay ahead has not changed, and new blocks lie behind it. -/
def BB (B : Nat) (W w : World) : Prop := Below B W w ∧ B ≤ w.heap.size

theorem BB.drew {B : Nat} {W w : World} (h : BB B W w) : BB B W w.drew := ⟨h.1.drew, h.2⟩
theorem BB.alloc {B : Nat} {W w : World} (h : BB B W w) {o : Obj} : BB B W (w.alloc o) := ⟨h.1.alloc h.2 o, by simp; have := h.2; omega⟩
theorem BB.cell {B : Nat} {W w : World} (h : BB B W w) {g j : Nat} {u : Value} (hg : g < B) (hc : W.cell? ⟨g, j, none⟩ = some u) : w.cell? ⟨g, j, none⟩ = some u := (h.1.cell (p := ⟨g, j, none⟩) hg).trans hc
theorem OwnStrs.drew {B : Nat} {v : Value} {xs : List (List UInt8)} {w : World} (h : OwnStrs B v xs w) : OwnStrs B v xs w.drew := h
theorem OwnStrs.alloc {B : Nat} {v : Value} {xs : List (List UInt8)} {w : World} (h : OwnStrs B v xs w) {o : Obj} : OwnStrs B v xs (w.alloc o) := World.ownsRow.alloc h o
theorem own_empty1 {B : Nat} {w : World} (hB : B ≤ w.heap.size) : OwnStrs B (.slice (some ⟨w.heap.size, 0, none⟩) 0 0) [] (w.alloc (.cells #[] 9)) := own_empty (heap_alloc_new _ _) hB
theorem own_empty2 {B : Nat} {w : World} {o : Obj} (hB : B ≤ w.heap.size) : OwnStrs B (.slice (some ⟨w.heap.size + 1, 0, none⟩) 0 0) [] ((w.alloc o).alloc (.cells #[] 9)) := by
  have h := own_empty1 (w := w.alloc o) (B := B) (by simp; omega)
  rw [show (w.alloc o).heap.size = w.heap.size + 1 from by simp] at h
  exact h

theorem one_cell {w : World} {c : Value} {t : TypeId} : (w.alloc (.cells #[c] t)).cell? ⟨w.heap.size, 0, none⟩ = some c := by simp
theorem one_cell2 {w : World} {c : Value} {t : TypeId} {o : Obj} : ((w.alloc o).alloc (.cells #[c] t)).cell? ⟨w.heap.size + 1, 0, none⟩ = some c := by
  have h := one_cell (w := w.alloc o) (c := c) (t := t)
  rw [show (w.alloc o).heap.size = w.heap.size + 1 from by simp] at h
  exact h
theorem one_cell1 {w : World} {c : Value} {t : TypeId} {o : Obj} : ((w.alloc (.cells #[c] t)).alloc o).cell? ⟨w.heap.size, 0, none⟩ = some c := by
  rw [World.cell?_of_block (w := w.alloc (.cells #[c] t)) (Below.heap_alloc _ _ _ (by simp))]
  exact one_cell
theorem cell_drew {w : World} {a : Addr} {u : Value} (h : w.cell? a = some u) : w.drew.cell? a = some u := h

theorem step_spread {ops : Array Oper} {o : Oper} {a : Act} {w : World} {K : Act → World → Prop} {Q : Exit → Act → World → Prop} {E : Prop} (hgd : o.guard = none) (s x : Operand)
    (ho : o.op = .call { callee := .builtin .append, args := #[s, x], argTypes := #[22, 22] })
    (B : Nat) (W : World) (d v : Value) (out : List (List UInt8)) (hs : a.eval s = d) (hx : a.eval x = v) (hd : OwnStrs B d [] w) (hv : OwnStrs B v out w) (hlen : out.length ≤ 2000000) (hW : BB B W w)
    (h : ∀ v' w', OwnStrs B v' out w' → w.grownBy w' d.ownBlock → BB B W w' → K (a.put o.dst v') w') :
    if Region.wanted o (yielded ops a.tmps) = true then Oper.wp Tryd.prog o a w K Q else E := by
  have hw : Region.wanted o (yielded ops a.tmps) = true := by simp [Region.wanted, hgd]
  rw [if_pos hw]
  obtain ⟨v', w', hr, h2, h3⟩ := run_spread (ty := o.type) hd hv hlen hW.2
  unfold Oper.wp execOp
  simp only [ho, resolve, invoke, builtin, Sem.run_bind, Sem.run_pure, Result.andThen_ok, List.map_toArray, List.map_cons, List.map_nil, hs, hx, hr]
  exact h v' w' h2 h3 ⟨hW.1.grown h3 hW.2 (row_below hd), Nat.le_trans hW.2 h3.size⟩

theorem step_one {ops : Array Oper} {o : Oper} {a : Act} {w : World} {K : Act → World → Prop} {Q : Exit → Act → World → Prop} {E : Prop} (hgd : o.guard = none) (s x : Operand)
    (ho : o.op = .call { callee := .builtin .append, args := #[s, x], argTypes := #[22, 22] })
    (B : Nat) (W : World) (d : Value) (out : List (List UInt8)) (c : ByteArray) (gs : Nat) (hs : a.eval s = d) (hx : a.eval x = .slice (some ⟨gs, 0, none⟩) 1 1) (hd : OwnStrs B d out w) (hc : w.cell? ⟨gs, 0, none⟩ = some (.string c)) (hlen : out.length ≤ 2000000) (hW : BB B W w)
    (h : ∀ v' w', OwnStrs B v' (out ++ [c.data.toList]) w' → w.grownBy w' d.ownBlock → BB B W w' → K (a.put o.dst v') w') :
    if Region.wanted o (yielded ops a.tmps) = true then Oper.wp Tryd.prog o a w K Q else E := by
  have hw : Region.wanted o (yielded ops a.tmps) = true := by simp [Region.wanted, hgd]
  rw [if_pos hw]
  obtain ⟨i0, hi, hz0, hz1, hz2⟩ := info_parts Tryd.infoStr
  obtain ⟨v', w', hr, h2, h3, -⟩ := run_append_own (P := Tryd.prog) w B 22 o.type 9 i0 (.string ⟨#[]⟩) 1 16 Tryd.underlying22 hi hz0 hz1 hz2 rfl (by decide) d out.length (strs out) hd ⟨gs, 0, none⟩ 1 1 [.string c] rfl
    (by intro j u hj
        match j, hj with
        | 0, hj => simp at hj; subst hj; simpa [Addr.add] using hc)
    (by intro u hu; simp at hu; subst hu; rfl) (by unfold maxLen; omega) (by omega) hW.2
  unfold Oper.wp execOp
  simp only [ho, resolve, invoke, builtin, Sem.run_bind, Sem.run_pure, Result.andThen_ok, List.map_toArray, List.map_cons, List.map_nil, hs, hx, hr]
  refine h v' w' (own_put (x := c.data.toList) ?_) h3 ⟨hW.1.grown h3 hW.2 (row_below hd), Nat.le_trans hW.2 h3.size⟩
  simpa using h2

end Go.Proofs.YtfjdfdpelilelaaDoor
