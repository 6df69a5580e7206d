/-
  Texts of the proof, put together: McMis, McRef, McParse.
-/
import Derived.Test.YtipipookgcdfbaaG18
import Derived.BigRegion
import Derived.Carry

/-
  The first token of a body that may not stand there: the reader's isParam and misfit.
-/
namespace Go.Proofs.Ytipipookgcdfbaa
open Go.RowKit Go.Maps

theorem isPar_not {ps : List ByteArray} {T : List Xt} {j : Nat} (h : T.length ≤ j) : isPar ps T j = false := by
  unfold isPar
  rw [List.getElem?_eq_none h]
theorem isPar_at {ps : List ByteArray} {T : List Xt} {j : Nat} {t : Xt} (h : T[j]? = some t) : isPar ps T j = (decide (t.k = 1) && memB t.x ps) := by
  unfold isPar
  rw [h]


/-- A token's box. -/
def BoxT (t : Xt) (sv : Value) (g : Nat) (w : World) : Prop :=
  w.cell? ⟨g, 0, none⟩ = some (.int .i64 t.k) ∧ w.cell? ⟨g, 1, none⟩ = some (.string t.x) ∧ w.cell? ⟨g, 2, none⟩ = some (.bool t.sp) ∧ w.cell? ⟨g, 3, none⟩ = some (.string t.g) ∧
  w.cell? ⟨g, 4, none⟩ = some (.int .i64 t.f) ∧ w.cell? ⟨g, 5, none⟩ = some (.int .i64 t.t) ∧ w.cell? ⟨g, 6, none⟩ = some (.bool t.d) ∧ w.cell? ⟨g, 7, none⟩ = some sv
theorem BoxT.next {t : Xt} {sv : Value} {g : Nat} {w w' : World} (h : BoxT t sv g w) (b : Below w.heap.size w w') (hg : g < w.heap.size) : BoxT t sv g w' := by
  obtain ⟨c0, c1, c2, c3, c4, c5, c6, c7⟩ := h
  exact ⟨bcell b c0 hg, bcell b c1 hg, bcell b c2 hg, bcell b c3 hg, bcell b c4 hg, bcell b c5 hg, bcell b c6 hg, bcell b c7 hg⟩

def misI (o : Option Nat) : Int := match o with
  | none => -1
  | some i => (i : Int)
theorem mis_at {fn va : Bool} {ps : List ByteArray} {T : List Xt} {k : Nat} {t : Xt} (ht : T[k]? = some t) (hb : ∀ j u, j < k → T[j]? = some u → illX fn va ps T j u = false) (h : illX fn va ps T k t = true) : (k : Int) = misI (misL fn va ps T T.length 0) := by
  rcases misL_is (fn := fn) (va := va) (ps := ps) (T := T) T.length 0 (by omega) with ⟨-, h2⟩ | ⟨j, u, -, h2, h3, h4, h5⟩
  · rw [h2 k t (Nat.zero_le _) ht] at h
    cases h
  · rw [h3]
    rcases Nat.lt_trichotomy k j with hk | hk | hk
    · rw [h5 k t (Nat.zero_le _) hk ht] at h
      cases h
    · rw [hk]
      rfl
    · rw [hb j u hk h2] at h4
      cases h4
theorem mis_none {fn va : Bool} {ps : List ByteArray} {T : List Xt} (hb : ∀ j u, j < T.length → T[j]? = some u → illX fn va ps T j u = false) : (-1 : Int) = misI (misL fn va ps T T.length 0) := by
  rcases misL_is (fn := fn) (va := va) (ps := ps) (T := T) T.length 0 (by omega) with ⟨h1, -⟩ | ⟨j, u, -, h2, -, h4, -⟩
  · rw [h1]
    rfl
  · rw [hb j u (List.getElem?_eq_some_iff.1 h2).1 h2] at h4
    cases h4

theorem mis_ways (bp b0 b1 bh fnb bi bk bx vab : Bool) : (bp = true ∧ b0 = true) ∨ (bp = true ∧ b0 = false ∧ b1 = true) ∨ ((bp = false) ∧ bh = true ∧ fnb = true ∧ bi = false) ∨ ((bp = false) ∧ (bh = false) ∧ bk = false) ∨ ((bp = false) ∧ (bh = false) ∧ bk = true ∧ bx = false) ∨ ((bp = false) ∧ (bh = false) ∧ bk = true ∧ bx = true ∧ vab = true) ∨ ((bp = false) ∧ (bh = false) ∧ bk = true ∧ bx = true ∧ vab = false) ∨ ((bp = false) ∧ (bh = true ∧ fnb = false) ∧ bk = false) ∨ ((bp = false) ∧ (bh = true ∧ fnb = false) ∧ bk = true ∧ bx = false) ∨ ((bp = false) ∧ (bh = true ∧ fnb = false) ∧ bk = true ∧ bx = true ∧ vab = true) ∨ ((bp = false) ∧ (bh = true ∧ fnb = false) ∧ bk = true ∧ bx = true ∧ vab = false) ∨ ((bp = false) ∧ (bh = true ∧ fnb = true ∧ bi = true) ∧ bk = false) ∨ ((bp = false) ∧ (bh = true ∧ fnb = true ∧ bi = true) ∧ bk = true ∧ bx = false) ∨ ((bp = false) ∧ (bh = true ∧ fnb = true ∧ bi = true) ∧ bk = true ∧ bx = true ∧ vab = true) ∨ ((bp = false) ∧ (bh = true ∧ fnb = true ∧ bi = true) ∧ bk = true ∧ bx = true ∧ vab = false) ∨ ((bp = true ∧ b0 = false ∧ b1 = false) ∧ bh = true ∧ fnb = true ∧ bi = false) ∨ ((bp = true ∧ b0 = false ∧ b1 = false) ∧ (bh = false) ∧ bk = false) ∨ ((bp = true ∧ b0 = false ∧ b1 = false) ∧ (bh = false) ∧ bk = true ∧ bx = false) ∨ ((bp = true ∧ b0 = false ∧ b1 = false) ∧ (bh = false) ∧ bk = true ∧ bx = true ∧ vab = true) ∨ ((bp = true ∧ b0 = false ∧ b1 = false) ∧ (bh = false) ∧ bk = true ∧ bx = true ∧ vab = false) ∨ ((bp = true ∧ b0 = false ∧ b1 = false) ∧ (bh = true ∧ fnb = false) ∧ bk = false) ∨ ((bp = true ∧ b0 = false ∧ b1 = false) ∧ (bh = true ∧ fnb = false) ∧ bk = true ∧ bx = false) ∨ ((bp = true ∧ b0 = false ∧ b1 = false) ∧ (bh = true ∧ fnb = false) ∧ bk = true ∧ bx = true ∧ vab = true) ∨ ((bp = true ∧ b0 = false ∧ b1 = false) ∧ (bh = true ∧ fnb = false) ∧ bk = true ∧ bx = true ∧ vab = false) ∨ ((bp = true ∧ b0 = false ∧ b1 = false) ∧ (bh = true ∧ fnb = true ∧ bi = true) ∧ bk = false) ∨ ((bp = true ∧ b0 = false ∧ b1 = false) ∧ (bh = true ∧ fnb = true ∧ bi = true) ∧ bk = true ∧ bx = false) ∨ ((bp = true ∧ b0 = false ∧ b1 = false) ∧ (bh = true ∧ fnb = true ∧ bi = true) ∧ bk = true ∧ bx = true ∧ vab = true) ∨ ((bp = true ∧ b0 = false ∧ b1 = false) ∧ (bh = true ∧ fnb = true ∧ bi = true) ∧ bk = true ∧ bx = true ∧ vab = false) := by
  cases bp <;> cases b0 <;> cases b1 <;> cases bh <;> cases fnb <;> cases bi <;> cases bk <;> cases bx <;> cases vab <;> simp

end Go.Proofs.Ytipipookgcdfbaa

/-
  Names that no macro may have; a definition that is refused.
-/
namespace Go.Proofs.Ytipipookgcdfbaa
open Go.RowKit Go.Maps

theorem lit_list (a : ByteArray) : a.toList = a.data.toList := ByteArray.toList_eq a
theorem df_is (x : ByteArray) : (x.toList == [100, 101, 102, 105, 110, 101, 100]) = decide (x = dfB) := by rw [← str_is, lit_list dfB]
theorem fl_is (x : ByteArray) : (x.toList == [95, 95, 70, 73, 76, 69, 95, 95]) = decide (x = flB) := by rw [← str_is, lit_list flB]
theorem ln_is (x : ByteArray) : (x.toList == [95, 95, 76, 73, 78, 69, 95, 95]) = decide (x = lnB) := by rw [← str_is, lit_list lnB]

theorem new_two (w : World) (o o' : Obj) {cs : Array Value} {T : TypeId} (j : Nat) (u : Value) (h : cs[j]? = some u) : (((w.alloc o).alloc o').alloc (.cells cs T)).drew.cell? ⟨w.heap.size + 1 + 1, j, none⟩ = some u := by
  have e : ((w.alloc o).alloc o').heap.size = w.heap.size + 1 + 1 := by simp
  have h1 : (((w.alloc o).alloc o').alloc (.cells cs T)).cell? ⟨((w.alloc o).alloc o').heap.size, j, none⟩ = some u := by
    rw [Lib.cell_of_heap (heap_alloc_new _ _)]
    exact h
  rw [e] at h1
  exact h1
def RefusedAt (W : World) (i : Ill) (e : Ending) (w' : World) : Prop :=
  ∃ g, e = .returned (.tuple #[.agg #[.string ⟨#[]⟩, .bool false, .bool false, .slice none 0 0, .slice none 0 0, .string ⟨#[]⟩, .int .i64 0, .int .i64 0], .slice (some ⟨g, 0, none⟩) 1 1]) ∧ Below W.heap.size W w' ∧ W.heap.size ≤ g ∧ g < w'.heap.size ∧ w'.cell? ⟨g, 0, none⟩ = some (.int .i64 i.c) ∧ w'.cell? ⟨g, 1, none⟩ = some (.string i.g) ∧ w'.cell? ⟨g, 2, none⟩ = some (.int .i64 i.f) ∧ w'.cell? ⟨g, 3, none⟩ = some (.int .i64 i.t)

end Go.Proofs.Ytipipookgcdfbaa

/-
  Parse.
-/
namespace Go.Proofs.Ytipipookgcdfbaa
open Go.RowKit Go.Maps

theorem parse_kind {t : Xt} {r : List Xt} (h : t.k ≠ 1) : parseL (t :: r) = .inr (illOf 4 t) := by
  show (if t.k ≠ 1 then _ else _) = _
  rw [if_pos h]
theorem parse_res {t : Xt} {r : List Xt} (h : t.k = 1) (h' : resB t.x = true) : parseL (t :: r) = .inr (illOf 5 t) := by
  show (if t.k ≠ 1 then _ else if resB t.x then _ else _) = _
  rw [if_neg (fun x => x h), h']
  rfl
theorem parse_go {t : Xt} {r : List Xt} (h : t.k = 1) (h' : resB t.x = false) : parseL (t :: r) = match headL r with
      | none => .inr (illOf 5 t)
      | some (fn, va, ps, q) => match misL fn va ps (bareL q) (bareL q).length 0 with
        | some i => match (bareL q)[i]? with
          | some u => .inr (illOf 5 u)
          | none => .inr (illOf 5 t)
        | none => .inl ⟨t.x, fn, va, ps, bareL q, t.g, t.f, t.t⟩ := by
  show (if t.k ≠ 1 then _ else if resB t.x then _ else _) = _
  rw [if_neg (fun x => x h), h']
  rfl

def zeroObj : Obj := .cells #[.string ⟨#[]⟩, .bool false, .bool false, .slice none 0 0, .slice none 0 0, .string ⟨#[]⟩, .int .i64 0, .int .i64 0] 38
theorem zero_cells {w : World} {q : Nat} (h : w.heap[q]? = some zeroObj) :
    w.cell? ⟨q, 0, none⟩ = some (.string ⟨#[]⟩) ∧ w.cell? ⟨q, 1, none⟩ = some (.bool false) ∧ w.cell? ⟨q, 2, none⟩ = some (.bool false) ∧ w.cell? ⟨q, 3, none⟩ = some (.slice none 0 0) ∧ w.cell? ⟨q, 4, none⟩ = some (.slice none 0 0) ∧
    w.cell? ⟨q, 5, none⟩ = some (.string ⟨#[]⟩) ∧ w.cell? ⟨q, 6, none⟩ = some (.int .i64 0) ∧ w.cell? ⟨q, 7, none⟩ = some (.int .i64 0) ∧ ∀ j, w.frozen? ⟨q, j, none⟩ = false := by
  unfold zeroObj at h
  refine ⟨?_, ?_, ?_, ?_, ?_, ?_, ?_, ?_, fun j => Lib.frozen_of_heap h _⟩ <;> (rw [Lib.cell_of_heap h]; rfl)

theorem bare_in {q : List Xt} {u : Xt} (h : u ∈ bareL q) : ∃ v ∈ q, u.x = v.x ∧ u.ss = v.ss := by
  match q, h with
  | t :: r, h =>
    rcases List.mem_cons.1 h with rfl | h
    · exact ⟨t, List.mem_cons_self .., rfl, rfl⟩
    · exact ⟨u, List.mem_cons_of_mem _ h, rfl, rfl⟩
theorem bare_len (q : List Xt) : (bareL q).length = q.length := by cases q <;> rfl

/-- What Parse answers. -/
def ParseAt (W : World) : Xm ⊕ Ill → Ending → World → Prop
  | .inl m => fun e w' => ∃ pv bv, e = .returned (.tuple #[macV m pv bv, .slice none 0 0]) ∧ MacAt m pv bv w' ∧ Below W.heap.size W w'
  | .inr i => RefusedAt W i

/-- A refusal, and the cell of the result. -/
def RefW (W : World) (q g : Nat) (i : Ill) (w' : World) : Prop := Below W.heap.size W w' ∧ W.heap.size ≤ q ∧ W.heap.size ≤ g ∧ g ≠ q ∧ g < w'.heap.size ∧ w'.cell? ⟨g, 0, none⟩ = some (.int .i64 i.c) ∧ w'.cell? ⟨g, 1, none⟩ = some (.string i.g) ∧ w'.cell? ⟨g, 2, none⟩ = some (.int .i64 i.f) ∧ w'.cell? ⟨g, 3, none⟩ = some (.int .i64 i.t)
theorem RefW.set {W : World} {q g : Nat} {i : Ill} {w : World} (h : RefW W q g i w) (j : Nat) (u : Value) : RefW W q g i (w.setCell ⟨q, j, none⟩ u) := by
  obtain ⟨h1, h2, h3, h4, h5, c0, c1, c2, c3⟩ := h
  have e : ∀ k, (w.setCell ⟨q, j, none⟩ u).cell? ⟨g, k, none⟩ = w.cell? ⟨g, k, none⟩ := fun k => World.cell?_of_block (heap_setCell_other w _ g u h4)
  exact ⟨h1.setCell (p := ⟨q, j, none⟩) h2 u, h2, h3, h4, by simpa [World.setCell] using h5, (e 0).trans c0, (e 1).trans c1, (e 2).trans c2, (e 3).trans c3⟩
theorem RefW.end {W : World} {q g : Nat} {i : Ill} {w : World} (h : RefW W q g i w) : RefusedAt W i (.returned (.tuple #[.agg #[.string ⟨#[]⟩, .bool false, .bool false, .slice none 0 0, .slice none 0 0, .string ⟨#[]⟩, .int .i64 0, .int .i64 0], .slice (some ⟨g, 0, none⟩) 1 1])) w := by
  obtain ⟨h1, h2, h3, h4, h5, c0, c1, c2, c3⟩ := h
  exact ⟨g, rfl, h1, h3, h5, c0, c1, c2, c3⟩

/-- Eight stores. -/
def sto8 (w : World) (q : Nat) (v0 v1 v2 v3 v4 v5 v6 v7 : Value) : World := (((((((w.setCell ⟨q, 0, none⟩ v0).setCell ⟨q, 1, none⟩ v1).setCell ⟨q, 2, none⟩ v2).setCell ⟨q, 3, none⟩ v3).setCell ⟨q, 4, none⟩ v4).setCell ⟨q, 5, none⟩ v5).setCell ⟨q, 6, none⟩ v6).setCell ⟨q, 7, none⟩ v7
theorem sto8_heap {w : World} {q : Nat} {a0 a1 a2 a3 a4 a5 a6 a7 v0 v1 v2 v3 v4 v5 v6 v7 : Value} {T : TypeId} (h : w.heap[q]? = some (.cells #[a0, a1, a2, a3, a4, a5, a6, a7] T (0, 0))) : (sto8 w q v0 v1 v2 v3 v4 v5 v6 v7).heap[q]? = some (.cells #[v0, v1, v2, v3, v4, v5, v6, v7] T (0, 0)) := by
  have h0 : (w.setCell ⟨q, 0, none⟩ v0).heap[q]? = some (.cells #[v0, a1, a2, a3, a4, a5, a6, a7] T (0, 0)) := (heap_setCell_same w q 0 _ _ v0 h).trans rfl
  have h1 : ((w.setCell ⟨q, 0, none⟩ v0).setCell ⟨q, 1, none⟩ v1).heap[q]? = some (.cells #[v0, v1, a2, a3, a4, a5, a6, a7] T (0, 0)) := (heap_setCell_same (w.setCell ⟨q, 0, none⟩ v0) q 1 _ _ v1 h0).trans rfl
  have h2 : (((w.setCell ⟨q, 0, none⟩ v0).setCell ⟨q, 1, none⟩ v1).setCell ⟨q, 2, none⟩ v2).heap[q]? = some (.cells #[v0, v1, v2, a3, a4, a5, a6, a7] T (0, 0)) := (heap_setCell_same ((w.setCell ⟨q, 0, none⟩ v0).setCell ⟨q, 1, none⟩ v1) q 2 _ _ v2 h1).trans rfl
  have h3 : ((((w.setCell ⟨q, 0, none⟩ v0).setCell ⟨q, 1, none⟩ v1).setCell ⟨q, 2, none⟩ v2).setCell ⟨q, 3, none⟩ v3).heap[q]? = some (.cells #[v0, v1, v2, v3, a4, a5, a6, a7] T (0, 0)) := (heap_setCell_same (((w.setCell ⟨q, 0, none⟩ v0).setCell ⟨q, 1, none⟩ v1).setCell ⟨q, 2, none⟩ v2) q 3 _ _ v3 h2).trans rfl
  have h4 : (((((w.setCell ⟨q, 0, none⟩ v0).setCell ⟨q, 1, none⟩ v1).setCell ⟨q, 2, none⟩ v2).setCell ⟨q, 3, none⟩ v3).setCell ⟨q, 4, none⟩ v4).heap[q]? = some (.cells #[v0, v1, v2, v3, v4, a5, a6, a7] T (0, 0)) := (heap_setCell_same ((((w.setCell ⟨q, 0, none⟩ v0).setCell ⟨q, 1, none⟩ v1).setCell ⟨q, 2, none⟩ v2).setCell ⟨q, 3, none⟩ v3) q 4 _ _ v4 h3).trans rfl
  have h5 : ((((((w.setCell ⟨q, 0, none⟩ v0).setCell ⟨q, 1, none⟩ v1).setCell ⟨q, 2, none⟩ v2).setCell ⟨q, 3, none⟩ v3).setCell ⟨q, 4, none⟩ v4).setCell ⟨q, 5, none⟩ v5).heap[q]? = some (.cells #[v0, v1, v2, v3, v4, v5, a6, a7] T (0, 0)) := (heap_setCell_same (((((w.setCell ⟨q, 0, none⟩ v0).setCell ⟨q, 1, none⟩ v1).setCell ⟨q, 2, none⟩ v2).setCell ⟨q, 3, none⟩ v3).setCell ⟨q, 4, none⟩ v4) q 5 _ _ v5 h4).trans rfl
  have h6 : (((((((w.setCell ⟨q, 0, none⟩ v0).setCell ⟨q, 1, none⟩ v1).setCell ⟨q, 2, none⟩ v2).setCell ⟨q, 3, none⟩ v3).setCell ⟨q, 4, none⟩ v4).setCell ⟨q, 5, none⟩ v5).setCell ⟨q, 6, none⟩ v6).heap[q]? = some (.cells #[v0, v1, v2, v3, v4, v5, v6, a7] T (0, 0)) := (heap_setCell_same ((((((w.setCell ⟨q, 0, none⟩ v0).setCell ⟨q, 1, none⟩ v1).setCell ⟨q, 2, none⟩ v2).setCell ⟨q, 3, none⟩ v3).setCell ⟨q, 4, none⟩ v4).setCell ⟨q, 5, none⟩ v5) q 6 _ _ v6 h5).trans rfl
  have h7 : ((((((((w.setCell ⟨q, 0, none⟩ v0).setCell ⟨q, 1, none⟩ v1).setCell ⟨q, 2, none⟩ v2).setCell ⟨q, 3, none⟩ v3).setCell ⟨q, 4, none⟩ v4).setCell ⟨q, 5, none⟩ v5).setCell ⟨q, 6, none⟩ v6).setCell ⟨q, 7, none⟩ v7).heap[q]? = some (.cells #[v0, v1, v2, v3, v4, v5, v6, v7] T (0, 0)) := (heap_setCell_same (((((((w.setCell ⟨q, 0, none⟩ v0).setCell ⟨q, 1, none⟩ v1).setCell ⟨q, 2, none⟩ v2).setCell ⟨q, 3, none⟩ v3).setCell ⟨q, 4, none⟩ v4).setCell ⟨q, 5, none⟩ v5).setCell ⟨q, 6, none⟩ v6) q 7 _ _ v7 h6).trans rfl
  exact h7
theorem sto8_far {w : World} {q : Nat} {v0 v1 v2 v3 v4 v5 v6 v7 : Value} {g : Nat} (h : g ≠ q) : (sto8 w q v0 v1 v2 v3 v4 v5 v6 v7).heap[g]? = w.heap[g]? := by
  unfold sto8
  exact (heap_setCell_other _ _ g v7 h).trans ((heap_setCell_other _ _ g v6 h).trans ((heap_setCell_other _ _ g v5 h).trans ((heap_setCell_other _ _ g v4 h).trans ((heap_setCell_other _ _ g v3 h).trans ((heap_setCell_other _ _ g v2 h).trans ((heap_setCell_other _ _ g v1 h).trans (heap_setCell_other _ _ g v0 h)))))))
theorem sto8_size {w : World} {q : Nat} {v0 v1 v2 v3 v4 v5 v6 v7 : Value} : (sto8 w q v0 v1 v2 v3 v4 v5 v6 v7).heap.size = w.heap.size := by
  simp [sto8, World.setCell]
theorem sto8_below {W w : World} {q : Nat} {v0 v1 v2 v3 v4 v5 v6 v7 : Value} (h : Below W.heap.size W w) (hq : W.heap.size ≤ q) : Below W.heap.size W (sto8 w q v0 v1 v2 v3 v4 v5 v6 v7) := by
  unfold sto8
  exact (Below.setCell (p := ⟨q, 7, none⟩) (Below.setCell (p := ⟨q, 6, none⟩) (Below.setCell (p := ⟨q, 5, none⟩) (Below.setCell (p := ⟨q, 4, none⟩) (Below.setCell (p := ⟨q, 3, none⟩) (Below.setCell (p := ⟨q, 2, none⟩) (Below.setCell (p := ⟨q, 1, none⟩) (Below.setCell (p := ⟨q, 0, none⟩) h hq v0) hq v1) hq v2) hq v3) hq v4) hq v5) hq v6) hq v7)
theorem sto8_cells {w : World} {q : Nat} {a0 a1 a2 a3 a4 a5 a6 a7 v0 v1 v2 v3 v4 v5 v6 v7 : Value} {T : TypeId} (h : w.heap[q]? = some (.cells #[a0, a1, a2, a3, a4, a5, a6, a7] T (0, 0))) : (sto8 w q v0 v1 v2 v3 v4 v5 v6 v7).cell? ⟨q, 0, none⟩ = some v0 ∧ (sto8 w q v0 v1 v2 v3 v4 v5 v6 v7).cell? ⟨q, 1, none⟩ = some v1 ∧ (sto8 w q v0 v1 v2 v3 v4 v5 v6 v7).cell? ⟨q, 2, none⟩ = some v2 ∧ (sto8 w q v0 v1 v2 v3 v4 v5 v6 v7).cell? ⟨q, 3, none⟩ = some v3 ∧ (sto8 w q v0 v1 v2 v3 v4 v5 v6 v7).cell? ⟨q, 4, none⟩ = some v4 ∧ (sto8 w q v0 v1 v2 v3 v4 v5 v6 v7).cell? ⟨q, 5, none⟩ = some v5 ∧ (sto8 w q v0 v1 v2 v3 v4 v5 v6 v7).cell? ⟨q, 6, none⟩ = some v6 ∧ (sto8 w q v0 v1 v2 v3 v4 v5 v6 v7).cell? ⟨q, 7, none⟩ = some v7 := by
  have e := sto8_heap (v0 := v0) (v1 := v1) (v2 := v2) (v3 := v3) (v4 := v4) (v5 := v5) (v6 := v6) (v7 := v7) h
  refine ⟨?_, ?_, ?_, ?_, ?_, ?_, ?_, ?_⟩ <;> (rw [Lib.cell_of_heap e]; rfl)
theorem RefW.sto {W : World} {q g : Nat} {i : Ill} {w : World} (h : RefW W q g i w) {v0 v1 v2 v3 v4 v5 v6 v7 : Value} : RefW W q g i (sto8 w q v0 v1 v2 v3 v4 v5 v6 v7) := by
  unfold sto8
  exact (RefW.set (RefW.set (RefW.set (RefW.set (RefW.set (RefW.set (RefW.set (RefW.set h 0 v0) 1 v1) 2 v2) 3 v3) 4 v4) 5 v5) 6 v6) 7 v7)

/-- A refusal's end. -/
theorem ref_end {W : World} {q g : Nat} {i : Ill} {w : World} (h : RefW W q g i w) (hq : w.heap[q]? = some zeroObj) : ∃ w', sto8 w q (.string ⟨#[]⟩) (.bool false) (.bool false) (.slice none 0 0) (.slice none 0 0) (.string ⟨#[]⟩) (.int .i64 0) (.int .i64 0) = w' ∧ w'.cell? ⟨q, 0, none⟩ = some (.string ⟨#[]⟩) ∧ w'.cell? ⟨q, 1, none⟩ = some (.bool false) ∧ w'.cell? ⟨q, 2, none⟩ = some (.bool false) ∧ w'.cell? ⟨q, 3, none⟩ = some (.slice none 0 0) ∧ w'.cell? ⟨q, 4, none⟩ = some (.slice none 0 0) ∧ w'.cell? ⟨q, 5, none⟩ = some (.string ⟨#[]⟩) ∧ w'.cell? ⟨q, 6, none⟩ = some (.int .i64 0) ∧ w'.cell? ⟨q, 7, none⟩ = some (.int .i64 0) ∧ Hid (RefW W q g i w') := by
  obtain ⟨y0, y1, y2, y3, y4, y5, y6, y7⟩ := sto8_cells (v0 := .string ⟨#[]⟩) (v1 := .bool false) (v2 := .bool false) (v3 := .slice none 0 0) (v4 := .slice none 0 0) (v5 := .string ⟨#[]⟩) (v6 := .int .i64 0) (v7 := .int .i64 0) hq
  exact ⟨_, rfl, y0, y1, y2, y3, y4, y5, y6, y7, Lib.hid h.sto⟩

end Go.Proofs.Ytipipookgcdfbaa
