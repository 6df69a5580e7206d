/-
  Texts of the proof, put together: SuP.
-/
import Derived.Test.YtobplffailbkbaaG25
import Derived.Test.YtobplffailbkbaaG24
import Derived.Test.YtobplffailbkbaaG30
import Derived.Deep.RegionHeld3

/-
  The parts of a body: the project's of and own.
-/
namespace Go.Proofs.Ytobplffailbkbaa
open Go.RowKit Go.Maps

/-- A part's value. -/
def ptV (q : Pt) (tv : Value) : Value := .agg #[.bool q.p, .string q.g, .int .i64 q.f, .int .i64 q.t, tv, .int .i64 q.o]
/-- What a part hangs on: what is old, and what is new. -/
def OldNew (W X : World) (g : Nat) : Prop := g < W.heap.size ∨ X.heap.size ≤ g
def PtPost (W X : World) (q : Pt) (e : Ending) (w' : World) : Prop :=
  ∃ a n c, e = .returned (ptV q (.slice a n c)) ∧ (a = none → c = 0) ∧ n = q.T.length ∧ HeldIn (OldNew W X) w' (ToksX q.T (.slice a n c)) ∧ Below X.heap.size X w'

theorem RowsX.of {A : List (List Xt)} {a : Option Addr} {n cap : Nat} {w : World} (h : RowsX A (.slice a n cap) w) (k : Nat) :
    ∃ b m c, ToksX (ofL A k) (.slice b m c) w ∧ (b = none → c = 0) ∧ ∀ X : World, Below w.heap.size w X → Calls Try.prog 72 #[.slice a n cap, .int .i64 (k : Int)] X (fun e w' => e = .returned (.slice b m c) ∧ X = w') := by
  obtain ⟨hn, hc1, hc2, hz⟩ := h.len
  unfold maxLen at hc2
  by_cases hk : k < n
  · obtain ⟨T, hT⟩ : ∃ T, A[k]? = some T := ⟨_, List.getElem?_eq_getElem (by omega)⟩
    obtain ⟨g, o, b, m, c, rfl, hg, hcell, hz2, hx⟩ := h.get hT
    refine ⟨b, m, c, by unfold ofL; rw [Int.toNat_natCast, hT]; exact hx, hz2, fun X hX => ?_⟩
    have k0 := bcell hX hcell hg
    have hkI : ¬ (n : Int) ≤ (k : Int) := by omega
    have hkI2 : (k : Int) < (n : Int) := by omega
    have hk0 : (0 : Int) ≤ (k : Int) := by omega
    clear hX hx hT h hn hz
    go_enter Try.func72, Try.ntmps72
    go_wp2
    go_ret
    exact ⟨rfl, rfl⟩
  · refine ⟨none, 0, 0, by unfold ofL; rw [Int.toNat_natCast, List.getElem?_eq_none (by omega)]; exact toksX_nil _, fun _ => rfl, fun X hX => ?_⟩
    have hkI : (n : Int) ≤ (k : Int) := by omega
    clear hX h hn hz
    go_enter Try.func72, Try.ntmps72
    go_wp2
    go_ret
    exact ⟨rfl, rfl⟩

/-- One token in a block of its own. -/
theorem one_held {W X w : World} {b : Nat} {t : Xt} {sv : Value} {T : TypeId} (hs : SitsA t.ss sv W) (hW : Below W.heap.size W w) (hb : X.heap.size ≤ b) (h : w.heap[b]? = some (.cells #[.int .i64 t.k, .string t.x, .bool t.sp, .string t.g, .int .i64 t.f, .int .i64 t.t, .bool t.d, sv] T (0, 0))) : HeldIn (OldNew W X) w (ToksX [t] (.slice (some ⟨b, 0, none⟩) 1 1)) := by
  intro w' s
  have hlt := row_lt h
  have h' := (s.2 b (.inr hb) hlt).trans h
  have hs' : SitsA t.ss sv w' := (HeldIn.old (R := SitsA t.ss sv) (fun _ s => hs.same s) hW) w' ⟨s.1, fun g hg hl => s.2 g (.inl hg) hl⟩
  refine ⟨some ⟨b, 0, none⟩, 1, rfl, Nat.le_refl _, by unfold maxLen; omega, fun i u hu => ?_⟩
  match i, hu with
  | 0, hu =>
    simp only [List.getElem?_cons_zero, Option.some.injEq] at hu
    subst hu
    refine ⟨b, 0, rfl, row_lt h', sv, ⟨?_, ?_, ?_, ?_, ?_, ?_, ?_, ?_⟩, hs'⟩ <;> (rw [Lib.cell_of_heap h']; rfl)
  | i + 1, hu => simp at hu

theorem below_three (X : World) (o o' o'' : Obj) : Below X.heap.size X (((X.alloc o).alloc o').alloc o'') := (((Below.refl _ _).alloc (Nat.le_refl _) _).alloc (by simp) _).alloc (by simp; omega) _
theorem blk_three (X : World) (o o' : Obj) {cs : Array Value} {T : TypeId} : (((X.alloc o).alloc o').alloc (.cells cs T)).drew.heap[X.heap.size + 1 + 1]? = some (.cells cs T (0, 0)) := by
  have h := heap_alloc_new ((X.alloc o).alloc o') (.cells cs T)
  rw [show ((X.alloc o).alloc o').heap.size = X.heap.size + 1 + 1 from by simp] at h
  exact h

set_option maxRecDepth 100000 in
set_option maxHeartbeats 3200000 in
theorem own_part {m : Xm} {A B : List (List Xt)} {S : List Xs} {bv : Value} {mo : Option Nat} {rv fv sv : Value} {g : Nat} {W X : World} (h : SB m A B S bv mo rv fv sv g W) (hX : Below W.heap.size W X) (t : Xt) (sa : Option Addr) (sn sc : Nat) (d : Bool) :
    Calls Try.prog 52 #[.pointer (some ⟨g, 0, none⟩), .agg #[.int .i64 t.k, .string t.x, .bool t.sp, .string t.g, .int .i64 t.f, .int .i64 t.t, .bool t.d, .slice sa sn sc], .bool d] X (PtPost W X (ownP t d S)) := by
  obtain ⟨-, -, -, -, k4⟩ := (h.over hX).cells
  have hlt : g < X.heap.size := Nat.lt_of_lt_of_le h.lt hX.size
  obtain ⟨a1, n1, c1, rfl, -⟩ := h.sits.form
  have HS := Lib.hid h.sits
  have HX := Lib.hid hX
  clear h hX
  go_enter Try.func52, Try.ntmps52
  go_wp2
  go_region
  go_wp2
  refine bodyPost_ret (v := ptV (ownP t d S) (.slice (some ⟨X.heap.size + 1 + 1, 0, none⟩) 1 1)) (by simp [results, Try.results52, go_sem, ptV, ownP]) rfl ?_
  have hb := below_three X (.cells #[.int .i64 t.k, .string t.x, .bool t.sp, .string t.g, .int .i64 t.f, .int .i64 t.t, .bool d, .slice a1 n1 c1] 26)
    (.cells #[.bool false, .string ⟨#[]⟩, .int .i64 0, .int .i64 0, .slice (some ⟨X.heap.size + 1 + 1, 0, none⟩) 1 1, .int .i64 (-1)] 83) (.cells #[.int .i64 t.k, .string t.x, .bool t.sp, .string t.g, .int .i64 t.f, .int .i64 t.t, .bool d, .slice a1 n1 c1] 26)
  exact ⟨_, _, _, rfl, (fun e => by cases e), rfl, one_held (t := { t with d := d, ss := S }) HS.out (below_up HX.out hb.drew) (by omega) (blk_three X _ _), hb.drew⟩

structure AOk (A : List (List Xt)) : Prop where
  few : A.length ≤ 100000
  len : ∀ T ∈ A, T.length ≤ 100000
  fit : ∀ T ∈ A, (textT (T.map escX)).length ≤ 1000000
  size : ∀ T ∈ A, ∀ t ∈ T, t.x.size ≤ 100000
theorem ofL_mem (A : List (List Xt)) (k : Int) : ofL A k = [] ∨ ofL A k ∈ A := by
  unfold ofL
  cases h : A[k.toNat]? with
  | none => exact .inl rfl
  | some T => exact .inr (List.mem_of_getElem? h)
theorem AOk.of {A : List (List Xt)} (h : AOk A) (k : Int) : (ofL A k).length ≤ 100000 ∧ (textT ((ofL A k).map escX)).length ≤ 1000000 ∧ ∀ t ∈ ofL A k, t.x.size ≤ 100000 := by
  rcases ofL_mem A k with e | e
  · rw [e]
    exact ⟨Nat.zero_le _, Nat.zero_le _, fun t ht => by cases ht⟩
  · exact ⟨h.len _ e, h.fit _ e, h.size _ e⟩

/-- The result's cell, and the token's box. -/
structure TwoB (X : World) (t : Xt) (sv : Value) (w : World) : Prop where
  res : w.heap[X.heap.size]? = some (.cells #[.bool false, .string ⟨#[]⟩, .int .i64 0, .int .i64 0, .slice none 0 0, .int .i64 0] 83 (0, 0))
  box : w.heap[X.heap.size + 1]? = some (.cells #[.int .i64 t.k, .string t.x, .bool t.sp, .string t.g, .int .i64 t.f, .int .i64 t.t, .bool t.d, sv] 26 (0, 0))
theorem two_next (X : World) (t : Xt) (sv : Value) {Y : World} (h : Below (X.heap.size + 2) ((X.alloc (.cells #[.bool false, .string ⟨#[]⟩, .int .i64 0, .int .i64 0, .slice none 0 0, .int .i64 0] 83)).alloc (.cells #[.int .i64 t.k, .string t.x, .bool t.sp, .string t.g, .int .i64 t.f, .int .i64 t.t, .bool t.d, sv] 26)) Y) : TwoB X t sv Y :=
  ⟨(h.block _ (by omega)).trans (blk_new1 X _ _), (h.block _ (by omega)).trans (blk_new2 X _ _)⟩

theorem TwoB.cells {X : World} {t : Xt} {sv : Value} {w : World} (h : TwoB X t sv w) : (w.cell? ⟨X.heap.size + 1, 0, none⟩ = some (.int .i64 t.k) ∧ w.cell? ⟨X.heap.size + 1, 1, none⟩ = some (.string t.x)) ∧ w.frozen? ⟨X.heap.size + 1, 0, none⟩ = false ∧ w.frozen? ⟨X.heap.size + 1, 1, none⟩ = false := by
  refine ⟨⟨?_, ?_⟩, Lib.frozen_of_heap h.box _, Lib.frozen_of_heap h.box _⟩ <;> (rw [Lib.cell_of_heap h.box]; rfl)

theorem TwoB.put {X : World} {t : Xt} {sv : Value} {w : World} (h : TwoB X t sv w) (z : ByteArray) : TwoB X { t with k := 4, x := z } sv ((w.setCell ⟨X.heap.size + 1, 0, none⟩ (.int .i64 4)).setCell ⟨X.heap.size + 1, 1, none⟩ (.string z)) := by
  have h1 : (w.setCell ⟨X.heap.size + 1, 0, none⟩ (.int .i64 4)).heap[X.heap.size + 1]? = some (.cells #[.int .i64 4, .string t.x, .bool t.sp, .string t.g, .int .i64 t.f, .int .i64 t.t, .bool t.d, sv] 26 (0, 0)) := (heap_setCell_same w _ 0 _ _ _ h.box).trans rfl
  refine ⟨?_, (heap_setCell_same _ _ 1 _ _ _ h1).trans rfl⟩
  exact (heap_setCell_other _ _ _ _ (Nat.ne_of_lt (Nat.lt_succ_self _))).trans ((heap_setCell_other _ _ _ _ (Nat.ne_of_lt (Nat.lt_succ_self _))).trans h.res)
theorem TwoB.all {X : World} {t : Xt} {sv : Value} {w : World} (h : TwoB X t sv w) : w.cell? ⟨X.heap.size + 1, 0, none⟩ = some (.int .i64 t.k) ∧ w.cell? ⟨X.heap.size + 1, 1, none⟩ = some (.string t.x) ∧ w.cell? ⟨X.heap.size + 1, 2, none⟩ = some (.bool t.sp) ∧ w.cell? ⟨X.heap.size + 1, 3, none⟩ = some (.string t.g) ∧
    w.cell? ⟨X.heap.size + 1, 4, none⟩ = some (.int .i64 t.f) ∧ w.cell? ⟨X.heap.size + 1, 5, none⟩ = some (.int .i64 t.t) ∧ w.cell? ⟨X.heap.size + 1, 6, none⟩ = some (.bool t.d) ∧ w.cell? ⟨X.heap.size + 1, 7, none⟩ = some sv := by
  refine ⟨?_, ?_, ?_, ?_, ?_, ?_, ?_, ?_⟩ <;> (rw [Lib.cell_of_heap h.box]; rfl)

/-- Six stores. -/
def sto6 (w : World) (q : Nat) (v0 v1 v2 v3 v4 v5 : Value) : World := (((((w.setCell ⟨q, 0, none⟩ v0).setCell ⟨q, 1, none⟩ v1).setCell ⟨q, 2, none⟩ v2).setCell ⟨q, 3, none⟩ v3).setCell ⟨q, 4, none⟩ v4).setCell ⟨q, 5, none⟩ v5
theorem sto6_heap {w : World} {q : Nat} {a0 a1 a2 a3 a4 a5 v0 v1 v2 v3 v4 v5 : Value} {T : TypeId} (h : w.heap[q]? = some (.cells #[a0, a1, a2, a3, a4, a5] T (0, 0))) : (sto6 w q v0 v1 v2 v3 v4 v5).heap[q]? = some (.cells #[v0, v1, v2, v3, v4, v5] T (0, 0)) := by
  have h0 : (w.setCell ⟨q, 0, none⟩ v0).heap[q]? = some (.cells #[v0, a1, a2, a3, a4, a5] T (0, 0)) := (heap_setCell_same w q 0 _ _ v0 h).trans rfl
  have h1 : ((w.setCell ⟨q, 0, none⟩ v0).setCell ⟨q, 1, none⟩ v1).heap[q]? = some (.cells #[v0, v1, a2, a3, a4, a5] T (0, 0)) := (heap_setCell_same _ q 1 _ _ v1 h0).trans rfl
  have h2 : (((w.setCell ⟨q, 0, none⟩ v0).setCell ⟨q, 1, none⟩ v1).setCell ⟨q, 2, none⟩ v2).heap[q]? = some (.cells #[v0, v1, v2, a3, a4, a5] T (0, 0)) := (heap_setCell_same _ q 2 _ _ v2 h1).trans rfl
  have h3 : ((((w.setCell ⟨q, 0, none⟩ v0).setCell ⟨q, 1, none⟩ v1).setCell ⟨q, 2, none⟩ v2).setCell ⟨q, 3, none⟩ v3).heap[q]? = some (.cells #[v0, v1, v2, v3, a4, a5] T (0, 0)) := (heap_setCell_same _ q 3 _ _ v3 h2).trans rfl
  have h4 : (((((w.setCell ⟨q, 0, none⟩ v0).setCell ⟨q, 1, none⟩ v1).setCell ⟨q, 2, none⟩ v2).setCell ⟨q, 3, none⟩ v3).setCell ⟨q, 4, none⟩ v4).heap[q]? = some (.cells #[v0, v1, v2, v3, v4, a5] T (0, 0)) := (heap_setCell_same _ q 4 _ _ v4 h3).trans rfl
  exact (heap_setCell_same _ q 5 _ _ v5 h4).trans rfl
theorem sto6_far {w : World} {q : Nat} {v0 v1 v2 v3 v4 v5 : Value} {g : Nat} (h : g ≠ q) : (sto6 w q v0 v1 v2 v3 v4 v5).heap[g]? = w.heap[g]? := by
  unfold sto6
  exact (heap_setCell_other _ _ g v5 h).trans ((heap_setCell_other _ _ g v4 h).trans ((heap_setCell_other _ _ g v3 h).trans ((heap_setCell_other _ _ g v2 h).trans ((heap_setCell_other _ _ g v1 h).trans (heap_setCell_other _ _ g v0 h)))))
theorem sto6_size {w : World} {q : Nat} {v0 v1 v2 v3 v4 v5 : Value} : (sto6 w q v0 v1 v2 v3 v4 v5).heap.size = w.heap.size := by
  simp [sto6, World.setCell]
theorem sto6_below {n : Nat} {W w : World} {q : Nat} {v0 v1 v2 v3 v4 v5 : Value} (h : Below n W w) (hq : n ≤ q) : Below n W (sto6 w q v0 v1 v2 v3 v4 v5) := by
  unfold sto6
  exact (Below.setCell (p := ⟨q, 5, none⟩) (Below.setCell (p := ⟨q, 4, none⟩) (Below.setCell (p := ⟨q, 3, none⟩) (Below.setCell (p := ⟨q, 2, none⟩) (Below.setCell (p := ⟨q, 1, none⟩) (Below.setCell (p := ⟨q, 0, none⟩) h hq v0) hq v1) hq v2) hq v3) hq v4) hq v5)
theorem sto6_cells {w : World} {q : Nat} {a0 a1 a2 a3 a4 a5 v0 v1 v2 v3 v4 v5 : Value} {T : TypeId} (h : w.heap[q]? = some (.cells #[a0, a1, a2, a3, a4, a5] T (0, 0))) : (sto6 w q v0 v1 v2 v3 v4 v5).cell? ⟨q, 0, none⟩ = some v0 ∧ (sto6 w q v0 v1 v2 v3 v4 v5).cell? ⟨q, 1, none⟩ = some v1 ∧ (sto6 w q v0 v1 v2 v3 v4 v5).cell? ⟨q, 2, none⟩ = some v2 ∧ (sto6 w q v0 v1 v2 v3 v4 v5).cell? ⟨q, 3, none⟩ = some v3 ∧ (sto6 w q v0 v1 v2 v3 v4 v5).cell? ⟨q, 4, none⟩ = some v4 ∧ (sto6 w q v0 v1 v2 v3 v4 v5).cell? ⟨q, 5, none⟩ = some v5 := by
  have e := sto6_heap (v0 := v0) (v1 := v1) (v2 := v2) (v3 := v3) (v4 := v4) (v5 := v5) h
  refine ⟨?_, ?_, ?_, ?_, ?_, ?_⟩ <;> (rw [Lib.cell_of_heap e]; rfl)

abbrev zeroPt : Array Value := #[.bool false, .string ⟨#[]⟩, .int .i64 0, .int .i64 0, .slice none 0 0, .int .i64 0]
/-- The result's cell, behind a call. -/
theorem part_res {X w4 w5 : World} (hres : w4.heap[X.heap.size]? = some (.cells zeroPt 83 (0, 0))) (hb : Below w4.heap.size w4 w5) :
    w5.cell? ⟨X.heap.size, 0, none⟩ = some (.bool false) ∧ w5.cell? ⟨X.heap.size, 1, none⟩ = some (.string ⟨#[]⟩) ∧ w5.cell? ⟨X.heap.size, 2, none⟩ = some (.int .i64 0) ∧ w5.cell? ⟨X.heap.size, 3, none⟩ = some (.int .i64 0) ∧ w5.cell? ⟨X.heap.size, 4, none⟩ = some (.slice none 0 0) ∧ w5.cell? ⟨X.heap.size, 5, none⟩ = some (.int .i64 0) ∧ ∀ j, w5.frozen? ⟨X.heap.size, j, none⟩ = false := by
  have e := (hb.block _ (row_lt hres)).trans hres
  refine ⟨?_, ?_, ?_, ?_, ?_, ?_, fun j => Lib.frozen_of_heap e _⟩ <;> (rw [Lib.cell_of_heap e]; rfl)
theorem part_done {W X w4 w5 : World} {p : Bool} {g : ByteArray} {f u : Int} {T : List Xt} {o : Int} {a : Option Addr} {n c : Nat} (hW : W.heap.size ≤ X.heap.size) (h4 : Below X.heap.size X w4) (hres : w4.heap[X.heap.size]? = some (.cells zeroPt 83 (0, 0))) (hz : a = none → c = 0) (hn : n = T.length) (hh : HeldIn (OldNew W w4) w5 (ToksX T (.slice a n c))) (hb : Below w4.heap.size w4 w5) :
    ∃ Z, (((((w5.setCell ⟨X.heap.size, 0, none⟩ (.bool p)).setCell ⟨X.heap.size, 1, none⟩ (.string g)).setCell ⟨X.heap.size, 2, none⟩ (.int .i64 f)).setCell ⟨X.heap.size, 3, none⟩ (.int .i64 u)).setCell ⟨X.heap.size, 4, none⟩ (.slice a n c)).setCell ⟨X.heap.size, 5, none⟩ (.int .i64 o) = Z ∧ (Z.cell? ⟨X.heap.size, 0, none⟩ = some (.bool p) ∧ Z.cell? ⟨X.heap.size, 1, none⟩ = some (.string g) ∧ Z.cell? ⟨X.heap.size, 2, none⟩ = some (.int .i64 f) ∧ Z.cell? ⟨X.heap.size, 3, none⟩ = some (.int .i64 u) ∧ Z.cell? ⟨X.heap.size, 4, none⟩ = some (.slice a n c) ∧ Z.cell? ⟨X.heap.size, 5, none⟩ = some (.int .i64 o)) ∧ PtPost W X ⟨p, g, f, u, T, o⟩ (.returned (.agg #[.bool p, .string g, .int .i64 f, .int .i64 u, .slice a n c, .int .i64 o])) Z := by
  have hlt := row_lt hres
  have e := (hb.block _ hlt).trans hres
  refine ⟨sto6 w5 X.heap.size (.bool p) (.string g) (.int .i64 f) (.int .i64 u) (.slice a n c) (.int .i64 o), rfl, sto6_cells e, a, n, c, rfl, hz, hn, ?_, sto6_below (below_up h4 hb) (Nat.le_refl _)⟩
  have hst : StillB (OldNew W w4) w5 (sto6 w5 X.heap.size (.bool p) (.string g) (.int .i64 f) (.int .i64 u) (.slice a n c) (.int .i64 o)) := ⟨by rw [sto6_size]; exact Nat.le_refl _, fun k hg _ => sto6_far (by
    rintro rfl
    rcases hg with hg | hg
    · omega
    · have := row_lt hres
      omega)⟩
  exact (hh.over hst).mono fun k hg _ => by
    rcases hg with hg | hg
    · exact .inl hg
    · exact .inr (Nat.le_trans h4.size hg)

set_option maxRecDepth 100000 in
set_option maxHeartbeats 6400000 in
theorem text_part {m : Xm} {A B : List (List Xt)} {S : List Xs} {bv : Value} {mo : Option Nat} {rv fv sv : Value} {g : Nat} {W X : World} (h : SB m A B S bv mo rv fv sv g W) (hX : Below W.heap.size W X) (hz : Szd m) (hA : AOk A) {i : Nat} {t : Xt} (ht : m.bd[i]? = some t) (hk : 0 ≤ parI m (i + 1)) :
    Calls Try.prog 50 #[.pointer (some ⟨g, 0, none⟩), .int .i64 (i : Int)] X (PtPost W X (textP A t (parI m (i + 1)) S)) := by
  have hXs := h.over hX
  have hWX := hX.size
  obtain ⟨k0, -, k2, -, k4⟩ := hXs.cells
  have hlt : g < X.heap.size := hXs.lt
  obtain ⟨a, n, cap, rfl⟩ := hXs.toks.form
  obtain ⟨ra, rn, rc, rfl⟩ := hXs.raw.form
  obtain ⟨hn, hc1, hc2⟩ := hXs.toks.len
  have hi := (List.getElem?_eq_some_iff.1 ht).1
  have hi2 := hz.1
  obtain ⟨b, o, sa, sn, sc, rfl, hg, -, ⟨c0, c1, c2, c3, c4, c5, c6, c7⟩, -⟩ := hXs.toks.get ht
  obtain ⟨k, hkk⟩ : ∃ k : Nat, parI m (i + 1) = (k : Int) := ⟨_, (Int.toNat_of_nonneg hk).symm⟩
  obtain ⟨fb, fm, fc, hfx, hfz, hof⟩ := h.raw.of k
  have HPA : Hid (∀ Y : World, Below X.heap.size X Y → Calls Try.prog 36 #[.pointer (some ⟨g, 0, none⟩), .int .i64 ((i : Int) + 1)] Y (IntNew (k : Int) Y)) := Lib.hid (fun Y hY => hkk ▸ param_any (hXs.over hY) hz (i + 1))
  have HOF : Hid (∀ Y : World, Below X.heap.size X Y → Calls Try.prog 72 #[.slice ra rn rc, .int .i64 (k : Int)] Y (fun e w' => e = .returned (.slice fb fm fc) ∧ Y = w')) := Lib.hid (fun Y hY => hof Y (below_up hX hY))
  have HST : Hid (∀ Y : World, Below X.heap.size X Y → Calls Try.prog 71 #[.slice fb fm fc] Y (StrNew ⟨(stringL (ofL A (k : Int))).toArray⟩ Y)) := Lib.hid (fun Y hY => by
    obtain ⟨h1, h2, h3⟩ := hA.of (k : Int)
    exact pstr_any (hfx.over (below_up hX hY)) (by omega) h2 fun t ht => by have := h3 t ht; omega)
  rw [hkk]
  have HOW := Lib.hid (fun (Y : World) (hY : Below X.heap.size X Y) (u : Xt) => own_part h (below_up hX hY) u sa sn sc true)
  obtain ⟨z, hzz⟩ : ∃ z : ByteArray, (⟨(stringL (ofL A (k : Int))).toArray⟩ : ByteArray) = z := ⟨_, rfl⟩
  rw [hzz] at HST
  have HZ := Lib.hid hzz
  have hI : (i : Int) < (n : Int) := by omega
  have hI0 : (0 : Int) ≤ (i : Int) := by omega
  have hI1 : (i : Int) ≤ 100000 := by omega
  clear h hXs hX hz hA ht hk hn hi hi2 hkk hof hfx hfz hzz
  have hbx : ∀ Y : World, Below (X.heap.size + 2) ((X.alloc (.cells #[.bool false, .string ⟨#[]⟩, .int .i64 0, .int .i64 0, .slice none 0 0, .int .i64 0] 83)).alloc (.cells #[.int .i64 t.k, .string t.x, .bool t.sp, .string t.g, .int .i64 t.f, .int .i64 t.t, .bool t.d, .slice sa sn sc] 26)) Y → TwoB X t (.slice sa sn sc) Y := fun Y hY => two_next X t _ hY
  have HBX := Lib.hid hbx
  clear hbx
  have HB0 : Hid (Below X.heap.size X ((X.alloc (.cells #[.bool false, .string ⟨#[]⟩, .int .i64 0, .int .i64 0, .slice none 0 0, .int .i64 0] 83)).alloc (.cells #[.int .i64 t.k, .string t.x, .bool t.sp, .string t.g, .int .i64 t.f, .int .i64 t.t, .bool t.d, .slice sa sn sc] 26))) := Lib.hid (((Below.refl _ _).alloc (Nat.le_refl _) _).alloc (by simp) _)
  go_enter Try.func50, Try.ntmps50
  go_wp2
  obtain ⟨Y0, hY0⟩ : ∃ Y, (X.alloc (.cells #[.bool false, .string ⟨#[]⟩, .int .i64 0, .int .i64 0, .slice none 0 0, .int .i64 0] 83)).alloc (.cells #[.int .i64 t.k, .string t.x, .bool t.sp, .string t.g, .int .i64 t.f, .int .i64 t.t, .bool t.d, .slice sa sn sc] 26) = Y := ⟨_, rfl⟩
  have y2 : Y0.cell? ⟨g, 2, none⟩ = some (.slice ra rn rc) := by rw [← hY0]; exact bcell HB0.out k2 hlt
  have HS0 : Hid (Y0.heap.size = X.heap.size + 2) := Lib.hid (by rw [← hY0]; simp)
  rw [hY0] at HBX HB0 ⊢
  clear hY0
  have HBD := Lib.hid HB0.out.drew
  have HBZ : Hid (∀ Y : World, Below Y0.drew.heap.size Y0.drew Y → TwoB X t (.slice sa sn sc) Y) := Lib.hid (fun Y hY => HBX.out Y (HS0.out ▸ (Below.refl Y0.heap.size Y0).drew.trans hY))
  have HWX : Hid (W.heap.size ≤ X.heap.size) := Lib.hid hWX
  clear hWX
  have hw1 : IntKind.i64.wrap ((i : Int) + 1) = (i : Int) + 1 := IntWalk.i64_in _ (by omega)
  have HY2 : Hid (Y0.drew.cell? ⟨g, 2, none⟩ = some (.slice ra rn rc)) := Lib.hid y2
  have HGL : Hid (g < Y0.drew.heap.size) := Lib.hid (by show g < Y0.heap.size; rw [HS0.out]; omega)
  go_region_with (first
    | (go_at_call 36; (with_reducible refine (HPA.out _ HBD.out).mono ?_); rintro e w1 ⟨rfl, hb1⟩; have HC1 := Lib.hid hb1; have y3 : w1.cell? ⟨g, 2, none⟩ = some (.slice ra rn rc) := bcell hb1 HY2.out HGL.out; have HB1 := Lib.hid (below_up HBD.out hb1); clear hb1)
    | (go_at_call 72; (with_reducible refine (HOF.out _ HB1.out).mono ?_); rintro e w2 ⟨rfl, rfl⟩)
    | (go_at_call 71; (with_reducible refine (HST.out _ HB1.out).mono ?_); rintro e w3 ⟨rfl, hb3⟩; have HB3 := Lib.hid (below_up HB1.out hb3); have y4 : w3.cell? ⟨g, 2, none⟩ = some (.slice ra rn rc) := bcell hb3 (bcell HC1.out HY2.out HGL.out) (Nat.lt_of_lt_of_le HGL.out HC1.out.size); have HT3 := Lib.hid (HBZ.out _ (below_up HC1.out hb3)); (obtain ⟨⟨q0, q1⟩, z0, z1⟩ := HT3.out.cells); clear hb3))
  all_goals
    have HT4 := Lib.hid (HT3.out.put z)
    have HB4 := Lib.hid ((HB3.out.setCell (p := ⟨X.heap.size + 1, 0, none⟩) (Nat.le_succ _) (.int .i64 4)).setCell (p := ⟨X.heap.size + 1, 1, none⟩) (Nat.le_succ _) (.string z))
    obtain ⟨w4, hw4⟩ : ∃ w4, (w3.setCell ⟨X.heap.size + 1, 0, none⟩ (.int .i64 4)).setCell ⟨X.heap.size + 1, 1, none⟩ (.string z) = w4 := ⟨_, rfl⟩
    rw [hw4] at HT4 HB4 ⊢
    clear hw4 q0 q1 z0 z1 y4 y3
    obtain ⟨c0, c1, c2, c3, c4, c5, c6, c7⟩ := HT4.out.all
    have HO := Lib.hid (HOW.out w4 HB4.out { t with k := 4, x := z })
    go_wp2_with (go_at_call 52; (with_reducible refine HO.out.mono ?_); rintro e w5 ⟨a5, n5, c5, rfl, hz5, hn5, hh5, hb5⟩; have HD := Lib.hid (part_done (p := false) (g := ⟨#[]⟩) (f := 0) (u := 0) (o := -1) HWX.out HB4.out HT4.out.res hz5 hn5 hh5 hb5); (obtain ⟨e0, e1, e2, e3, e4, e5, ef⟩ := part_res HT4.out.res hb5); clear hz5 hn5 hh5 hb5; simp only [ptV, ownP])
    obtain ⟨Z, hZ, ⟨y0, y1, y2, y3, y4, y5⟩, hP⟩ := HD.out
    rw [hZ]
    refine bodyPost_ret (v := .agg #[.bool false, .string ⟨#[]⟩, .int .i64 0, .int .i64 0, .slice a5 n5 c5, .int .i64 (-1)]) (by simp [results, Try.results50, go_sem, y0, y1, y2, y3, y4, y5]) rfl ?_
    have hq : textP A t (k : Int) S = ownP { t with k := 4, x := z } true S := by rw [← HZ.out]; rfl
    rw [hq]
    exact hP

end Go.Proofs.Ytobplffailbkbaa
