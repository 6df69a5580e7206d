/-
  Texts of the proof, put together: McRef, McParse.
-/
import Derived.Test.YtmghocfkekggaaaG22
import Derived.BigRegion
import Derived.Carry

/-
  Names that no macro may have; a definition that is refused.
-/
namespace Go.Proofs.Ytmghocfkekggaaa
open Go.RowKit Go.Maps

theorem lit_list (a : ByteArray) : a.toList = a.data.toList := ByteArray.toList_eq a
theorem df_is (x : ByteArray) : (x.toList == [100, 101, 102, 105, 110, 101, 100]) = decide (x = dfB) := by rw [← str_is, lit_list dfB]
theorem fl_is (x : ByteArray) : (x.toList == [95, 95, 70, 73, 76, 69, 95, 95]) = decide (x = flB) := by rw [← str_is, lit_list flB]
theorem ln_is (x : ByteArray) : (x.toList == [95, 95, 76, 73, 78, 69, 95, 95]) = decide (x = lnB) := by rw [← str_is, lit_list lnB]

set_option maxRecDepth 100000 in
set_option maxHeartbeats 3200000 in
theorem reserved_any (x : ByteArray) (w : World) : Calls Try.prog 36 #[.string x] w fun e w' => e = .returned (.bool (resB x)) ∧ w = w' := by
  have h1 := df_is x
  have h2 := fl_is x
  have h3 := ln_is x
  have h4 := va_is x
  obtain ⟨b1, e1⟩ : ∃ b, decide (x = dfB) = b := ⟨_, rfl⟩
  obtain ⟨b2, e2⟩ : ∃ b, decide (x = flB) = b := ⟨_, rfl⟩
  obtain ⟨b3, e3⟩ : ∃ b, decide (x = lnB) = b := ⟨_, rfl⟩
  obtain ⟨b4, e4⟩ : ∃ b, decide (x = vaB) = b := ⟨_, rfl⟩
  have HE : Hid (resB x = (b1 || b2 || b3 || b4)) := Lib.hid (by unfold resB; rw [e1, e2, e3, e4])
  rw [e1] at h1
  rw [e2] at h2
  rw [e3] at h3
  rw [e4] at h4
  rw [HE.out]
  clear HE e1 e2 e3 e4
  have HW : Hid ((b1 = true) ∨ (b1 = false ∧ b2 = true) ∨ (b1 = false ∧ b2 = false ∧ b3 = true) ∨ (b1 = false ∧ b2 = false ∧ b3 = false ∧ b4 = true) ∨ (b1 = false ∧ b2 = false ∧ b3 = false ∧ b4 = false)) := Lib.hid (by cases b1 <;> cases b2 <;> cases b3 <;> cases b4 <;> simp)
  rcases HW.out with rfl | ⟨rfl, rfl⟩ | ⟨rfl, rfl, rfl⟩ | ⟨rfl, rfl, rfl, rfl⟩ | ⟨rfl, rfl, rfl, rfl⟩
  all_goals
    clear HW
    go_enter Try.func36, Try.ntmps36
    go_wp2
    go_ret
    exact ⟨by simp, rfl⟩

theorem new_two (w : World) (o o' : Obj) {cs : Array Value} {T : TypeId} (j : Nat) (u : Value) (h : cs[j]? = some u) : (((w.alloc o).alloc o').alloc (.cells cs T)).drew.cell? ⟨w.heap.size + 1 + 1, j, none⟩ = some u := by
  have e : ((w.alloc o).alloc o').heap.size = w.heap.size + 1 + 1 := by simp
  have h1 : (((w.alloc o).alloc o').alloc (.cells cs T)).cell? ⟨((w.alloc o).alloc o').heap.size, j, none⟩ = some u := by
    rw [Lib.cell_of_heap (heap_alloc_new _ _)]
    exact h
  rw [e] at h1
  exact h1
def RefusedAt (W : World) (i : Ill) (e : Ending) (w' : World) : Prop :=
  ∃ g, e = .returned (.tuple #[.agg #[.string ⟨#[]⟩, .bool false, .bool false, .slice none 0 0, .slice none 0 0, .string ⟨#[]⟩, .int .i64 0, .int .i64 0], .slice (some ⟨g, 0, none⟩) 1 1]) ∧ Below W.heap.size W w' ∧ W.heap.size ≤ g ∧ g < w'.heap.size ∧ w'.cell? ⟨g, 0, none⟩ = some (.int .i64 i.c) ∧ w'.cell? ⟨g, 1, none⟩ = some (.string i.g) ∧ w'.cell? ⟨g, 2, none⟩ = some (.int .i64 i.f) ∧ w'.cell? ⟨g, 3, none⟩ = some (.int .i64 i.t)

set_option maxRecDepth 100000 in
set_option maxHeartbeats 3200000 in
theorem refuse_any (i : Ill) (w : World) : Calls Try.prog 35 #[.int .i64 i.c, .agg #[.string i.g, .int .i64 i.f, .int .i64 i.t]] w (RefusedAt w i) := by
  go_enter Try.func35, Try.ntmps35
  go_wp2
  go_region
  go_wp2
  exact bodyPost_ret (v := .tuple #[.agg #[.string ⟨#[]⟩, .bool false, .bool false, .slice none 0 0, .slice none 0 0, .string ⟨#[]⟩, .int .i64 0, .int .i64 0], .slice (some ⟨w.heap.size + 1 + 1, 0, none⟩) 1 1]) (by simp [results, Try.results35, go_sem]) rfl
    ⟨_, rfl, ((((Below.refl _ _).alloc (Nat.le_refl _) _).alloc (by simp) _).alloc (by simp; omega) _).drew, by omega, by simp, new_two w _ _ 0 _ rfl, new_two w _ _ 1 _ rfl, new_two w _ _ 2 _ rfl, new_two w _ _ 3 _ rfl⟩

end Go.Proofs.Ytmghocfkekggaaa

/-
  Parse.
-/
namespace Go.Proofs.Ytmghocfkekggaaa
open Go.RowKit Go.Maps

theorem parse_kind {t : Xt} {r : List Xt} (h : t.k ≠ 1) : parseL (t :: r) = .inr (illOf 4 t) := by
  show (if t.k ≠ 1 then _ else _) = _
  rw [if_pos h]
theorem parse_res {t : Xt} {r : List Xt} (h : t.k = 1) (h' : resB t.x = true) : parseL (t :: r) = .inr (illOf 5 t) := by
  show (if t.k ≠ 1 then _ else if resB t.x then _ else _) = _
  rw [if_neg (fun x => x h), h']
  rfl
theorem parse_go {t : Xt} {r : List Xt} (h : t.k = 1) (h' : resB t.x = false) : parseL (t :: r) = match headL r with
      | none => .inr (illOf 5 t)
      | some (fn, va, ps, q) => match misL fn va ps (bareL q) (bareL q).length 0 with
        | some i => match (bareL q)[i]? with
          | some u => .inr (illOf 5 u)
          | none => .inr (illOf 5 t)
        | none => .inl ⟨t.x, fn, va, ps, bareL q, t.g, t.f, t.t⟩ := by
  show (if t.k ≠ 1 then _ else if resB t.x then _ else _) = _
  rw [if_neg (fun x => x h), h']
  rfl

theorem mhead_none {W : World} {p mb : Nat} {nm g : ByteArray} {f t : Int} {pv bv : Value} {T : List Xt} {rv : Value} {w : World} (h : Rd W p mb (hm nm false false [] g f t) pv bv T rv w) (hT : headL T = none) :
    Calls Try.prog 37 #[.pointer (some ⟨p, 0, none⟩)] w (Failed W p mb g f t) := by
  have := mhead_any h
  rw [hT] at this
  exact this
theorem mhead_some {W : World} {p mb : Nat} {nm g : ByteArray} {f t : Int} {pv bv : Value} {T : List Xt} {rv : Value} {w : World} (h : Rd W p mb (hm nm false false [] g f t) pv bv T rv w) {fn va : Bool} {ps : List ByteArray} {q : List Xt} (hT : headL T = some (fn, va, ps, q)) :
    Calls Try.prog 37 #[.pointer (some ⟨p, 0, none⟩)] w (RdEnd W p mb true (hm nm fn va ps g f t) q) := by
  have := mhead_any h
  rw [hT] at this
  exact this

def zeroObj : Obj := .cells #[.string ⟨#[]⟩, .bool false, .bool false, .slice none 0 0, .slice none 0 0, .string ⟨#[]⟩, .int .i64 0, .int .i64 0] 38
theorem zero_cells {w : World} {q : Nat} (h : w.heap[q]? = some zeroObj) :
    w.cell? ⟨q, 0, none⟩ = some (.string ⟨#[]⟩) ∧ w.cell? ⟨q, 1, none⟩ = some (.bool false) ∧ w.cell? ⟨q, 2, none⟩ = some (.bool false) ∧ w.cell? ⟨q, 3, none⟩ = some (.slice none 0 0) ∧ w.cell? ⟨q, 4, none⟩ = some (.slice none 0 0) ∧
    w.cell? ⟨q, 5, none⟩ = some (.string ⟨#[]⟩) ∧ w.cell? ⟨q, 6, none⟩ = some (.int .i64 0) ∧ w.cell? ⟨q, 7, none⟩ = some (.int .i64 0) ∧ ∀ j, w.frozen? ⟨q, j, none⟩ = false := by
  unfold zeroObj at h
  refine ⟨?_, ?_, ?_, ?_, ?_, ?_, ?_, ?_, fun j => Lib.frozen_of_heap h _⟩ <;> (rw [Lib.cell_of_heap h]; rfl)

theorem start_map (w1 : World) (nm g : ByteArray) (f t : Int) {R : List Xt} {rv : Value} (hr : ToksX R rv w1) (hl : R.length ≤ 500000) (hs : ∀ u ∈ R, u.ss.length ≤ 500000) (hz : ∀ u ∈ R, u.x.size ≤ maxLen) :
    Rd w1 (w1.heap.size + 1) w1.heap.size (hm nm false false [] g f t) (.slice none 0 0) (.slice none 0 0) R rv ((w1.alloc (.map #[] 0)).alloc (rdObj (hm nm false false [] g f t) (.slice none 0 0) (.slice none 0 0) rv w1.heap.size)).drew := by
  have e : (w1.alloc (.map #[] 0)).heap.size = w1.heap.size + 1 := by simp
  refine ⟨?_, ⟨by omega, Nat.le_refl _⟩, ⟨.map [], ?_, fun s => rfl⟩, ⟨by simp, .inl ⟨rfl, rfl⟩⟩, hr, (((Below.refl _ _).alloc (Nat.le_refl _) _).alloc (by simp) _).drew, by simpa using hl, hs, hz⟩
  · have := heap_alloc_new (w1.alloc (.map #[] 0)) (rdObj (hm nm false false [] g f t) (.slice none 0 0) (.slice none 0 0) rv w1.heap.size)
    rw [e] at this
    exact this
  · exact ownsMap_over (World.ownsMap_made w1 Try.prog 9 numElem) (Below.heap_alloc _ _ _ (by rw [e]; omega))
theorem start_rd (w1 : World) (nm g : ByteArray) (f t : Int) {R : List Xt} {rv : Value} (hr : ToksX R rv w1) (hl : R.length ≤ 500000) (hs : ∀ u ∈ R, u.ss.length ≤ 500000) (hz : ∀ u ∈ R, u.x.size ≤ maxLen) :
    Rd w1 w1.heap.size (w1.heap.size + 1) (hm nm false false [] g f t) (.slice none 0 0) (.slice none 0 0) R rv ((w1.alloc (rdObj (hm nm false false [] g f t) (.slice none 0 0) (.slice none 0 0) rv (w1.heap.size + 1))).alloc (.map #[] 0)).drew := by
  have e : (w1.alloc (rdObj (hm nm false false [] g f t) (.slice none 0 0) (.slice none 0 0) rv (w1.heap.size + 1))).heap.size = w1.heap.size + 1 := by simp
  refine ⟨?_, ⟨Nat.le_refl _, by omega⟩, ⟨.map [], ?_, fun s => rfl⟩, ⟨by simp, .inl ⟨rfl, rfl⟩⟩, hr, (((Below.refl _ _).alloc (Nat.le_refl _) _).alloc (by simp) _).drew, by simpa using hl, hs, hz⟩
  · exact (Below.heap_alloc _ _ _ (by rw [e]; omega)).trans (heap_alloc_new _ _)
  · have := World.ownsMap_made (w1.alloc (rdObj (hm nm false false [] g f t) (.slice none 0 0) (.slice none 0 0) rv (w1.heap.size + 1))) Try.prog 9 numElem
    rw [e] at this
    exact this

theorem bare_in {q : List Xt} {u : Xt} (h : u ∈ bareL q) : ∃ v ∈ q, u.x = v.x ∧ u.ss = v.ss := by
  match q, h with
  | t :: r, h =>
    rcases List.mem_cons.1 h with rfl | h
    · exact ⟨t, List.mem_cons_self .., rfl, rfl⟩
    · exact ⟨u, List.mem_cons_of_mem _ h, rfl, rfl⟩
theorem bare_len (q : List Xt) : (bareL q).length = q.length := by cases q <;> rfl

/-- What Parse answers. -/
def ParseAt (W : World) : Xm ⊕ Ill → Ending → World → Prop
  | .inl m => fun e w' => ∃ pv bv, e = .returned (.tuple #[macV m pv bv, .slice none 0 0]) ∧ MacAt m pv bv w' ∧ Below W.heap.size W w'
  | .inr i => RefusedAt W i

/-- A refusal, and the cell of the result. -/
def RefW (W : World) (q g : Nat) (i : Ill) (w' : World) : Prop := Below W.heap.size W w' ∧ W.heap.size ≤ q ∧ W.heap.size ≤ g ∧ g ≠ q ∧ g < w'.heap.size ∧ w'.cell? ⟨g, 0, none⟩ = some (.int .i64 i.c) ∧ w'.cell? ⟨g, 1, none⟩ = some (.string i.g) ∧ w'.cell? ⟨g, 2, none⟩ = some (.int .i64 i.f) ∧ w'.cell? ⟨g, 3, none⟩ = some (.int .i64 i.t)
theorem RefW.set {W : World} {q g : Nat} {i : Ill} {w : World} (h : RefW W q g i w) (j : Nat) (u : Value) : RefW W q g i (w.setCell ⟨q, j, none⟩ u) := by
  obtain ⟨h1, h2, h3, h4, h5, c0, c1, c2, c3⟩ := h
  have e : ∀ k, (w.setCell ⟨q, j, none⟩ u).cell? ⟨g, k, none⟩ = w.cell? ⟨g, k, none⟩ := fun k => World.cell?_of_block (heap_setCell_other w _ g u h4)
  exact ⟨h1.setCell (p := ⟨q, j, none⟩) h2 u, h2, h3, h4, by simpa [World.setCell] using h5, (e 0).trans c0, (e 1).trans c1, (e 2).trans c2, (e 3).trans c3⟩
theorem RefW.end {W : World} {q g : Nat} {i : Ill} {w : World} (h : RefW W q g i w) : RefusedAt W i (.returned (.tuple #[.agg #[.string ⟨#[]⟩, .bool false, .bool false, .slice none 0 0, .slice none 0 0, .string ⟨#[]⟩, .int .i64 0, .int .i64 0], .slice (some ⟨g, 0, none⟩) 1 1])) w := by
  obtain ⟨h1, h2, h3, h4, h5, c0, c1, c2, c3⟩ := h
  exact ⟨g, rfl, h1, h3, h5, c0, c1, c2, c3⟩

/-- Eight stores. -/
def sto8 (w : World) (q : Nat) (v0 v1 v2 v3 v4 v5 v6 v7 : Value) : World := (((((((w.setCell ⟨q, 0, none⟩ v0).setCell ⟨q, 1, none⟩ v1).setCell ⟨q, 2, none⟩ v2).setCell ⟨q, 3, none⟩ v3).setCell ⟨q, 4, none⟩ v4).setCell ⟨q, 5, none⟩ v5).setCell ⟨q, 6, none⟩ v6).setCell ⟨q, 7, none⟩ v7
theorem sto8_heap {w : World} {q : Nat} {a0 a1 a2 a3 a4 a5 a6 a7 v0 v1 v2 v3 v4 v5 v6 v7 : Value} {T : TypeId} (h : w.heap[q]? = some (.cells #[a0, a1, a2, a3, a4, a5, a6, a7] T (0, 0))) : (sto8 w q v0 v1 v2 v3 v4 v5 v6 v7).heap[q]? = some (.cells #[v0, v1, v2, v3, v4, v5, v6, v7] T (0, 0)) := by
  have h0 : (w.setCell ⟨q, 0, none⟩ v0).heap[q]? = some (.cells #[v0, a1, a2, a3, a4, a5, a6, a7] T (0, 0)) := (heap_setCell_same w q 0 _ _ v0 h).trans rfl
  have h1 : ((w.setCell ⟨q, 0, none⟩ v0).setCell ⟨q, 1, none⟩ v1).heap[q]? = some (.cells #[v0, v1, a2, a3, a4, a5, a6, a7] T (0, 0)) := (heap_setCell_same (w.setCell ⟨q, 0, none⟩ v0) q 1 _ _ v1 h0).trans rfl
  have h2 : (((w.setCell ⟨q, 0, none⟩ v0).setCell ⟨q, 1, none⟩ v1).setCell ⟨q, 2, none⟩ v2).heap[q]? = some (.cells #[v0, v1, v2, a3, a4, a5, a6, a7] T (0, 0)) := (heap_setCell_same ((w.setCell ⟨q, 0, none⟩ v0).setCell ⟨q, 1, none⟩ v1) q 2 _ _ v2 h1).trans rfl
  have h3 : ((((w.setCell ⟨q, 0, none⟩ v0).setCell ⟨q, 1, none⟩ v1).setCell ⟨q, 2, none⟩ v2).setCell ⟨q, 3, none⟩ v3).heap[q]? = some (.cells #[v0, v1, v2, v3, a4, a5, a6, a7] T (0, 0)) := (heap_setCell_same (((w.setCell ⟨q, 0, none⟩ v0).setCell ⟨q, 1, none⟩ v1).setCell ⟨q, 2, none⟩ v2) q 3 _ _ v3 h2).trans rfl
  have h4 : (((((w.setCell ⟨q, 0, none⟩ v0).setCell ⟨q, 1, none⟩ v1).setCell ⟨q, 2, none⟩ v2).setCell ⟨q, 3, none⟩ v3).setCell ⟨q, 4, none⟩ v4).heap[q]? = some (.cells #[v0, v1, v2, v3, v4, a5, a6, a7] T (0, 0)) := (heap_setCell_same ((((w.setCell ⟨q, 0, none⟩ v0).setCell ⟨q, 1, none⟩ v1).setCell ⟨q, 2, none⟩ v2).setCell ⟨q, 3, none⟩ v3) q 4 _ _ v4 h3).trans rfl
  have h5 : ((((((w.setCell ⟨q, 0, none⟩ v0).setCell ⟨q, 1, none⟩ v1).setCell ⟨q, 2, none⟩ v2).setCell ⟨q, 3, none⟩ v3).setCell ⟨q, 4, none⟩ v4).setCell ⟨q, 5, none⟩ v5).heap[q]? = some (.cells #[v0, v1, v2, v3, v4, v5, a6, a7] T (0, 0)) := (heap_setCell_same (((((w.setCell ⟨q, 0, none⟩ v0).setCell ⟨q, 1, none⟩ v1).setCell ⟨q, 2, none⟩ v2).setCell ⟨q, 3, none⟩ v3).setCell ⟨q, 4, none⟩ v4) q 5 _ _ v5 h4).trans rfl
  have h6 : (((((((w.setCell ⟨q, 0, none⟩ v0).setCell ⟨q, 1, none⟩ v1).setCell ⟨q, 2, none⟩ v2).setCell ⟨q, 3, none⟩ v3).setCell ⟨q, 4, none⟩ v4).setCell ⟨q, 5, none⟩ v5).setCell ⟨q, 6, none⟩ v6).heap[q]? = some (.cells #[v0, v1, v2, v3, v4, v5, v6, a7] T (0, 0)) := (heap_setCell_same ((((((w.setCell ⟨q, 0, none⟩ v0).setCell ⟨q, 1, none⟩ v1).setCell ⟨q, 2, none⟩ v2).setCell ⟨q, 3, none⟩ v3).setCell ⟨q, 4, none⟩ v4).setCell ⟨q, 5, none⟩ v5) q 6 _ _ v6 h5).trans rfl
  have h7 : ((((((((w.setCell ⟨q, 0, none⟩ v0).setCell ⟨q, 1, none⟩ v1).setCell ⟨q, 2, none⟩ v2).setCell ⟨q, 3, none⟩ v3).setCell ⟨q, 4, none⟩ v4).setCell ⟨q, 5, none⟩ v5).setCell ⟨q, 6, none⟩ v6).setCell ⟨q, 7, none⟩ v7).heap[q]? = some (.cells #[v0, v1, v2, v3, v4, v5, v6, v7] T (0, 0)) := (heap_setCell_same (((((((w.setCell ⟨q, 0, none⟩ v0).setCell ⟨q, 1, none⟩ v1).setCell ⟨q, 2, none⟩ v2).setCell ⟨q, 3, none⟩ v3).setCell ⟨q, 4, none⟩ v4).setCell ⟨q, 5, none⟩ v5).setCell ⟨q, 6, none⟩ v6) q 7 _ _ v7 h6).trans rfl
  exact h7
theorem sto8_far {w : World} {q : Nat} {v0 v1 v2 v3 v4 v5 v6 v7 : Value} {g : Nat} (h : g ≠ q) : (sto8 w q v0 v1 v2 v3 v4 v5 v6 v7).heap[g]? = w.heap[g]? := by
  unfold sto8
  exact (heap_setCell_other _ _ g v7 h).trans ((heap_setCell_other _ _ g v6 h).trans ((heap_setCell_other _ _ g v5 h).trans ((heap_setCell_other _ _ g v4 h).trans ((heap_setCell_other _ _ g v3 h).trans ((heap_setCell_other _ _ g v2 h).trans ((heap_setCell_other _ _ g v1 h).trans (heap_setCell_other _ _ g v0 h)))))))
theorem sto8_size {w : World} {q : Nat} {v0 v1 v2 v3 v4 v5 v6 v7 : Value} : (sto8 w q v0 v1 v2 v3 v4 v5 v6 v7).heap.size = w.heap.size := by
  simp [sto8, World.setCell]
theorem sto8_below {W w : World} {q : Nat} {v0 v1 v2 v3 v4 v5 v6 v7 : Value} (h : Below W.heap.size W w) (hq : W.heap.size ≤ q) : Below W.heap.size W (sto8 w q v0 v1 v2 v3 v4 v5 v6 v7) := by
  unfold sto8
  exact (Below.setCell (p := ⟨q, 7, none⟩) (Below.setCell (p := ⟨q, 6, none⟩) (Below.setCell (p := ⟨q, 5, none⟩) (Below.setCell (p := ⟨q, 4, none⟩) (Below.setCell (p := ⟨q, 3, none⟩) (Below.setCell (p := ⟨q, 2, none⟩) (Below.setCell (p := ⟨q, 1, none⟩) (Below.setCell (p := ⟨q, 0, none⟩) h hq v0) hq v1) hq v2) hq v3) hq v4) hq v5) hq v6) hq v7)
theorem sto8_cells {w : World} {q : Nat} {a0 a1 a2 a3 a4 a5 a6 a7 v0 v1 v2 v3 v4 v5 v6 v7 : Value} {T : TypeId} (h : w.heap[q]? = some (.cells #[a0, a1, a2, a3, a4, a5, a6, a7] T (0, 0))) : (sto8 w q v0 v1 v2 v3 v4 v5 v6 v7).cell? ⟨q, 0, none⟩ = some v0 ∧ (sto8 w q v0 v1 v2 v3 v4 v5 v6 v7).cell? ⟨q, 1, none⟩ = some v1 ∧ (sto8 w q v0 v1 v2 v3 v4 v5 v6 v7).cell? ⟨q, 2, none⟩ = some v2 ∧ (sto8 w q v0 v1 v2 v3 v4 v5 v6 v7).cell? ⟨q, 3, none⟩ = some v3 ∧ (sto8 w q v0 v1 v2 v3 v4 v5 v6 v7).cell? ⟨q, 4, none⟩ = some v4 ∧ (sto8 w q v0 v1 v2 v3 v4 v5 v6 v7).cell? ⟨q, 5, none⟩ = some v5 ∧ (sto8 w q v0 v1 v2 v3 v4 v5 v6 v7).cell? ⟨q, 6, none⟩ = some v6 ∧ (sto8 w q v0 v1 v2 v3 v4 v5 v6 v7).cell? ⟨q, 7, none⟩ = some v7 := by
  have e := sto8_heap (v0 := v0) (v1 := v1) (v2 := v2) (v3 := v3) (v4 := v4) (v5 := v5) (v6 := v6) (v7 := v7) h
  refine ⟨?_, ?_, ?_, ?_, ?_, ?_, ?_, ?_⟩ <;> (rw [Lib.cell_of_heap e]; rfl)
theorem RefW.sto {W : World} {q g : Nat} {i : Ill} {w : World} (h : RefW W q g i w) {v0 v1 v2 v3 v4 v5 v6 v7 : Value} : RefW W q g i (sto8 w q v0 v1 v2 v3 v4 v5 v6 v7) := by
  unfold sto8
  exact (RefW.set (RefW.set (RefW.set (RefW.set (RefW.set (RefW.set (RefW.set (RefW.set h 0 v0) 1 v1) 2 v2) 3 v3) 4 v4) 5 v5) 6 v6) 7 v7)

/-- A refusal's end. -/
theorem ref_end {W : World} {q g : Nat} {i : Ill} {w : World} (h : RefW W q g i w) (hq : w.heap[q]? = some zeroObj) : ∃ w', sto8 w q (.string ⟨#[]⟩) (.bool false) (.bool false) (.slice none 0 0) (.slice none 0 0) (.string ⟨#[]⟩) (.int .i64 0) (.int .i64 0) = w' ∧ w'.cell? ⟨q, 0, none⟩ = some (.string ⟨#[]⟩) ∧ w'.cell? ⟨q, 1, none⟩ = some (.bool false) ∧ w'.cell? ⟨q, 2, none⟩ = some (.bool false) ∧ w'.cell? ⟨q, 3, none⟩ = some (.slice none 0 0) ∧ w'.cell? ⟨q, 4, none⟩ = some (.slice none 0 0) ∧ w'.cell? ⟨q, 5, none⟩ = some (.string ⟨#[]⟩) ∧ w'.cell? ⟨q, 6, none⟩ = some (.int .i64 0) ∧ w'.cell? ⟨q, 7, none⟩ = some (.int .i64 0) ∧ Hid (RefW W q g i w') := by
  obtain ⟨y0, y1, y2, y3, y4, y5, y6, y7⟩ := sto8_cells (v0 := .string ⟨#[]⟩) (v1 := .bool false) (v2 := .bool false) (v3 := .slice none 0 0) (v4 := .slice none 0 0) (v5 := .string ⟨#[]⟩) (v6 := .int .i64 0) (v7 := .int .i64 0) hq
  exact ⟨_, rfl, y0, y1, y2, y3, y4, y5, y6, y7, Lib.hid h.sto⟩

end Go.Proofs.Ytmghocfkekggaaa
