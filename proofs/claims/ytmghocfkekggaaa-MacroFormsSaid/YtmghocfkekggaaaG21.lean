/-
  Texts of the proof, put together: McBody.
-/
import Derived.Test.YtmghocfkekggaaaG20

/-
  What is left, as a body: the reader's body.
-/
namespace Go.Proofs.Ytmghocfkekggaaa
open Go.RowKit Go.Maps

theorem ClT.lower {W W1 : World} {T : List Xt} {a : Option Addr} {n c : Nat} {P : List (Xt × Value)} {w : World} (h : ClT W1 T a n c P w) (b : Below W.heap.size W W1) : ClT W T a n c P w := ⟨h.map, h.up.lower b, h.sits, h.off⟩
theorem ClT.far {W : World} {T : List Xt} {a : Option Addr} {n c : Nat} {P : List (Xt × Value)} {w : World} (h : ClT W T a n c P w) {g : Nat} (hg : W.heap.size ≤ g) (hr : ∀ k, (Value.slice a n c).ownBlock = some k → k ≠ g) (ho : ∀ p ∈ P, OffG g p.2) (j : Nat) (u : Value) :
    ClT W T a n c P (w.setCell ⟨g, j, none⟩ u) :=
  ⟨h.map, ⟨ownsRow_over h.up.1 fun k hk => heap_setCell_other w _ k u (hr k hk), h.up.2.setCell (p := ⟨g, j, none⟩) hg u⟩, fun p hp => (h.sits p hp).set (ho p hp) j u, h.off⟩
theorem ClT.bare {W : World} {t : Xt} {r : List Xt} {g n c : Nat} {P : List (Xt × Value)} {w : World} (h : ClT W (t :: r) (some ⟨g, 0, none⟩) n c P w) :
    w.cell? ⟨g, 2, none⟩ = some (.bool t.sp) ∧ w.frozen? ⟨g, 2, none⟩ = false ∧ ∃ P', ClT W (bareL (t :: r)) (some ⟨g, 0, none⟩) n c P' (w.setCell ⟨g, 2, none⟩ (.bool false)) ∧ ∀ q, (∀ p ∈ P, OffG q p.2) → ∀ p ∈ P', OffG q p.2 := by
  match P, h with
  | [], h => have := h.map; simp at this
  | (t', sv) :: Q, h =>
    have hm := h.map
    simp only [List.map_cons, List.cons.injEq] at hm
    obtain ⟨rfl, hQ⟩ := hm
    obtain ⟨a4, c4, hv4, -, -, hcell⟩ := row_form h.up.1
    simp only [Value.slice.injEq, true_and] at hv4
    obtain ⟨rfl, rfl⟩ := hv4
    have hg2 := flat_get (f := xcell) (n := 8) (fun _ => rfl) ((t', sv) :: Q) 0 _ rfl 2 (by omega)
    obtain ⟨g', hg', -, k2⟩ := hcell (0 * 8 + 2) _ (hg2.trans rfl)
    simp only [Option.some.injEq, Addr.mk.injEq, and_true] at hg'
    obtain rfl := hg'
    refine ⟨k2, own_freeX h.up.1 2, ({ t' with sp := false }, sv) :: Q, ⟨by simp [bareL, hQ], ?_, fun p hp => ?_, fun p hp q hq => ?_⟩, fun q hq p hp => ?_⟩
    · have := up_setX h.up 2 (.bool false)
      exact this
    · rcases List.mem_cons.1 hp with rfl | hp
      · exact (h.sits (t', sv) (List.mem_cons_self ..)).set (h.off (t', sv) (List.mem_cons_self ..) g rfl) _ _
      · exact (h.sits p (List.mem_cons_of_mem _ hp)).set (h.off p (List.mem_cons_of_mem _ hp) g rfl) _ _
    · rcases List.mem_cons.1 hp with rfl | hp
      · exact h.off (t', sv) (List.mem_cons_self ..) q hq
      · exact h.off p (List.mem_cons_of_mem _ hp) q hq
    · rcases List.mem_cons.1 hp with rfl | hp
      · exact hq (t', sv) (List.mem_cons_self ..)
      · exact hq p (List.mem_cons_of_mem _ hp)

/-- A store that is nothing of the reader's. -/
theorem Rd.far {W : World} {p mb : Nat} {m : Xm} {pv bv : Value} {R : List Xt} {rv : Value} {w : World} (h : Rd W p mb m pv bv R rv w) {g : Nat} (h1 : g ≠ p) (h2 : g ≠ mb) (h3 : ∀ k, pv.ownBlock = some k → k ≠ g) (h4 : W.heap.size ≤ g) (j : Nat) (u : Value) :
    Rd W p mb m pv bv R rv (w.setCell ⟨g, j, none⟩ u) := by
  obtain ⟨D, hD, hM⟩ := h.map
  exact ⟨(heap_setCell_other w _ p u fun e => h1 e.symm).trans h.obj, h.low, ⟨D, ownsMap_over hD (heap_setCell_other w _ mb u fun e => h2 e.symm), hM⟩, ownsRow_over h.par fun k hk => heap_setCell_other w _ k u (h3 k hk), h.rest, h.bel.setCell (p := ⟨g, j, none⟩) h4 u, h.fit, h.sit, h.sht⟩
theorem Rd.rest0 {W : World} {p mb : Nat} {m : Xm} {pv bv : Value} {R : List Xt} {rv : Value} {w : World} (h : Rd W p mb m pv bv R rv w) : Rd W p mb m pv bv [] (.slice none 0 0) (w.setCell ⟨p, 8, none⟩ (.slice none 0 0)) := by
  have ho := h.obj
  unfold rdObj at ho
  exact h.put 8 _ ((heap_setCell_same w p 8 _ _ _ ho).trans rfl) rfl (toksX_nil W) (by simp) (fun u hu => by cases hu)
theorem Rd.bodied {W : World} {p mb : Nat} {m : Xm} {pv bv : Value} {R : List Xt} {rv : Value} {w : World} (h : Rd W p mb m pv bv R rv w) (B : List Xt) (v : Value) : Rd W p mb { m with bd := B } pv v R rv (w.setCell ⟨p, 4, none⟩ v) := by
  have ho := h.obj
  unfold rdObj at ho
  exact h.put 4 _ ((heap_setCell_same w p 4 _ _ _ ho).trans rfl) rfl h.rest (Nat.le_refl _) (fun _ hu => hu)

/-- The reader, all read. -/
def Rb (W : World) (p mb : Nat) (m : Xm) (pv bv : Value) (w : World) : Prop := Rd W p mb m pv bv [] (.slice none 0 0) w ∧ ToksX m.bd bv w
theorem Rb.over {W : World} {p mb : Nat} {m : Xm} {pv bv : Value} {w w' : World} (h : Rb W p mb m pv bv w) (b : Below w.heap.size w w') : Rb W p mb m pv bv w' := ⟨h.1.over b, h.2.over b⟩
def BodyPost (W : World) (p mb : Nat) (m : Xm) (e : Ending) (w' : World) : Prop := e = .returned (.tuple #[]) ∧ ∃ pv bv, Rb W p mb m pv bv w'

theorem body_none {W : World} {p mb : Nat} {m : Xm} {pv bv : Value} {rv : Value} {a : Option Addr} {c : Nat} {P : List (Xt × Value)} {w w1 : World} (h : Rd W p mb m pv bv [] rv w) (hc : ClT w [] a 0 c P w1) :
    BodyPost W p mb { m with bd := [] } (.returned (.tuple #[])) ((w1.setCell ⟨p, 4, none⟩ (.slice a 0 c)).setCell ⟨p, 8, none⟩ (.slice none 0 0)) := by
  have h1 := h.over hc.up.2
  obtain ⟨-, h2, h3⟩ := hc.toks.len
  exact ⟨rfl, pv, _, (h1.bodied [] (.slice a 0 c)).rest0, a, c, rfl, h2, h3, fun k t hk => by simp at hk⟩

theorem body_some {W : World} {p mb : Nat} {m : Xm} {pv bv : Value} {t : Xt} {r : List Xt} {rv : Value} {a : Option Addr} {n c : Nat} {P : List (Xt × Value)} {w w1 : World} (h : Rd W p mb m pv bv (t :: r) rv w) (hc : ClT w (t :: r) a n c P w1) (hf : ∀ p ∈ P, ∀ g, g < w.heap.size → OffG g p.2) :
    ∃ g, a = some ⟨g, 0, none⟩ ∧ p < g ∧ w1.cell? ⟨g, 2, none⟩ = some (.bool t.sp) ∧ w1.frozen? ⟨g, 2, none⟩ = false ∧
      BodyPost W p mb { m with bd := bareL (t :: r) } (.returned (.tuple #[])) (((w1.setCell ⟨p, 4, none⟩ (.slice a n c)).setCell ⟨g, 2, none⟩ (.bool false)).setCell ⟨p, 8, none⟩ (.slice none 0 0)) := by
  have hp := h.lt
  have h1 := h.over hc.up.2
  obtain ⟨g, o, sa, sn, sc, ha, hg, -⟩ := hc.toks.get (k := 0) (t := t) rfl
  have hn1 : (t :: r).length = n := hc.toks.len.1.symm
  obtain ⟨g', rfl, hgl⟩ : ∃ g', a = some ⟨g', 0, none⟩ ∧ w.heap.size ≤ g' := by
    obtain ⟨-, ⟨hv, -⟩ | ⟨g', cap, cur, hv, hg', -⟩⟩ := hc.up.1
    · simp only [Value.slice.injEq] at hv
      rw [ha] at hv
      cases hv.1
    · simp only [Value.slice.injEq] at hv
      exact ⟨g', hv.1, hg'⟩
  obtain ⟨k2, z2, -⟩ := hc.bare
  have hc2 : ClT W (t :: r) (some ⟨g', 0, none⟩) n c P (w1.setCell ⟨p, 4, none⟩ (.slice (some ⟨g', 0, none⟩) n c)) := (hc.lower h.bel).far h.low.1 (fun k hk => by simp only [Value.ownBlock, Option.some.injEq] at hk; omega) (fun q hq => hf q hq p hp) 4 _
  obtain ⟨-, -, P', hc3, hP'⟩ := hc2.bare
  have hc4 := hc3.far (g := p) h.low.1 (fun k hk => by simp only [Value.ownBlock, Option.some.injEq] at hk; omega) (hP' p fun q hq => hf q hq p hp) 8 (.slice none 0 0)
  have hr2 := h1.bodied (bareL (t :: r)) (.slice (some ⟨g', 0, none⟩) n c)
  obtain ⟨D, hD, -⟩ := h.map
  have hmb := hD.lt
  have hpb := fun k (hk : pv.ownBlock = some k) => (World.ownsRow.lt h.par k hk).2
  have hr3 := hr2.far (g := g') (by omega) (by omega) (fun k hk => by have := hpb k hk; omega) (by have := h.bel.size; omega) 2 (.bool false)
  exact ⟨g', rfl, by omega, k2, z2, rfl, pv, _, hr3.rest0, hc4.toks⟩

set_option maxRecDepth 100000 in
set_option maxHeartbeats 3200000 in
theorem mbody_any {W : World} {p mb : Nat} {m : Xm} {pv bv : Value} {R : List Xt} {rv : Value} {w : World} (h : Rd W p mb m pv bv R rv w) :
    Calls Try.prog 38 #[.pointer (some ⟨p, 0, none⟩)] w (BodyPost W p mb { m with bd := bareL R }) := by
  obtain ⟨a, n, cap, rfl⟩ := h.rest.form
  obtain ⟨-, -, -, -, -, -, -, -, k8, -⟩ := h.cells
  have HCL := Lib.hid (tclone_own (h.rest.over h.bel) (by have := h.fit; omega) h.sit)
  cases R with
  | nil =>
    have HR := Lib.hid h
    clear h
    go_enter Try.func38, Try.ntmps38
    go_wp2_with (go_at_call 47; (with_reducible refine (HCL.out).mono ?_); rintro e w1 ⟨a1, n1, c1, P1, rfl, hn1, hc1, -⟩; (obtain rfl : n1 = 0 := hn1); have hr1 := HR.out.over hc1.up.2; (obtain ⟨-, -, -, -, q4, -, -, -, q8, -⟩ := hr1.cells); have z4 := hr1.free 4; have z8 := hr1.free 8; have HC1 := Lib.hid hc1; clear hc1 hr1)
    go_end0
    exact body_none HR.out HC1.out
  | cons t r =>
    have HR := Lib.hid h
    clear h
    go_enter Try.func38, Try.ntmps38
    go_wp2_with (go_at_call 47; (with_reducible refine (HCL.out).mono ?_); rintro e w1 ⟨a1, n1, c1, P1, rfl, hn1, hc1, hf1⟩; (obtain ⟨g, rfl, hpg, k2, z2, hend⟩ := body_some HR.out hc1 hf1); have hr1 := HR.out.over hc1.up.2; (obtain ⟨-, -, -, -, q4, -, -, -, q8, -⟩ := hr1.cells); have z4 := hr1.free 4; have z8 := hr1.free 8; (have hpos : 0 < n1 := by rw [hn1]; simp); (have hposI : (0 : Int) < (n1 : Int) := by omega); (have hng : g ≠ p := by omega); (have hgn : p ≠ g := by omega); have HE := Lib.hid hend; clear hc1 hr1 hn1 hf1 hend)
    go_end0
    exact HE.out

end Go.Proofs.Ytmghocfkekggaaa
