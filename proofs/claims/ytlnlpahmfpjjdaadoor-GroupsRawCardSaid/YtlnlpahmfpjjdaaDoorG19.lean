/-
  Texts of the proof, put together: GcBld.
-/
import Derived.Test.YtlnlpahmfpjjdaaDoorG17
import Derived.Test.YtlnlpahmfpjjdaaDoorG02
import Derived.Test.YtlnlpahmfpjjdaaDoorG18

/-
  The project's builder: a stack of the conditions that are open, each with its arms, and what is told by lines.
-/
namespace Go.Proofs.YtlnlpahmfpjjdaaDoor
open Go.RowKit

/-- Where a frame lies. -/
structure Fv where
  kd : Int
  A : List ((Int × List Itm) × Value)
  P : List (Itm × Value)
  ia : Option Addr
  im : Nat
  ic : Nat
  ab : Nat
  ac : Nat
def ccell (p : Fr × Fv) : List Value := [.int .i64 p.2.kd, .int .i64 (p.1.ln : Int), .slice (some ⟨p.2.ab, 0, none⟩) (p.2.A.length + 1) p.2.ac, .bool p.1.en]
def ccells (F : List (Fr × Fv)) : List Value := F.flatMap ccell
theorem ccells_snoc (F : List (Fr × Fv)) (p : Fr × Fv) : ccells (F ++ [p]) = ccells F ++ ccell p := by simp [ccells]
theorem ccells_len (F : List (Fr × Fv)) : (ccells F).length = F.length * 4 := by
  unfold ccells
  exact flat_len (n := 4) (fun _ => rfl) F

structure FrAt (c : Col) (B d j : Nat) (f : Fr) (x : Fv) (w : World) : Prop where
  ma : x.A.map Prod.fst = f.dn
  mp : x.P.map Prod.fst = f.cu
  kd : j ≠ 0 → x.kd = 2
  fa : x.A.length ≤ d
  fp : x.P.length ≤ d
  lev : LevAt c B 66 (3 * j + 3) d (.slice x.ia x.im x.ic) x.P w
  arm : ArmAt c B 68 (3 * j + 3) d x.A (f.la : Int) (.slice x.ia x.im x.ic) x.ab x.ac w
theorem FrAt.chg {c c' : Col} {B d j m : Nat} {f : Fr} {x : Fv} {w w' : World} (h : FrAt c B d j f x w) (s : Chg m c c' w w') (hm : m < 3 * j + 3 ∨ 3 * j + 5 < m) : FrAt c' B d j f x w' :=
  ⟨h.ma, h.mp, h.kd, h.fa, h.fp, h.lev.chg s (by omega) (by omega), h.arm.chg s (by omega) (by omega)⟩
theorem FrAt.more {c : Col} {B d j : Nat} {f : Fr} {x : Fv} {w : World} (h : FrAt c B d j f x w) : FrAt c B (d + 1) j f x w :=
  ⟨h.ma, h.mp, h.kd, Nat.le_succ_of_le h.fa, Nat.le_succ_of_le h.fp, h.lev.more, h.arm.more⟩

theorem FrAt.recol {c c' : Col} {B d j : Nat} {f : Fr} {x : Fv} {w : World} (h : FrAt c B d j f x w) (hc : ∀ g, 3 * j + 3 ≤ c g → c g ≤ 3 * j + 5 → c' g = c g) : FrAt c' B d j f x w :=
  ⟨h.ma, h.mp, h.kd, h.fa, h.fp, h.lev.recol (fun g hg => (hc g (by omega) (by omega)).trans hg) (fun g hg => (hc g (by omega) (by omega)).trans hg), h.arm.recol (fun g hg => (hc g (by omega) (by omega)).trans hg) (fun g hg => (hc g (by omega) (by omega)).trans hg)⟩

structure Bld (W : World) (bb : Nat) (c : Col) (d : Nat) (F : List (Fr × Fv)) (oa oc ca cn : Nat) (codes : List Int) (w : World) : Prop where
  bel : Below W.heap.size W w
  low : W.heap.size ≤ bb
  box : w.heap[bb]? = some (.cells #[.slice (some ⟨oa, 0, none⟩) F.length oc, .slice (some ⟨ca, 0, none⟩) cn cn] 120 (0, 0))
  cb : c bb = 0
  cod : RowC c 1 W.heap.size 3 1 (.slice (some ⟨ca, 0, none⟩) cn cn) cn (ivals codes) w
  opn : RowC c 2 W.heap.size 117 4 (.slice (some ⟨oa, 0, none⟩) F.length oc) F.length (ccells F) w
  few : F.length ≤ d + 1
  frs : ∀ j f x, F[j]? = some (f, x) → FrAt c W.heap.size d j f x w

section
variable {W : World} {bb : Nat} {c : Col} {d : Nat} {F : List (Fr × Fv)} {oa oc ca cn : Nat} {codes : List Int} {w : World}

theorem Bld.over (h : Bld W bb c d F oa oc ca cn codes w) {w' : World} (b : Below w.heap.size w w') : Bld W bb c d F oa oc ca cn codes w' :=
  ⟨h.bel.trans (b.mono h.bel.size), h.low, (b.block bb (row_lt h.box)).trans h.box, h.cb, h.cod.chg (Chg.below 0 c b) (by omega), h.opn.chg (Chg.below 0 c b) (by omega), h.few, fun j f x hj => (h.frs j f x hj).chg (Chg.below 0 c b) (by omega)⟩
theorem Bld.recol (h : Bld W bb c d F oa oc ca cn codes w) {c1 : Col} (hc : ∀ g, g < w.heap.size → c1 g = c g) : Bld W bb c1 d F oa oc ca cn codes w :=
  have s : ∀ k, Chg k c c1 w w := fun _ => ⟨Nat.le_refl _, hc, fun _ _ _ => rfl⟩
  ⟨h.bel, h.low, h.box, (hc bb (row_lt h.box)).trans h.cb, h.cod.chg (s 0) (by omega), h.opn.chg (s 0) (by omega), h.few, fun j f x hj => (h.frs j f x hj).chg (s 0) (by omega)⟩
theorem Bld.fresh (h : Bld W bb c d F oa oc ca cn codes w) : Bld W bb (freshC c w) d F oa oc ca cn codes w :=
  ⟨h.bel, h.low, h.box, ((Chg.fresh 0 c w).col bb (row_lt h.box)).trans h.cb, h.cod.chg (Chg.fresh 0 c w) (by omega), h.opn.chg (Chg.fresh 0 c w) (by omega), h.few, fun j f x hj => (h.frs j f x hj).chg (Chg.fresh 0 c w) (by omega)⟩
theorem Bld.b0 (h : Bld W bb c d F oa oc ca cn codes w) : w.cell? ⟨bb, 0, none⟩ = some (.slice (some ⟨oa, 0, none⟩) F.length oc) := by rw [Lib.cell_of_heap h.box]; rfl
theorem Bld.b1 (h : Bld W bb c d F oa oc ca cn codes w) : w.cell? ⟨bb, 1, none⟩ = some (.slice (some ⟨ca, 0, none⟩) cn cn) := by rw [Lib.cell_of_heap h.box]; rfl
theorem Bld.lt (h : Bld W bb c d F oa oc ca cn codes w) : bb < w.heap.size := row_lt h.box
theorem Bld.olt (h : Bld W bb c d F oa oc ca cn codes w) : oa < w.heap.size := (World.ownsRow.lt h.opn.1 oa rfl).2
theorem Bld.clt (h : Bld W bb c d F oa oc ca cn codes w) : ca < w.heap.size := (World.ownsRow.lt h.cod.1 ca rfl).2
theorem Bld.cap (h : Bld W bb c d F oa oc ca cn codes w) : F.length ≤ oc ∧ oc ≤ maxLen := by
  obtain ⟨a, cap, hv, h1, h2, -⟩ := row_form h.opn.1
  simp only [Value.slice.injEq, true_and] at hv
  obtain ⟨-, rfl⟩ := hv
  exact ⟨h1, h2⟩
theorem Bld.clen (h : Bld W bb c d F oa oc ca cn codes w) : codes.length = cn ∧ cn ≤ maxLen := by
  obtain ⟨a, cap, hv, h1, h2, -⟩ := row_form h.cod.1
  simp only [Value.slice.injEq, true_and] at hv
  obtain ⟨-, rfl⟩ := hv
  exact ⟨by have := h.cod.1.1; unfold ivals at this; simpa using this, h2⟩
theorem Bld.fr (h : Bld W bb c d F oa oc ca cn codes w) {F0 F1 : List (Fr × Fv)} {f : Fr} {x : Fv} (hF : F = F0 ++ (f, x) :: F1) : FrAt c W.heap.size d F0.length f x w := h.frs _ _ _ (by rw [hF]; simp)
theorem Bld.cell (h : Bld W bb c d F oa oc ca cn codes w) {F0 F1 : List (Fr × Fv)} {f : Fr} {x : Fv} (hF : F = F0 ++ (f, x) :: F1) {i : Nat} {u : Value} (hi : i < 4) (hu : (ccell (f, x))[i]? = some u) : w.cell? ⟨oa, F0.length * 4 + i, none⟩ = some u := by
  have h1 := h.opn.1.cellAt (F0.length * 4 + i) (by rw [hF]; simp; omega)
  rw [h1, hF]
  have := flat_get (f := ccell) (n := 4) (fun _ => rfl) (F0 ++ (f, x) :: F1) F0.length (f, x) (by simp) i hi
  exact this.trans hu
theorem FrAt.slot {B j : Nat} {f : Fr} {x : Fv} (h : FrAt c B d j f x w) : w.cell? ⟨x.ab, x.A.length * 2 + 1, none⟩ = some (.slice x.ia x.im x.ic) ∧ x.ab < w.heap.size := by
  have h1 := h.arm.row.1.cellAt (x.A.length * 2 + 1) (by omega)
  rw [List.getElem?_append_right (by rw [acells_len]; omega), acells_len, show x.A.length * 2 + 1 - x.A.length * 2 = 1 from by omega] at h1
  exact ⟨h1, (World.ownsRow.lt h.arm.row.1 x.ab rfl).2⟩
theorem FrAt.acap {B j : Nat} {f : Fr} {x : Fv} (h : FrAt c B d j f x w) : x.A.length + 1 ≤ x.ac ∧ x.ac ≤ maxLen := by
  obtain ⟨a, cap, hv, h1, h2, -⟩ := row_form h.arm.row.1
  simp only [Value.slice.injEq, true_and] at hv
  obtain ⟨-, rfl⟩ := hv
  exact ⟨h1, h2⟩
theorem FrAt.icap {B j : Nat} {f : Fr} {x : Fv} (h : FrAt c B d j f x w) : x.im = x.P.length ∧ x.im ≤ x.ic ∧ x.ic ≤ maxLen := by
  obtain ⟨a, cap, hv, h1, h2, -⟩ := row_form h.lev.row.1
  simp only [Value.slice.injEq] at hv
  obtain ⟨-, hm, rfl⟩ := hv
  exact ⟨hm, by omega, h2⟩

/-- The stack's cell at the top, written. -/
theorem ccells_put {F0 : List (Fr × Fv)} {p q : Fr × Fv} {i : Nat} {u : Value} (hi : i < 4) (hq : (ccell p).set i u = ccell q) : (ccells (F0 ++ [p])).set (F0.length * 4 + i) u = ccells (F0 ++ [q]) := by
  rw [ccells_snoc, ccells_snoc, List.set_append_right _ _ (by rw [ccells_len]; omega), ccells_len, show F0.length * 4 + i - F0.length * 4 = i from by omega, hq]

/-- What is told of a line. -/
theorem Bld.tell (h : Bld W bb c d F oa oc ca cn codes w) (i : Nat) (z : Int) : Bld W bb c d F oa oc ca cn (codes.set i z) (w.setCell ⟨ca, i, none⟩ (.int .i64 z)) := by
  have hc1 : c ca = 1 := h.cod.2 ca rfl
  have s := Chg.set c w ⟨ca, i, none⟩ (.int .i64 z)
  rw [hc1] at s
  refine ⟨h.bel.setCell (World.ownsRow.lt h.cod.1 ca rfl).1 _, h.low, (s.block bb h.lt (by rw [h.cb]; omega)).trans h.box, h.cb, ⟨?_, h.cod.2⟩, h.opn.chg s (by omega), h.few, fun j f x hj => (h.frs j f x hj).chg s (by omega)⟩
  have := own_setX h.cod.1 i (.int .i64 z)
  unfold ivals at this ⊢
  rw [List.map_set]
  exact this

/-- An item more in the innermost arm. -/
theorem Bld.add {F0 : List (Fr × Fv)} {f : Fr} {x : Fv} (h : Bld W bb c d (F0 ++ [(f, x)]) oa oc ca cn codes w) {w' : World} {c' : Col} {it : Itm} {av : Value} {b n' cap' : Nat}
    (hl : LevAt c' W.heap.size 66 (3 * F0.length + 3) d (.slice (some ⟨b, 0, none⟩) n' cap') (x.P ++ [(it, av)]) w') (s : Chg (3 * F0.length + 3 + 1) c c' w w') (hb : Below W.heap.size w w') :
    Bld W bb c' (d + 1) (F0 ++ [({ f with cu := f.cu ++ [it] }, { x with P := x.P ++ [(it, av)], ia := some ⟨b, 0, none⟩, im := n', ic := cap' })]) oa oc ca cn codes (w'.setCell ⟨x.ab, x.A.length * 2 + 1, none⟩ (.slice (some ⟨b, 0, none⟩) n' cap')) := by
  have hf := h.fr (F1 := []) rfl
  have hab : c x.ab = 3 * F0.length + 3 := hf.arm.row.2 x.ab rfl
  have hlt := hf.slot.2
  have hab' : c' x.ab = 3 * F0.length + 3 := (s.col _ hlt).trans hab
  have s2 := Chg.set c' w' ⟨x.ab, x.A.length * 2 + 1, none⟩ (.slice (some ⟨b, 0, none⟩) n' cap')
  rw [hab'] at s2
  have hlow : W.heap.size ≤ x.ab := (World.ownsRow.lt hf.arm.row.1 x.ab rfl).1
  have harm := (hf.arm.chg s (by omega) (by omega)).put (by rw [hab']; omega) (.slice (some ⟨b, 0, none⟩) n' cap')
  refine ⟨(h.bel.trans hb).setCell hlow _, h.low, ?_, (s.col bb h.lt).trans h.cb, (h.cod.chg s (by omega)).chg s2 (by omega), ?_, ?_, fun j f' x' hj => ?_⟩
  · rw [s2.block bb (Nat.lt_of_lt_of_le h.lt s.size) (by rw [s.col bb h.lt, h.cb]; omega), s.block bb h.lt (by rw [h.cb]; omega), h.box]
    simp
  · have := (h.opn.chg s (by omega)).chg s2 (by omega)
    rw [ccells_snoc] at this ⊢
    simp only [List.length_append, List.length_cons, List.length_nil] at this ⊢
    exact this
  · have := h.few
    simp at this ⊢
    omega
  · rcases Nat.lt_or_ge j F0.length with hlt' | hge
    · rw [List.getElem?_append_left hlt'] at hj
      have := h.frs j f' x' (by rw [List.getElem?_append_left hlt']; exact hj)
      exact ((this.chg s (by omega)).chg s2 (by omega)).more
    · rw [List.getElem?_append_right hge] at hj
      obtain ⟨hj0, hp⟩ : j - F0.length = 0 ∧ _ := by
        rcases Nat.eq_zero_or_pos (j - F0.length) with h0 | h0
        · exact ⟨h0, hj⟩
        · rw [List.getElem?_eq_none (by simp; omega)] at hj; cases hj
      rw [hj0] at hp
      simp only [List.getElem?_cons_zero, Option.some.injEq, Prod.mk.injEq] at hp
      obtain ⟨rfl, rfl⟩ := hp
      obtain rfl : j = F0.length := by omega
      refine ⟨hf.ma, by simp [hf.mp], hf.kd, Nat.le_succ_of_le hf.fa, by have := hf.fp; simp; omega, (hl.chg s2 (by omega) (by omega)).more, harm.more⟩
end

end Go.Proofs.YtlnlpahmfpjjdaaDoor
