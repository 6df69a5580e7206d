/-
  Texts of the proof, put together: GcRd, GcSt.
-/
import Derived.Test.YtlnlpahmfpjjdaaDoorG19
import Derived.Test.YtlnlpahmfpjjdaaDoorG21

/-
  The builder's methods that only read: inner, within, items.
-/
namespace Go.Proofs.YtlnlpahmfpjjdaaDoor
open Go.RowKit

def PtrNew (a : Addr) (w : World) (e : Ending) (w' : World) : Prop := e = .returned (.pointer (some a)) ∧ Below w.heap.size w w'
def BoolIs (b : Bool) (w : World) (e : Ending) (w' : World) : Prop := e = .returned (.bool b) ∧ w = w'

set_option maxRecDepth 100000 in
set_option maxHeartbeats 1600000 in
theorem inner_any {bb oa m oc : Nat} {w : World} (h0 : w.cell? ⟨bb, 0, none⟩ = some (.slice (some ⟨oa, 0, none⟩) (m + 1) oc)) (hm : m + 1 ≤ oc) (hc : oc ≤ maxLen) :
    Calls Tryd.prog 75 #[.pointer (some ⟨bb, 0, none⟩)] w (PtrNew ⟨oa, m * 4, none⟩ w) := by
  unfold maxLen at hc
  go_enter Tryd.func75, Tryd.ntmps75
  go_wp2
  go_quiet (fail)
  go_wp2
  go_ret
  exact ⟨rfl, Below.of_drews _ _⟩

set_option maxRecDepth 100000 in
set_option maxHeartbeats 1600000 in
theorem within_any {bb n oc : Nat} {oa : Option Addr} {w : World} (h0 : w.cell? ⟨bb, 0, none⟩ = some (.slice oa n oc)) :
    Calls Tryd.prog 49 #[.pointer (some ⟨bb, 0, none⟩)] w (BoolIs (decide (1 < n)) w) := by
  by_cases h : 1 < n
  · rw [show decide (1 < n) = true from by simpa using h]
    have hd : decide ((1 : Int) < (n : Int)) = true := by simp; omega
    go_enter Tryd.func49, Tryd.ntmps49
    go_wp2
    go_ret
    exact ⟨rfl, rfl⟩
  · rw [show decide (1 < n) = false from by simpa using h]
    have hd : decide ((1 : Int) < (n : Int)) = false := by simp; omega
    go_enter Tryd.func49, Tryd.ntmps49
    go_wp2
    go_ret
    exact ⟨rfl, rfl⟩

set_option maxRecDepth 100000 in
set_option maxHeartbeats 1600000 in
theorem its_any {bb oa m oc ab k ac : Nat} {w : World} (h0 : w.cell? ⟨bb, 0, none⟩ = some (.slice (some ⟨oa, 0, none⟩) (m + 1) oc)) (hm : m + 1 ≤ oc) (hc : oc ≤ maxLen)
    (h1 : w.cell? ⟨oa, m * 4 + 2, none⟩ = some (.slice (some ⟨ab, 0, none⟩) (k + 1) ac)) (hk : k + 1 ≤ ac) (hc2 : ac ≤ maxLen) (ho : oa < w.heap.size) :
    Calls Tryd.prog 51 #[.pointer (some ⟨bb, 0, none⟩)] w (PtrNew ⟨ab, k * 2 + 1, none⟩ w) := by
  have HI := Lib.hid (inner_any h0 hm hc)
  have H1 := Lib.hid h1
  unfold maxLen at hc2
  clear h0 h1
  go_enter Tryd.func51, Tryd.ntmps51
  go_wp2_with (go_at_call 75; (with_reducible refine HI.out.mono ?_); rintro e w1 ⟨rfl, hb⟩; have HB := Lib.hid hb; have h2 := bcell hb H1.out ho; clear hb)
  go_ret
  exact ⟨rfl, HB.out⟩

end Go.Proofs.YtlnlpahmfpjjdaaDoor

/-
  The builder's steps over its memory: a condition begins, its next arm begins, it ends.
-/
namespace Go.Proofs.YtlnlpahmfpjjdaaDoor
open Go.RowKit

theorem Tryd.infoCond : (Tryd.prog.info? 117).map (fun i => (i.zero, i.size, i.bytes)) = some (some (.agg #[.int .i64 0, .int .i64 0, .slice none 0 0, .bool false]), 4, 48) := by kernel_rfl

theorem own_shrink {B : Nat} {w : World} {e : TypeId} {size n m cap g : Nat} {xs : List Value} (h : w.ownsRow B e size (.slice (some ⟨g, 0, none⟩) n cap) n xs) (hm : m ≤ n) : w.ownsRow B e size (.slice (some ⟨g, 0, none⟩) m cap) m (xs.take (m * size)) := by
  obtain ⟨h1, ⟨hv, -⟩ | ⟨g', cap', cur, hv, hg, hh, hc, hmx, hs, ht⟩⟩ := h
  · cases hv
  · simp only [Value.slice.injEq, Option.some.injEq, Addr.mk.injEq, and_true, true_and] at hv
    obtain ⟨rfl, rfl⟩ := hv
    have hle : m * size ≤ n * size := Nat.mul_le_mul_right _ hm
    refine ⟨by rw [List.length_take, h1]; omega, .inr ⟨g, cap, cur, rfl, hg, hh, by omega, hmx, hs, ?_⟩⟩
    rw [← ht, List.take_take, Nat.min_eq_left hle]

section
variable {W : World} {bb : Nat} {c : Col} {d : Nat} {F : List (Fr × Fv)} {oa oc ca cn : Nat} {codes : List Int} {w : World}

/-- The stack's slice, written. -/
theorem Bld.open_box (h : Bld W bb c d F oa oc ca cn codes w) (u : Value) : (w.setCell ⟨bb, 0, none⟩ u).heap[bb]? = some (.cells #[u, .slice (some ⟨ca, 0, none⟩) cn cn] 120 (0, 0)) := heap_setCell_same w bb 0 _ _ _ h.box

def newFv (g : Nat) : Fv := ⟨2, [], [], none, 0, 0, g, 1⟩
def newFr (i : Nat) : Fr := ⟨i, [], i, [], false⟩
/-- What the append of a condition leaves, once it is stored. -/
def Begun (W : World) (bb d : Nat) (F : List (Fr × Fv)) (i g ca cn : Nat) (codes : List Int) (b n cap : Nat) (w' : World) : Prop :=
  w'.cell? ⟨bb, 0, none⟩ ≠ none ∧ w'.frozen? ⟨bb, 0, none⟩ = false ∧ ∃ c', Bld W bb c' (d + 1) (F ++ [(newFr i, newFv g)]) b cap ca cn codes (w'.setCell ⟨bb, 0, none⟩ (.slice (some ⟨b, 0, none⟩) n cap))

theorem Bld.begin {ty : TypeId} (h : Bld W bb c d F oa oc ca cn codes w) (hd : d ≤ 400000) (i : Nat) {sv : Value} {g : Nat} (hg : w.heap[g]? = some (.cells #[.int .i64 (i : Int), .slice none 0 0] 68 (0, 0))) (hcg : c g = 3 * F.length + 3) (hlow : W.heap.size ≤ g) (hs : Src w sv 1 4 (ccell (newFr i, newFv g))) :
    ∃ b n cap w', (Builtin.append_ #[118, 118] ty #[.slice (some ⟨oa, 0, none⟩) F.length oc, sv]).run Tryd.prog w = .ok (.slice (some ⟨b, 0, none⟩) n cap) w' ∧ Begun W bb d F i g ca cn codes b n cap w' := by
  obtain ⟨i0, hi, hz0, hz1, hz2⟩ := info_parts Tryd.infoCond
  have hfew := h.few
  obtain ⟨b, cap, w', hr, h2, h3, h4⟩ := own_app (ty := ty) Tryd.underlying118 hi hz0 hz1 hz2 rfl (by decide) (by decide) h.opn.1 hs (by
    intro u hu
    simp only [ccell, List.mem_cons, List.not_mem_nil, or_false] at hu
    rcases hu with rfl | rfl | rfl | rfl <;> rfl) (by omega) (by omega) h.bel.size
  have hco := h.opn.2
  have s : Chg 2 c (fun g => if g = b then 2 else c g) w w' := by
    refine ⟨h3.size, fun g hg => ?_, fun g hg hk => h3.block g hg fun e => hk (hco g e.symm)⟩
    show (if g = b then 2 else c g) = c g
    split
    · rename_i e
      subst e
      rcases h4 with h4 | h4
      · exact (hco g h4).symm
      · omega
    · rfl
  have hbel : Below W.heap.size W w' := h.bel.trans ((Below.refl _ w).grown h3 h.bel.size fun k hk => (World.ownsRow.lt h.opn.1 k hk).1)
  have hglt : g < w.heap.size := row_lt hg
  have hbox : w'.heap[bb]? = some (.cells #[.slice (some ⟨oa, 0, none⟩) F.length oc, .slice (some ⟨ca, 0, none⟩) cn cn] 120 (0, 0)) := (s.block bb h.lt (by rw [h.cb]; omega)).trans h.box
  refine ⟨b, _, cap, w', hr, by rw [Lib.cell_of_heap hbox]; simp, frozen_of_row w' bb 0 _ _ hbox, fun g => if g = b then 2 else c g, ?_⟩
  generalize hc' : (fun g => if g = b then 2 else c g) = c' at s ⊢
  have hcb : c' bb = 0 := (s.col bb h.lt).trans h.cb
  have hcb2 : c' b = 2 := by rw [← hc']; exact if_pos rfl
  have s2 := Chg.set c' w' ⟨bb, 0, none⟩ (.slice (some ⟨b, 0, none⟩) (F.length + 1) cap)
  rw [hcb] at s2
  have hopn : RowC c' 2 W.heap.size 117 4 (.slice (some ⟨b, 0, none⟩) (F ++ [(newFr i, newFv g)]).length cap) (F ++ [(newFr i, newFv g)]).length (ccells (F ++ [(newFr i, newFv g)])) w' := by
    rw [ccells_snoc, List.length_append]
    exact ⟨h2, fun k hk => by simp only [Value.ownBlock, Option.some.injEq] at hk; rw [← hk]; exact hcb2⟩
  refine ⟨hbel.setCell h.low _, h.low, ?_, hcb, (h.cod.chg s (by omega)).chg s2 (by omega), hopn.chg s2 (by omega), by simp; omega, fun j f x hj => ?_⟩
  · have := heap_setCell_same w' bb 0 _ _ (.slice (some ⟨b, 0, none⟩) (F.length + 1) cap) hbox
    simpa using this
  · rcases Nat.lt_or_ge j F.length with hlt | hge
    · rw [List.getElem?_append_left hlt] at hj
      exact (((h.frs j f x hj).chg s (by omega)).chg s2 (by omega)).more
    · rw [List.getElem?_append_right hge] at hj
      have hj0 : j - F.length = 0 := by
        rcases Nat.eq_zero_or_pos (j - F.length) with h0 | h0
        · exact h0
        · rw [List.getElem?_eq_none (by simp; omega)] at hj; cases hj
      rw [hj0] at hj
      simp only [List.getElem?_cons_zero, Option.some.injEq, Prod.mk.injEq] at hj
      obtain ⟨rfl, rfl⟩ := hj
      obtain rfl : j = F.length := by omega
      have harm : ArmAt c W.heap.size 68 (3 * F.length + 3) (d + 1) [] (i : Int) (.slice none 0 0) g 1 w :=
        ⟨⟨⟨rfl, .inr ⟨g, 1, _, rfl, hlow, hg, Nat.le_refl _, by unfold maxLen; omega, rfl, rfl⟩⟩, fun k hk => by simp only [Value.ownBlock, Option.some.injEq] at hk; rw [← hk]; exact hcg⟩, fun q hq => by cases hq⟩
      exact ⟨rfl, rfl, fun _ => rfl, Nat.zero_le _, Nat.zero_le _, lev_nil _ _ _ _ _ _, (harm.chg s (by omega) (by omega)).chg s2 (by omega) (by omega)⟩

/-- The top's last flag, written. -/
theorem Bld.last {F0 : List (Fr × Fv)} {f : Fr} {x : Fv} (h : Bld W bb c d (F0 ++ [(f, x)]) oa oc ca cn codes w) (b : Bool) : Bld W bb c d (F0 ++ [({ f with en := b }, x)]) oa oc ca cn codes (w.setCell ⟨oa, F0.length * 4 + 3, none⟩ (.bool b)) := by
  have hoa : c oa = 2 := h.opn.2 oa rfl
  have s := Chg.set c w ⟨oa, F0.length * 4 + 3, none⟩ (.bool b)
  rw [hoa] at s
  have hlen : (F0 ++ [({ f with en := b }, x)]).length = (F0 ++ [(f, x)]).length := by simp
  refine ⟨h.bel.setCell (World.ownsRow.lt h.opn.1 oa rfl).1 _, h.low, by rw [hlen]; exact (s.block bb h.lt (by rw [h.cb]; omega)).trans h.box, h.cb, h.cod.chg s (by omega), ?_, by rw [hlen]; exact h.few, fun j f' x' hj => ?_⟩
  · rw [hlen, ← ccells_put (F0 := F0) (p := (f, x)) (q := ({ f with en := b }, x)) (i := 3) (u := .bool b) (by omega) rfl]
    exact ⟨own_setX h.opn.1 _ _, h.opn.2⟩
  · rcases Nat.lt_or_ge j F0.length with hlt | hge
    · rw [List.getElem?_append_left hlt] at hj
      exact (h.frs j f' x' (by rw [List.getElem?_append_left hlt]; exact hj)).chg s (by omega)
    · have hf := h.frs j f x (by
        have hj0 : j - F0.length = 0 := by
          rcases Nat.eq_zero_or_pos (j - F0.length) with h0 | h0
          · exact h0
          · rw [List.getElem?_append_right hge, List.getElem?_eq_none (by simp; omega)] at hj; cases hj
        rw [List.getElem?_append_right hge, hj0]; rfl)
      have hj0 : j - F0.length = 0 := by
        rcases Nat.eq_zero_or_pos (j - F0.length) with h0 | h0
        · exact h0
        · rw [List.getElem?_append_right hge, List.getElem?_eq_none (by simp; omega)] at hj; cases hj
      rw [List.getElem?_append_right hge, hj0] at hj
      simp only [List.getElem?_cons_zero, Option.some.injEq, Prod.mk.injEq] at hj
      obtain ⟨rfl, rfl⟩ := hj
      have := hf.chg s (by omega)
      exact ⟨this.ma, this.mp, this.kd, this.fa, this.fp, this.lev, this.arm⟩

/-- Where the top's arms were appended to, once it is stored. -/
def Armed (W : World) (bb d : Nat) (F0 : List (Fr × Fv)) (f : Fr) (i oa oc ca cn : Nat) (codes : List Int) (b n cap : Nat) (w' : World) : Prop :=
  w'.cell? ⟨oa, F0.length * 4 + 2, none⟩ ≠ none ∧ w'.frozen? ⟨oa, F0.length * 4 + 2, none⟩ = false ∧ ∃ c' x', Bld W bb c' (d + 1) (F0 ++ [({ f with dn := f.dn ++ [((f.la : Int), f.cu)], la := i, cu := [] }, x')]) oa oc ca cn codes (w'.setCell ⟨oa, F0.length * 4 + 2, none⟩ (.slice (some ⟨b, 0, none⟩) n cap))

theorem Bld.arm {ty : TypeId} {F0 : List (Fr × Fv)} {f : Fr} {x : Fv} (h : Bld W bb c d (F0 ++ [(f, x)]) oa oc ca cn codes w) (hd : d ≤ 400000) (i : Nat) {sv : Value} (hs : Src w sv 1 2 [.int .i64 (i : Int), .slice none 0 0]) :
    ∃ b n cap w', (Builtin.append_ #[64, 64] ty #[.slice (some ⟨x.ab, 0, none⟩) (x.A.length + 1) x.ac, sv]).run Tryd.prog w = .ok (.slice (some ⟨b, 0, none⟩) n cap) w' ∧ Armed W bb d F0 f i oa oc ca cn codes b n cap w' := by
  obtain ⟨i0, hi, hz0, hz1, hz2⟩ := info_parts Tryd.infoArmG
  have hf := h.fr (F1 := []) rfl
  have hfa := hf.fa
  generalize hm : F0.length = m at hf
  -- what was under way is done
  have e1 : ∀ g, c g ≠ 3 * m + 4 → (fun g => if c g = 3 * m + 4 then 3 * m + 5 else c g) g = c g := fun g hg => if_neg hg
  generalize hc1 : (fun g => if c g = 3 * m + 4 then 3 * m + 5 else c g) = c1 at e1
  have e2 : ∀ g, c g = 3 * m + 4 → c1 g = 3 * m + 5 := fun g hg => by rw [← hc1]; exact if_pos hg
  have hits : ItsP (fun g => c1 g = 3 * m + 3 + 2) (d + 1) f.cu (.slice x.ia x.im x.ic) w := by
    rw [← hf.mp]
    exact hf.lev.done (fun g hg => by show c1 g = _; rw [e2 g (by omega)]) (fun g hg => by show c1 g = _; rw [e1 g (by omega)]; exact hg)
  have harm := hf.arm.recol (c' := c1) (fun g hg => by rw [e1 g (by omega)]; exact hg) (fun g hg => by rw [e1 g (by omega)]; exact hg)
  obtain ⟨b, n', cap, w', hr, c2, hn, ha, s, hb⟩ := harm.push (ty := ty) Tryd.underlying64 hi hz0 hz1 hz2 hits hs (by omega) h.bel.size
  subst hn
  have hopn : RowC c2 2 W.heap.size 117 4 (.slice (some ⟨oa, 0, none⟩) (F0 ++ [(f, x)]).length oc) (F0 ++ [(f, x)]).length (ccells (F0 ++ [(f, x)])) w' := (h.opn.recol (c' := c1) (fun g hg => by rw [e1 g (by omega)]; exact hg)).chg s (by omega)
  have hoa : c2 oa = 2 := hopn.2 oa rfl
  have hlt : bb < w.heap.size := h.lt
  have hcb1 : c1 bb = 0 := by rw [e1 bb (by rw [h.cb]; omega)]; exact h.cb
  have hcell := hopn.1.cellAt (F0.length * 4 + 2) (by simp; omega)
  have hsome : (ccells (F0 ++ [(f, x)]))[F0.length * 4 + 2]? = some (.slice (some ⟨x.ab, 0, none⟩) (x.A.length + 1) x.ac) := flat_get (f := ccell) (n := 4) (fun _ => rfl) (F0 ++ [(f, x)]) F0.length (f, x) (by simp) 2 (by omega)
  refine ⟨b, _, cap, w', hr, by rw [hcell, hsome]; simp, own_freeX hopn.1 _, c2, { x with A := x.A ++ [(((f.la : Int), f.cu), .slice x.ia x.im x.ic)], P := [], ia := none, im := 0, ic := 0, ab := b, ac := cap }, ?_⟩
  have s2 := Chg.set c2 w' ⟨oa, F0.length * 4 + 2, none⟩ (.slice (some ⟨b, 0, none⟩) (x.A.length + 1 + 1) cap)
  rw [hoa] at s2
  refine ⟨(h.bel.trans hb).setCell (World.ownsRow.lt h.opn.1 oa rfl).1 _, h.low, ?_, (s.col bb hlt).trans hcb1, ((h.cod.recol (c' := c1) (fun g hg => by rw [e1 g (by omega)]; exact hg)).chg s (by omega)).chg s2 (by omega), ?_, ?_, fun j f' x' hj => ?_⟩
  · rw [s2.block bb (Nat.lt_of_lt_of_le hlt s.size) (by rw [s.col bb hlt, hcb1]; omega), s.block bb hlt (by rw [hcb1]; omega), h.box]
    simp
  · have hp := ccells_put (F0 := F0) (p := (f, x)) (q := (({ f with dn := f.dn ++ [((f.la : Int), f.cu)], la := i, cu := [] } : Fr), ({ x with A := x.A ++ [(((f.la : Int), f.cu), .slice x.ia x.im x.ic)], P := [], ia := none, im := 0, ic := 0, ab := b, ac := cap } : Fv))) (i := 2) (u := .slice (some ⟨b, 0, none⟩) (x.A.length + 1 + 1) cap) (by omega) (by simp [ccell])
    rw [← hp]
    have := own_setX hopn.1 (F0.length * 4 + 2) (.slice (some ⟨b, 0, none⟩) (x.A.length + 1 + 1) cap)
    simp only [List.length_append, List.length_cons, List.length_nil] at this ⊢
    exact ⟨this, hopn.2⟩
  · have := h.few
    simp at this ⊢
    omega
  · rcases Nat.lt_or_ge j F0.length with hlt' | hge
    · rw [List.getElem?_append_left hlt'] at hj
      have := (h.frs j f' x' (by rw [List.getElem?_append_left hlt']; exact hj)).recol (c' := c1) (fun g h1 h2 => e1 g (by omega))
      exact ((this.chg s (by omega)).chg s2 (by omega)).more
    · have hj0 : j - F0.length = 0 := by
        rcases Nat.eq_zero_or_pos (j - F0.length) with h0 | h0
        · exact h0
        · rw [List.getElem?_append_right hge, List.getElem?_eq_none (by simp; omega)] at hj; cases hj
      rw [List.getElem?_append_right hge, hj0] at hj
      simp only [List.getElem?_cons_zero, Option.some.injEq, Prod.mk.injEq] at hj
      obtain ⟨rfl, rfl⟩ := hj
      obtain rfl : j = m := by omega
      exact ⟨by simp [hf.ma], rfl, hf.kd, by simp; omega, Nat.zero_le _, lev_nil _ _ _ _ _ _, (ha.chg s2 (by omega) (by omega)).more⟩

/-- The top is taken off; it is an item. -/
theorem Bld.pop {F0 : List (Fr × Fv)} {f : Fr} {x : Fv} (h : Bld W bb c d (F0 ++ [(f, x)]) oa oc ca cn codes w) :
    ∃ c', Bld W bb c' (d + 1) F0 oa oc ca cn codes (w.setCell ⟨bb, 0, none⟩ (.slice (some ⟨oa, 0, none⟩) F0.length oc)) ∧
      ArmsP (fun g => c' g = 3 * F0.length + 2) (ItsP (fun g => c' g = 3 * F0.length + 2) (d + 1)) (f.dn ++ [((f.la : Int), f.cu)]) (.slice (some ⟨x.ab, 0, none⟩) (x.A.length + 1) x.ac) (w.setCell ⟨bb, 0, none⟩ (.slice (some ⟨oa, 0, none⟩) F0.length oc)) := by
  have hf := h.fr (F1 := []) rfl
  generalize hm : F0.length = m at hf
  have e1 : ∀ g, ¬ (3 * m + 3 ≤ c g ∧ c g ≤ 3 * m + 5) → (fun g => if 3 * m + 3 ≤ c g ∧ c g ≤ 3 * m + 5 then 3 * m + 2 else c g) g = c g := fun g hg => if_neg hg
  generalize hc1 : (fun g => if 3 * m + 3 ≤ c g ∧ c g ≤ 3 * m + 5 then 3 * m + 2 else c g) = c1 at e1
  have e2 : ∀ g, (3 * m + 3 ≤ c g ∧ c g ≤ 3 * m + 5) → c1 g = 3 * m + 2 := fun g hg => by rw [← hc1]; exact if_pos hg
  have hits : ItsP (fun g => c1 g = 3 * m + 2) (d + 1) f.cu (.slice x.ia x.im x.ic) w := by
    rw [← hf.mp]
    exact hf.lev.done (fun g hg => e2 g (by omega)) (fun g hg => e2 g (by omega))
  have harms := hf.arm.done (Pk := fun g => c1 g = 3 * m + 2) (its := f.cu) (fun g hg => e2 g (by omega)) (fun g hg => e2 g (by omega)) hits
  rw [hf.ma] at harms
  have hcb1 : c1 bb = 0 := by rw [e1 bb (by rw [h.cb]; omega)]; exact h.cb
  have s := Chg.set c1 w ⟨bb, 0, none⟩ (.slice (some ⟨oa, 0, none⟩) m oc)
  rw [hcb1] at s
  have ht : Turn (fun g => c1 g = 3 * m + 2) (fun g => c1 g = 3 * m + 2) w _ := s.turn (by omega)
  refine ⟨c1, ⟨h.bel.setCell h.low _, h.low, h.open_box _ ▸ by rw [hm], hcb1, (h.cod.recol (c' := c1) (fun g hg => by rw [e1 g (by omega)]; exact hg)).chg s (by omega), ?_, ?_, fun j f' x' hj => ?_⟩, harms.turn (fun l v h => itsP_turn ht _ l v h) ht⟩
  · have h1 := own_shrink h.opn.1 (m := F0.length) (by simp)
    rw [ccells_snoc, List.take_left' (by rw [ccells_len])] at h1
    have : RowC c1 2 W.heap.size 117 4 (.slice (some ⟨oa, 0, none⟩) F0.length oc) F0.length (ccells F0) w := ⟨h1, fun g hg => by rw [e1 g (by have := h.opn.2 g hg; omega)]; exact h.opn.2 g hg⟩
    exact this.chg s (by omega)
  · have := h.few
    simp at this
    omega
  · have hlt' : j < F0.length := (List.getElem?_eq_some_iff.1 hj).1
    have := (h.frs j f' x' (by rw [List.getElem?_append_left hlt']; exact hj)).recol (c' := c1) (fun g h1 h2 => e1 g (by omega))
    exact (this.chg s (by omega)).more
end

end Go.Proofs.YtlnlpahmfpjjdaaDoor
