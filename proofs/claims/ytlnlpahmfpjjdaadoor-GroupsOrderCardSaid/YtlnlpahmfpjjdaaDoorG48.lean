/-
  Texts of the proof, put together: GdArm, GdTell, GdFin.
-/
import Derived.Test.YtlnlpahmfpjjdaaDoorG47
import Derived.Test.YtlnlpahmfpjjdaaDoorG34
import Derived.Test.YtlnlpahmfpjjdaaDoorG18

/-
  The document's Build: the next arm begins.
-/
namespace Go.Proofs.YtlnlpahmfpjjdaaDoor
open Go.RowKit

def PushR (W : World) (c : Col) (d : Nat) (X : List (Fr × Fv)) (f : Fr) (x : Fv) (i bx : Nat) (w1 w5 : World) (b n cap : Nat) (w' : World) : Prop :=
  n = x.A.length + 1 + 1 ∧ w'.heap[bx]? = w5.heap[bx]? ∧ Below w1.heap.size w1 w' ∧ ∃ c', ArmAt c' W.heap.size 99 (3 * X.length + 4) d (x.A ++ [(((f.la : Int), f.cu), .slice x.ia x.im x.ic)]) (i : Int) (.slice none 0 0) b cap w' ∧ (∀ g, g < w1.heap.size → c' g = if c g = 3 * X.length + 5 then 3 * X.length + 6 else c g) ∧ c' bx = 0

theorem arm_push {W : World} {c : Col} {d : Nat} {X : List (Fr × Fv)} {f : Fr} {x : Fv} {la lc : Nat} {ca : Option Addr} {cn cc : Nat} {w1 w5 : World} {ty : TypeId} {b cap bx : Nat} (h : RCore W c d (X ++ [(f, x)]) la lc ca cn cc w1) (hX : X ≠ []) (hd : d ≤ 300000) (i : Nat) (hb : Below w1.heap.size w1 w5)
    (hrow : w5.ownsRow w1.heap.size 99 2 (.slice (some ⟨b, 0, none⟩) (x.A.length + 1) cap) (x.A.length + 1) (acells x.A ++ [.int .i64 (f.la : Int), .slice x.ia x.im x.ic])) (hbx : w1.heap.size ≤ bx) (hbx5 : bx < w5.heap.size) (hne : b ≠ bx) :
    ∃ v' w', (Builtin.append_ #[100, 100] ty #[.slice (some ⟨b, 0, none⟩) (x.A.length + 1) cap, .slice (some ⟨w5.heap.size, 0, none⟩) 1 1]).run Tryd.prog (w5.alloc (.cells #[.int .i64 (i : Int), .slice none 0 0] 99)) = .ok v' w' ∧ ∃ b6 n cap6, v' = .slice (some ⟨b6, 0, none⟩) n cap6 ∧ PushR W c d X f x i bx w1 w5 b6 n cap6 w' := by
  obtain ⟨i0, hi, hz0, hz1, hz2⟩ := info_parts Tryd.infoArmR
  have hpos := List.length_pos_iff.2 hX
  have hf := h.fr (F1 := []) rfl
  obtain ⟨m, hm⟩ : ∃ m, X.length = m := ⟨_, rfl⟩
  unfold PushR
  rw [hm] at hf hpos ⊢
  have harm := hf.arm (by omega)
  have hfa := hf.fa
  have hblow := (World.ownsRow.lt hrow b rfl).1
  obtain ⟨c1, hcb, hcold, hcbx⟩ : ∃ c1 : Col, c1 b = 3 * m + 4 ∧ (∀ g, g < w1.heap.size → c1 g = if c g = 3 * m + 5 then 3 * m + 6 else c g) ∧ c1 bx = 0 :=
    ⟨fun g => if g = b then 3 * m + 4 else if g < w1.heap.size then (if c g = 3 * m + 5 then 3 * m + 6 else c g) else 0, if_pos rfl, fun g hg => by show (if g = b then _ else _) = _; rw [if_neg (by omega), if_pos hg], by show (if bx = b then _ else _) = _; rw [if_neg (fun e => hne e.symm), if_neg (by omega)]⟩
  have ht : Turn (fun g => c g = 3 * m + 5 ∨ c g = 3 * m + 6) (fun g => c1 g = 3 * m + 6) w1 w5 := ⟨hb.size, fun g hp hg => ⟨by have h1 := hcold g hg; have h2 : c g = 3 * m + 5 ∨ c g = 3 * m + 6 := hp; show c1 g = 3 * m + 6; rw [h1]; split <;> omega, hb.block g hg⟩⟩
  have hits : ItsP (fun g => c1 g = 3 * m + 6) (d + 1) f.cu (.slice x.ia x.im x.ic) w5 := by
    rw [← hf.mp]
    exact itsP_turn ht _ _ _ (hf.lev.done (Pk := fun g => c g = 3 * m + 5 ∨ c g = 3 * m + 6) (fun g hg => .inl (by omega)) (fun g hg => .inr (by omega)))
  have hold : ∀ q ∈ x.A, ItsP (fun g => c1 g = 3 * m + 4 + 2) (d + 1) q.1.2 q.2 w5 := fun q hq => by
    have h0 := itsP_turn (turn_in (Q := fun g => c g = 3 * m + 5 ∨ c g = 3 * m + 6) fun g hg => .inr (by omega)) _ _ _ (harm.its q hq)
    exact itsP_turn ht _ _ _ h0
  have hA : ArmAt c1 w1.heap.size 99 (3 * m + 4) d x.A (f.la : Int) (.slice x.ia x.im x.ic) b cap w5 :=
    ⟨⟨hrow, fun g hg => by simp only [Value.ownBlock, Option.some.injEq] at hg; rw [← hg]; exact hcb⟩, hold⟩
  have hb6 : Below w5.heap.size w5 (w5.alloc (.cells #[.int .i64 (i : Int), .slice none 0 0] 99)) := (Below.refl _ _).alloc (Nat.le_refl _) _
  have s6 : Chg 0 c1 c1 w5 (w5.alloc (.cells #[.int .i64 (i : Int), .slice none 0 0] 99)) := Chg.below 0 c1 hb6
  have hits6 : ItsP (fun g => c1 g = 3 * m + 4 + 2) (d + 1) f.cu (.slice x.ia x.im x.ic) (w5.alloc (.cells #[.int .i64 (i : Int), .slice none 0 0] 99)) := itsP_turn (s6.turn (by omega)) _ _ _ hits
  obtain ⟨b6, n6, cap6, w', hr, c', hn, ha, s, hbw⟩ := (hA.chg s6 (by omega) (by omega)).push (ty := ty) (lb := (i : Int)) Tryd.underlying100 hi hz0 hz1 hz2 hits6 (src_row (heap_alloc_new _ _) rfl rfl) (by omega) (by have := hb.size; simp; omega)
  have hbel : Below w1.heap.size w1 w' := (below_up hb hb6).trans hbw
  refine ⟨_, w', hr, b6, n6, cap6, rfl, hn, ?_, hbel, c', ha.low h.bel.size, fun g hg => ?_, ?_⟩
  · exact (s.block bx (Nat.lt_of_lt_of_le hbx5 hb6.size) (by rw [hcbx]; omega)).trans (hb6.block bx hbx5)
  · rw [s.col g (Nat.lt_of_lt_of_le hg (Nat.le_trans hb.size hb6.size))]
    exact hcold g hg
  · rw [s.col bx (Nat.lt_of_lt_of_le hbx5 hb6.size)]
    exact hcbx

theorem rb_arm {W : World} {c c' : Col} {d : Nat} {s : Bs} {X : List (Fr × Fv)} {f : Fr} {r : List Fr} {x' : Fv} {la lc cg cc q eg ec bn i k : Nat} {w1 w8 : World} {bv : Value} {kb : Bool} (hs : s.st = f :: r) (hX : X.map Prod.fst = stackOf { s with st := r }) (hXl : X.length = q + 1) (hkb : (k == 6) = kb)
    (h : RCore W c' (d + 1) (X ++ [({ f with dn := f.dn ++ [((f.la : Int), f.cu)], la := i, cu := [], en := kb }, x')]) la lc (some ⟨cg, 0, none⟩) (q + 1) cc w8) (hk : KeepC c c' w1 w8)
    (hE : RowC c 2 W.heap.size 4 1 (.slice (some ⟨eg, 0, none⟩) (q + 1) ec) (q + 1) (s.st.reverse.map fun f => .bool f.en) w1) (hB : RowC c 3 W.heap.size 3 1 bv bn (ivals (s.bad.map fun b : Nat => (b : Int))) w1) (hbv : ∃ a q, bv = .slice a bn q) (hbn : bn ≤ d) :
    RBldS W (d + 2) (armB s i k) (.slice (some ⟨la, 0, none⟩) (q + 1 + 1) lc) (.slice (some ⟨cg, 0, none⟩) (q + 1) cc) (.slice (some ⟨eg, 0, none⟩) (q + 1) ec) bv (w8.setCell ⟨eg, q, none⟩ (.bool kb)) := by
  obtain ⟨ba, bc, rfl⟩ := hbv
  subst hkb
  have ha : armB s i k = { s with st := ⟨f.ln, f.dn ++ [((f.la : Int), f.cu)], i, [], k == 6⟩ :: r } := by unfold armB; rw [hs]
  have hE8 := hE.keepc hk (.inl rfl)
  have hB8 := hB.keepc hk (.inr rfl)
  have heg : c' eg = 2 := hE8.2 eg rfl
  have s2 := Chg.set c' w8 ⟨eg, q, none⟩ (.bool (k == 6))
  rw [heg] at s2
  have hl := hE.1.1
  rw [List.length_map, List.length_reverse, hs, List.length_cons] at hl
  refine ⟨c', _, la, lc, some ⟨cg, 0, none⟩, q + 1, cc, some ⟨eg, 0, none⟩, ec, ba, bn, bc, by rw [List.length_append, hXl]; rfl, rfl, rfl, rfl, (h.chg s2 (.inl rfl) (h.bel.setCell (World.ownsRow.lt hE8.1 eg rfl).1 _)).more, ?_, ?_, ?_, by omega⟩
  · rw [ha, List.map_append, hX]
    simp [stackOf]
  · rw [ha]
    have h1 := own_setX hE8.1 q (.bool (k == 6))
    rw [hs, List.reverse_cons, List.map_append, List.set_append_right _ _ (by rw [List.length_map, List.length_reverse]; omega), List.length_map, List.length_reverse, show q - r.length = 0 from by omega] at h1
    have e : (({ s with st := ⟨f.ln, f.dn ++ [((f.la : Int), f.cu)], i, [], k == 6⟩ :: r } : Bs).st.reverse.map fun f => Value.bool f.en) = (r.reverse.map fun f => Value.bool f.en) ++ [Value.bool (k == 6)] := by simp
    rw [e]
    exact ⟨h1, hE8.2⟩
  · rw [ha]
    exact hB8.chg s2 (by omega)

end Go.Proofs.YtlnlpahmfpjjdaaDoor

/-
  What the document's Build tells, over lists: the same.
-/
namespace Go.Proofs.YtlnlpahmfpjjdaaDoor

def lnD (lines : List Ln) (i : Nat) : Ln := (lines[i]?).getD ⟨[], 0, 0, false⟩
def tellB (z : Int) (xs : List Nat) (lines : List Ln) (i : Nat) : List Dg := (xs.filter (· == i)).map fun _ => dgOf z (lnD lines i)
def docD (bad opn : List Nat) (lines : List Ln) (n : Nat) : List Dg := (List.range n).flatMap fun i => tellB 12 bad lines i ++ tellB 13 opn lines i

theorem filter_one {i : Nat} : ∀ {l : List Nat}, l.Nodup → l.filter (· == i) = if i ∈ l then [i] else []
  | [], _ => rfl
  | a :: r, h => by
    rw [List.nodup_cons] at h
    have ih := filter_one (i := i) h.2
    by_cases e : a = i
    · subst e
      rw [List.filter_cons, if_pos (by simp), ih, if_neg h.1, if_pos List.mem_cons_self]
    · rw [List.filter_cons, if_neg (by simpa using e), ih]
      have : (i ∈ a :: r) ↔ i ∈ r := by
        rw [List.mem_cons]
        exact ⟨fun h => h.resolve_left fun h => e h.symm, .inr⟩
      simp only [this]
theorem flat_same {α : Type} {f g : Nat → List α} : ∀ (l : List Nat), (∀ i ∈ l, f i = g i) → l.flatMap f = l.flatMap g
  | [], _ => rfl
  | a :: r, h => by rw [List.flatMap_cons, List.flatMap_cons, h a List.mem_cons_self, flat_same r fun i hi => h i (List.mem_cons_of_mem _ hi)]

theorem zip_range (g : Nat → Int) (lines : List Ln) : ((List.range lines.length).map g).zip lines = (List.range lines.length).map fun i => (g i, lnD lines i) := by
  apply List.ext_getElem?
  intro i
  rw [List.getElem?_map]
  rcases Nat.lt_or_ge i lines.length with hi | hi
  · rw [List.getElem?_range hi]
    have hz : (((List.range lines.length).map g).zip lines)[i]? = some (g i, lnD lines i) := List.getElem?_zip_eq_some.2 ⟨by rw [List.getElem?_map, List.getElem?_range hi]; rfl, by unfold lnD; rw [List.getElem?_eq_getElem hi]; rfl⟩
    rw [hz]
    rfl
  · rw [List.getElem?_eq_none (by simp; omega), List.getElem?_eq_none (by simp; omega)]
    rfl

theorem doc_tells (lines : List Ln) : docD (runB bs0 0 (ksOf lines)).bad ((runB bs0 0 (ksOf lines)).st.map Fr.ln).reverse lines lines.length = tells lines := by
  have hf := fine_run (ksOf lines) bs0 0 fine_zero
  unfold tells diagsL codesOf docD
  generalize runB bs0 0 (ksOf lines) = s at hf
  rw [zip_range, List.flatMap_map]
  refine flat_same _ fun i _ => ?_
  have hn : (s.st.map Fr.ln).reverse.Nodup := (List.reverse_perm _).nodup_iff.2 hf.nod
  unfold tellB dgAt
  rw [filter_one hf.badn, filter_one hn]
  simp only [List.mem_reverse]
  unfold codeAt
  by_cases hb : i ∈ s.bad
  · rw [if_pos hb, if_pos hb, if_neg (hf.apart i hb), if_neg (by omega)]
    rfl
  · rw [if_neg hb, if_neg hb]
    by_cases ho : i ∈ s.st.map Fr.ln
    · rw [if_pos ho, if_pos ho, if_neg (by omega)]
      rfl
    · rw [if_neg ho, if_neg ho, if_pos rfl]
      rfl

theorem tell_few (z : Int) (xs : List Nat) (lines : List Ln) (i : Nat) : (tellB z xs lines i).length ≤ xs.length := by
  unfold tellB
  rw [List.length_map]
  exact List.length_filter_le _ _
/-- One more looked at. -/
theorem tell_take {z : Int} {xs : List Nat} {lines : List Ln} {i k b : Nat} (hb : xs[k]? = some b) : tellB z (xs.take (k + 1)) lines i = tellB z (xs.take k) lines i ++ if b = i then [dgOf z (lnD lines i)] else [] := by
  unfold tellB
  rw [List.take_add_one, hb, List.filter_append, List.map_append]
  by_cases e : b = i
  · rw [if_pos e]
    simp [e]
  · rw [if_neg e]
    simp [e]
theorem doc_snoc (bad opn : List Nat) (lines : List Ln) (k : Nat) : docD bad opn lines (k + 1) = docD bad opn lines k ++ (tellB 12 bad lines k ++ tellB 13 opn lines k) := by
  unfold docD
  rw [List.range_succ, List.flatMap_append]
  simp
/-- Few in all. -/
theorem doc_few {bad opn : List Nat} (lines : List Ln) (hb : bad.Nodup) (ho : opn.Nodup) (k : Nat) : (docD bad opn lines k).length ≤ 2 * k := by
  induction k with
  | zero => exact Nat.le_refl _
  | succ k ih =>
    rw [doc_snoc, List.length_append, List.length_append]
    have h1 : (tellB 12 bad lines k).length ≤ 1 := by unfold tellB; rw [filter_one hb, List.length_map]; split <;> simp
    have h2 : (tellB 13 opn lines k).length ≤ 1 := by unfold tellB; rw [filter_one ho, List.length_map]; split <;> simp
    omega
theorem nodup_sub {l : List Nat} (h : l.Nodup) (k : Nat) : (l.take k).Nodup := h.sublist (List.take_sublist k l)

end Go.Proofs.YtlnlpahmfpjjdaaDoor

/-
  The document's Build at its end, over memory.
-/
namespace Go.Proofs.YtlnlpahmfpjjdaaDoor
open Go.RowKit

def openL (s : Bs) : List Nat := (s.st.map Fr.ln).reverse
def wints (xs : List Nat) : List Int := xs.map fun b : Nat => (b : Int)
theorem open_len (s : Bs) : (openL s).length = s.st.length := by unfold openL; rw [List.length_reverse, List.length_map]
theorem wints_take {xs : List Nat} {k b : Nat} (hb : xs[k]? = some b) : wints (xs.take (k + 1)) = wints (xs.take k) ++ [(b : Int)] := by
  unfold wints
  rw [take_one hb, List.map_append]
  rfl

section
variable {W : World} {c : Col} {d : Nat} {F : List (Fr × Fv)} {la lc : Nat} {ca : Option Addr} {cn cc : Nat} {w : World} {s : Bs}

/-- A condition's line. -/
theorem con_line (h : RCore W c d F la lc ca cn cc w) (hF : F.map Prod.fst = stackOf s) {j b : Nat} (hj : (openL s)[j]? = some b) : ∃ cg, ca = some ⟨cg, 0, none⟩ ∧ cg < w.heap.size ∧ w.cell? ⟨cg, j * 3 + 1, none⟩ = some (.int .i64 (b : Int)) := by
  unfold stackOf at hF
  obtain ⟨p, F', rfl, -, hF'⟩ := List.map_eq_cons_iff.1 hF
  have e : openL s = F'.map fun p => p.1.ln := by
    unfold openL
    rw [← List.map_reverse, ← hF', List.map_map]
    rfl
  rw [e, List.getElem?_map, Option.map_eq_some_iff] at hj
  obtain ⟨q, hq, rfl⟩ := hj
  obtain ⟨a, cap, hv, -, -, h3⟩ := row_form h.con.1
  simp only [Value.slice.injEq, true_and] at hv
  obtain ⟨rfl, rfl⟩ := hv
  obtain ⟨g, hg, hlt, hc⟩ := h3 (j * 3 + 1) (.int .i64 (q.1.ln : Int)) ((flat_get (f := rcc) (n := 3) (fun _ => rfl) F' j q hq 1 (by omega)).trans rfl)
  exact ⟨g, hg, hlt, hc⟩
/-- A line that is told. -/
theorem row_line {k B n m q : Nat} {a : Option Addr} {xs : List Nat} (h : RowC c k B 3 1 (.slice a m q) n (ivals (wints xs)) w) {j b : Nat} (hj : xs[j]? = some b) : ∃ g, a = some ⟨g, 0, none⟩ ∧ g < w.heap.size ∧ w.cell? ⟨g, j, none⟩ = some (.int .i64 (b : Int)) := by
  obtain ⟨a', cap, hv, -, -, h3⟩ := row_form h.1
  simp only [Value.slice.injEq] at hv
  obtain ⟨rfl, -, -⟩ := hv
  exact h3 j (.int .i64 (b : Int)) (by unfold ivals wints; rw [List.getElem?_map, List.getElem?_map, hj]; rfl)
theorem row_few {k B n : Nat} {v : Value} {xs : List Nat} (h : RowC c k B 3 1 v n (ivals (wints xs)) w) : xs.length = n ∧ ∃ a cap, v = .slice a n cap ∧ n ≤ cap ∧ cap ≤ maxLen := by
  obtain ⟨a, cap, hv, h1, h2, -⟩ := row_form h.1
  have := h.1.1
  simp only [ivals, wints, List.length_map, Nat.mul_one] at this
  exact ⟨this, a, cap, hv, h1, h2⟩

/-- The builder at the end of the lines, with the row of those open. -/
def RDone (W : World) (d gk : Nat) (s0 : Bs) (lv cv bv ov : Value) (w : World) : Prop :=
  ∃ s c F la lc ca cc, lv = .slice (some ⟨la, 0, none⟩) (gk + 1) lc ∧ cv = .slice ca gk cc ∧ F.length = gk + 1 ∧ RCore W c d F la lc ca gk cc w ∧ F.map Prod.fst = stackOf s ∧ s.st.length = gk ∧ (shutB gk s).ba = (shutB s0.st.length s0).ba ∧
    RowC c 3 W.heap.size 3 1 bv s0.bad.length (ivals (wints s0.bad)) w ∧ RowC c 3 W.heap.size 3 1 ov s0.st.length (ivals (wints (openL s0))) w

theorem rdone_mk {ba : Option Addr} {bn bc : Nat} (h : RCore W c d F la lc ca cn cc w) (hF : F.map Prod.fst = stackOf s) (hB : RowC c 3 W.heap.size 3 1 (.slice ba bn bc) bn (ivals (s.bad.map fun b : Nat => (b : Int))) w)
    {w' : World} {ov : Value} (hO : Up w 3 1 ov s.st.length (ivals (wints (openL s))) w') : RDone W d s.st.length s (.slice (some ⟨la, 0, none⟩) F.length lc) (.slice ca cn cc) (.slice ba bn bc) ov w' := by
  have hFl : F.length = s.st.length + 1 := by rw [len_of_map hF, stack_len]
  have hcl := h.cln
  obtain rfl : cn = s.st.length := by omega
  have hbn := (row_few (xs := s.bad) hB).1
  have h1 := (h.recol (c1 := fun g => if w.heap.size ≤ g then 3 else c g) (fun g hg => if_neg (by omega))).over hO.2
  have t : Chg 9 c (fun g => if w.heap.size ≤ g then 3 else c g) w w := ⟨Nat.le_refl _, fun g hg => if_neg (by omega), fun _ _ _ => rfl⟩
  have h2 := (hB.chg t (by omega)).chg (Chg.below 9 _ hO.2) (by omega)
  refine ⟨s, _, F, la, lc, ca, cc, by rw [hFl], rfl, hFl, h1, hF, rfl, rfl, by rw [hbn]; exact h2, ⟨row_low hO.1 h.bel.size, fun g hg => if_pos (World.ownsRow.lt hO.1 g hg).1⟩⟩

/-- One open condition is closed. -/
theorem rdone_close {q : Nat} {s0 : Bs} {f : Fr} {r : List Fr} {F1 : List (Fr × Fv)} {g : Fr} {y' : Fv} {bv ov : Value} (hs : s.st = f :: r) (hX : (F1.map Prod.fst) ++ [g] = stackOf { s with st := r }) (hq : F1.length = q) (h : RCore W c d (F1 ++ [({ g with cu := g.cu ++ [frItem f] }, y')]) la lc ca q cc w)
    (hl : s.st.length = q + 1) (hba : (shutB (q + 1) s).ba = (shutB s0.st.length s0).ba) (hB : RowC c 3 W.heap.size 3 1 bv s0.bad.length (ivals (wints s0.bad)) w) (hO : RowC c 3 W.heap.size 3 1 ov s0.st.length (ivals (wints (openL s0))) w) :
    RDone W d q s0 (.slice (some ⟨la, 0, none⟩) (q + 1) lc) (.slice ca q cc) bv ov w := by
  have hc : closeB s = putB { s with st := r } (frItem f) := by unfold closeB; rw [hs]
  refine ⟨closeB s, c, _, la, lc, ca, cc, rfl, rfl, by rw [List.length_append, hq]; rfl, h, ?_, by rw [st_close, hl]; rfl, by rw [shutB] at hba; exact hba, hB, hO⟩
  rw [hc, stack_put hX.symm, List.map_append]
  rfl

/-- None is open any more. -/
theorem rdone_last {s0 : Bs} {lv cv bv ov : Value} (h : RDone W d 0 s0 lv cv bv ov w) : ∃ la lc ia im ic, lv = .slice (some ⟨la, 0, none⟩) 1 lc ∧ la < w.heap.size ∧ 1 ≤ lc ∧ lc ≤ maxLen ∧ w.cell? ⟨la, 0, none⟩ = some (.slice ia im ic) ∧ ItsAt (d + 1) (shutB s0.st.length s0).ba (.slice ia im ic) w := by
  obtain ⟨s, c, F, la, lc, ca, cc, rfl, rfl, hFl, hC, hF, hs, hba, -, -⟩ := h
  have hnil : s.st = [] := List.eq_nil_of_length_eq_zero hs
  rw [stack_none hnil] at hF
  obtain ⟨F0, x, rfl, hF0⟩ := map_snoc_inv hF
  obtain rfl : F0 = [] := List.map_eq_nil_iff.1 hF0
  have hf := hC.fr (F0 := []) (F1 := []) rfl
  have hlc := hC.lcap
  have hits := hf.lev.done (Pk := fun _ => True) (fun _ _ => trivial) (fun _ _ => trivial)
  rw [hf.mp] at hits
  refine ⟨la, lc, x.ia, x.im, x.ic, rfl, hC.llt.1, hlc.1, hlc.2, hC.lcell (j := 0) (p := (baseFr s.ba, x)) rfl, ?_⟩
  rw [← hba]
  exact itsP_at _ _ _ _ _ hits
end

theorem line_at {lines : List Ln} {la : Option Addr} {n lc k : Nat} {ln : Ln} {w : World} (h : LinesAt fB lines (.slice la n lc) w) (hk : lines[k]? = some ln) :
    ∃ g ta tn tc, la = some ⟨g, 0, none⟩ ∧ g < w.heap.size ∧ w.cell? ⟨g, k * 4, none⟩ = some (.slice ta tn tc) ∧ w.cell? ⟨g, k * 4 + 1, none⟩ = some (.int .i64 (ln.f : Int)) ∧ w.cell? ⟨g, k * 4 + 2, none⟩ = some (.int .i64 (ln.t : Int)) ∧ w.cell? ⟨g, k * 4 + 3, none⟩ = some (.bool ln.o) ∧
      (2 ≤ ln.toks.length → ∀ X, Below w.heap.size w X → Calls Tryd.prog 54 #[.agg #[.slice ta tn tc, .int .i64 (ln.f : Int), .int .i64 (ln.t : Int), .bool ln.o]] X (SpanR (tk1 ln).f (tk1 ln).t X)) := by
  obtain ⟨a, cap, hv, -, -, h3⟩ := h
  simp only [Value.slice.injEq] at hv
  obtain ⟨rfl, -, -⟩ := hv
  obtain ⟨g, tv, ha, hg, l0, l1, l2, l3, ht⟩ := h3 k ln hk
  obtain ⟨ta, tn, tc, rfl⟩ := (ToksAt.x ht).form
  refine ⟨g, ta, tn, tc, ha, hg, l0, l1, l2, l3, fun h2 X b => ?_⟩
  obtain ⟨t, ht1⟩ : ∃ t, ln.toks[1]? = some t := ⟨_, List.getElem?_eq_getElem (by omega)⟩
  have := second_any (fr := (ln.f : Int)) (to := (ln.t : Int)) (op := ln.o) (ht.next b) ht1
  rw [show tk1 ln = t from by unfold tk1; rw [ht1]; rfl]
  exact this

theorem told_toks (lines : List Ln) {j : Nat} (hj : j ∈ (runB bs0 0 (ksOf lines)).bad ∨ j ∈ openL (runB bs0 0 (ksOf lines))) {ln : Ln} (hl : lines[j]? = some ln) : 2 ≤ ln.toks.length := by
  have ht := told_take (ksOf lines) (ksOf lines).length (Nat.le_refl _)
  rw [List.take_length] at ht
  obtain ⟨k', ne, h3, h4⟩ := ht j (hj.imp_right fun h => List.mem_reverse.1 h)
  unfold ksOf at h3
  rw [List.getElem?_map, hl] at h3
  simp only [Option.map_some, Option.some.injEq, lnK, Prod.mk.injEq] at h3
  rw [← h3.1] at h4
  have := kindL_len h4
  rw [List.length_map] at this
  exact this

def DocR (wy : World) (bad opn : List Nat) (lines : List Ln) (n : Nat) (dv i : Value) (wr : World) : Prop :=
  ∃ (k : Nat) (da : Option Addr) (dn dc : Nat), i = .int .i64 (k : Int) ∧ k ≤ n ∧ dv = .slice da dn dc ∧ dn = (docD bad opn lines k).length ∧ DRow wy fB (.slice da dn dc) (docD bad opn lines k) wr
theorem docR_mk {wy : World} {bad opn : List Nat} {lines : List Ln} {n k : Nat} {i : Value} {da : Option Addr} {dn dc : Nat} {wr : World} (hi : i = .int .i64 (k : Int)) (hk : k ≤ n) (h1 : dn = (docD bad opn lines k).length) (h2 : DRow wy fB (.slice da dn dc) (docD bad opn lines k) wr) : DocR wy bad opn lines n (.slice da dn dc) i wr :=
  ⟨k, da, dn, dc, hi, hk, rfl, h1, h2⟩

theorem dg_ready {ty : TypeId} {W w : World} {da : Option Addr} {dn dc : Nat} {D : List Dg} (h : DRow W fB (.slice da dn dc) D w) (hdn : dn = D.length) (hn : D.length ≤ 500000) {z : Int} (hz : 0 ≤ z) (ln : Ln) {f t : Nat} (hf : (tk1 ln).f = f) (ht : (tk1 ln).t = t) :
    ∃ v' w', (Builtin.append_ #[39, 39] ty #[.slice da dn dc, .slice (some ⟨w.heap.size, 0, none⟩) 1 1]).run Tryd.prog (w.alloc (.cells #[.int .i64 z, .string fB, .int .i64 (f : Int), .int .i64 (t : Int)] 63)) = .ok v' w' ∧ ∃ b cap, v' = .slice (some ⟨b, 0, none⟩) (dn + 1) cap ∧ DRow W fB (.slice (some ⟨b, 0, none⟩) (dn + 1) cap) (D ++ [dgOf z ln]) w' := by
  subst hf ht
  exact dg_ex (Up.alloc h _) (dgOf z ln) (src_row (heap_alloc_new w _) (by simp [dcell, dgOf]; omega) rfl) hn hdn.symm

end Go.Proofs.YtlnlpahmfpjjdaaDoor
