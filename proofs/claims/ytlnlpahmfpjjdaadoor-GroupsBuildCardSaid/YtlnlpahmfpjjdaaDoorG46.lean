/-
  Texts of the proof, put together: GdStep.
-/
import Derived.Test.YtlnlpahmfpjjdaaDoorG45
import Derived.Test.YtlnlpahmfpjjdaaDoorG25
import Derived.Test.YtlnlpahmfpjjdaaDoorG34

/-
  The document's Build, its steps over memory.
-/
namespace Go.Proofs.YtlnlpahmfpjjdaaDoor
open Go.RowKit

theorem Tryd.infoBool8 : (Tryd.prog.info? 4).map (fun i => (i.zero, i.size, i.bytes)) = some (some (.bool false), 1, 1) := by kernel_rfl

theorem Tryd.infoLevel : (Tryd.prog.info? 47).map (fun i => (i.zero, i.size, i.bytes)) = some (some (.slice none 0 0), 1, 24) := by kernel_rfl

def rFv (g : Nat) : Fv := ⟨2, [], [], none, 0, 0, g, 1⟩
/-- The conditions' row has one more than the levels'. -/
structure RHalf (W : World) (c : Col) (d : Nat) (F : List (Fr × Fv)) (i g la lc : Nat) (ca : Option Addr) (cn cc : Nat) (w : World) : Prop where
  bel : Below W.heap.size W w
  lev : RowC c 0 W.heap.size 47 1 (.slice (some ⟨la, 0, none⟩) F.length lc) F.length (F.map ivv) w
  ne : F ≠ []
  cln : cn = F.length
  con : RowC c 1 W.heap.size 102 3 (.slice ca cn cc) cn (rccs (F ++ [(newFr i, rFv g)])) w
  few : F.length ≤ d + 1
  frs : ∀ j f x, F[j]? = some (f, x) → RFr c W.heap.size d j f x w
  arm : ArmAt c W.heap.size 99 (3 * F.length + 4) (d + 1) [] (i : Int) (.slice none 0 0) g 1 w
section
variable {W : World} {c : Col} {d : Nat} {F : List (Fr × Fv)} {i g la lc : Nat} {ca : Option Addr} {cn cc : Nat} {w : World}

theorem RHalf.over (h : RHalf W c d F i g la lc ca cn cc w) {w' : World} (b : Below w.heap.size w w') : RHalf W c d F i g la lc ca cn cc w' :=
  ⟨h.bel.trans (b.mono h.bel.size), h.lev.chg (Chg.below 9 c b) (by omega), h.ne, h.cln, h.con.chg (Chg.below 9 c b) (by omega), h.few, fun j f x hj => (h.frs j f x hj).chg (Chg.below 0 c b) (by omega), h.arm.chg (Chg.below 0 c b) (by omega) (by omega)⟩
theorem RHalf.chg (h : RHalf W c d F i g la lc ca cn cc w) {c' : Col} {w' : World} {m : Nat} (s : Chg m c c' w w') (hm : m = 2 ∨ m = 3) (hb : Below W.heap.size W w') : RHalf W c' d F i g la lc ca cn cc w' :=
  ⟨hb, h.lev.chg s (by omega), h.ne, h.cln, h.con.chg s (by omega), h.few, fun j f x hj => (h.frs j f x hj).chg s (by omega), h.arm.chg s (by omega) (by omega)⟩

/-- A condition more. -/
def ConP (W : World) (c : Col) (d : Nat) (F : List (Fr × Fv)) (i g la lc : Nat) (w : World) (b n cap : Nat) (w' : World) : Prop := ∃ c', RHalf W c' d F i g la lc (some ⟨b, 0, none⟩) n cap w' ∧ KeepC c c' w w'
theorem RCore.con_push {ty : TypeId} {sv : Value} (h : RCore W c d F la lc ca cn cc w) (hd : d ≤ 400000) (hg : w.heap[g]? = some (.cells #[.int .i64 (i : Int), .slice none 0 0] 99 (0, 0))) (hcg : c g = 3 * F.length + 4) (hlow : W.heap.size ≤ g) (hs : Src w sv 1 3 (rcc (newFr i, rFv g))) :
    ∃ b n cap w', (Builtin.append_ #[47, 47] ty #[.slice ca cn cc, sv]).run Tryd.prog w = .ok (.slice (some ⟨b, 0, none⟩) n cap) w' ∧ ConP W c d F i g la lc w b n cap w' := by
  obtain ⟨i0, hi, hz0, hz1, hz2⟩ := info_parts Tryd.infoItmR
  have hfew := h.few
  have hcl := h.cln
  have hne : F ≠ [] := fun e => by rw [e] at hcl; simp at hcl
  obtain ⟨b, n, cap, w', hr, hn, c', h1, s, hb⟩ := rowc_push (ty := ty) Tryd.underlying47 hi hz0 hz1 hz2 rfl (by decide) (by decide) h.con hs (by
    intro u hu
    simp only [rcc, List.mem_cons, List.not_mem_nil, or_false] at hu
    rcases hu with rfl | rfl | rfl <;> rfl) (by omega) (by omega) h.bel.size
  have harm : ArmAt c W.heap.size 99 (3 * F.length + 4) (d + 1) [] (i : Int) (.slice none 0 0) g 1 w :=
    ⟨⟨⟨rfl, .inr ⟨g, 1, _, rfl, hlow, hg, Nat.le_refl _, by unfold maxLen; omega, rfl, rfl⟩⟩, fun k hk => by simp only [Value.ownBlock, Option.some.injEq] at hk; rw [← hk]; exact hcg⟩, fun q hq => by cases hq⟩
  exact ⟨b, n, cap, w', hr, c', ⟨h.bel.trans hb, h.lev.chg s (by omega), hne, by omega, by rw [rccs_snoc hne]; exact h1, hfew, fun j f x hj => (h.frs j f x hj).chg s (by omega), harm.chg s (by omega) (by omega)⟩, s.keepc (by omega) (by omega)⟩
/-- A level more. -/
def LevP (W : World) (c : Col) (d : Nat) (F : List (Fr × Fv)) (i g : Nat) (ca : Option Addr) (cn cc : Nat) (w : World) (b n cap : Nat) (w' : World) : Prop := ∃ c', n = F.length + 1 ∧ RCore W c' (d + 1) (F ++ [(newFr i, rFv g)]) b cap ca cn cc w' ∧ KeepC c c' w w'
theorem RHalf.lev_push {ty : TypeId} {sv : Value} (h : RHalf W c d F i g la lc ca cn cc w) (hd : d ≤ 400000) (hs : Src w sv 1 1 [.slice none 0 0]) :
    ∃ b n cap w', (Builtin.append_ #[96, 96] ty #[.slice (some ⟨la, 0, none⟩) F.length lc, sv]).run Tryd.prog w = .ok (.slice (some ⟨b, 0, none⟩) n cap) w' ∧ LevP W c d F i g ca cn cc w b n cap w' := by
  obtain ⟨i0, hi, hz0, hz1, hz2⟩ := info_parts Tryd.infoLevel
  have hfew := h.few
  obtain ⟨b, n, cap, w', hr, hn, c', h1, s, hb⟩ := rowc_push (ty := ty) Tryd.underlying96 hi hz0 hz1 hz2 rfl (by decide) (by decide) h.lev hs (by
    intro u hu
    simp only [List.mem_cons, List.not_mem_nil, or_false] at hu
    rw [hu]; rfl) (by omega) (by omega) h.bel.size
  subst hn
  refine ⟨b, _, cap, w', hr, c', rfl, ⟨h.bel.trans hb, ?_, by rw [h.cln, List.length_append]; rfl, h.con.chg s (by omega), by rw [List.length_append]; simp; omega, fun j f x hj => ?_⟩, s.keepc (by omega) (by omega)⟩
  · rw [List.map_append, List.length_append]
    exact h1
  · rcases Nat.lt_or_ge j F.length with hlt | hge
    · rw [List.getElem?_append_left hlt] at hj
      exact ((h.frs j f x hj).chg s (by omega)).more
    · rw [List.getElem?_append_right hge] at hj
      have hj0 : j - F.length = 0 := by
        rcases Nat.eq_zero_or_pos (j - F.length) with h0 | h0
        · exact h0
        · rw [List.getElem?_eq_none (by simp; omega)] at hj; cases hj
      rw [hj0] at hj
      simp only [List.getElem?_cons_zero, Option.some.injEq, Prod.mk.injEq] at hj
      obtain ⟨rfl, rfl⟩ := hj
      obtain rfl : j = F.length := by omega
      exact ⟨rfl, rfl, Nat.zero_le _, Nat.zero_le _, lev_nil _ _ _ _ _ _, fun _ => h.arm.chg s (by omega) (by omega)⟩

/-- The top's next arm: its arms at another place, with one more; the level is empty. -/
theorem RCore.arm {X : List (Fr × Fv)} {f : Fr} {x : Fv} {cg : Nat} (h : RCore W c d (X ++ [(f, x)]) la lc (some ⟨cg, 0, none⟩) cn cc w) (hX : X ≠ []) {w' : World} {c' : Col} {b cap : Nat} (ev : Bool) (hb : Below W.heap.size W w')
    (ha : ArmAt c' W.heap.size 99 (3 * X.length + 4) d (x.A ++ [(((f.la : Int), f.cu), .slice x.ia x.im x.ic)]) (i : Int) (.slice none 0 0) b cap w') (hbel : Below w.heap.size w w') (hc1 : ∀ g, g < w.heap.size → c' g = if c g = 3 * X.length + 5 then 3 * X.length + 6 else c g) :
    RCore W c' (d + 1) (X ++ [({ f with dn := f.dn ++ [((f.la : Int), f.cu)], la := i, cu := [], en := ev }, { x with A := x.A ++ [(((f.la : Int), f.cu), .slice x.ia x.im x.ic)], P := [], ia := none, im := 0, ic := 0, ab := b, ac := cap })]) la lc (some ⟨cg, 0, none⟩) cn cc
      (((((w'.setCell ⟨cg, (X.length - 1) * 3, none⟩ (.int .i64 2)).setCell ⟨cg, (X.length - 1) * 3 + 1, none⟩ (.int .i64 (f.ln : Int))).setCell ⟨cg, (X.length - 1) * 3 + 2, none⟩ (.slice (some ⟨b, 0, none⟩) (x.A.length + 1 + 1) cap)).setCell ⟨la, X.length, none⟩ (.slice none 0 0))) ∧
      KeepC c c' w ((((w'.setCell ⟨cg, (X.length - 1) * 3, none⟩ (.int .i64 2)).setCell ⟨cg, (X.length - 1) * 3 + 1, none⟩ (.int .i64 (f.ln : Int))).setCell ⟨cg, (X.length - 1) * 3 + 2, none⟩ (.slice (some ⟨b, 0, none⟩) (x.A.length + 1 + 1) cap)).setCell ⟨la, X.length, none⟩ (.slice none 0 0)) := by
  have hf := h.fr (F1 := []) rfl
  have hpos := List.length_pos_iff.2 hX
  have hc : ∀ g, g < w.heap.size → c g ≠ 3 * X.length + 5 → c' g = c g := fun g hg hne => by rw [hc1 g hg, if_neg hne]
  have s0 : ∀ k, Chg k (fun g => if c g = 3 * X.length + 5 then 3 * X.length + 6 else c g) c' w w' := fun k => ⟨hbel.size, hc1, fun g hg _ => hbel.block g hg⟩
  obtain ⟨hlal, hlalow, hlac⟩ := h.llt
  obtain ⟨cg', hcg, hcgl, hcglow, hcgc, hcn, -, -, -⟩ := h.ccell hX
  simp only [Option.some.injEq, Addr.mk.injEq, and_true] at hcg
  subst hcg
  have hla' : c' la = 0 := (hc la hlal (by rw [hlac]; omega)).trans hlac
  have hcg' : c' cg = 1 := (hc cg hcgl (by rw [hcgc]; omega)).trans hcgc
  have t1 := Chg.set c' w' ⟨cg, (X.length - 1) * 3, none⟩ (.int .i64 2)
  have t2 := Chg.set c' (w'.setCell ⟨cg, (X.length - 1) * 3, none⟩ (.int .i64 2)) ⟨cg, (X.length - 1) * 3 + 1, none⟩ (.int .i64 (f.ln : Int))
  have t3 := Chg.set c' ((w'.setCell ⟨cg, (X.length - 1) * 3, none⟩ (.int .i64 2)).setCell ⟨cg, (X.length - 1) * 3 + 1, none⟩ (.int .i64 (f.ln : Int))) ⟨cg, (X.length - 1) * 3 + 2, none⟩ (.slice (some ⟨b, 0, none⟩) (x.A.length + 1 + 1) cap)
  rw [hcg'] at t1 t2 t3
  have t := (t1.trans t2).trans t3
  have t4 := Chg.set c' (((w'.setCell ⟨cg, (X.length - 1) * 3, none⟩ (.int .i64 2)).setCell ⟨cg, (X.length - 1) * 3 + 1, none⟩ (.int .i64 (f.ln : Int))).setCell ⟨cg, (X.length - 1) * 3 + 2, none⟩ (.slice (some ⟨b, 0, none⟩) (x.A.length + 1 + 1) cap)) ⟨la, X.length, none⟩ (.slice none 0 0)
  rw [hla'] at t4
  have recol : ∀ {k B n : Nat} {e : TypeId} {size : Nat} {v : Value} {xs : List Value}, RowC c k B e size v n xs w → k < 3 * X.length + 5 → RowC c' k B e size v n xs w' := fun {k B n e size v xs} hr hk => by
    exact (hr.recol (c' := fun g => if c g = 3 * X.length + 5 then 3 * X.length + 6 else c g) (fun g hg => by rw [if_neg (by omega)]; exact hg)).chg (s0 (k + 1)) (by omega)
  refine ⟨⟨(((hb.setCell hcglow _).setCell hcglow _).setCell hcglow _).setCell hlalow _, ?_, by simpa using h.cln, ?_, by have := h.few; simp at this ⊢; omega, fun j f' x' hj => ?_⟩, ⟨?_, fun g hg h23 => ⟨hc g hg (by omega), ?_⟩⟩⟩
  · have h1 := (recol h.lev (by omega)).chg t (by omega)
    have h2 := own_setX h1.1 X.length (.slice none 0 0)
    rw [List.map_append, List.set_append_right _ _ (by rw [List.length_map]; omega), List.length_map, Nat.sub_self] at h2
    rw [List.map_append]
    simp only [List.length_append, List.length_cons, List.length_nil] at h2 h1 ⊢
    exact ⟨h2, h1.2⟩
  · have h1 := recol h.con (by omega)
    have h2 := own_setX (own_setX (own_setX h1.1 ((X.length - 1) * 3) (.int .i64 2)) ((X.length - 1) * 3 + 1) (.int .i64 (f.ln : Int))) ((X.length - 1) * 3 + 2) (.slice (some ⟨b, 0, none⟩) (x.A.length + 1 + 1) cap)
    rw [rccs_snoc hX, List.set_append_right _ _ (by rw [rccs_len]; omega), List.set_append_right _ _ (by rw [rccs_len]; omega), List.set_append_right _ _ (by rw [rccs_len]; omega), rccs_len, Nat.sub_self, show (X.length - 1) * 3 + 1 - (X.length - 1) * 3 = 1 from by omega, show (X.length - 1) * 3 + 2 - (X.length - 1) * 3 = 2 from by omega] at h2
    rw [rccs_snoc hX]
    have h3 : RowC c' 1 W.heap.size 102 3 (.slice (some ⟨cg, 0, none⟩) cn cc) cn (rccs X ++ [.int .i64 2, .int .i64 (f.ln : Int), .slice (some ⟨b, 0, none⟩) (x.A.length + 1 + 1) cap]) (((w'.setCell ⟨cg, (X.length - 1) * 3, none⟩ (.int .i64 2)).setCell ⟨cg, (X.length - 1) * 3 + 1, none⟩ (.int .i64 (f.ln : Int))).setCell ⟨cg, (X.length - 1) * 3 + 2, none⟩ (.slice (some ⟨b, 0, none⟩) (x.A.length + 1 + 1) cap)) := ⟨h2, h1.2⟩
    have h4 := h3.chg t4 (by omega)
    have e : rcc (({ f with dn := f.dn ++ [((f.la : Int), f.cu)], la := i, cu := [], en := ev } : Fr), ({ x with A := x.A ++ [(((f.la : Int), f.cu), .slice x.ia x.im x.ic)], P := [], ia := none, im := 0, ic := 0, ab := b, ac := cap } : Fv)) = [.int .i64 2, .int .i64 (f.ln : Int), .slice (some ⟨b, 0, none⟩) (x.A.length + 1 + 1) cap] := by simp [rcc]
    rw [e]
    exact h4
  · rcases Nat.lt_or_ge j X.length with hlt' | hge
    · rw [List.getElem?_append_left hlt'] at hj
      have h1 := ((h.frs j f' x' (by rw [List.getElem?_append_left hlt']; exact hj)).recol (c' := fun g => if c g = 3 * X.length + 5 then 3 * X.length + 6 else c g) (fun g h1 h2 => if_neg (by omega))).chg (s0 0) (by omega)
      exact ((h1.chg t (by omega)).chg t4 (by omega)).more
    · have hj0 : j - X.length = 0 := by
        rcases Nat.eq_zero_or_pos (j - X.length) with h0 | h0
        · exact h0
        · rw [List.getElem?_append_right hge, List.getElem?_eq_none (by simp; omega)] at hj; cases hj
      rw [List.getElem?_append_right hge, hj0] at hj
      simp only [List.getElem?_cons_zero, Option.some.injEq, Prod.mk.injEq] at hj
      obtain ⟨rfl, rfl⟩ := hj
      obtain rfl : j = X.length := by omega
      refine ⟨by simp [hf.ma], rfl, by have := hf.fa; simp; omega, Nat.zero_le _, lev_nil _ _ _ _ _ _, fun _ => ?_⟩
      exact ((ha.chg t (by omega) (by omega)).chg t4 (by omega) (by omega)).more
  · have h1 := t4.size
    have h2 := t.size
    exact Nat.le_trans hbel.size (Nat.le_trans h2 h1)
  · have hg' : g < w'.heap.size := Nat.lt_of_lt_of_le hg hbel.size
    have e : c' g = c g := hc g hg (by omega)
    rw [t4.block g (Nat.lt_of_lt_of_le hg' t.size) (by rw [e]; omega), t.block g hg' (by rw [e]; omega), hbel.block g hg]
end

theorem ArmAt.low {c : Col} {B B' : Nat} {TA : TypeId} {k d : Nat} {A : List ((Int × List Itm) × Value)} {la : Int} {u : Value} {ab ac : Nat} {w : World} (h : ArmAt c B TA k d A la u ab ac w) (hb : B' ≤ B) : ArmAt c B' TA k d A la u ab ac w := ⟨⟨row_low h.row.1 hb, h.row.2⟩, h.its⟩

/-- The document's builder, so far. -/
def RBldS (W : World) (d : Nat) (s : Bs) (lv cv ev bv : Value) (w : World) : Prop :=
  ∃ c F la lc ca cn cc ea ec ba bn bc, lv = .slice (some ⟨la, 0, none⟩) F.length lc ∧ cv = .slice ca cn cc ∧ ev = .slice ea cn ec ∧ bv = .slice ba bn bc ∧ RCore W c d F la lc ca cn cc w ∧ F.map Prod.fst = stackOf s ∧
    RowC c 2 W.heap.size 4 1 (.slice ea cn ec) cn (s.st.reverse.map fun f => .bool f.en) w ∧ RowC c 3 W.heap.size 3 1 (.slice ba bn bc) bn (ivals (s.bad.map fun b : Nat => (b : Int))) w ∧ bn ≤ d

def SpanR (f t : Nat) (w : World) (e : Ending) (w' : World) : Prop := e = .returned (.agg #[.string fB, .int .i64 (f : Int), .int .i64 (t : Int)]) ∧ Below w.heap.size w w'

set_option maxRecDepth 100000 in
set_option maxHeartbeats 1600000 in
theorem second_any {toks : List Tk} {ta : Option Addr} {tn tc : Nat} {t : Tk} {fr to : Int} {op : Bool} {w : World} (h : ToksAt fB toks (.slice ta tn tc) w) (ht : toks[1]? = some t) : Calls Tryd.prog 54 #[.agg #[.slice ta tn tc, .int .i64 fr, .int .i64 to, .bool op]] w (SpanR t.f t.t w) := by
  obtain ⟨a, cap, hv, h1, h2, h3⟩ := h
  simp only [Value.slice.injEq] at hv
  obtain ⟨rfl, rfl, rfl⟩ := hv
  obtain ⟨g, rfl, hg, -, -, -, t3, t4, t5, -, -⟩ := h3 1 t ht
  have q3 : w.cell? ⟨g, 11, none⟩ = some (.string fB) := t3
  have q4 : w.cell? ⟨g, 12, none⟩ = some (.int .i64 (t.f : Int)) := t4
  have q5 : w.cell? ⟨g, 13, none⟩ = some (.int .i64 (t.t : Int)) := t5
  have hl : 1 < toks.length := (List.getElem?_eq_some_iff.1 ht).1
  obtain ⟨m, hm⟩ : ∃ m, toks.length = m := ⟨_, rfl⟩
  rw [hm] at hl h1 ⊢
  have hm1 : (1 : Int) < (m : Int) := by omega
  unfold maxLen at h2
  clear h3 t3 t4 t5 ht hm
  go_enter Tryd.func54, Tryd.ntmps54
  go_wp2
  refine bodyPost_ret (v := .agg #[.string fB, .int .i64 (t.f : Int), .int .i64 (t.t : Int)]) (by simp [results, Tryd.results54, go_sem]) rfl ⟨rfl, ?_⟩
  exact ((Below.refl _ _).alloc (Nat.le_refl _) _).alloc (by simp) _

end Go.Proofs.YtlnlpahmfpjjdaaDoor
