/-
  Texts of the proof, put together: GdBld, GdClosed.
-/
import Derived.Test.YtlnlpahmfpjjdaaDoorG19
import Derived.Test.YtlnlpahmfpjjdaaDoorG22
import Derived.Test.YtlnlpahmfpjjdaaDoorG07
import Derived.IntWalk

/-
  The document's Build in memory: rows of levels and of conditions; a condition ends.
-/
namespace Go.Proofs.YtlnlpahmfpjjdaaDoor
open Go.RowKit

/-- An append to a row of one colour. -/
theorem rowc_push {c : Col} {k B n m : Nat} {t ty e : TypeId} {i0 : TypeInfo} {z : Value} {size bytes : Nat} {v sv : Value} {xs news : List Value} {w : World}
    (ht : Tryd.prog.underlying t = some (.slice e)) (hi : Tryd.prog.info? e = some i0) (hz : i0.zero = some z) (hsz : i0.size = size) (hby : i0.bytes = bytes) (hzs : z.cells.size = size) (hpos : 0 < size) (hbb : bytes ≤ 100)
    (h : RowC c k B e size v n xs w) (hs : Src w sv m size news) (h1 : ∀ u ∈ news, u.oneCell' = true) (hm : 0 < m) (hn : n + m ≤ 1000000) (hB : B ≤ w.heap.size) :
    ∃ b n' cap w', (Builtin.append_ #[t, t] ty #[v, sv]).run Tryd.prog w = .ok (.slice (some ⟨b, 0, none⟩) n' cap) w' ∧ (n' = n + m ∧ ∃ c', RowC c' k B e size (.slice (some ⟨b, 0, none⟩) n' cap) n' (xs ++ news) w' ∧ Chg k c c' w w' ∧ Below B w w') := by
  obtain ⟨ho, hc⟩ := h
  obtain ⟨b, cap, w', hr, h2, h3, h4⟩ := own_app (ty := ty) ht hi hz hsz hby hzs hpos hbb ho hs h1 (by omega) hn hB
  refine ⟨b, _, cap, w', hr, rfl, fun g => if g = b then k else c g, ⟨h2, fun g hg => ?_⟩, ⟨h3.size, fun g hg => ?_, fun g hg hk => h3.block g hg fun e => hk (hc g e.symm)⟩, (Below.refl B w).grown h3 hB fun k hk => (World.ownsRow.lt ho k hk).1⟩
  · simp only [Value.ownBlock, Option.some.injEq] at hg
    subst hg
    show (if b = b then k else c b) = k
    rw [if_pos rfl]
  · show (if g = b then k else c g) = c g
    split
    · rename_i e
      subst e
      rcases h4 with h4 | h4
      · exact (hc g h4).symm
      · omega
    · rfl

def ivv (p : Fr × Fv) : Value := .slice p.2.ia p.2.im p.2.ic
def rcc (p : Fr × Fv) : List Value := [.int .i64 2, .int .i64 (p.1.ln : Int), .slice (some ⟨p.2.ab, 0, none⟩) (p.2.A.length + 1) p.2.ac]
def rccs (F : List (Fr × Fv)) : List Value := (F.drop 1).flatMap rcc
theorem rccs_snoc {X : List (Fr × Fv)} (hX : X ≠ []) (p : Fr × Fv) : rccs (X ++ [p]) = rccs X ++ rcc p := by
  unfold rccs
  cases X with
  | nil => exact absurd rfl hX
  | cons a r => simp
theorem rccs_len (F : List (Fr × Fv)) : (rccs F).length = (F.length - 1) * 3 := by
  unfold rccs
  rw [flat_len (n := 3) (fun _ => rfl), List.length_drop]
theorem rccs_same {X : List (Fr × Fv)} {p q : Fr × Fv} (h : rcc p = rcc q) : rccs (X ++ [p]) = rccs (X ++ [q]) := by
  cases X with
  | nil => rfl
  | cons a r => rw [rccs_snoc (by simp), rccs_snoc (by simp), h]

structure RFr (c : Col) (B d j : Nat) (f : Fr) (x : Fv) (w : World) : Prop where
  ma : x.A.map Prod.fst = f.dn
  mp : x.P.map Prod.fst = f.cu
  fa : x.A.length ≤ d
  fp : x.P.length ≤ d
  lev : LevAt c B 102 (3 * j + 4) d (.slice x.ia x.im x.ic) x.P w
  arm : j ≠ 0 → ArmAt c B 99 (3 * j + 4) d x.A (f.la : Int) (.slice none 0 0) x.ab x.ac w
theorem RFr.chg {c c' : Col} {B d j m : Nat} {f : Fr} {x : Fv} {w w' : World} (h : RFr c B d j f x w) (s : Chg m c c' w w') (hm : m < 3 * j + 4 ∨ 3 * j + 6 < m) : RFr c' B d j f x w' :=
  ⟨h.ma, h.mp, h.fa, h.fp, h.lev.chg s (by omega) (by omega), fun hj => (h.arm hj).chg s (by omega) (by omega)⟩
theorem RFr.more {c : Col} {B d j : Nat} {f : Fr} {x : Fv} {w : World} (h : RFr c B d j f x w) : RFr c B (d + 1) j f x w :=
  ⟨h.ma, h.mp, Nat.le_succ_of_le h.fa, Nat.le_succ_of_le h.fp, h.lev.more, fun hj => (h.arm hj).more⟩
theorem RFr.recol {c c' : Col} {B d j : Nat} {f : Fr} {x : Fv} {w : World} (h : RFr c B d j f x w) (hc : ∀ g, 3 * j + 4 ≤ c g → c g ≤ 3 * j + 6 → c' g = c g) : RFr c' B d j f x w :=
  ⟨h.ma, h.mp, h.fa, h.fp, h.lev.recol (fun g hg => (hc g (by omega) (by omega)).trans hg) (fun g hg => (hc g (by omega) (by omega)).trans hg), fun hj => (h.arm hj).recol (fun g hg => (hc g (by omega) (by omega)).trans hg) (fun g hg => (hc g (by omega) (by omega)).trans hg)⟩

/-- The levels, the conditions, and what hangs on them. -/
structure RCore (W : World) (c : Col) (d : Nat) (F : List (Fr × Fv)) (la lc : Nat) (ca : Option Addr) (cn cc : Nat) (w : World) : Prop where
  bel : Below W.heap.size W w
  lev : RowC c 0 W.heap.size 47 1 (.slice (some ⟨la, 0, none⟩) F.length lc) F.length (F.map ivv) w
  cln : cn + 1 = F.length
  con : RowC c 1 W.heap.size 102 3 (.slice ca cn cc) cn (rccs F) w
  few : F.length ≤ d + 1
  frs : ∀ j f x, F[j]? = some (f, x) → RFr c W.heap.size d j f x w

section
variable {W : World} {c : Col} {d : Nat} {F : List (Fr × Fv)} {la lc : Nat} {ca : Option Addr} {cn cc : Nat} {w : World}

theorem RCore.over (h : RCore W c d F la lc ca cn cc w) {w' : World} (b : Below w.heap.size w w') : RCore W c d F la lc ca cn cc w' :=
  ⟨h.bel.trans (b.mono h.bel.size), h.lev.chg (Chg.below 9 c b) (by omega), h.cln, h.con.chg (Chg.below 9 c b) (by omega), h.few, fun j f x hj => (h.frs j f x hj).chg (Chg.below 0 c b) (by omega)⟩
theorem RCore.recol (h : RCore W c d F la lc ca cn cc w) {c1 : Col} (hc : ∀ g, g < w.heap.size → c1 g = c g) : RCore W c1 d F la lc ca cn cc w :=
  have s : ∀ k, Chg k c c1 w w := fun _ => ⟨Nat.le_refl _, hc, fun _ _ _ => rfl⟩
  ⟨h.bel, h.lev.chg (s 9) (by omega), h.cln, h.con.chg (s 9) (by omega), h.few, fun j f x hj => (h.frs j f x hj).chg (s 0) (by omega)⟩
theorem RCore.more (h : RCore W c d F la lc ca cn cc w) : RCore W c (d + 1) F la lc ca cn cc w := ⟨h.bel, h.lev, h.cln, h.con, Nat.le_succ_of_le h.few, fun j f x hj => (h.frs j f x hj).more⟩
theorem RCore.chg (h : RCore W c d F la lc ca cn cc w) {c' : Col} {w' : World} {m : Nat} (s : Chg m c c' w w') (hm : m = 2 ∨ m = 3) (hb : Below W.heap.size W w') : RCore W c' d F la lc ca cn cc w' :=
  ⟨hb, h.lev.chg s (by omega), h.cln, h.con.chg s (by omega), h.few, fun j f x hj => (h.frs j f x hj).chg s (by omega)⟩
theorem RCore.llt (h : RCore W c d F la lc ca cn cc w) : la < w.heap.size ∧ W.heap.size ≤ la ∧ c la = 0 := ⟨(World.ownsRow.lt h.lev.1 la rfl).2, (World.ownsRow.lt h.lev.1 la rfl).1, h.lev.2 la rfl⟩
theorem RCore.lcap (h : RCore W c d F la lc ca cn cc w) : F.length ≤ lc ∧ lc ≤ maxLen := by
  obtain ⟨a, cap, hv, h1, h2, -⟩ := row_form h.lev.1
  simp only [Value.slice.injEq, true_and] at hv
  obtain ⟨-, rfl⟩ := hv
  exact ⟨h1, h2⟩
theorem RCore.ccap (h : RCore W c d F la lc ca cn cc w) : cn ≤ cc ∧ cc ≤ maxLen := by
  obtain ⟨a, cap, hv, h1, h2, -⟩ := row_form h.con.1
  simp only [Value.slice.injEq, true_and] at hv
  obtain ⟨-, rfl⟩ := hv
  exact ⟨h1, h2⟩
theorem RCore.fr (h : RCore W c d F la lc ca cn cc w) {F0 F1 : List (Fr × Fv)} {f : Fr} {x : Fv} (hF : F = F0 ++ (f, x) :: F1) : RFr c W.heap.size d F0.length f x w := h.frs _ _ _ (by rw [hF]; simp)
/-- A level's slice. -/
theorem RCore.lcell (h : RCore W c d F la lc ca cn cc w) {j : Nat} {p : Fr × Fv} (hj : F[j]? = some p) : w.cell? ⟨la, j, none⟩ = some (ivv p) := by
  have hl := (List.getElem?_eq_some_iff.1 hj).1
  rw [h.lev.1.cellAt j (by omega), List.getElem?_map, hj]
  rfl
theorem RFr.icap {B j : Nat} {f : Fr} {x : Fv} (h : RFr c B d j f x w) : x.im = x.P.length ∧ x.im ≤ x.ic ∧ x.ic ≤ maxLen := by
  obtain ⟨a, cap, hv, h1, h2, -⟩ := row_form h.lev.row.1
  simp only [Value.slice.injEq] at hv
  obtain ⟨-, hm, rfl⟩ := hv
  exact ⟨hm, by omega, h2⟩
theorem RFr.acap {B j : Nat} {f : Fr} {x : Fv} (h : RFr c B d j f x w) (hj : j ≠ 0) : x.A.length + 1 ≤ x.ac ∧ x.ac ≤ maxLen ∧ x.ab < w.heap.size := by
  obtain ⟨a, cap, hv, h1, h2, -⟩ := row_form (h.arm hj).row.1
  simp only [Value.slice.injEq, true_and] at hv
  obtain ⟨-, rfl⟩ := hv
  exact ⟨h1, h2, (World.ownsRow.lt (h.arm hj).row.1 x.ab rfl).2⟩
/-- The top condition's cells. -/
theorem RCore.ccell {X : List (Fr × Fv)} {f : Fr} {x : Fv} (h : RCore W c d (X ++ [(f, x)]) la lc ca cn cc w) (hX : X ≠ []) : ∃ g, ca = some ⟨g, 0, none⟩ ∧ g < w.heap.size ∧ W.heap.size ≤ g ∧ c g = 1 ∧ cn = (X.length - 1) + 1 ∧
    w.cell? ⟨g, (X.length - 1) * 3, none⟩ = some (.int .i64 2) ∧ w.cell? ⟨g, (X.length - 1) * 3 + 1, none⟩ = some (.int .i64 (f.ln : Int)) ∧ w.cell? ⟨g, (X.length - 1) * 3 + 2, none⟩ = some (.slice (some ⟨x.ab, 0, none⟩) (x.A.length + 1) x.ac) := by
  have hpos := List.length_pos_iff.2 hX
  have hcn := h.cln
  rw [List.length_append] at hcn
  have hcn' : cn = X.length := by simpa using hcn
  obtain ⟨a, cap, hv, h1, h2, h3⟩ := row_form h.con.1
  simp only [Value.slice.injEq, true_and] at hv
  obtain ⟨rfl, rfl⟩ := hv
  rw [rccs_snoc hX] at h3
  have hget : ∀ i u, (rcc (f, x))[i]? = some u → ∃ g, ca = some ⟨g, 0, none⟩ ∧ g < w.heap.size ∧ w.cell? ⟨g, (X.length - 1) * 3 + i, none⟩ = some u := fun i u hu => by
    refine h3 ((X.length - 1) * 3 + i) u ?_
    rw [List.getElem?_append_right (by rw [rccs_len]; omega), rccs_len, show (X.length - 1) * 3 + i - (X.length - 1) * 3 = i from by omega]
    exact hu
  obtain ⟨g, hg, hlt, c0⟩ := hget 0 _ rfl
  obtain ⟨g1, hg1, -, c1⟩ := hget 1 _ rfl
  obtain ⟨g2, hg2, -, c2⟩ := hget 2 _ rfl
  rw [hg] at hg1 hg2
  simp only [Option.some.injEq, Addr.mk.injEq, and_true] at hg1 hg2
  subst hg1 hg2
  exact ⟨g, hg, hlt, (World.ownsRow.lt h.con.1 g (by rw [hg]; rfl)).1, h.con.2 g (by rw [hg]; rfl), by omega, c0, c1, c2⟩

/-- The arms, copied. -/
def Copied (B : Nat) (A : List ((Int × List Itm) × Value)) (l : Int) (u : Value) (w : World) (b n cap : Nat) (w' : World) : Prop :=
  n = A.length + 1 ∧ w.heap.size ≤ b ∧ Below w.heap.size w w' ∧ w'.ownsRow B 99 2 (.slice (some ⟨b, 0, none⟩) n cap) n (acells A ++ [.int .i64 l, u])
theorem ArmAt.copy {k B : Nat} {ty : TypeId} {A : List ((Int × List Itm) × Value)} {l : Int} {u : Value} {ab ac : Nat} (h : ArmAt c B 99 k d A l u ab ac w) (hA : A.length ≤ 400000) (hu : u.oneCell' = true) (hone : ∀ q ∈ A, q.2.oneCell' = true) (hB : B ≤ w.heap.size) :
    ∃ b n cap w', (Builtin.append_ #[100, 100] ty #[.slice (some ⟨w.heap.size, 0, none⟩) 0 0, .slice (some ⟨ab, 0, none⟩) (A.length + 1) ac]).run Tryd.prog (w.alloc (.cells #[] 99)) = .ok (.slice (some ⟨b, 0, none⟩) n cap) w' ∧ Copied B A l u w b n cap w' := by
  obtain ⟨i0, hi, hz0, hz1, hz2⟩ := info_parts Tryd.infoArmR
  have hlt := (World.ownsRow.lt h.row.1 ab rfl).2
  have hb2 : Below w.heap.size w (w.alloc (.cells #[] 99)) := (Below.refl _ _).alloc (Nat.le_refl _) _
  have hrow := row_empty (B := w.heap.size) (w := w) 99 2 (Nat.le_refl _)
  have hsrc := (row_src h.row.1).below (w' := w.alloc (.cells #[] 99)) (fun ad m c e => by cases e; exact hlt) hb2
  obtain ⟨b, cap, w', hr, h2, h3, h4⟩ := own_app (ty := ty) Tryd.underlying100 hi hz0 hz1 hz2 rfl (by decide) (by decide) hrow hsrc (by
    intro v hv
    rcases List.mem_append.1 hv with hv | hv
    · unfold acells at hv
      rw [List.mem_flatMap] at hv
      obtain ⟨q, hq, hv⟩ := hv
      simp only [acell, List.mem_cons, List.not_mem_nil, or_false] at hv
      rcases hv with rfl | rfl
      · rfl
      · exact hone q hq
    · simp only [List.mem_cons, List.not_mem_nil, or_false] at hv
      rcases hv with rfl | rfl
      · rfl
      · exact hu) (by omega) (by omega) (by simp)
  refine ⟨b, _, cap, w', hr, by omega, (World.ownsRow.lt h2 b rfl).1, hb2.trans ((Below.refl _ _).grown h3 (by simp) fun k hk => (World.ownsRow.lt hrow k hk).1), ?_⟩
  have := row_low h2 hB
  simpa using this
theorem arm_one {k B : Nat} {A : List ((Int × List Itm) × Value)} {l : Int} {u : Value} {ab ac : Nat} {TA : TypeId} (h : ArmAt c B TA k d A l u ab ac w) : ∀ q ∈ A, q.2.oneCell' = true := fun q hq => by
  obtain ⟨a, n, cp, hv, -⟩ := itsP_form _ _ _ _ _ (h.its q hq)
  rw [hv]
  rfl

/-- The top is taken off; with its arms at another place it is an item. -/
theorem RCore.pop {X : List (Fr × Fv)} {f : Fr} {x : Fv} (h : RCore W c d (X ++ [(f, x)]) la lc ca cn cc w) (hX : X ≠ []) {b cap : Nat} (hrow : w.ownsRow W.heap.size 99 2 (.slice (some ⟨b, 0, none⟩) (x.A.length + 1) cap) (x.A.length + 1) (acells x.A ++ [.int .i64 (f.la : Int), .slice x.ia x.im x.ic])) (hcb : c b = 3 * X.length + 4) :
    ∃ c', RCore W c' (d + 1) X la lc ca (cn - 1) cc w ∧ (∀ g, c g < 4 → c' g = c g) ∧ (∀ g, c g = 0 → c' g = 0) ∧
      ArmsP (fun g => c' g = 3 * X.length + 3) (ItsP (fun g => c' g = 3 * X.length + 3) (d + 1)) (f.dn ++ [((f.la : Int), f.cu)]) (.slice (some ⟨b, 0, none⟩) (x.A.length + 1) cap) w := by
  have hf := h.fr (F1 := []) rfl
  have hpos := List.length_pos_iff.2 hX
  have harm := hf.arm (by omega)
  generalize hm : X.length = m at hf hcb hpos harm
  have e1 : ∀ g, ¬ (3 * m + 4 ≤ c g ∧ c g ≤ 3 * m + 6) → (fun g => if 3 * m + 4 ≤ c g ∧ c g ≤ 3 * m + 6 then 3 * m + 3 else c g) g = c g := fun g hg => if_neg hg
  generalize hc1 : (fun g => if 3 * m + 4 ≤ c g ∧ c g ≤ 3 * m + 6 then 3 * m + 3 else c g) = c1 at e1
  have e2 : ∀ g, (3 * m + 4 ≤ c g ∧ c g ≤ 3 * m + 6) → c1 g = 3 * m + 3 := fun g hg => by rw [← hc1]; exact if_pos hg
  have hits : ItsP (fun g => c1 g = 3 * m + 3) (d + 1) f.cu (.slice x.ia x.im x.ic) w := by
    rw [← hf.mp]
    exact hf.lev.done (fun g hg => e2 g (by omega)) (fun g hg => e2 g (by omega))
  have harm2 : ArmAt c W.heap.size 99 (3 * m + 4) d x.A (f.la : Int) (.slice x.ia x.im x.ic) b cap w := ⟨⟨hrow, fun g hg => by simp only [Value.ownBlock, Option.some.injEq] at hg; rw [← hg]; exact hcb⟩, harm.its⟩
  have harms := harm2.done (Pk := fun g => c1 g = 3 * m + 3) (its := f.cu) (fun g hg => e2 g (by omega)) (fun g hg => e2 g (by omega)) hits
  rw [hf.ma] at harms
  have hcn := h.cln
  rw [List.length_append] at hcn
  have hcn' : cn = m := by rw [hm] at hcn; simpa using hcn
  refine ⟨c1, ⟨h.bel, ?_, by rw [hm]; omega, ?_, ?_, fun j f' x' hj => ?_⟩, fun g hg => e1 g (by omega), fun g hg => by rw [e1 g (by omega)]; exact hg, harms⟩
  · have h1 := own_shrink h.lev.1 (m := X.length) (by simp)
    rw [List.map_append, List.take_left' (by rw [List.length_map]; omega)] at h1
    exact ⟨h1, fun g hg => by rw [e1 g (by have := h.lev.2 g hg; omega)]; exact h.lev.2 g hg⟩
  · obtain ⟨ga, hga, -⟩ := h.ccell hX
    have ho := h.con.1
    have hcol := h.con.2
    rw [hga] at ho hcol ⊢
    have h1 := own_shrink ho (m := cn - 1) (by omega)
    rw [rccs_snoc hX, List.take_left' (by rw [rccs_len, hm]; congr 1; omega)] at h1
    exact ⟨h1, fun g hg => by rw [e1 g (by have := hcol g hg; omega)]; exact hcol g hg⟩
  · have := h.few
    simp at this
    omega
  · have hlt' : j < X.length := (List.getElem?_eq_some_iff.1 hj).1
    have := (h.frs j f' x' (by rw [List.getElem?_append_left hlt']; exact hj)).recol (c' := c1) (fun g h1 h2 => e1 g (by omega))
    exact this.more

/-- An item more in the innermost arm. -/
theorem RCore.add {X : List (Fr × Fv)} {f : Fr} {x : Fv} (h : RCore W c d (X ++ [(f, x)]) la lc ca cn cc w) {w' : World} {c' : Col} {it : Itm} {av : Value} {b n' cap' : Nat}
    (hl : LevAt c' W.heap.size 102 (3 * X.length + 4) d (.slice (some ⟨b, 0, none⟩) n' cap') (x.P ++ [(it, av)]) w') (s : Chg (3 * X.length + 4 + 1) c c' w w') (hb : Below W.heap.size w w') :
    RCore W c' (d + 1) (X ++ [({ f with cu := f.cu ++ [it] }, { x with P := x.P ++ [(it, av)], ia := some ⟨b, 0, none⟩, im := n', ic := cap' })]) la lc ca cn cc (w'.setCell ⟨la, X.length, none⟩ (.slice (some ⟨b, 0, none⟩) n' cap')) := by
  have hf := h.fr (F1 := []) rfl
  obtain ⟨hlt, hlow, hcl⟩ := h.llt
  have hcl' : c' la = 0 := (s.col _ hlt).trans hcl
  have s2 := Chg.set c' w' ⟨la, X.length, none⟩ (.slice (some ⟨b, 0, none⟩) n' cap')
  rw [hcl'] at s2
  refine ⟨(h.bel.trans hb).setCell hlow _, ?_, by have := h.cln; simpa using this, ?_, by have := h.few; simp at this ⊢; omega, fun j f' x' hj => ?_⟩
  · have h1 := h.lev.chg s (by omega)
    have h2 := own_setX h1.1 X.length (.slice (some ⟨b, 0, none⟩) n' cap')
    rw [List.map_append, List.set_append_right _ _ (by rw [List.length_map]; omega), List.length_map, Nat.sub_self] at h2
    rw [List.map_append]
    simp only [List.length_append, List.length_cons, List.length_nil] at h2 h1 ⊢
    exact ⟨h2, h1.2⟩
  · have h1 := (h.con.chg s (by omega)).chg s2 (by omega)
    rw [rccs_same (p := (f, x)) (q := (({ f with cu := f.cu ++ [it] } : Fr), ({ x with P := x.P ++ [(it, av)], ia := some ⟨b, 0, none⟩, im := n', ic := cap' } : Fv))) rfl] at h1
    exact h1
  · rcases Nat.lt_or_ge j X.length with hlt' | hge
    · rw [List.getElem?_append_left hlt'] at hj
      have := h.frs j f' x' (by rw [List.getElem?_append_left hlt']; exact hj)
      exact ((this.chg s (by omega)).chg s2 (by omega)).more
    · have hj0 : j - X.length = 0 := by
        rcases Nat.eq_zero_or_pos (j - X.length) with h0 | h0
        · exact h0
        · rw [List.getElem?_append_right hge, List.getElem?_eq_none (by simp; omega)] at hj; cases hj
      rw [List.getElem?_append_right hge, hj0] at hj
      simp only [List.getElem?_cons_zero, Option.some.injEq, Prod.mk.injEq] at hj
      obtain ⟨rfl, rfl⟩ := hj
      obtain rfl : j = X.length := by omega
      refine ⟨hf.ma, by simp [hf.mp], Nat.le_succ_of_le hf.fa, by have := hf.fp; simp; omega, (hl.chg s2 (by omega) (by omega)).more, fun hj => (((hf.arm hj).chg s (by omega) (by omega)).chg s2 (by omega) (by omega)).more⟩
end

end Go.Proofs.YtlnlpahmfpjjdaaDoor

/-
  The document's closed, walked.
-/
namespace Go.Proofs.YtlnlpahmfpjjdaaDoor
open Go.RowKit

/-- Two colours stay. -/
def KeepC (c c' : Col) (w w' : World) : Prop := w.heap.size ≤ w'.heap.size ∧ ∀ g, g < w.heap.size → (c g = 2 ∨ c g = 3) → c' g = c g ∧ w'.heap[g]? = w.heap[g]?
theorem RowC.keepc {c c' : Col} {k B : Nat} {e : TypeId} {size n : Nat} {v : Value} {xs : List Value} {w w' : World} (h : RowC c k B e size v n xs w) (s : KeepC c c' w w') (hk : k = 2 ∨ k = 3) : RowC c' k B e size v n xs w' :=
  ⟨own_of_block h.1 fun g hg => (s.2 g (World.ownsRow.lt h.1 g hg).2 (by have := h.2 g hg; omega)).2, fun g hg => (s.2 g (World.ownsRow.lt h.1 g hg).2 (by have := h.2 g hg; omega)).1.trans (h.2 g hg)⟩

theorem KeepC.trans {c c' c'' : Col} {w w' w'' : World} (h : KeepC c c' w w') (h' : KeepC c' c'' w' w'') : KeepC c c'' w w'' :=
  ⟨Nat.le_trans h.1 h'.1, fun g hg h23 => by
    obtain ⟨h1, h2⟩ := h.2 g hg h23
    obtain ⟨h3, h4⟩ := h'.2 g (Nat.lt_of_lt_of_le hg h.1) (by rw [h1]; exact h23)
    exact ⟨h3.trans h1, h4.trans h2⟩⟩
theorem Chg.keepc {k : Nat} {c c' : Col} {w w' : World} (s : Chg k c c' w w') (h2 : k ≠ 2) (h3 : k ≠ 3) : KeepC c c' w w' := ⟨s.size, fun g hg h23 => ⟨s.col g hg, s.block g hg (by omega)⟩⟩

def ClosedP (W : World) (c : Col) (d : Nat) (F1 : List (Fr × Fv)) (g f : Fr) (la lc cg cc : Nat) (w : World) (e : Ending) (w' : World) : Prop :=
  e = .returned (.tuple #[.slice (some ⟨la, 0, none⟩) (F1.length + 1) lc, .slice (some ⟨cg, 0, none⟩) F1.length cc]) ∧ ∃ c' y', RCore W c' (d + 2) (F1 ++ [({ g with cu := g.cu ++ [frItem f] }, y')]) la lc (some ⟨cg, 0, none⟩) F1.length cc w' ∧ KeepC c c' w w'

set_option maxRecDepth 100000 in
set_option maxHeartbeats 12800000 in
theorem closed_any {W : World} {c : Col} {d : Nat} {F1 : List (Fr × Fv)} {g f : Fr} {y x : Fv} {la lc cg cn cc : Nat} {w : World} (h : RCore W c d ((F1 ++ [(g, y)]) ++ [(f, x)]) la lc (some ⟨cg, 0, none⟩) cn cc w) (hd : d ≤ 300000) :
    Calls Tryd.prog 53 #[.slice (some ⟨la, 0, none⟩) (F1.length + 1 + 1) lc, .slice (some ⟨cg, 0, none⟩) (F1.length + 1) cc] w (ClosedP W c d F1 g f la lc cg cc w) := by
  obtain ⟨q, hq⟩ : ∃ q, F1.length = q := ⟨_, rfl⟩
  have hXl : (F1 ++ [(g, y)]).length = q + 1 := by rw [List.length_append, hq]; rfl
  have hXn : (F1 ++ [(g, y)]) ≠ [] := by simp
  obtain ⟨cg', hcg, hcgl, -, -, hcn, k0, k1, k2⟩ := h.ccell hXn
  simp only [Option.some.injEq, Addr.mk.injEq, and_true] at hcg
  subst hcg
  rw [hXl, Nat.add_sub_cancel] at k0 k1 k2 hcn
  subst hcn
  have hf := h.fr (F0 := F1 ++ [(g, y)]) (F1 := []) rfl
  rw [hXl] at hf
  obtain ⟨ha1, ha2, hab⟩ := hf.acap (by omega)
  have harm := hf.arm (by omega)
  have hll := h.lcap
  rw [List.length_append, hXl] at hll
  have hcc := h.ccap
  have l1 : w.cell? ⟨la, q + 1, none⟩ = some (.slice x.ia x.im x.ic) := h.lcell (p := (f, x)) (by rw [List.getElem?_append_right (by omega), hXl, Nat.sub_self]; rfl)
  obtain ⟨hlal, hlalow, hlac⟩ := h.llt
  have hlc1 : q + 1 + 1 ≤ lc := hll.1
  have hlc2 := hll.2
  obtain ⟨hcc1, hcc2⟩ := hcc
  unfold maxLen at hlc2 hcc2 ha2
  have HB := Lib.hid h
  have HF := Lib.hid hf
  have HQ := Lib.hid hq
  have HD := Lib.hid hd
  have HXL := Lib.hid hXl
  obtain ⟨bx, hbx⟩ : ∃ bx, w.heap.size = bx := ⟨_, rfl⟩
  have HBX := Lib.hid hbx
  obtain ⟨ka, hka⟩ : ∃ ka, x.A.length = ka := ⟨_, rfl⟩
  have HKA := Lib.hid hka
  rw [hka] at ha1 k2
  have HB1 : Hid (Below w.heap.size w (w.alloc (.cells #[.int .i64 2, .int .i64 (f.ln : Int), .slice (some ⟨x.ab, 0, none⟩) (ka + 1) x.ac] 102))) := Lib.hid ((Below.refl _ _).alloc (Nat.le_refl _) _)
  have HX1 : Hid ((w.alloc (.cells #[.int .i64 2, .int .i64 (f.ln : Int), .slice (some ⟨x.ab, 0, none⟩) (ka + 1) x.ac] 102)).heap[bx]? = some (.cells #[.int .i64 2, .int .i64 (f.ln : Int), .slice (some ⟨x.ab, 0, none⟩) (ka + 1) x.ac] 102 (0, 0))) := Lib.hid (hbx ▸ heap_alloc_new w _)
  have HCP : Hid (∃ v' w', (Builtin.append_ #[100, 100] 100 #[.slice (some ⟨bx + 1, 0, none⟩) 0 0, .slice (some ⟨x.ab, 0, none⟩) (ka + 1) x.ac]).run Tryd.prog ((w.alloc (.cells #[.int .i64 2, .int .i64 (f.ln : Int), .slice (some ⟨x.ab, 0, none⟩) (ka + 1) x.ac] 102)).alloc (.cells #[] 99)) = .ok v' w' ∧ ∃ b n cap, v' = .slice (some ⟨b, 0, none⟩) n cap ∧ Copied W.heap.size x.A (f.la : Int) (.slice none 0 0) (w.alloc (.cells #[.int .i64 2, .int .i64 (f.ln : Int), .slice (some ⟨x.ab, 0, none⟩) (ka + 1) x.ac] 102)) b n cap w') := Lib.hid (by
    have hA := harm.chg (Chg.below 0 c HB1.out) (by omega) (by omega)
    have := as_value (hA.copy (ty := 100) (by have := HF.out.fa; omega) rfl (arm_one harm) (by have := HB.out.bel.size; simp; omega))
    rw [World.size_alloc, HBX.out, HKA.out] at this
    exact this)
  have hxa : (w.alloc (.cells #[.int .i64 2, .int .i64 (f.ln : Int), .slice (some ⟨x.ab, 0, none⟩) (ka + 1) x.ac] 102)).heap.size = bx + 1 := by rw [World.size_alloc, hbx]
  have HXA := Lib.hid hxa
  rw [hq]
  clear h hf hXl hXn harm hll hd hq hka hxa
  go_enter Tryd.func53, Tryd.ntmps53
  go_wp2_with (at_builtin; refine wpList_append_ex rfl (.tmp 15) (.tmp 17) 100 rfl _ HCP.out ?_; rintro v' w3 ⟨b, n, cap, rfl, hn, hbl, hb3, hrow⟩; (obtain rfl : n = ka + 1 := (by rw [hn, HKA.out])); have HBL := Lib.hid hbl; have HB3 := Lib.hid hb3; have HROW := Lib.hid hrow; (have hX3 := (hb3.block bx (by rw [HXA.out]; omega)).trans HX1.out); (have y2 : w3.cell? ⟨bx, 2, none⟩ = some (.slice (some ⟨x.ab, 0, none⟩) (ka + 1) x.ac) := (by rw [Lib.cell_of_heap hX3]; rfl)); (have z2 : w3.frozen? ⟨bx, 2, none⟩ = false := frozen_of_row w3 bx 2 _ _ hX3); have HX3 := Lib.hid hX3; clear hbl hb3 hrow hX3 hn)
  clear y2 z2 k0 k1 k2
  have hbne : b ≠ bx := by have h1 := HBL.out; have h2 := HXA.out; omega
  have HBB : Hid (bx < b) := Lib.hid (by have h1 := HBL.out; have h2 := HXA.out; omega)
  obtain ⟨w4, hw4⟩ : ∃ w4, w3.setCell ⟨bx, 2, none⟩ (.slice (some ⟨b, 0, none⟩) (ka + 1) cap) = w4 := ⟨_, rfl⟩
  have hX4 : w4.heap[bx]? = some (.cells #[.int .i64 2, .int .i64 (f.ln : Int), .slice (some ⟨b, 0, none⟩) (ka + 1) cap] 102 (0, 0)) := hw4 ▸ heap_setCell_same w3 bx 2 _ _ _ HX3.out
  have hrow4 : w4.ownsRow W.heap.size 99 2 (.slice (some ⟨b, 0, none⟩) (ka + 1) cap) (ka + 1) (acells x.A ++ [.int .i64 (f.la : Int), .slice none 0 0]) := by
    rw [← hw4]
    exact own_of_block HROW.out fun g' hg' => by
      simp only [Value.ownBlock, Option.some.injEq] at hg'
      subst hg'
      exact heap_setCell_other _ _ _ _ hbne
  have hB4 : Below w.heap.size w w4 := by
    rw [← hw4]
    exact (HB1.out.trans (HB3.out.mono HB1.out.size)).setCell (by show w.heap.size ≤ bx; rw [HBX.out]; exact Nat.le_refl _) _
  rw [hw4]
  clear hw4
  obtain ⟨wd, hwd⟩ : ∃ wd, w4.drew = wd := ⟨_, rfl⟩
  have hXd : wd.heap[bx]? = some (.cells #[.int .i64 2, .int .i64 (f.ln : Int), .slice (some ⟨b, 0, none⟩) (ka + 1) cap] 102 (0, 0)) := hwd ▸ hX4
  have hrowd : wd.ownsRow W.heap.size 99 2 (.slice (some ⟨b, 0, none⟩) (ka + 1) cap) (ka + 1) (acells x.A ++ [.int .i64 (f.la : Int), .slice none 0 0]) := hwd ▸ World.ownsRow.drew hrow4
  have hBd : Below w.heap.size w wd := hwd ▸ hB4.drew
  have HXD := Lib.hid hXd
  have HRD := Lib.hid hrowd
  have HBD := Lib.hid hBd
  have hcap := row_form hrowd
  obtain ⟨ra, rcap, hrv, hr1, hr2, -⟩ := hcap
  simp only [Value.slice.injEq, true_and] at hrv
  obtain ⟨-, rfl⟩ := hrv
  unfold maxLen at hr2
  have s0 : wd.cell? ⟨b, ka * 2 + 1, none⟩ = some (.slice none 0 0) := by
    rw [hrowd.cellAt (ka * 2 + 1) (by omega), List.getElem?_append_right (by rw [acells_len, HKA.out]; omega), acells_len, HKA.out, show ka * 2 + 1 - ka * 2 = 1 from by omega]
    rfl
  have s1 : wd.frozen? ⟨b, ka * 2 + 1, none⟩ = false := own_freeX hrowd _
  have HSW : wd.cell? ⟨bx, 2, none⟩ = some (.slice (some ⟨b, 0, none⟩) (ka + 1) cap) ∧ wd.cell? ⟨la, q + 1, none⟩ = some (.slice x.ia x.im x.ic) := ⟨by rw [Lib.cell_of_heap hXd]; rfl, bcell hBd l1 hlal⟩
  have p0 : IntKind.i64.wrap (ka : Int) = (ka : Int) := IntWalk.i64_in _ (by omega)
  have p1 : (0 : Int) ≤ (ka : Int) := by omega
  have p2 : IntKind.i64.wrap ((q : Int) + 1) = (q : Int) + 1 := IntWalk.i64_in _ (by omega)
  have p3 : (0 : Int) ≤ (q : Int) + 1 := by omega
  have p4 : ((q : Int) + 1).toNat = q + 1 := by omega
  have p5 : (ka : Int) < (ka : Int) + 1 := by omega
  have p6 : (q : Int) + 1 < (q : Int) + 1 + 1 := by omega
  clear hX4 hrow4 hB4 hXd hrowd hBd
  refine region_anyT (S := fun w' => w'.cell? ⟨bx, 2, none⟩ = some (.slice (some ⟨b, 0, none⟩) (ka + 1) cap) ∧ w'.cell? ⟨la, q + 1, none⟩ = some (.slice x.ia x.im x.ic)) 13 (by kernel_rfl) ?_
  rw [hwd]
  refine anyT_take 0 [1, 11, 12, 13] (v := ?_) rfl (by kernel_rfl) (fun _ _ _ h => h) (Or.inl ⟨by kernel_rfl, ?_⟩) HSW ?_
  rotate_left
  · (intro w hSw; obtain ⟨hs0, hs1⟩ := hSw; go_simp; (try with_reducible rfl))
  (try simp only [Act.put]); (try simp only [List.setIfInBounds_toArray]); (try simp only [List.set_cons_succ]); (try simp only [List.set_cons_zero])
  refine anyT_take 1 [11, 12, 13] (v := ?_) rfl (by kernel_rfl) (fun _ _ _ h => h) (Or.inl ⟨by kernel_rfl, ?_⟩) HSW ?_
  rotate_left
  · (intro w hSw; obtain ⟨hs0, hs1⟩ := hSw; go_simp; (try with_reducible rfl))
  (try simp only [Act.put]); (try simp only [List.setIfInBounds_toArray]); (try simp only [List.set_cons_succ]); (try simp only [List.set_cons_zero])
  refine anyT_take 2 [3, 4, 5, 11, 12, 13] (v := ?_) rfl (by kernel_rfl) (fun _ _ _ h => h) (Or.inl ⟨by kernel_rfl, ?_⟩) HSW ?_
  rotate_left
  · (intro w hSw; obtain ⟨hs0, hs1⟩ := hSw; go_simp; (try with_reducible rfl))
  (try simp only [Act.put]); (try simp only [List.setIfInBounds_toArray]); (try simp only [List.set_cons_succ]); (try simp only [List.set_cons_zero])
  refine anyT_take 3 [4, 5, 11, 12, 13] (v := ?_) rfl (by kernel_rfl) (fun _ _ _ h => h) (Or.inl ⟨by kernel_rfl, ?_⟩) HSW ?_
  rotate_left
  · (intro w hSw; obtain ⟨hs0, hs1⟩ := hSw; go_simp; (try with_reducible rfl))
  (try simp only [Act.put]); (try simp only [List.setIfInBounds_toArray]); (try simp only [List.set_cons_succ]); (try simp only [List.set_cons_zero])
  refine anyT_take 4 [5, 11, 12, 13] (v := ?_) rfl (by kernel_rfl) (fun _ _ _ h => h) (Or.inl ⟨by kernel_rfl, ?_⟩) HSW ?_
  rotate_left
  · (intro w hSw; obtain ⟨hs0, hs1⟩ := hSw; go_simp; (try with_reducible rfl))
  (try simp only [Act.put]); (try simp only [List.setIfInBounds_toArray]); (try simp only [List.set_cons_succ]); (try simp only [List.set_cons_zero])
  refine anyT_take 5 [11, 12, 13] (v := ?_) rfl (by kernel_rfl) (fun _ _ _ h => h) (Or.inl ⟨by kernel_rfl, ?_⟩) HSW ?_
  rotate_left
  · (intro w hSw; obtain ⟨hs0, hs1⟩ := hSw; go_simp; (try with_reducible rfl))
  (try simp only [Act.put]); (try simp only [List.setIfInBounds_toArray]); (try simp only [List.set_cons_succ]); (try simp only [List.set_cons_zero])
  refine anyT_take 6 [9, 10, 11, 12, 13] (v := ?_) rfl (by kernel_rfl) (fun _ _ _ h => h) (Or.inl ⟨by kernel_rfl, ?_⟩) HSW ?_
  rotate_left
  · (intro w hSw; obtain ⟨hs0, hs1⟩ := hSw; go_simp; (try with_reducible rfl))
  (try simp only [Act.put]); (try simp only [List.setIfInBounds_toArray]); (try simp only [List.set_cons_succ]); (try simp only [List.set_cons_zero])
  refine anyT_take 7 [8, 9, 10, 11, 12, 13] (v := ?_) rfl (by kernel_rfl) (fun _ _ _ h => h) (Or.inl ⟨by kernel_rfl, ?_⟩) HSW ?_
  rotate_left
  · (intro w hSw; obtain ⟨hs0, hs1⟩ := hSw; go_simp; (try with_reducible rfl))
  (try simp only [Act.put]); (try simp only [List.setIfInBounds_toArray]); (try simp only [List.set_cons_succ]); (try simp only [List.set_cons_zero])
  refine anyT_take 8 [9, 10, 11, 12, 13] (v := ?_) rfl (by kernel_rfl) (fun _ _ _ h => h) (Or.inl ⟨by kernel_rfl, ?_⟩) HSW ?_
  rotate_left
  · (intro w hSw; obtain ⟨hs0, hs1⟩ := hSw; go_simp; (try with_reducible rfl))
  (try simp only [Act.put]); (try simp only [List.setIfInBounds_toArray]); (try simp only [List.set_cons_succ]); (try simp only [List.set_cons_zero])
  refine anyT_take 9 [10, 11, 12, 13] (v := ?_) rfl (by kernel_rfl) (fun _ _ _ h => h) (Or.inl ⟨by kernel_rfl, ?_⟩) HSW ?_
  rotate_left
  · (intro w hSw; obtain ⟨hs0, hs1⟩ := hSw; go_simp; (try with_reducible rfl))
  (try simp only [Act.put]); (try simp only [List.setIfInBounds_toArray]); (try simp only [List.set_cons_succ]); (try simp only [List.set_cons_zero])
  refine anyT_take 10 [11, 12, 13] (v := ?_) rfl (by kernel_rfl) (fun _ _ _ h => h) (Or.inl ⟨by kernel_rfl, ?_⟩) HSW ?_
  rotate_left
  · (intro w hSw; obtain ⟨hs0, hs1⟩ := hSw; go_simp; (try with_reducible rfl))
  (try simp only [Act.put]); (try simp only [List.setIfInBounds_toArray]); (try simp only [List.set_cons_succ]); (try simp only [List.set_cons_zero])
  refine anyT_take 11 [12, 13] (v := ?_) rfl (by kernel_rfl) (fun _ _ _ h => h) (Or.inl ⟨by kernel_rfl, ?_⟩) HSW ?_
  rotate_left
  · (intro w hSw; obtain ⟨hs0, hs1⟩ := hSw; go_simp; (try with_reducible rfl))
  (try simp only [Act.put]); (try simp only [List.setIfInBounds_toArray]); (try simp only [List.set_cons_succ]); (try simp only [List.set_cons_zero])
  refine anyT_take 12 [13] (v := ?_) rfl (by kernel_rfl) (fun _ _ _ h => h) (Or.inl ⟨by kernel_rfl, ?_⟩) HSW ?_
  rotate_left
  · (intro w hSw; obtain ⟨hs0, hs1⟩ := hSw; go_simp; (try with_reducible rfl))
  (try simp only [Act.put]); (try simp only [List.setIfInBounds_toArray]); (try simp only [List.set_cons_succ]); (try simp only [List.set_cons_zero])
  refine anyT_step 13 (by kernel_rfl) rfl (fun K hK => ?_)
  go_simp
  refine hK.out _ _ (fun h => absurd rfl h) ?_
  clear hK K
  (try simp only [Act.put]); (try simp only [List.setIfInBounds_toArray]); (try simp only [List.set_cons_succ]); (try simp only [List.set_cons_zero])
  refine anyT_done (by kernel_rfl) ?_ _
  clear HSW p0 p1 p2 p3 p5 p6 s0 s1 hwd
  obtain ⟨w5, hw5⟩ : ∃ w5, wd.setCell ⟨b, ka * 2 + 1, none⟩ (.slice x.ia x.im x.ic) = w5 := ⟨_, rfl⟩
  have HX5 : Hid (w5.heap[bx]? = some (.cells #[.int .i64 2, .int .i64 (f.ln : Int), .slice (some ⟨b, 0, none⟩) (ka + 1) cap] 102 (0, 0))) := Lib.hid (by rw [← hw5]; exact (heap_setCell_other _ _ _ _ (fun e => hbne e.symm)).trans HXD.out)
  have HR5 : Hid (w5.ownsRow W.heap.size 99 2 (.slice (some ⟨b, 0, none⟩) (x.A.length + 1) cap) (x.A.length + 1) (acells x.A ++ [.int .i64 (f.la : Int), .slice x.ia x.im x.ic])) := Lib.hid (by
    have h1 := own_setX HRD.out (ka * 2 + 1) (.slice x.ia x.im x.ic)
    rw [List.set_append_right _ _ (by rw [acells_len, HKA.out]; omega), acells_len, HKA.out, show ka * 2 + 1 - ka * 2 = 1 from by omega, hw5, ← HKA.out] at h1
    exact h1)
  have HB5 : Hid (Below w.heap.size w w5) := Lib.hid (by
    rw [← hw5]
    exact HBD.out.setCell (by show w.heap.size ≤ b; have h1 := HBX.out; have h2 := HBB.out; omega) _)
  rw [hw5]
  have HPOP : Hid (∃ c1, RCore W c1 (d + 1) (F1 ++ [(g, y)]) la lc (some ⟨cg, 0, none⟩) q cc w5 ∧ c1 bx = 0 ∧ KeepC c c1 w w5 ∧ ArmsP (fun g => c1 g = 3 * q + 6) (ItsP (fun g => c1 g = 3 * q + 6) (d + 1)) (f.dn ++ [((f.la : Int), f.cu)]) (.slice (some ⟨b, 0, none⟩) (ka + 1) cap) w5) := Lib.hid (by
    have hlt : w.heap.size < b := by have h1 := HBX.out; have h2 := HBB.out; omega
    have h0 := (HB.out.recol (c1 := fun g => if g = b then 3 * (q + 1) + 4 else if g < w.heap.size then c g else 0) (fun g hg => by rw [if_neg (by omega), if_pos hg])).over HB5.out
    obtain ⟨c1, k1, k2, k3, k4⟩ := h0.pop (by simp) HR5.out (by rw [HXL.out]; exact if_pos rfl)
    refine ⟨c1, k1, k3 bx ?_, ⟨HB5.out.size, fun g hg h23 => ⟨?_, HB5.out.block g hg⟩⟩, ?_⟩
    · show (if bx = b then 3 * (q + 1) + 4 else if bx < w.heap.size then c bx else 0) = 0
      rw [if_neg (fun e => hbne e.symm), if_neg (by rw [HBX.out]; omega)]
    · have e : (if g = b then 3 * (q + 1) + 4 else if g < w.heap.size then c g else 0) = c g := by rw [if_neg (by omega), if_pos hg]
      rw [k2 g (by show (if g = b then 3 * (q + 1) + 4 else if g < w.heap.size then c g else 0) < 4; rw [e]; omega)]
      exact e
    · rw [HXL.out, HKA.out] at k4
      exact k4)
  clear hw5 hbne
  obtain ⟨c1, hcore, hcbx, hkeep, harms⟩ := HPOP.out
  have HCO := Lib.hid hcore
  have HCBX := Lib.hid hcbx
  have HKP := Lib.hid hkeep
  have HAR := Lib.hid harms
  have r1 : w5.cell? ⟨la, q, none⟩ = some (.slice y.ia y.im y.ic) := hcore.lcell (p := (g, y)) (by rw [List.getElem?_append_right (by rw [HQ.out]; omega), HQ.out, Nat.sub_self]; rfl)
  have hyc := (hcore.fr (F0 := F1) (F1 := []) rfl).icap
  have HLAL := Lib.hid hcore.llt
  clear hcore hcbx hkeep harms HPOP l1
  obtain ⟨-, hy2, hy3⟩ := hyc
  unfold maxLen at hy3
  have p3 : (0 : Int) ≤ (q : Int) + 1 := by omega
  have p7 : (q : Int) + 1 ≤ (lc : Int) := by omega
  go_wp2
  clear p3 p7
  obtain ⟨i1, hi1, hz10, hz11, hz12⟩ := info_parts Tryd.infoItmR
  have HI1 : Hid (Tryd.prog.info? 102 = some i1 ∧ i1.zero = some (.agg #[.int .i64 0, .int .i64 0, .slice none 0 0]) ∧ i1.size = 3 ∧ i1.bytes = 40) := Lib.hid ⟨hi1, hz10, hz11, hz12⟩
  clear hi1 hz10 hz11 hz12
  obtain ⟨w6, hwd⟩ : ∃ w6, w5.drew = w6 := ⟨_, rfl⟩
  have HB6 : Hid (Below w5.heap.size w5 w6) := Lib.hid (hwd ▸ (Below.refl _ _).drew)
  have HC6 := Lib.hid (HCO.out.over HB6.out)
  have HX6 : Hid (w6.heap[bx]? = some (.cells #[.int .i64 2, .int .i64 (f.ln : Int), .slice (some ⟨b, 0, none⟩) (ka + 1) cap] 102 (0, 0))) := Lib.hid (hwd ▸ HX5.out)
  have r6 : w6.cell? ⟨la, q, none⟩ = some (.slice y.ia y.im y.ic) := bcell HB6.out r1 HLAL.out.1
  have HSW : w6.cell? ⟨la, q, none⟩ = some (.slice y.ia y.im y.ic) ∧ w6.cell? ⟨bx, 0, none⟩ = some (.int .i64 2) ∧ w6.cell? ⟨bx, 1, none⟩ = some (.int .i64 (f.ln : Int)) ∧ w6.cell? ⟨bx, 2, none⟩ = some (.slice (some ⟨b, 0, none⟩) (ka + 1) cap) := ⟨r6, by rw [Lib.cell_of_heap HX6.out]; rfl, by rw [Lib.cell_of_heap HX6.out]; rfl, by rw [Lib.cell_of_heap HX6.out]; rfl⟩
  have HR6 := Lib.hid HSW
  have p1 : (0 : Int) ≤ (q : Int) := by omega
  have p5 : (q : Int) < (q : Int) + 1 := by omega
  clear r1 r6
  refine region_anyT (S := fun w' => w'.cell? ⟨la, q, none⟩ = some (.slice y.ia y.im y.ic) ∧ w'.cell? ⟨bx, 0, none⟩ = some (.int .i64 2) ∧ w'.cell? ⟨bx, 1, none⟩ = some (.int .i64 (f.ln : Int)) ∧ w'.cell? ⟨bx, 2, none⟩ = some (.slice (some ⟨b, 0, none⟩) (ka + 1) cap)) 10 (by kernel_rfl) ?_
  rw [hwd]
  refine anyT_take 0 [9, 10] (v := ?_) rfl (by kernel_rfl) (fun _ _ _ h => h) (Or.inl ⟨by kernel_rfl, ?_⟩) HSW ?_
  rotate_left
  · (intro w hSw; obtain ⟨hs0, hs1, hs2, hs3⟩ := hSw; go_simp; (try with_reducible rfl))
  (try simp only [Act.put]); (try simp only [List.setIfInBounds_toArray]); (try simp only [List.set_cons_succ]); (try simp only [List.set_cons_zero])
  refine anyT_take 1 [9, 10] (v := ?_) rfl (by kernel_rfl) (fun _ _ _ h => h) (Or.inl ⟨by kernel_rfl, ?_⟩) HSW ?_
  rotate_left
  · (intro w hSw; obtain ⟨hs0, hs1, hs2, hs3⟩ := hSw; go_simp; (try with_reducible rfl))
  (try simp only [Act.put]); (try simp only [List.setIfInBounds_toArray]); (try simp only [List.set_cons_succ]); (try simp only [List.set_cons_zero])
  refine anyT_take 2 [4, 5, 8, 9, 10] (v := ?_) rfl (by kernel_rfl) (fun _ _ _ h => h) (Or.inl ⟨by kernel_rfl, ?_⟩) HSW ?_
  rotate_left
  · (intro w hSw; obtain ⟨hs0, hs1, hs2, hs3⟩ := hSw; go_simp; (try with_reducible rfl))
  (try simp only [Act.put]); (try simp only [List.setIfInBounds_toArray]); (try simp only [List.set_cons_succ]); (try simp only [List.set_cons_zero])
  refine anyT_take 3 [4, 5, 8, 9, 10] (v := ?_) rfl (by kernel_rfl) (fun _ _ _ h => h) (Or.inl ⟨by kernel_rfl, ?_⟩) HSW ?_
  rotate_left
  · (intro w hSw; obtain ⟨hs0, hs1, hs2, hs3⟩ := hSw; go_simp; (try with_reducible rfl))
  (try simp only [Act.put]); (try simp only [List.setIfInBounds_toArray]); (try simp only [List.set_cons_succ]); (try simp only [List.set_cons_zero])
  refine anyT_take 4 [5, 8, 9, 10] (v := ?_) rfl (by kernel_rfl) (fun _ _ _ h => h) (Or.inl ⟨by kernel_rfl, ?_⟩) HSW ?_
  rotate_left
  · (intro w hSw; obtain ⟨hs0, hs1, hs2, hs3⟩ := hSw; go_simp; (try with_reducible rfl))
  (try simp only [Act.put]); (try simp only [List.setIfInBounds_toArray]); (try simp only [List.set_cons_succ]); (try simp only [List.set_cons_zero])
  refine anyT_take 5 [8, 9, 10] (v := ?_) rfl (by kernel_rfl) (fun _ _ _ h => h) (Or.inl ⟨by kernel_rfl, ?_⟩) HSW ?_
  rotate_left
  · (intro w hSw; obtain ⟨hs0, hs1, hs2, hs3⟩ := hSw; go_simp; (try with_reducible rfl))
  (try simp only [Act.put]); (try simp only [List.setIfInBounds_toArray]); (try simp only [List.set_cons_succ]); (try simp only [List.set_cons_zero])
  refine anyT_take 6 [7, 8, 9, 10] (v := ?_) rfl (by kernel_rfl) (fun _ _ _ h => h) (Or.inl ⟨by kernel_rfl, ?_⟩) HSW ?_
  rotate_left
  · (intro w hSw; obtain ⟨hs0, hs1, hs2, hs3⟩ := hSw; go_simp; (try with_reducible rfl))
  (try simp only [Act.put]); (try simp only [List.setIfInBounds_toArray]); (try simp only [List.set_cons_succ]); (try simp only [List.set_cons_zero])
  refine anyT_step 7 (by kernel_rfl) rfl (fun K hK => ?_)
  go_simp
  have hb7 : Below w6.heap.size w6 (w6.alloc (.cells #[.int .i64 2, .int .i64 (f.ln : Int), .slice (some ⟨b, 0, none⟩) (ka + 1) cap] 102)) := (Below.refl _ _).alloc (Nat.le_refl _) _
  have HC7 := Lib.hid (HC6.out.over hb7)
  have HA7 : Hid (ArmsP (fun g => c1 g = 3 * F1.length + 4 + 2) (ItsP (fun g => c1 g = 3 * F1.length + 4 + 2) (d + 1)) (frItem f).arms (.slice (some ⟨b, 0, none⟩) (ka + 1) cap) (w6.alloc (.cells #[.int .i64 2, .int .i64 (f.ln : Int), .slice (some ⟨b, 0, none⟩) (ka + 1) cap] 102))) := Lib.hid (by
    have ht : Turn (fun g => c1 g = 3 * q + 6) (fun g => c1 g = 3 * q + 6) w5 (w6.alloc (.cells #[.int .i64 2, .int .i64 (f.ln : Int), .slice (some ⟨b, 0, none⟩) (ka + 1) cap] 102)) := (Chg.below 0 c1 (below_up HB6.out hb7)).turn (by omega)
    rw [HQ.out]
    exact HAR.out.turn (fun l v h => itsP_turn ht _ l v h) ht)
  have HSRC : Hid (Src (w6.alloc (.cells #[.int .i64 2, .int .i64 (f.ln : Int), .slice (some ⟨b, 0, none⟩) (ka + 1) cap] 102)) (.slice (some ⟨w6.heap.size, 0, none⟩) 1 1) 1 3 (icell (frItem f, .slice (some ⟨b, 0, none⟩) (ka + 1) cap))) := Lib.hid (src_row (heap_alloc_new _ _) rfl rfl)
  have HSW7 : Hid ((w6.alloc (.cells #[.int .i64 2, .int .i64 (f.ln : Int), .slice (some ⟨b, 0, none⟩) (ka + 1) cap] 102)).cell? ⟨la, q, none⟩ = some (.slice y.ia y.im y.ic) ∧ (w6.alloc (.cells #[.int .i64 2, .int .i64 (f.ln : Int), .slice (some ⟨b, 0, none⟩) (ka + 1) cap] 102)).heap[bx]? = some (.cells #[.int .i64 2, .int .i64 (f.ln : Int), .slice (some ⟨b, 0, none⟩) (ka + 1) cap] 102 (0, 0))) := Lib.hid ⟨bcell hb7 HR6.out.1 (block_lt_of_cell HR6.out.1), (hb7.block bx (row_lt HX6.out)).trans HX6.out⟩
  have HB7 := Lib.hid hb7
  clear hb7
  have HSW := HSW7.out
  refine hK.out _ _ (fun _ => ⟨HSW7.out.1, by rw [Lib.cell_of_heap HSW7.out.2]; rfl, by rw [Lib.cell_of_heap HSW7.out.2]; rfl, by rw [Lib.cell_of_heap HSW7.out.2]; rfl⟩) ?_
  clear hK K HSW
  (try simp only [Act.put]); (try simp only [List.setIfInBounds_toArray]); (try simp only [List.set_cons_succ]); (try simp only [List.set_cons_zero])
  refine anyT_step 8 (by kernel_rfl) rfl (fun K hK => ?_)
  refine step_ex rfl (.tmp 42) (.tmp 44) 47 rfl _ _ _ rfl rfl (LevAt.push Tryd.underlying47 HI1.out.1 HI1.out.2.1 HI1.out.2.2.1 HI1.out.2.2.2 (HC7.out.fr (F0 := F1) (F1 := []) rfl).lev HA7.out HSRC.out (by have h1 := (HC7.out.fr (F0 := F1) (F1 := []) rfl).fp; have h2 := HD.out; omega) HC7.out.bel.size) ?_
  intro b8 n8 cap8 w8 hp
  obtain ⟨c8, hl8, hs8, hb8⟩ := hp
  have HL8 := Lib.hid hl8
  have HS8 := Lib.hid hs8
  have HB8 := Lib.hid hb8
  have hx8 := (hs8.block bx (row_lt HSW7.out.2) (by rw [HCBX.out]; omega)).trans HSW7.out.2
  have hq8 : w8.cell? ⟨la, q, none⟩ = some (.slice y.ia y.im y.ic) := (World.cell?_of_block (hs8.block la (block_lt_of_cell HSW7.out.1) (by rw [HLAL.out.2.2]; omega))).trans HSW7.out.1
  have HSW : w8.cell? ⟨la, q, none⟩ = some (.slice y.ia y.im y.ic) ∧ w8.cell? ⟨bx, 0, none⟩ = some (.int .i64 2) ∧ w8.cell? ⟨bx, 1, none⟩ = some (.int .i64 (f.ln : Int)) ∧ w8.cell? ⟨bx, 2, none⟩ = some (.slice (some ⟨b, 0, none⟩) (ka + 1) cap) := ⟨hq8, by rw [Lib.cell_of_heap hx8]; rfl, by rw [Lib.cell_of_heap hx8]; rfl, by rw [Lib.cell_of_heap hx8]; rfl⟩
  have z8 : w8.frozen? ⟨la, q, none⟩ = false := own_freeX (HC7.out.lev.chg hs8 (by omega)).1 _
  clear hl8 hs8 hb8 hx8
  refine hK.out _ _ (fun _ => HSW) ?_
  clear hK K
  (try simp only [Act.put]); (try simp only [List.setIfInBounds_toArray]); (try simp only [List.set_cons_succ]); (try simp only [List.set_cons_zero])
  refine anyT_take 9 [10] (v := ?_) rfl (by kernel_rfl) (fun _ _ _ h => h) (Or.inl ⟨by kernel_rfl, ?_⟩) HSW ?_
  rotate_left
  · (intro w hSw; obtain ⟨hs0, hs1, hs2, hs3⟩ := hSw; go_simp; (try with_reducible rfl))
  (try simp only [Act.put]); (try simp only [List.setIfInBounds_toArray]); (try simp only [List.set_cons_succ]); (try simp only [List.set_cons_zero])
  refine anyT_step 10 (by kernel_rfl) rfl (fun K hK => ?_)
  go_simp
  refine hK.out _ _ (fun h => absurd rfl h) ?_
  clear hK K
  (try simp only [Act.put]); (try simp only [List.setIfInBounds_toArray]); (try simp only [List.set_cons_succ]); (try simp only [List.set_cons_zero])
  refine anyT_done (by kernel_rfl) ?_ _
  clear HSW z8 hq8 p1 p5
  have HFIN := Lib.hid (HC7.out.add HL8.out HS8.out HB8.out)
  have p1 : (0 : Int) ≤ (q : Int) := by omega
  have p5 : (q : Int) ≤ (cc : Int) := by omega
  go_wp2
  go_quiet (fail)
  go_wp2
  go_ret2
  have hla8 : c8 la = 0 := (HS8.out.col la (by have h1 := HLAL.out.1; have h2 := HB6.out.size; have h3 := HB7.out.size; omega)).trans HLAL.out.2.2
  have hset := Chg.set c8 w8 ⟨la, q, none⟩ (.slice (some ⟨b8, 0, none⟩) n8 cap8)
  rw [hla8] at hset
  have hfin := HFIN.out.over (Below.of_drews _ nq)
  rw [HQ.out] at hfin
  have hkeep := (((HKP.out.trans ((Chg.below 0 c1 (below_up HB6.out HB7.out)).keepc (by omega) (by omega))).trans (HS8.out.keepc (by omega) (by omega))).trans (hset.keepc (by omega) (by omega))).trans ((Chg.below 0 c8 (Below.of_drews _ nq)).keepc (by omega) (by omega))
  unfold ClosedP
  rw [HQ.out]
  exact ⟨rfl, c8, _, hfin, hkeep⟩

end Go.Proofs.YtlnlpahmfpjjdaaDoor
