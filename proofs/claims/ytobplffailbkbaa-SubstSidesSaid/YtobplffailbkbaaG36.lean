/-
  Texts of the proof, put together: SuJ.
-/
import Derived.Test.YtobplffailbkbaaG35

/-
  The last token and the next one, where they are put together anew: the project's grow, walked.
-/
namespace Go.Proofs.Ytobplffailbkbaa
open Go.RowKit Go.Maps

theorem boxT {w : World} {q : Nat} {t : Xt} {sv : Value} (h : w.heap[q]? = some (.cells #[.int .i64 t.k, .string t.x, .bool t.sp, .string t.g, .int .i64 t.f, .int .i64 t.t, .bool t.d, sv] 26 (0, 0))) : w.cell? ⟨q, 0, none⟩ = some (.int .i64 t.k) ∧ w.cell? ⟨q, 1, none⟩ = some (.string t.x) ∧ w.cell? ⟨q, 2, none⟩ = some (.bool t.sp) ∧ w.cell? ⟨q, 3, none⟩ = some (.string t.g) ∧ w.cell? ⟨q, 4, none⟩ = some (.int .i64 t.f) ∧ w.cell? ⟨q, 5, none⟩ = some (.int .i64 t.t) ∧ w.cell? ⟨q, 6, none⟩ = some (.bool t.d) ∧ w.cell? ⟨q, 7, none⟩ = some sv := cells8 h

/-- All that grow needs of its row and its token's box. -/
structure Gr (V : World) (r : Nat) (S : Rw) (t : Xt) (sv : Value) (b0 : Nat) (l : Xt) (ta : Option Addr) (tc : Nat) (fa : Option Addr) (fc : Nat) (da : Option Addr) (dc : Nat) (xa : Option Addr) (xc : Nat) (w : World) : Prop where
  row : RW V r S ta tc fa fc da dc xa xc w
  box : w.heap[b0]? = some (.cells #[.int .i64 t.k, .string t.x, .bool t.sp, .string t.g, .int .i64 t.f, .int .i64 t.t, .bool t.d, sv] 26 (0, 0))
  last : S.T[S.T.length - 1]? = some l
  ne : b0 ≠ r
  far : ta ≠ some ⟨b0, 0, none⟩
theorem Gr.over {V : World} {r : Nat} {S : Rw} {t : Xt} {sv : Value} {b0 : Nat} {l : Xt} {ta : Option Addr} {tc : Nat} {fa : Option Addr} {fc : Nat} {da : Option Addr} {dc : Nat} {xa : Option Addr} {xc : Nat} {w w' : World} (h : Gr V r S t sv b0 l ta tc fa fc da dc xa xc w) (b : Below w.heap.size w w') : Gr V r S t sv b0 l ta tc fa fc da dc xa xc w' :=
  ⟨h.row.over b, (b.block _ (row_lt h.box)).trans h.box, h.last, h.ne, h.far⟩

def SettleOk (V : World) (r : Nat) (S : Rw) (t : Xt) (sv : Value) (b0 : Nat) (l : Xt) (ta : Option Addr) (tc : Nat) (fa : Option Addr) (fc : Nat) (da : Option Addr) (dc : Nat) (w : World) (e : Ending) (w' : World) : Prop := e = .returned (.tuple #[]) ∧ ∃ xa xc, Gr V r (setL S) t sv b0 (if S.x = [] then l else { l with x := ⟨S.x.toArray⟩ }) ta tc fa fc da dc xa xc w' ∧ Fr w w'
theorem Gr.settle {V : World} {r : Nat} {S : Rw} {t : Xt} {sv : Value} {b0 : Nat} {l : Xt} {ta : Option Addr} {tc : Nat} {fa : Option Addr} {fc : Nat} {da : Option Addr} {dc : Nat} {xa : Option Addr} {xc : Nat} {w : World} (h : Gr V r S t sv b0 l ta tc fa fc da dc xa xc w) (hf : RwFit S) : Calls Try.prog 55 #[.pointer (some ⟨r, 0, none⟩)] w (SettleOk V r S t sv b0 l ta tc fa fc da dc w) :=
  (settle_any h.row ⟨Nat.le_trans hf.text (by omega), Nat.le_trans hf.toks (by omega)⟩).mono fun e w' ⟨he, ⟨xa', xc', hR⟩, hz, hb⟩ => ⟨he, xa', xc', ⟨hR, (hb b0 h.ne h.far).trans h.box, by rw [(setL_T S).1]; exact setL_last h.last, h.ne, h.far⟩, SetPost.fr (e := e) ⟨he, ⟨xa', xc', hR⟩, hz, hb⟩ h.row⟩

/-- The last token of a row without a text that goes on, and another in its place. -/
structure Js (V : World) (r : Nat) (S : Rw) (k : Nat) (l : Xt) (ta : Option Addr) (tc : Nat) (fa : Option Addr) (fc : Nat) (da : Option Addr) (dc : Nat) (xa : Option Addr) (xc : Nat) (w : World) : Prop where
  row : RW V r S ta tc fa fc da dc xa xc w
  len : S.T.length = k + 1
  last : S.T[k]? = some l
  no : S.x = []
theorem Js.over {V : World} {r : Nat} {S : Rw} {k : Nat} {l : Xt} {ta : Option Addr} {tc : Nat} {fa : Option Addr} {fc : Nat} {da : Option Addr} {dc : Nat} {xa : Option Addr} {xc : Nat} {w w' : World} (h : Js V r S k l ta tc fa fc da dc xa xc w) (b : Below w.heap.size w w') : Js V r S k l ta tc fa fc da dc xa xc w' := ⟨h.row.over b, h.len, h.last, h.no⟩
/-- What it reads. -/
theorem Js.read {V : World} {r : Nat} {S : Rw} {k : Nat} {l : Xt} {ta : Option Addr} {tc : Nat} {fa : Option Addr} {fc : Nat} {da : Option Addr} {dc : Nat} {xa : Option Addr} {xc : Nat} {w : World} (h : Js V r S k l ta tc fa fc da dc xa xc w) : ∃ g q sa sn sc, ta = some ⟨g, 0, none⟩ ∧ fa = some ⟨q, 0, none⟩ ∧ TokX l (.slice sa sn sc) g (k * 8) w ∧ HeldIn (Deep V r) w (SitsA l.ss (.slice sa sn sc)) ∧
    w.cell? ⟨r, 0, none⟩ = some (.slice (some ⟨g, 0, none⟩) (k + 1) tc) ∧ w.cell? ⟨r, 1, none⟩ = some (.slice (some ⟨q, 0, none⟩) (k + 1) fc) ∧ k + 1 ≤ tc ∧ tc ≤ maxLen ∧ k + 1 ≤ fc ∧ fc ≤ maxLen ∧ g < w.heap.size ∧ q < w.heap.size ∧ r < w.heap.size ∧ g ≠ r ∧ q ≠ r ∧ g ≠ q := by
  obtain ⟨g, sa, sn, sc, rfl, hlt, hVg, hk, ht, hs, h1, h2⟩ := h.row.toks.tok h.last
  obtain ⟨k0, k1, -⟩ := h.row.cells
  have hF : S.F.length = k + 1 := h.row.same.trans h.len
  rw [h.len] at k0 h1
  rw [hF] at k1
  have hfr := h.row.frm
  unfold IR at hfr
  rw [hF] at hfr
  obtain ⟨a', cap, hv, h3, h4, h5⟩ := row_form hfr
  simp only [Value.slice.injEq, true_and] at hv
  obtain ⟨rfl, rfl⟩ := hv
  obtain ⟨q, rfl, hql, -⟩ := h5 0 _ (by unfold icells; rw [List.getElem?_map, List.getElem?_eq_getElem (by omega)]; rfl)
  obtain ⟨hVq, hkq⟩ := row_kind hfr q rfl
  have := h.row.lt
  exact ⟨g, q, sa, sn, sc, rfl, rfl, ht, hs, k0, k1, h1, h2, h3, h4, hlt, hql, row_lt h.row.obj, by omega, by omega, hk.ne hkq (by decide)⟩
/-- The new token, and what it came of, and its text. -/
theorem Js.put {V : World} {r : Nat} {S : Rw} {k : Nat} {l u : Xt} {g q : Nat} {tc fc : Nat} {da : Option Addr} {dc : Nat} {xa : Option Addr} {xc : Nat} {w : World} {sa : Option Addr} {sn sc bx xn xc' : Nat} (h : Js V r S k l (some ⟨g, 0, none⟩) tc (some ⟨q, 0, none⟩) fc da dc xa xc w) (hs : HeldIn (Deep V r) w (SitsA u.ss (.slice sa sn sc))) (hx : BZ V u.x.data.toList (.slice (some ⟨bx, 0, none⟩) xn xc') w) (hxn : xn = u.x.data.toList.length) :
    RW V r { S with T := S.T.set k u, F := S.F.set k (-1), x := u.x.data.toList } (some ⟨g, 0, none⟩) tc (some ⟨q, 0, none⟩) fc da dc (some ⟨bx, 0, none⟩) xc' ((((((((((w.setCell ⟨g, k * 8, none⟩ (.int .i64 u.k)).setCell ⟨g, k * 8 + 1, none⟩ (.string u.x)).setCell ⟨g, k * 8 + 2, none⟩ (.bool u.sp)).setCell ⟨g, k * 8 + 3, none⟩ (.string u.g)).setCell ⟨g, k * 8 + 4, none⟩ (.int .i64 u.f)).setCell ⟨g, k * 8 + 5, none⟩ (.int .i64 u.t)).setCell ⟨g, k * 8 + 6, none⟩ (.bool u.d)).setCell ⟨g, k * 8 + 7, none⟩ (.slice sa sn sc)).setCell ⟨q, k, none⟩ (.int .i64 (-1))).setCell ⟨r, 8, none⟩ (.slice (some ⟨bx, 0, none⟩) xn xc')) := by
  have hkl : k < S.T.length := by rw [h.len]; omega
  have hT := h.row.toks.put hkl u hs
  obtain ⟨hVg, hkg⟩ := h.row.toks.kind g rfl
  obtain ⟨hVq, hkq⟩ := row_kind h.row.frm q rfl
  obtain ⟨hVx, hkx⟩ := hx.home bx rfl
  have hgx : bx ≠ g := hkx.ne hkg (by decide)
  have hqx : bx ≠ q := hkx.ne hkq (by decide)
  have hrx : bx ≠ r := by have := h.row.lt; omega
  obtain ⟨w2, hw2⟩ : ∃ w2, (((((((w.setCell ⟨g, k * 8, none⟩ (.int .i64 u.k)).setCell ⟨g, k * 8 + 1, none⟩ (.string u.x)).setCell ⟨g, k * 8 + 2, none⟩ (.bool u.sp)).setCell ⟨g, k * 8 + 3, none⟩ (.string u.g)).setCell ⟨g, k * 8 + 4, none⟩ (.int .i64 u.f)).setCell ⟨g, k * 8 + 5, none⟩ (.int .i64 u.t)).setCell ⟨g, k * 8 + 6, none⟩ (.bool u.d)).setCell ⟨g, k * 8 + 7, none⟩ (.slice sa sn sc) = w2 := ⟨_, rfl⟩
  have hg2 : w.grownBy w2 (some g) := by
    rw [← hw2]
    exact (((((((grown_setS _ _ _ _).trans (grown_setS _ _ _ _)).trans (grown_setS _ _ _ _)).trans (grown_setS _ _ _ _)).trans (grown_setS _ _ _ _)).trans (grown_setS _ _ _ _)).trans (grown_setS _ _ _ _)).trans (grown_setS _ _ _ _)
  rw [hw2] at hT ⊢
  have hR2 := (h.row.toksput hg2 hT (by rw [List.length_set])).fromput k (-1)
  have hx2 : BZ V u.x.data.toList (.slice (some ⟨bx, 0, none⟩) xn xc') (w2.setCell ⟨q, k, none⟩ (.int .i64 (-1))) := (hx.keep fun p hp => hg2.block p (by
    simp only [Option.some.injEq, Addr.mk.injEq, and_true] at hp
    rw [← hp]
    exact hkx.lt) (by
    simp only [Option.some.injEq, Addr.mk.injEq, and_true] at hp
    rw [← hp]
    exact fun e => hgx (Option.some.inj e))).keep fun p hp => heap_setCell_other _ _ _ _ (by
    simp only [Option.some.injEq, Addr.mk.injEq, and_true] at hp
    rw [← hp]
    exact hqx)
  subst hxn
  have hob := hR2.obj
  unfold rowObj at hob
  refine hR2.put (S' := { S with T := S.T.set k u, F := S.F.set k (-1), x := u.x.data.toList }) 8 _ ((row_set hob 8 _).trans rfl) rfl rfl rfl (hx2.keep fun p hp => heap_setCell_other _ _ _ _ (by
    simp only [Option.some.injEq, Addr.mk.injEq, and_true] at hp
    rw [← hp]
    exact hrx)) (fun _ e => ?_)
  have e : S.T.set k u = [] := e
  have e2 := congrArg List.length e
  rw [List.length_set] at e2
  simp only [List.length_nil] at e2
  omega

theorem Js.read2 {V : World} {r : Nat} {S : Rw} {k : Nat} {l : Xt} {g q tc fc : Nat} {da : Option Addr} {dc : Nat} {xa : Option Addr} {xc : Nat} {w : World} (h : Js V r S k l (some ⟨g, 0, none⟩) tc (some ⟨q, 0, none⟩) fc da dc xa xc w) : ∃ sa sn sc, TokX l (.slice sa sn sc) g (k * 8) w ∧ HeldIn (Deep V r) w (SitsA l.ss (.slice sa sn sc)) ∧
    w.cell? ⟨r, 0, none⟩ = some (.slice (some ⟨g, 0, none⟩) (k + 1) tc) ∧ w.cell? ⟨r, 1, none⟩ = some (.slice (some ⟨q, 0, none⟩) (k + 1) fc) ∧ k + 1 ≤ tc ∧ tc ≤ maxLen ∧ k + 1 ≤ fc ∧ fc ≤ maxLen ∧ g < w.heap.size ∧ q < w.heap.size ∧ r < w.heap.size ∧ g ≠ r ∧ q ≠ r ∧ g ≠ q := by
  obtain ⟨g', q', sa, sn, sc, h1, h2, rest⟩ := h.read
  simp only [Option.some.injEq, Addr.mk.injEq, and_true] at h1 h2
  subst h1 h2
  exact ⟨sa, sn, sc, rest⟩
theorem made8 {w w1 : World} {c0 c1 c2 c3 c4 c5 c6 c7 : Value} {T : TypeId} (hb : Below (w.alloc (.cells #[c0, c1, c2, c3, c4, c5, c6, c7] T)).heap.size (w.alloc (.cells #[c0, c1, c2, c3, c4, c5, c6, c7] T)) w1) :
    w1.heap[w.heap.size]? = some (.cells #[c0, c1, c2, c3, c4, c5, c6, c7] T (0, 0)) ∧ w1.cell? ⟨w.heap.size, 0, none⟩ = some c0 ∧ w1.cell? ⟨w.heap.size, 1, none⟩ = some c1 ∧ w1.cell? ⟨w.heap.size, 2, none⟩ = some c2 ∧ w1.cell? ⟨w.heap.size, 3, none⟩ = some c3 ∧ w1.cell? ⟨w.heap.size, 4, none⟩ = some c4 ∧ w1.cell? ⟨w.heap.size, 5, none⟩ = some c5 ∧ w1.cell? ⟨w.heap.size, 6, none⟩ = some c6 ∧ w1.cell? ⟨w.heap.size, 7, none⟩ = some c7 ∧ (∀ j, w1.frozen? ⟨w.heap.size, j, none⟩ = false) ∧ w.heap.size < w1.heap.size ∧ Below w.heap.size w w1 := by
  have h : w1.heap[w.heap.size]? = some (.cells #[c0, c1, c2, c3, c4, c5, c6, c7] T (0, 0)) := (hb.block _ (by simp)).trans (heap_alloc_new w _)
  obtain ⟨h0, h1, h2, h3, h4, h5, h6, h7⟩ := cells8 h
  exact ⟨h, h0, h1, h2, h3, h4, h5, h6, h7, fun j => Lib.frozen_of_heap h _, row_lt h, below_up ((Below.refl _ _).alloc (Nat.le_refl _) _) hb⟩
theorem made8d {w w1 : World} {c0 c1 c2 c3 c4 c5 c6 c7 : Value} {T : TypeId} (hb : Below (w.drew.alloc (.cells #[c0, c1, c2, c3, c4, c5, c6, c7] T)).heap.size (w.drew.alloc (.cells #[c0, c1, c2, c3, c4, c5, c6, c7] T)) w1) :
    w1.heap[w.heap.size]? = some (.cells #[c0, c1, c2, c3, c4, c5, c6, c7] T (0, 0)) ∧ w1.cell? ⟨w.heap.size, 0, none⟩ = some c0 ∧ w1.cell? ⟨w.heap.size, 1, none⟩ = some c1 ∧ w1.cell? ⟨w.heap.size, 2, none⟩ = some c2 ∧ w1.cell? ⟨w.heap.size, 3, none⟩ = some c3 ∧ w1.cell? ⟨w.heap.size, 4, none⟩ = some c4 ∧ w1.cell? ⟨w.heap.size, 5, none⟩ = some c5 ∧ w1.cell? ⟨w.heap.size, 6, none⟩ = some c6 ∧ w1.cell? ⟨w.heap.size, 7, none⟩ = some c7 ∧ (∀ j, w1.frozen? ⟨w.heap.size, j, none⟩ = false) ∧ w.heap.size < w1.heap.size ∧ Below w.heap.size w w1 := by
  obtain ⟨h, h0, h1, h2, h3, h4, h5, h6, h7, hf, hl, hb2⟩ := made8 (w := w.drew) hb
  exact ⟨h, h0, h1, h2, h3, h4, h5, h6, h7, hf, hl, (Below.refl w.heap.size w).drew.trans hb2⟩
theorem anyT_two {P : Program} {ops : Array Oper} {Q : Exit → Act → World → Prop} {md : Region.Mode} {S : World → Prop} {st : Nat} (i j : Nat) {oi oj : Oper} {m : Nat} {done : Array Bool} {a : Act} {w : World} (hr : Region.ready md ops done = [i, j]) (hi : ops[i]? = some oi) (hj : ops[j]? = some oj)
    (h1 : ∀ K' : Act → World → Prop, Shut (∀ b x, (i ≠ st → S x) → anyT P md ops Q S st m (done.setIfInBounds i true) b x → K' b x) → if Region.wanted oi (yielded ops a.tmps) = true then Oper.wp P oi a w K' Q else K' (a.put oi.dst undef) w)
    (h2 : ∀ K' : Act → World → Prop, Shut (∀ b x, (j ≠ st → S x) → anyT P md ops Q S st m (done.setIfInBounds j true) b x → K' b x) → if Region.wanted oj (yielded ops a.tmps) = true then Oper.wp P oj a w K' Q else K' (a.put oj.dst undef) w) :
    anyT P md ops Q S st (m + 1) done a w := by
  refine ⟨fun h0 => (by rw [h0] at hr; cases hr), fun k hk => ?_⟩
  rw [hr] at hk
  simp only [List.mem_cons, List.not_mem_nil, or_false] at hk
  rcases hk with rfl | rfl
  · exact wpOp_step hi fun K' hK => h1 K' fun b x hs hx => hK b x ⟨hs, hx⟩
  · exact wpOp_step hj fun K' hK => h2 K' fun b x hs hx => hK b x ⟨hs, hx⟩

/-- The row's block and the new token's box are as they were. -/
def Rm9 (r mb : Nat) (o1 o2 : Option Obj) (w : World) : Prop := w.heap[r]? = o1 ∧ w.heap[mb]? = o2
theorem Rm9.open {r mb : Nat} {X w : World} (h : Rm9 r mb X.heap[r]? X.heap[mb]? w) : ∀ j, w.cell? ⟨r, j, none⟩ = X.cell? ⟨r, j, none⟩ ∧ w.cell? ⟨mb, j, none⟩ = X.cell? ⟨mb, j, none⟩ := fun _ => ⟨World.cell?_of_block h.1, World.cell?_of_block h.2⟩
theorem Rm9.grown {r mb g : Nat} {o1 o2 : Option Obj} {w w' : World} (h : Rm9 r mb o1 o2 w) (hg : w.grownBy w' (some g)) (h1 : r < w.heap.size) (h2 : mb < w.heap.size) (n1 : g ≠ r) (n2 : g ≠ mb) : Rm9 r mb o1 o2 w' :=
  ⟨(hg.block r h1 fun e => n1 (Option.some.inj e).symm).trans h.1, (hg.block mb h2 fun e => n2 (Option.some.inj e).symm).trans h.2⟩
theorem Rm9.below {r mb : Nat} {o1 o2 : Option Obj} {w w' : World} (h : Rm9 r mb o1 o2 w) (hb : Below w.heap.size w w') (h1 : r < w.heap.size) (h2 : mb < w.heap.size) : Rm9 r mb o1 o2 w' := ⟨(hb.block r h1).trans h.1, (hb.block mb h2).trans h.2⟩

theorem from_cell {V : World} {r : Nat} {S : Rw} {ta : Option Addr} {tc g fc : Nat} {da : Option Addr} {dc : Nat} {xa : Option Addr} {xc : Nat} {w : World} (h : RW V r S ta tc (some ⟨g, 0, none⟩) fc da dc xa xc w) {k : Nat} (hk : k < S.F.length) : ∃ n, w.cell? ⟨g, k, none⟩ = some (.int .i64 n) := by
  obtain ⟨a', cap, hv, h3, h4, h5⟩ := row_form h.frm
  simp only [Value.slice.injEq, true_and] at hv
  obtain ⟨rfl, rfl⟩ := hv
  obtain ⟨q, hq, -, hc⟩ := h5 k _ (by unfold icells; rw [List.getElem?_map, List.getElem?_eq_getElem hk]; rfl)
  simp only [Option.some.injEq, Addr.mk.injEq, and_true] at hq
  subst hq
  exact ⟨_, hc⟩
theorem join_ss {a b u : Xt} (h : joinL a b = some u) : u.ss = a.ss := by
  unfold joinL at h
  rw [Option.map_eq_some_iff] at h
  obtain ⟨k, -, rfl⟩ := h
  rfl
theorem join_size {a b u : Xt} (h : joinL a b = some u) : u.x.size = a.x.size + b.x.size := by
  unfold joinL at h
  rw [Option.map_eq_some_iff] at h
  obtain ⟨k, -, rfl⟩ := h
  exact append_size _ _
theorem grow_state {S : Rw} {k : Nat} {u l : Xt} (hk : S.T.length = k + 1) (hF : S.F.length = S.T.length) (hl : S.T[S.T.length - 1]? = some l) : ({ setL S with T := lastX (setL S).T fun _ => u, F := S.F.set (S.F.length - 1) (-1), x := u.x.data.toList } : Rw) = { setL S with T := (setL S).T.set k u, F := (setL S).F.set k (-1), x := u.x.data.toList } := by
  obtain ⟨e1, e2, -, -⟩ := setL_T S
  have h1 := setL_last hl
  rw [← e1] at h1
  rw [lastX_at _ h1, e1, e2, hF, hk, Nat.add_sub_cancel]
theorem Gr.js {V : World} {r : Nat} {S : Rw} {t : Xt} {sv : Value} {b0 k : Nat} {l : Xt} {ta : Option Addr} {tc : Nat} {fa : Option Addr} {fc : Nat} {da : Option Addr} {dc : Nat} {xa : Option Addr} {xc : Nat} {w : World} (h : Gr V r (setL S) t sv b0 l ta tc fa fc da dc xa xc w) (hk : S.T.length = k + 1) : Js V r (setL S) k l ta tc fa fc da dc xa xc w := by
  have e := (setL_T S).1.trans hk
  have hl := h.last
  rw [e, Nat.add_sub_cancel] at hl
  exact ⟨h.row, e, hl, (setL_T S).2.2.2⟩
theorem row_from {V : World} {r : Nat} {S : Rw} {ta : Option Addr} {tc : Nat} {fa : Option Addr} {fc : Nat} {da : Option Addr} {dc : Nat} {xa : Option Addr} {xc : Nat} {w : World} (h : RW V r S ta tc fa fc da dc xa xc w) (hn : 1 ≤ S.T.length) : ∃ q, fa = some ⟨q, 0, none⟩ := by
  obtain ⟨a', cap, hv, h3, h4, h5⟩ := row_form h.frm
  simp only [Value.slice.injEq, true_and] at hv
  obtain ⟨rfl, rfl⟩ := hv
  have := h.same
  obtain ⟨q, rfl, -⟩ := h5 0 _ (by unfold icells; rw [List.getElem?_map, List.getElem?_eq_getElem (by omega)]; rfl)
  exact ⟨q, rfl⟩

set_option maxRecDepth 100000 in
set_option maxHeartbeats 12800000 in
theorem grow_none {V : World} {r : Nat} {S : Rw} {ta : Option Addr} {tc : Nat} {fa : Option Addr} {fc : Nat} {da : Option Addr} {dc : Nat} {xa : Option Addr} {xc : Nat} {w : World} (h : RW V r S ta tc fa fc da dc xa xc w) (hf : RwFit S) (t : Xt) (sa : Option Addr) (sn sc : Nat) {l : Xt} (hl : S.T[S.T.length - 1]? = some l)
    (hsz : t.x.size ≤ 50000) (hlz : l.x.size ≤ 50000 ∧ S.x.length ≤ 50000) (hx : ¬ (S.x ≠ [] ∧ growL l.k (S.x.getLast?.getD 0) t.x.data.toList = true)) (hjn : joinL (if S.x = [] then l else { l with x := ⟨S.x.toArray⟩ }) t = none) :
    Calls Try.prog 53 #[.pointer (some ⟨r, 0, none⟩), tokA t (.slice sa sn sc)] w (GrowPost V r w (growR S t).1 (growR S t).2) := by
  have hw1 : Below w.heap.size w (w.alloc (.cells #[.int .i64 t.k, .string t.x, .bool t.sp, .string t.g, .int .i64 t.f, .int .i64 t.t, .bool t.d, .slice sa sn sc] 26)) := (Below.refl _ _).alloc (Nat.le_refl _) _
  have hG : Gr V r S t (.slice sa sn sc) w.heap.size l ta tc fa fc da dc xa xc (w.alloc (.cells #[.int .i64 t.k, .string t.x, .bool t.sp, .string t.g, .int .i64 t.f, .int .i64 t.t, .bool t.d, .slice sa sn sc] 26)) := ⟨h.over hw1, heap_alloc_new w _, hl, by have := row_lt h.obj; omega, fun e => by
    have := (h.toks.kind _ e).2.lt
    omega⟩
  obtain ⟨w1, hw⟩ : ∃ w1, w.alloc (.cells #[.int .i64 t.k, .string t.x, .bool t.sp, .string t.g, .int .i64 t.f, .int .i64 t.t, .bool t.d, .slice sa sn sc] 26) = w1 := ⟨_, rfl⟩
  obtain ⟨b0, hb0⟩ : ∃ b0, w.heap.size = b0 := ⟨_, rfl⟩
  rw [hw, hb0] at hG
  have HFR1 : Hid (∀ (n : Nat) (X : World), Fr (w1.drewN n) X → Fr w X) := Lib.hid (fun n X h => Fr.trans (b := w1) (by rw [← hw]; exact Fr.below hw1) h)
  have hlen := (List.getElem?_eq_some_iff.1 hl).1
  obtain ⟨k, hk⟩ : ∃ k, S.T.length = k + 1 := ⟨S.T.length - 1, by omega⟩
  have hfk := hf.toks
  have HSE : Hid (∀ X : World, Below w1.heap.size w1 X → Calls Try.prog 55 #[.pointer (some ⟨r, 0, none⟩)] X (SettleOk V r S t (.slice sa sn sc) b0 l ta tc fa fc da dc X)) := Lib.hid (fun X hX => (hG.over hX).settle hf)
  obtain ⟨g, la, ln, lc, rfl, -, -, -, ⟨c0, -⟩, -, hc1, hc2⟩ := hG.row.toks.tok hl
  obtain ⟨q, rfl⟩ := row_from h (by omega)
  obtain ⟨k0, -, -, -, -, -, -, -, k8, -⟩ := hG.row.cells
  rw [hk] at k0 hc1 c0
  rw [Nat.add_sub_cancel] at c0
  have hbox := (boxT hG.box).2.1
  have HBZ := Lib.hid hG.row.txt
  have HX := Lib.hid hx
  unfold maxLen at hc2
  have HK := Lib.hid hk
  have HSX := Lib.hid (show (if S.x = [] then l else { l with x := ⟨S.x.toArray⟩ }).x.size ≤ 50000 from by
    split
    · exact hlz.1
    · exact hlz.2)
  have HNO := Lib.hid (fun hj => growR_none (S := S) (t := t) hl hx hj)
  have HYE := Lib.hid (fun u hj => growR_some (S := S) (t := t) (u := u) hl hx hj)
  obtain ⟨l', hl'⟩ : ∃ l', (if S.x = [] then l else { l with x := ⟨S.x.toArray⟩ }) = l' := ⟨_, rfl⟩
  have hJJ : ∀ (a b : Option Addr) (c d e f : Nat) (X : World), Calls Try.prog 21 #[tokA l' (.slice a c d), tokA t (.slice b e f)] X (JoinPost X l' t (.slice a c d)) := fun a b c d e f X => joined_any2 l' t a c d b e f X (by
    have := HSX.out
    rw [hl'] at this
    omega)
  have HJJ := Lib.hid hJJ
  unfold SettleOk at HSE
  rw [hl'] at HSE HNO HYE
  clear hJJ
  have HTZ := Lib.hid hsz
  have HXZ := Lib.hid hlz.2
  have HST9 := Lib.hid (fun u => grow_state (u := u) hk h.same hl)
  have hsub : IntKind.i64.wrap (k : Int) = (k : Int) := IntWalk.i64_in _ (by omega)
  have hk0 : (0 : Int) ≤ (k : Int) := by omega
  have hk1 : (k : Int) < (k : Int) + 1 := by omega
  rw [hl'] at hjn
  have HQ : Hid (∀ (a b : Option Addr) (c d e f : Nat) (X : World), Calls Try.prog 21 #[tokA l' (.slice a c d), tokA t (.slice b e f)] X (fun e w' => e = .returned (.tuple #[zeroT, .bool false]) ∧ Below X.heap.size X w')) := Lib.hid (fun a b c d e f X => (HJJ.out a b c d e f X).mono fun e w' h => by unfold JoinPost at h; rw [hjn] at h; exact h)
  rw [HNO.out hjn]
  clear hjn HNO HYE HJJ h hf hl hsz hlz hx hG hlen hk hfk hl' hw1 HSX HST9
  by_cases hx0 : S.x = []
  · have hl0 : S.x.length = 0 := by rw [hx0]; rfl
    rw [hl0] at k8
    clear hx0 hl0 c0
    go_enter Try.func53, Try.ntmps53
    go_wp2
    clear hw
    go_quiet (fail)
    go_wp2_with (go_at_call 55; (with_reducible refine (HSE.out _ (Below.of_drews w1 nq)).mono ?_); rintro e w2 ⟨rfl, xa2, xc2, hG2, hfr2⟩; have HFR := Lib.hid (HFR1.out nq _ hfr2); have HJ := Lib.hid (hG2.js HK.out); (obtain ⟨b8, b9, b10, b11, b12, b13, b14, b15⟩ := boxT hG2.box); have HBX := Lib.hid (row_lt hG2.box); clear hG2 hfr2)
    obtain ⟨ra, rn, rc, ⟨d0, d1, d2, d3, d4, d5, d6, d7⟩, hsit, m0, m1, hf1, hf2, hf3, hf4, hgl, hql, hrl, hgr, hqr, hgq⟩ := HJ.out.read2
    have HSI := Lib.hid hsit
    have HGL := Lib.hid (And.intro hgl (And.intro hql hrl))
    have HD := Lib.hid (show TokX l' (.slice ra rn rc) g (k * 8) w2 from ⟨d0, d1, d2, d3, d4, d5, d6, d7⟩)
    have HM := Lib.hid (And.intro m0 m1)
    unfold maxLen at hf2 hf4
    have hbl := HBX.out
    clear hsit
    have HSS : Hid (∀ X : World, Below w2.heap.size w2 X → X.cell? ⟨r, 0, none⟩ = some (.slice (some ⟨g, 0, none⟩) (k + 1) tc) ∧ X.cell? ⟨g, k * 8, none⟩ = some (.int .i64 l'.k) ∧ X.cell? ⟨g, k * 8 + 1, none⟩ = some (.string l'.x) ∧ X.cell? ⟨g, k * 8 + 2, none⟩ = some (.bool l'.sp) ∧ X.cell? ⟨g, k * 8 + 3, none⟩ = some (.string l'.g) ∧ X.cell? ⟨g, k * 8 + 4, none⟩ = some (.int .i64 l'.f) ∧ X.cell? ⟨g, k * 8 + 5, none⟩ = some (.int .i64 l'.t) ∧ X.cell? ⟨g, k * 8 + 6, none⟩ = some (.bool l'.d) ∧ X.cell? ⟨g, k * 8 + 7, none⟩ = some (.slice ra rn rc) ∧ X.cell? ⟨b0, 0, none⟩ = some (.int .i64 t.k) ∧ X.cell? ⟨b0, 1, none⟩ = some (.string t.x) ∧ X.cell? ⟨b0, 2, none⟩ = some (.bool t.sp) ∧ X.cell? ⟨b0, 3, none⟩ = some (.string t.g) ∧ X.cell? ⟨b0, 4, none⟩ = some (.int .i64 t.f) ∧ X.cell? ⟨b0, 5, none⟩ = some (.int .i64 t.t) ∧ X.cell? ⟨b0, 6, none⟩ = some (.bool t.d) ∧ X.cell? ⟨b0, 7, none⟩ = some (.slice sa sn sc)) := Lib.hid (fun X hX => ⟨bcell hX m0 hrl, bcell hX d0 hgl, bcell hX d1 hgl, bcell hX d2 hgl, bcell hX d3 hgl, bcell hX d4 hgl, bcell hX d5 hgl, bcell hX d6 hgl, bcell hX d7 hgl, bcell hX b8 hbl, bcell hX b9 hbl, bcell hX b10 hbl, bcell hX b11 hbl, bcell hX b12 hbl, bcell hX b13 hbl, bcell hX b14 hbl, bcell hX b15 hbl⟩)
    have n1 : r ≠ w2.heap.size := by omega
    have n2 : g ≠ w2.heap.size := by omega
    have n3 : b0 ≠ w2.heap.size := by omega
    have n4 : w2.heap.size ≠ r := by omega
    have n5 : w2.heap.size ≠ g := by omega
    have n6 : w2.heap.size ≠ b0 := by omega
    go_region_held3 (fun w' => w'.cell? ⟨r, 0, none⟩ = some (.slice (some ⟨g, 0, none⟩) (k + 1) tc) ∧ w'.cell? ⟨g, k * 8, none⟩ = some (.int .i64 l'.k) ∧ w'.cell? ⟨g, k * 8 + 1, none⟩ = some (.string l'.x) ∧ w'.cell? ⟨g, k * 8 + 2, none⟩ = some (.bool l'.sp) ∧ w'.cell? ⟨g, k * 8 + 3, none⟩ = some (.string l'.g) ∧ w'.cell? ⟨g, k * 8 + 4, none⟩ = some (.int .i64 l'.f) ∧ w'.cell? ⟨g, k * 8 + 5, none⟩ = some (.int .i64 l'.t) ∧ w'.cell? ⟨g, k * 8 + 6, none⟩ = some (.bool l'.d) ∧ w'.cell? ⟨g, k * 8 + 7, none⟩ = some (.slice ra rn rc) ∧ w'.cell? ⟨b0, 0, none⟩ = some (.int .i64 t.k) ∧ w'.cell? ⟨b0, 1, none⟩ = some (.string t.x) ∧ w'.cell? ⟨b0, 2, none⟩ = some (.bool t.sp) ∧ w'.cell? ⟨b0, 3, none⟩ = some (.string t.g) ∧ w'.cell? ⟨b0, 4, none⟩ = some (.int .i64 t.f) ∧ w'.cell? ⟨b0, 5, none⟩ = some (.int .i64 t.t) ∧ w'.cell? ⟨b0, 6, none⟩ = some (.bool t.d) ∧ w'.cell? ⟨b0, 7, none⟩ = some (.slice sa sn sc)) (first | go_keep)
      (first
        | (go_at_call 21; (with_reducible refine (HQ.out _ _ _ _ _ _ _).mono ?_); rintro e w3 ⟨rfl, hb3⟩; (obtain ⟨zh, z0, z1, z2, z3, z4, z5, z6, z7, zf, zl, zb⟩ := made8d hb3); have HZH := Lib.hid zh; have HB3 := Lib.hid zb; (obtain ⟨p0, p1, p2, p3, p4, p5, p6, p7, p8, p9, p10, p11, p12, p13, p14, p15, p16⟩ := HSS.out _ HB3.out); clear hb3 zh zb)
        | (go_at_call 21; (with_reducible refine (HQ.out _ _ _ _ _ _ _).mono ?_); rintro e w3 ⟨rfl, hb3⟩; have HB3 := Lib.hid (below_up (Below.refl _ _).drew hb3); have g1 : r < w3.heap.size := Nat.lt_of_lt_of_le hrl HB3.out.size; have g2 : g < w3.heap.size := Nat.lt_of_lt_of_le hgl HB3.out.size; have g3 : b0 < w3.heap.size := Nat.lt_of_lt_of_le hbl HB3.out.size; have n7 : r ≠ w3.heap.size := (by omega); have n8 : g ≠ w3.heap.size := (by omega); have n9 : b0 ≠ w3.heap.size := (by omega); have n10 : w3.heap.size ≠ r := (by omega); have n11 : w3.heap.size ≠ g := (by omega); have n12 : w3.heap.size ≠ b0 := (by omega); (obtain ⟨p0, p1, p2, p3, p4, p5, p6, p7, p8, p9, p10, p11, p12, p13, p14, p15, p16⟩ := HSS.out _ HB3.out); clear hb3))

    all_goals
      clear d0 d1 d2 d3 d4 d5 d6 d7 b8 b9 b10 b11 b12 b13 b14 b15 m0 m1 p0 p1 p2 p3 p4 p5 p6 p7 p8 p9 p10 p11 p12 p13 p14 p15 p16
      first
        | (obtain ⟨X, hX, -, hB, -, -, -⟩ := st8_done (W := w2) HZH.out HB3.out (Nat.le_refl _) (.int .i64 0) (.string ⟨#[]⟩) (.bool false) (.string ⟨#[]⟩) (.int .i64 0) (.int .i64 0) (.bool false) (.slice none 0 0)
           rw [hX]
           have HXX := Lib.hid hB
           clear hX hB z0 z1 z2 z3 z4 z5 z6 z7 zf zl)
        | (have HXX := Lib.hid (HB3.out.alloc HB3.out.size (.cells #[.int .i64 0, .string ⟨#[]⟩, .bool false, .string ⟨#[]⟩, .int .i64 0, .int .i64 0, .bool false, .slice none 0 0] 26))
           skip)
      go_wp2
      go_ret
      exact ⟨rfl, _, _, _, _, _, _, _, _, HJ.out.row.over HXX.out, HFR.out.trans (Fr.below HXX.out)⟩
  · obtain ⟨nx, hnx⟩ : ∃ n, S.x.length = n + 1 := ⟨S.x.length - 1, by have := List.length_pos_iff.2 hx0; omega⟩
    obtain ⟨gx, bb, rfl, hbb, cb, hx1, hx2⟩ := bz_byte HBZ.out hnx
    have hgf : growL l.k bb t.x.data.toList = false := by
      have h1 := HX.out
      rw [last_at hnx hbb] at h1
      cases hg : growL l.k bb t.x.data.toList with
      | false => rfl
      | true => exact absurd ⟨hx0, hg⟩ h1
    have HG : Hid (∀ X : World, Calls Try.prog 74 #[.int .i64 l.k, .int .u8 (bb.toNat : Int), .string t.x] X (BoolDrew false X)) := Lib.hid (fun X => hgf ▸ grows_any l.k bb t.x X (by have := HTZ.out; omega))
    have HNX := Lib.hid hnx
    have hnx5 : (nx : Int) ≤ 100000 := by have := HXZ.out; omega
    rw [hnx] at k8 hx1
    have hsub2 : IntKind.i64.wrap (nx : Int) = (nx : Int) := IntWalk.i64_in _ (by omega)
    have hq0 : (0 : Int) ≤ (nx : Int) := by omega
    have hq1 : (nx : Int) < (nx : Int) + 1 := by omega
    have hqp : (0 : Int) < (nx : Int) + 1 := by omega
    unfold maxLen at hx2
    clear hx0 hgf hbb hnx
    go_enter Try.func53, Try.ntmps53
    go_wp2
    clear hw
    go_quiet ((go_at_call 74; exact quiet_bdrew (HG.out _)))
    clear cb k8
    go_wp2_with (go_at_call 55; (with_reducible refine (HSE.out _ (Below.of_drews w1 nq)).mono ?_); rintro e w2 ⟨rfl, xa2, xc2, hG2, hfr2⟩; have HFR := Lib.hid (HFR1.out nq _ hfr2); have HJ := Lib.hid (hG2.js HK.out); (obtain ⟨b8, b9, b10, b11, b12, b13, b14, b15⟩ := boxT hG2.box); have HBX := Lib.hid (row_lt hG2.box); clear hG2 hfr2)
    obtain ⟨ra, rn, rc, ⟨d0, d1, d2, d3, d4, d5, d6, d7⟩, hsit, m0, m1, hf1, hf2, hf3, hf4, hgl, hql, hrl, hgr, hqr, hgq⟩ := HJ.out.read2
    have HSI := Lib.hid hsit
    have HGL := Lib.hid (And.intro hgl (And.intro hql hrl))
    have HD := Lib.hid (show TokX l' (.slice ra rn rc) g (k * 8) w2 from ⟨d0, d1, d2, d3, d4, d5, d6, d7⟩)
    have HM := Lib.hid (And.intro m0 m1)
    unfold maxLen at hf2 hf4
    have hbl := HBX.out
    clear hsit
    have HSS : Hid (∀ X : World, Below w2.heap.size w2 X → X.cell? ⟨r, 0, none⟩ = some (.slice (some ⟨g, 0, none⟩) (k + 1) tc) ∧ X.cell? ⟨g, k * 8, none⟩ = some (.int .i64 l'.k) ∧ X.cell? ⟨g, k * 8 + 1, none⟩ = some (.string l'.x) ∧ X.cell? ⟨g, k * 8 + 2, none⟩ = some (.bool l'.sp) ∧ X.cell? ⟨g, k * 8 + 3, none⟩ = some (.string l'.g) ∧ X.cell? ⟨g, k * 8 + 4, none⟩ = some (.int .i64 l'.f) ∧ X.cell? ⟨g, k * 8 + 5, none⟩ = some (.int .i64 l'.t) ∧ X.cell? ⟨g, k * 8 + 6, none⟩ = some (.bool l'.d) ∧ X.cell? ⟨g, k * 8 + 7, none⟩ = some (.slice ra rn rc) ∧ X.cell? ⟨b0, 0, none⟩ = some (.int .i64 t.k) ∧ X.cell? ⟨b0, 1, none⟩ = some (.string t.x) ∧ X.cell? ⟨b0, 2, none⟩ = some (.bool t.sp) ∧ X.cell? ⟨b0, 3, none⟩ = some (.string t.g) ∧ X.cell? ⟨b0, 4, none⟩ = some (.int .i64 t.f) ∧ X.cell? ⟨b0, 5, none⟩ = some (.int .i64 t.t) ∧ X.cell? ⟨b0, 6, none⟩ = some (.bool t.d) ∧ X.cell? ⟨b0, 7, none⟩ = some (.slice sa sn sc)) := Lib.hid (fun X hX => ⟨bcell hX m0 hrl, bcell hX d0 hgl, bcell hX d1 hgl, bcell hX d2 hgl, bcell hX d3 hgl, bcell hX d4 hgl, bcell hX d5 hgl, bcell hX d6 hgl, bcell hX d7 hgl, bcell hX b8 hbl, bcell hX b9 hbl, bcell hX b10 hbl, bcell hX b11 hbl, bcell hX b12 hbl, bcell hX b13 hbl, bcell hX b14 hbl, bcell hX b15 hbl⟩)
    have n1 : r ≠ w2.heap.size := by omega
    have n2 : g ≠ w2.heap.size := by omega
    have n3 : b0 ≠ w2.heap.size := by omega
    have n4 : w2.heap.size ≠ r := by omega
    have n5 : w2.heap.size ≠ g := by omega
    have n6 : w2.heap.size ≠ b0 := by omega
    go_region_held3 (fun w' => w'.cell? ⟨r, 0, none⟩ = some (.slice (some ⟨g, 0, none⟩) (k + 1) tc) ∧ w'.cell? ⟨g, k * 8, none⟩ = some (.int .i64 l'.k) ∧ w'.cell? ⟨g, k * 8 + 1, none⟩ = some (.string l'.x) ∧ w'.cell? ⟨g, k * 8 + 2, none⟩ = some (.bool l'.sp) ∧ w'.cell? ⟨g, k * 8 + 3, none⟩ = some (.string l'.g) ∧ w'.cell? ⟨g, k * 8 + 4, none⟩ = some (.int .i64 l'.f) ∧ w'.cell? ⟨g, k * 8 + 5, none⟩ = some (.int .i64 l'.t) ∧ w'.cell? ⟨g, k * 8 + 6, none⟩ = some (.bool l'.d) ∧ w'.cell? ⟨g, k * 8 + 7, none⟩ = some (.slice ra rn rc) ∧ w'.cell? ⟨b0, 0, none⟩ = some (.int .i64 t.k) ∧ w'.cell? ⟨b0, 1, none⟩ = some (.string t.x) ∧ w'.cell? ⟨b0, 2, none⟩ = some (.bool t.sp) ∧ w'.cell? ⟨b0, 3, none⟩ = some (.string t.g) ∧ w'.cell? ⟨b0, 4, none⟩ = some (.int .i64 t.f) ∧ w'.cell? ⟨b0, 5, none⟩ = some (.int .i64 t.t) ∧ w'.cell? ⟨b0, 6, none⟩ = some (.bool t.d) ∧ w'.cell? ⟨b0, 7, none⟩ = some (.slice sa sn sc)) (first | go_keep)
      (first
        | (go_at_call 21; (with_reducible refine (HQ.out _ _ _ _ _ _ _).mono ?_); rintro e w3 ⟨rfl, hb3⟩; (obtain ⟨zh, z0, z1, z2, z3, z4, z5, z6, z7, zf, zl, zb⟩ := made8d hb3); have HZH := Lib.hid zh; have HB3 := Lib.hid zb; (obtain ⟨p0, p1, p2, p3, p4, p5, p6, p7, p8, p9, p10, p11, p12, p13, p14, p15, p16⟩ := HSS.out _ HB3.out); clear hb3 zh zb)
        | (go_at_call 21; (with_reducible refine (HQ.out _ _ _ _ _ _ _).mono ?_); rintro e w3 ⟨rfl, hb3⟩; have HB3 := Lib.hid (below_up (Below.refl _ _).drew hb3); have g1 : r < w3.heap.size := Nat.lt_of_lt_of_le hrl HB3.out.size; have g2 : g < w3.heap.size := Nat.lt_of_lt_of_le hgl HB3.out.size; have g3 : b0 < w3.heap.size := Nat.lt_of_lt_of_le hbl HB3.out.size; have n7 : r ≠ w3.heap.size := (by omega); have n8 : g ≠ w3.heap.size := (by omega); have n9 : b0 ≠ w3.heap.size := (by omega); have n10 : w3.heap.size ≠ r := (by omega); have n11 : w3.heap.size ≠ g := (by omega); have n12 : w3.heap.size ≠ b0 := (by omega); (obtain ⟨p0, p1, p2, p3, p4, p5, p6, p7, p8, p9, p10, p11, p12, p13, p14, p15, p16⟩ := HSS.out _ HB3.out); clear hb3))

    all_goals
      clear d0 d1 d2 d3 d4 d5 d6 d7 b8 b9 b10 b11 b12 b13 b14 b15 m0 m1 p0 p1 p2 p3 p4 p5 p6 p7 p8 p9 p10 p11 p12 p13 p14 p15 p16
      first
        | (obtain ⟨X, hX, -, hB, -, -, -⟩ := st8_done (W := w2) HZH.out HB3.out (Nat.le_refl _) (.int .i64 0) (.string ⟨#[]⟩) (.bool false) (.string ⟨#[]⟩) (.int .i64 0) (.int .i64 0) (.bool false) (.slice none 0 0)
           rw [hX]
           have HXX := Lib.hid hB
           clear hX hB z0 z1 z2 z3 z4 z5 z6 z7 zf zl)
        | (have HXX := Lib.hid (HB3.out.alloc HB3.out.size (.cells #[.int .i64 0, .string ⟨#[]⟩, .bool false, .string ⟨#[]⟩, .int .i64 0, .int .i64 0, .bool false, .slice none 0 0] 26))
           skip)
      go_wp2
      go_ret
      exact ⟨rfl, _, _, _, _, _, _, _, _, HJ.out.row.over HXX.out, HFR.out.trans (Fr.below HXX.out)⟩

end Go.Proofs.Ytobplffailbkbaa
