/-
  Texts of the proof, put together: SuR, SuG.
-/
import Derived.Test.YtobplffailbkbaaG33

/-
  The row that the pastes make, in memory; its last token's text settled.
-/
namespace Go.Proofs.Ytobplffailbkbaa
open Go.RowKit Go.Maps

theorem Try.infoIntR : (Try.prog.info? 3).map (fun i => (i.zero, i.size, i.bytes)) = some (some (.int .i64 0), 1, 8) := by kernel_rfl
theorem Try.infoDiagR : (Try.prog.info? 50).map (fun i => (i.zero, i.size, i.bytes)) = some (some (.agg #[.int .i64 0, .string ⟨#[]⟩, .int .i64 0, .int .i64 0]), 4, 40) := by kernel_rfl

def rowObj (tv fv dv : Value) (a : Int) (p : Bool) (g : ByteArray) (f t : Int) (xv : Value) : Obj := .cells #[tv, fv, dv, .int .i64 a, .bool p, .string g, .int .i64 f, .int .i64 t, xv] 79 (0, 0)
def Deep (V : World) (r g : Nat) : Prop := g < V.heap.size ∧ g ≠ r
def TK (V : World) (r : Nat) (T : List Xt) (a : Option Addr) (c : Nat) (w : World) : Prop := ∃ P : List (Xt × Value), P.map Prod.fst = T ∧ w.ownsRow V.heap.size 26 8 (.slice a T.length c) T.length (xcells P) ∧ ∀ p ∈ P, HeldIn (Deep V r) w (SitsA p.1.ss p.2)
def icells (F : List Int) : List Value := F.map fun n => Value.int .i64 n
def IR (V : World) (F : List Int) (a : Option Addr) (c : Nat) (w : World) : Prop := w.ownsRow V.heap.size 3 1 (.slice a F.length c) F.length (icells F)
def illCell (d : Ill) : List Value := [.int .i64 d.c, .string d.g, .int .i64 d.f, .int .i64 d.t]
def DR (V : World) (D : List Ill) (a : Option Addr) (c : Nat) (w : World) : Prop := w.ownsRow V.heap.size 50 4 (.slice a D.length c) D.length (D.flatMap illCell)

theorem row_kind {B : Nat} {e : TypeId} {size n c : Nat} {a : Option Addr} {xs : List Value} {w : World} (h : w.ownsRow B e size (.slice a n c) n xs) : ∀ g, a = some ⟨g, 0, none⟩ → B ≤ g ∧ KindAt w g e := by
  intro g ha
  obtain ⟨-, ⟨hv, -⟩ | ⟨k, cap, cur, hv, hk, hh, -⟩⟩ := h
  · simp only [Value.slice.injEq] at hv
    rw [hv.1] at ha
    cases ha
  · simp only [Value.slice.injEq] at hv
    rw [hv.1] at ha
    simp only [Option.some.injEq, Addr.mk.injEq, and_true] at ha
    subst ha
    exact ⟨hk, _, _, hh⟩
theorem own_blk {a : Option Addr} {n c g : Nat} (h : (Value.slice a n c).ownBlock = some g) {B : Nat} {w : World} {e : TypeId} {size : Nat} {xs : List Value} (ho : w.ownsRow B e size (.slice a n c) n xs) : a = some ⟨g, 0, none⟩ := own_addr h ho

theorem TK.keep {V : World} {r : Nat} {T : List Xt} {a : Option Addr} {c : Nat} {w w' : World} (h : TK V r T a c w) (hb : ∀ g, a = some ⟨g, 0, none⟩ → w'.heap[g]? = w.heap[g]?) (s : StillB (Deep V r) w w') : TK V r T a c w' := by
  obtain ⟨P, h1, h2, h3⟩ := h
  exact ⟨P, h1, own_same h2 fun g hg => hb g (own_blk hg h2), fun p hp => (h3 p hp).over s⟩
theorem IR.keep {V : World} {F : List Int} {a : Option Addr} {c : Nat} {w w' : World} (h : IR V F a c w) (hb : ∀ g, a = some ⟨g, 0, none⟩ → w'.heap[g]? = w.heap[g]?) : IR V F a c w' := own_same h fun g hg => hb g (own_blk hg h)
theorem DR.keep {V : World} {D : List Ill} {a : Option Addr} {c : Nat} {w w' : World} (h : DR V D a c w) (hb : ∀ g, a = some ⟨g, 0, none⟩ → w'.heap[g]? = w.heap[g]?) : DR V D a c w' := own_same h fun g hg => hb g (own_blk hg h)
theorem TK.kind {V : World} {r : Nat} {T : List Xt} {a : Option Addr} {c : Nat} {w : World} (h : TK V r T a c w) : ∀ g, a = some ⟨g, 0, none⟩ → V.heap.size ≤ g ∧ KindAt w g 26 := by
  obtain ⟨P, -, h2, -⟩ := h
  exact row_kind h2

/-- The row: its block, and the four rows that it leads to. -/
structure RW (V : World) (r : Nat) (S : Rw) (ta : Option Addr) (tc : Nat) (fa : Option Addr) (fc : Nat) (da : Option Addr) (dc : Nat) (xa : Option Addr) (xc : Nat) (w : World) : Prop where
  lt : r < V.heap.size
  obj : w.heap[r]? = some (rowObj (.slice ta S.T.length tc) (.slice fa S.F.length fc) (.slice da S.D.length dc) (S.a : Int) S.p S.g S.f S.t (.slice xa S.x.length xc))
  low : V.grownBy w (some r)
  toks : TK V r S.T ta tc w
  frm : IR V S.F fa fc w
  dgs : DR V S.D da dc w
  txt : BZ V S.x (.slice xa S.x.length xc) w
  ne : S.x ≠ [] → S.T ≠ []
  same : S.F.length = S.T.length

theorem RW.cells {V : World} {r : Nat} {S : Rw} {ta : Option Addr} {tc : Nat} {fa : Option Addr} {fc : Nat} {da : Option Addr} {dc : Nat} {xa : Option Addr} {xc : Nat} {w : World} (h : RW V r S ta tc fa fc da dc xa xc w) :
    w.cell? ⟨r, 0, none⟩ = some (.slice ta S.T.length tc) ∧ w.cell? ⟨r, 1, none⟩ = some (.slice fa S.F.length fc) ∧ w.cell? ⟨r, 2, none⟩ = some (.slice da S.D.length dc) ∧ w.cell? ⟨r, 3, none⟩ = some (.int .i64 (S.a : Int)) ∧ w.cell? ⟨r, 4, none⟩ = some (.bool S.p) ∧
    w.cell? ⟨r, 5, none⟩ = some (.string S.g) ∧ w.cell? ⟨r, 6, none⟩ = some (.int .i64 S.f) ∧ w.cell? ⟨r, 7, none⟩ = some (.int .i64 S.t) ∧ w.cell? ⟨r, 8, none⟩ = some (.slice xa S.x.length xc) ∧ ∀ j, w.frozen? ⟨r, j, none⟩ = false := by
  have ho := h.obj
  unfold rowObj at ho
  refine ⟨?_, ?_, ?_, ?_, ?_, ?_, ?_, ?_, ?_, fun j => Lib.frozen_of_heap ho _⟩ <;> (rw [Lib.cell_of_heap ho]; rfl)
theorem RW.size {V : World} {r : Nat} {S : Rw} {ta : Option Addr} {tc : Nat} {fa : Option Addr} {fc : Nat} {da : Option Addr} {dc : Nat} {xa : Option Addr} {xc : Nat} {w : World} (h : RW V r S ta tc fa fc da dc xa xc w) : V.heap.size ≤ w.heap.size := h.low.size

theorem grown_below {w w' : World} (b : Below w.heap.size w w') (o : Option Nat) : w.grownBy w' o := ⟨b.os, b.tape, b.output, b.size, fun k hk _ => b.block k hk⟩
theorem RW.over {V : World} {r : Nat} {S : Rw} {ta : Option Addr} {tc : Nat} {fa : Option Addr} {fc : Nat} {da : Option Addr} {dc : Nat} {xa : Option Addr} {xc : Nat} {w w' : World} (h : RW V r S ta tc fa fc da dc xa xc w) (b : Below w.heap.size w w') : RW V r S ta tc fa fc da dc xa xc w' :=
  ⟨h.lt, (b.block _ (row_lt h.obj)).trans h.obj, h.low.trans (grown_below b _), h.toks.keep (fun g hg => b.block g (h.toks.kind g hg).2.lt) (StillB.of_below b), h.frm.keep fun g hg => b.block g (row_kind h.frm g hg).2.lt, h.dgs.keep fun g hg => b.block g (row_kind h.dgs g hg).2.lt, h.txt.keep fun g hg => b.block g (h.txt.home g hg).2.lt, h.ne, h.same⟩

/-- The row's own block is none of the others. -/
theorem RW.away {V : World} {r : Nat} {S : Rw} {ta : Option Addr} {tc : Nat} {fa : Option Addr} {fc : Nat} {da : Option Addr} {dc : Nat} {xa : Option Addr} {xc : Nat} {w : World} (h : RW V r S ta tc fa fc da dc xa xc w) {a : Option Addr} (ha : a = ta ∨ a = fa ∨ a = da ∨ a = xa) : ∀ g, a = some ⟨g, 0, none⟩ → g ≠ r := by
  intro g hg e
  have := h.lt
  rcases ha with rfl | rfl | rfl | rfl
  · have := (h.toks.kind g hg).1; omega
  · have := (row_kind h.frm g hg).1; omega
  · have := (row_kind h.dgs g hg).1; omega
  · have := (h.txt.home g hg).1; omega

theorem grown_setS (w : World) (p j : Nat) (v : Value) : w.grownBy (w.setCell ⟨p, j, none⟩ v) (some p) := ⟨rfl, rfl, rfl, by simp [World.setCell], fun k _ hk => heap_setCell_other w _ k v fun e => hk (by rw [e])⟩
/-- A store into the row's own block. -/
theorem RW.put {V : World} {r : Nat} {S S' : Rw} {ta : Option Addr} {tc : Nat} {fa : Option Addr} {fc : Nat} {da : Option Addr} {dc : Nat} {xa xa' : Option Addr} {xc xc' : Nat} {w : World} (h : RW V r S ta tc fa fc da dc xa xc w) (j : Nat) (v : Value)
    (ho : (w.setCell ⟨r, j, none⟩ v).heap[r]? = some (rowObj (.slice ta S'.T.length tc) (.slice fa S'.F.length fc) (.slice da S'.D.length dc) (S'.a : Int) S'.p S'.g S'.f S'.t (.slice xa' S'.x.length xc')))
    (hT : S'.T = S.T) (hF : S'.F = S.F) (hD : S'.D = S.D) (hx : BZ V S'.x (.slice xa' S'.x.length xc') (w.setCell ⟨r, j, none⟩ v)) (hn : S'.x ≠ [] → S'.T ≠ []) : RW V r S' ta tc fa fc da dc xa' xc' (w.setCell ⟨r, j, none⟩ v) := by
  have hs : StillB (Deep V r) w (w.setCell ⟨r, j, none⟩ v) := StillB.of_grown (grown_setS w r j v) fun g hg e => hg.2 (Option.some.inj e)
  refine ⟨h.lt, ho, h.low.trans (grown_setS w r j v), ?_, ?_, ?_, hx, hn, by rw [hT, hF]; exact h.same⟩
  · rw [hT]
    exact h.toks.keep (fun g hg => heap_setCell_other _ _ _ _ (h.away (.inl rfl) g hg)) hs
  · rw [hF]
    exact h.frm.keep fun g hg => heap_setCell_other _ _ _ _ (h.away (.inr (.inl rfl)) g hg)
  · rw [hD]
    exact h.dgs.keep fun g hg => heap_setCell_other _ _ _ _ (h.away (.inr (.inr (.inl rfl))) g hg)
theorem RW.putx {V : World} {r : Nat} {S : Rw} {ta : Option Addr} {tc : Nat} {fa : Option Addr} {fc : Nat} {da : Option Addr} {dc : Nat} {xa : Option Addr} {xc : Nat} {w : World} (h : RW V r S ta tc fa fc da dc xa xc w) (j : Nat) (v : Value) : BZ V S.x (.slice xa S.x.length xc) (w.setCell ⟨r, j, none⟩ v) :=
  h.txt.keep fun g hg => heap_setCell_other _ _ _ _ (h.away (.inr (.inr (.inr rfl))) g hg)
theorem row_set {w : World} {r : Nat} {v0 v1 v2 v3 v4 v5 v6 v7 v8 : Value} {T : TypeId} (h : w.heap[r]? = some (.cells #[v0, v1, v2, v3, v4, v5, v6, v7, v8] T (0, 0))) (j : Nat) (v : Value) : (w.setCell ⟨r, j, none⟩ v).heap[r]? = some (.cells ((#[v0, v1, v2, v3, v4, v5, v6, v7, v8] : Array Value).setIfInBounds j v) T (0, 0)) := heap_setCell_same w r j _ _ v h

/-- A token's text, in its row. -/
theorem TK.setx {V : World} {r : Nat} {T : List Xt} {a : Option Addr} {c : Nat} {w : World} (h : TK V r T a c w) {k : Nat} {t : Xt} (hk : T[k]? = some t) (x : ByteArray) : ∃ g, a = some ⟨g, 0, none⟩ ∧ g < w.heap.size ∧ V.heap.size ≤ g ∧ KindAt w g 26 ∧ w.cell? ⟨g, k * 8 + 1, none⟩ = some (.string t.x) ∧ w.frozen? ⟨g, k * 8 + 1, none⟩ = false ∧ T.length ≤ c ∧ c ≤ maxLen ∧
    TK V r (T.set k { t with x := x }) a c (w.setCell ⟨g, k * 8 + 1, none⟩ (.string x)) := by
  obtain ⟨P, h1, h2, h3⟩ := h
  obtain ⟨a', cap, hv, hc1, hc2, hc3⟩ := row_form h2
  simp only [Value.slice.injEq, true_and] at hv
  obtain ⟨rfl, rfl⟩ := hv
  have hPk : ∃ sv, P[k]? = some (t, sv) := by
    rw [← h1, List.getElem?_map, Option.map_eq_some_iff] at hk
    obtain ⟨⟨t', sv⟩, hp, rfl⟩ := hk
    exact ⟨sv, hp⟩
  obtain ⟨sv, hp⟩ := hPk
  have hg := fun j (hj : j < 8) => flat_get (f := xcell) (n := 8) (fun _ => rfl) P k _ hp j hj
  obtain ⟨g, rfl, hlt, hcx⟩ := hc3 (k * 8 + 1) _ ((hg 1 (by omega)).trans rfl)
  have hVg := (World.ownsRow.lt h2 g rfl).1
  have hs : StillB (Deep V r) w (w.setCell ⟨g, k * 8 + 1, none⟩ (.string x)) := StillB.of_grown (grown_setS w g _ _) fun q hq e => by
    have := Option.some.inj e
    have := hq.1
    omega
  refine ⟨g, rfl, hlt, hVg, (row_kind h2 g rfl).2, hcx, own_freeX h2 _, hc1, hc2, P.set k ({ t with x := x }, sv), by rw [List.map_set, h1], ?_, fun p hp' => ?_⟩
  · rw [← xcells_set1 t sv x P k hp, List.length_set]
    exact own_setX h2 _ _
  · rcases List.mem_or_eq_of_mem_set hp' with hp' | rfl
    · exact (h3 p hp').over hs
    · exact (h3 (t, sv) (List.mem_of_getElem? hp)).over hs

def SetPost (V : World) (r : Nat) (S : Rw) (ta : Option Addr) (tc : Nat) (fa : Option Addr) (fc : Nat) (da : Option Addr) (dc : Nat) (w : World) (e : Ending) (w' : World) : Prop := e = .returned (.tuple #[]) ∧ (∃ xa xc, RW V r S ta tc fa fc da dc xa xc w') ∧ w.heap.size ≤ w'.heap.size ∧ ∀ q, q ≠ r → ta ≠ some ⟨q, 0, none⟩ → w'.heap[q]? = w.heap[q]?
theorem set_far {w : World} {g r j q : Nat} {u v : Value} (h1 : q ≠ r) (h2 : (some ⟨g, 0, none⟩ : Option Addr) ≠ some ⟨q, 0, none⟩) : ((w.drew.setCell ⟨g, j, none⟩ u).setCell ⟨r, 8, none⟩ v).heap[q]? = w.heap[q]? :=
  (heap_setCell_other _ _ _ _ h1).trans (heap_setCell_other _ _ _ _ fun e => h2 (by rw [e]))
theorem set_size {w : World} {g r j : Nat} {u v : Value} : w.heap.size ≤ ((w.drew.setCell ⟨g, j, none⟩ u).setCell ⟨r, 8, none⟩ v).heap.size := by
  simp [World.setCell]

theorem setL_no {r : Rw} (h : r.x = []) : setL r = r := by
  unfold setL
  rw [if_pos h]
theorem setL_yes {r : Rw} (h : r.x ≠ []) : setL r = { r with T := lastX r.T fun t => { t with x := ⟨r.x.toArray⟩ }, x := [] } := by
  unfold setL
  rw [if_neg h]

theorem RW.settle {V : World} {r : Nat} {S : Rw} {ta : Option Addr} {tc : Nat} {fa : Option Addr} {fc : Nat} {da : Option Addr} {dc : Nat} {xa : Option Addr} {xc : Nat} {w : World} (h : RW V r S ta tc fa fc da dc xa xc w) (hx : S.x ≠ []) :
    ∃ g t, ta = some ⟨g, 0, none⟩ ∧ w.cell? ⟨g, (S.T.length - 1) * 8 + 1, none⟩ = some (.string t) ∧ w.frozen? ⟨g, (S.T.length - 1) * 8 + 1, none⟩ = false ∧ 1 ≤ S.T.length ∧ S.T.length ≤ tc ∧ tc ≤ maxLen ∧
    (let w1 := w.setCell ⟨g, (S.T.length - 1) * 8 + 1, none⟩ (.string ⟨S.x.toArray⟩)
     w1.cell? ⟨r, 8, none⟩ = some (.slice xa S.x.length xc) ∧ w1.frozen? ⟨r, 8, none⟩ = false ∧ RW V r (setL S) ta tc fa fc da dc none 0 (w1.setCell ⟨r, 8, none⟩ (.slice none 0 0))) := by
  have hne := h.ne hx
  have hl : 1 ≤ S.T.length := List.length_pos_iff.2 hne
  obtain ⟨t, ht⟩ : ∃ t, S.T[S.T.length - 1]? = some t := ⟨_, List.getElem?_eq_getElem (by omega)⟩
  obtain ⟨g, rfl, hlt, hVg, hk, hc, hf, h1, h2, hT⟩ := h.toks.setx ht ⟨S.x.toArray⟩
  have hgr : g ≠ r := by have := h.lt; omega
  refine ⟨g, t.x, rfl, hc, hf, hl, h1, h2, ?_⟩
  obtain ⟨w1, hw1⟩ : ∃ w1, w.setCell ⟨g, (S.T.length - 1) * 8 + 1, none⟩ (.string ⟨S.x.toArray⟩) = w1 := ⟨_, rfl⟩
  have hgb : w.grownBy w1 (some g) := by rw [← hw1]; exact grown_setS w g _ _
  rw [hw1] at hT ⊢
  have hrl : r < w.heap.size := row_lt h.obj
  have ho1 : w1.heap[r]? = some (rowObj (.slice (some ⟨g, 0, none⟩) S.T.length tc) (.slice fa S.F.length fc) (.slice da S.D.length dc) (S.a : Int) S.p S.g S.f S.t (.slice xa S.x.length xc)) := (hgb.block r hrl (fun e => hgr (Option.some.inj e).symm)).trans h.obj
  have kb : ∀ {a : Option Addr} {e : TypeId}, (∀ q, a = some ⟨q, 0, none⟩ → V.heap.size ≤ q ∧ KindAt w q e) → e ≠ 26 → ∀ q, a = some ⟨q, 0, none⟩ → w1.heap[q]? = w.heap[q]? := fun hh he q hq =>
    hgb.block q (hh q hq).2.lt fun e => (hh q hq).2.ne hk he (Option.some.inj e)
  have hlen : (lastX S.T fun t => { t with x := ⟨S.x.toArray⟩ }).length = S.T.length := lastX_len _ _
  have hset := lastX_at (fun t => { t with x := ⟨S.x.toArray⟩ }) ht
  rw [setL_yes hx]
  have hcell : w1.cell? ⟨r, 8, none⟩ = some (.slice xa S.x.length xc) := by unfold rowObj at ho1; rw [Lib.cell_of_heap ho1]; rfl
  have hobj := ho1
  unfold rowObj at hobj
  refine ⟨hcell, Lib.frozen_of_heap hobj _, ?_⟩
  have hR : RW V r { S with T := lastX S.T fun t => { t with x := ⟨S.x.toArray⟩ } } (some ⟨g, 0, none⟩) tc fa fc da dc xa xc w1 := by
    refine ⟨h.lt, ?_, ⟨hgb.os.trans h.low.os, hgb.tape.trans h.low.tape, hgb.output.trans h.low.output, Nat.le_trans h.low.size hgb.size, fun q hq hqr => (hgb.block q (Nat.lt_of_lt_of_le hq h.low.size) fun e => by have := Option.some.inj e; omega).trans (h.low.block q hq hqr)⟩, ?_, h.frm.keep (kb (row_kind h.frm) (by decide)), h.dgs.keep (kb (row_kind h.dgs) (by decide)), h.txt.keep (kb h.txt.home (by decide)), fun _ e => ?_, by rw [hlen]; exact h.same⟩
    · show w1.heap[r]? = some (rowObj (.slice _ (lastX S.T _).length tc) _ _ _ _ _ _ _ _)
      rw [hlen]
      exact ho1
    · show TK V r (lastX S.T _) _ tc w1
      rw [hset]
      exact hT
    · have e : (lastX S.T fun t => { t with x := ⟨S.x.toArray⟩ }) = [] := e
      rw [e] at hlen
      simp only [List.length_nil] at hlen
      omega
  refine hR.put 8 _ ?_ rfl rfl rfl (BZ.nil _ _) (fun e => absurd rfl e)
  have hob := hR.obj
  unfold rowObj at hob
  exact (row_set hob 8 _).trans rfl

set_option maxRecDepth 100000 in
set_option maxHeartbeats 3200000 in
theorem settle_any {V : World} {r : Nat} {S : Rw} {ta : Option Addr} {tc : Nat} {fa : Option Addr} {fc : Nat} {da : Option Addr} {dc : Nat} {xa : Option Addr} {xc : Nat} {w : World} (h : RW V r S ta tc fa fc da dc xa xc w) (hl : S.x.length ≤ 100000000 ∧ S.T.length ≤ 100000000) :
    Calls Try.prog 55 #[.pointer (some ⟨r, 0, none⟩)] w (SetPost V r (setL S) ta tc fa fc da dc w) := by
  obtain ⟨k0, -, -, -, -, -, -, -, k8, kf⟩ := h.cells
  by_cases hx : S.x = []
  · rw [setL_no hx]
    have hl0 : S.x.length = 0 := by rw [hx]; rfl
    rw [hl0] at k8
    have H := Lib.hid h
    clear h hx hl0
    go_enter Try.func55, Try.ntmps55
    go_wp2
    go_end0
    exact ⟨rfl, ⟨_, _, H.out⟩, Nat.le_refl _, fun _ _ _ => rfl⟩
  · obtain ⟨g, t, rfl, c1, f1, h1, h2, h3, c8, f8, hR⟩ := (h.over (Below.refl _ _).drew).settle hx
    have hcv := h.txt.text hx
    have hcvN : ∀ q : Nat, (convert 35 9 (.slice xa S.x.length xc)).run Try.prog (w.drewN q) = .ok (.string ⟨S.x.toArray⟩) (w.drewN q) := fun q => hcv _ rfl
    have hcv0 := hcv w.drew rfl
    have hpos : 0 < S.x.length := List.length_pos_iff.2 hx
    obtain ⟨nx, hnx⟩ : ∃ n, S.x.length = n := ⟨_, rfl⟩
    obtain ⟨nt, hnt⟩ : ∃ n, S.T.length = n := ⟨_, rfl⟩
    obtain ⟨z, hz⟩ : ∃ z : ByteArray, (⟨S.x.toArray⟩ : ByteArray) = z := ⟨_, rfl⟩
    have hl2 := hl.2
    have hl1 := hl.1
    rw [hz] at hcv hcv0 hcvN hR c8 f8
    rw [hnx] at hcv hcv0 hcvN k8 c8 hpos hl1
    rw [hnt] at k0 c1 f1 h1 h2 hR c8 f8 hl2
    have HR := Lib.hid hR
    obtain ⟨k, rfl⟩ : ∃ k, nt = k + 1 := ⟨nt - 1, by omega⟩
    rw [Nat.add_sub_cancel] at c1 f1 hR c8 f8
    have HR := Lib.hid hR
    have hnI : (0 : Int) < (nx : Int) := by omega
    have hsub : IntKind.i64.wrap (k : Int) = (k : Int) := IntWalk.i64_in _ (by omega)
    have hs0 : (0 : Int) ≤ (k : Int) := by omega
    have hs1 : (k : Int) < (k : Int) + 1 := by omega
    unfold maxLen at h3
    clear h hx hR hnx hnt hz hl hcv
    go_enter Try.func55, Try.ntmps55
    go_wp2
    go_still_tail 17, (by kernel_rfl)
    change wpList _ _ _ _ _ w.drew
    go_wp2
    go_end0
    exact ⟨rfl, ⟨_, _, HR.out⟩, set_size, fun q h1 h2 => set_far h1 h2⟩

end Go.Proofs.Ytobplffailbkbaa

/-
  Two tokens as one, and bytes that go on: the project's joined and Grows.
-/
namespace Go.Proofs.Ytobplffailbkbaa
open Go.RowKit Go.Maps

/-- Eight stores. -/
theorem st8_done {W w : World} {q : Nat} {a0 a1 a2 a3 a4 a5 a6 a7 : Value} {T : TypeId} (h : w.heap[q]? = some (.cells #[a0, a1, a2, a3, a4, a5, a6, a7] T (0, 0))) (hb : Below W.heap.size W w) (hq : W.heap.size ≤ q) (v0 v1 v2 v3 v4 v5 v6 v7 : Value) :
    ∃ X, (((((((w.setCell ⟨q, 0, none⟩ v0).setCell ⟨q, 1, none⟩ v1).setCell ⟨q, 2, none⟩ v2).setCell ⟨q, 3, none⟩ v3).setCell ⟨q, 4, none⟩ v4).setCell ⟨q, 5, none⟩ v5).setCell ⟨q, 6, none⟩ v6).setCell ⟨q, 7, none⟩ v7 = X ∧ (X.cell? ⟨q, 0, none⟩ = some v0 ∧ X.cell? ⟨q, 1, none⟩ = some v1 ∧ X.cell? ⟨q, 2, none⟩ = some v2 ∧ X.cell? ⟨q, 3, none⟩ = some v3 ∧ X.cell? ⟨q, 4, none⟩ = some v4 ∧ X.cell? ⟨q, 5, none⟩ = some v5 ∧ X.cell? ⟨q, 6, none⟩ = some v6 ∧ X.cell? ⟨q, 7, none⟩ = some v7) ∧ Below W.heap.size W X ∧ X.heap[q]? = some (.cells #[v0, v1, v2, v3, v4, v5, v6, v7] T (0, 0)) ∧ (∀ g, g ≠ q → X.heap[g]? = w.heap[g]?) ∧ X.heap.size = w.heap.size := by
  have h0 : (w.setCell ⟨q, 0, none⟩ v0).heap[q]? = some (.cells #[v0, a1, a2, a3, a4, a5, a6, a7] T (0, 0)) := (heap_setCell_same _ q 0 _ _ v0 h).trans rfl
  have h1 : ((w.setCell ⟨q, 0, none⟩ v0).setCell ⟨q, 1, none⟩ v1).heap[q]? = some (.cells #[v0, v1, a2, a3, a4, a5, a6, a7] T (0, 0)) := (heap_setCell_same _ q 1 _ _ v1 h0).trans rfl
  have h2 : (((w.setCell ⟨q, 0, none⟩ v0).setCell ⟨q, 1, none⟩ v1).setCell ⟨q, 2, none⟩ v2).heap[q]? = some (.cells #[v0, v1, v2, a3, a4, a5, a6, a7] T (0, 0)) := (heap_setCell_same _ q 2 _ _ v2 h1).trans rfl
  have h3 : ((((w.setCell ⟨q, 0, none⟩ v0).setCell ⟨q, 1, none⟩ v1).setCell ⟨q, 2, none⟩ v2).setCell ⟨q, 3, none⟩ v3).heap[q]? = some (.cells #[v0, v1, v2, v3, a4, a5, a6, a7] T (0, 0)) := (heap_setCell_same _ q 3 _ _ v3 h2).trans rfl
  have h4 : (((((w.setCell ⟨q, 0, none⟩ v0).setCell ⟨q, 1, none⟩ v1).setCell ⟨q, 2, none⟩ v2).setCell ⟨q, 3, none⟩ v3).setCell ⟨q, 4, none⟩ v4).heap[q]? = some (.cells #[v0, v1, v2, v3, v4, a5, a6, a7] T (0, 0)) := (heap_setCell_same _ q 4 _ _ v4 h3).trans rfl
  have h5 : ((((((w.setCell ⟨q, 0, none⟩ v0).setCell ⟨q, 1, none⟩ v1).setCell ⟨q, 2, none⟩ v2).setCell ⟨q, 3, none⟩ v3).setCell ⟨q, 4, none⟩ v4).setCell ⟨q, 5, none⟩ v5).heap[q]? = some (.cells #[v0, v1, v2, v3, v4, v5, a6, a7] T (0, 0)) := (heap_setCell_same _ q 5 _ _ v5 h4).trans rfl
  have h6 : (((((((w.setCell ⟨q, 0, none⟩ v0).setCell ⟨q, 1, none⟩ v1).setCell ⟨q, 2, none⟩ v2).setCell ⟨q, 3, none⟩ v3).setCell ⟨q, 4, none⟩ v4).setCell ⟨q, 5, none⟩ v5).setCell ⟨q, 6, none⟩ v6).heap[q]? = some (.cells #[v0, v1, v2, v3, v4, v5, v6, a7] T (0, 0)) := (heap_setCell_same _ q 6 _ _ v6 h5).trans rfl
  have h7 : ((((((((w.setCell ⟨q, 0, none⟩ v0).setCell ⟨q, 1, none⟩ v1).setCell ⟨q, 2, none⟩ v2).setCell ⟨q, 3, none⟩ v3).setCell ⟨q, 4, none⟩ v4).setCell ⟨q, 5, none⟩ v5).setCell ⟨q, 6, none⟩ v6).setCell ⟨q, 7, none⟩ v7).heap[q]? = some (.cells #[v0, v1, v2, v3, v4, v5, v6, v7] T (0, 0)) := (heap_setCell_same _ q 7 _ _ v7 h6).trans rfl
  refine ⟨_, rfl, ⟨?_, ?_, ?_, ?_, ?_, ?_, ?_, ?_⟩, (Below.setCell (p := ⟨q, 7, none⟩) (Below.setCell (p := ⟨q, 6, none⟩) (Below.setCell (p := ⟨q, 5, none⟩) (Below.setCell (p := ⟨q, 4, none⟩) (Below.setCell (p := ⟨q, 3, none⟩) (Below.setCell (p := ⟨q, 2, none⟩) (Below.setCell (p := ⟨q, 1, none⟩) (Below.setCell (p := ⟨q, 0, none⟩) hb hq v0) hq v1) hq v2) hq v3) hq v4) hq v5) hq v6) hq v7), h7, fun g hg => (heap_setCell_other _ _ g v7 hg).trans ((heap_setCell_other _ _ g v6 hg).trans ((heap_setCell_other _ _ g v5 hg).trans ((heap_setCell_other _ _ g v4 hg).trans ((heap_setCell_other _ _ g v3 hg).trans ((heap_setCell_other _ _ g v2 hg).trans ((heap_setCell_other _ _ g v1 hg).trans (heap_setCell_other _ _ g v0 hg))))))), by simp [World.setCell]⟩ <;> (rw [Lib.cell_of_heap h7]; rfl)


theorem cells8 {w : World} {q : Nat} {v0 v1 v2 v3 v4 v5 v6 v7 : Value} {T : TypeId} (h : w.heap[q]? = some (.cells #[v0, v1, v2, v3, v4, v5, v6, v7] T (0, 0))) : w.cell? ⟨q, 0, none⟩ = some v0 ∧ w.cell? ⟨q, 1, none⟩ = some v1 ∧ w.cell? ⟨q, 2, none⟩ = some v2 ∧ w.cell? ⟨q, 3, none⟩ = some v3 ∧ w.cell? ⟨q, 4, none⟩ = some v4 ∧ w.cell? ⟨q, 5, none⟩ = some v5 ∧ w.cell? ⟨q, 6, none⟩ = some v6 ∧ w.cell? ⟨q, 7, none⟩ = some v7 := by
  refine ⟨?_, ?_, ?_, ?_, ?_, ?_, ?_, ?_⟩ <;> (rw [Lib.cell_of_heap h]; rfl)
theorem growL_cons (k : Int) (a c : UInt8) (r : List UInt8) : growL k a (c :: r) = (goOn k a c && growL k c r) := rfl
def GrRel (k : Int) (a : UInt8) (s : ByteArray) (w : World) (t1 t10 : Value) (wr : World) : Prop :=
  ∃ (j : Nat) (b : UInt8), t10 = .int .i64 (j : Int) ∧ t1 = .int .u8 (b.toNat : Int) ∧ j ≤ s.size ∧ growL k a s.data.toList = growL k b (s.data.toList.drop j) ∧ ∃ n, wr = w.drewN n

set_option maxRecDepth 100000 in
set_option maxHeartbeats 3200000 in
theorem grows_any (k : Int) (a : UInt8) (s : ByteArray) (w : World) (hs : s.size ≤ 1000000) : Calls Try.prog 74 #[.int .i64 k, .int .u8 (a.toNat : Int), .string s] w (BoolDrew (growL k a s.data.toList) w) := by
  obtain ⟨Z, hZ⟩ : ∃ Z, growL k a s.data.toList = Z := ⟨_, rfl⟩
  have HZ := Lib.hid hZ
  rw [hZ]
  clear hZ
  go_enter Try.func74, Try.ntmps74
  go_wp2
  go_loopw [1, 10] (fun t1 t10 wr => GrRel k a s w t1 t10 wr) (fun _ t10 _ => s.size - (intOf t10).toNat)
  case atStart => exact ⟨0, a, rfl, rfl, Nat.zero_le _, by rw [List.drop_zero], 0, rfl⟩
  case round =>
    obtain ⟨j, b, rfl, rfl, hj, he, m, hwr⟩ := hrel
    have HE := Lib.hid he
    have HWR := Lib.hid hwr
    clear he hwr
    by_cases hlt : j < s.size
    · have hI : (j : Int) < (s.size : Int) := by omega
      have hI0 : (0 : Int) ≤ (j : Int) := by omega
      have hd := drop_cons (l := s.data.toList) (i := j) (by rw [len_byte]; exact hlt)
      rw [get_byte s j hlt] at hd
      obtain ⟨c, hc⟩ : ∃ c, s[j] = c := ⟨_, rfl⟩
      have HC := Lib.hid hc
      rw [hc] at hd
      have HN : Hid (growL k a s.data.toList = (goOn k b c && growL k c (s.data.toList.drop (j + 1)))) := Lib.hid (by rw [HE.out, hd]; rfl)
      have hci : ((s[j]'hlt).toNat : Int) = (c.toNat : Int) := by rw [hc]
      clear hd hc
      cases hg : goOn k b c with
      | true =>
        have HGO := Lib.hid (goesOn_is hg)
        have HG := Lib.hid hg
        clear hg
        go_wp2_with (go_at_call 87; (with_reducible refine (HGO.out _).mono ?_); rintro e w' ⟨rfl, nq, rfl⟩)
        go_roundw
        case rel => exact ⟨j + 1, c, by go_num, rfl, hlt, by rw [HN.out, HG.out]; rfl, m + nq, by rw [HWR.out, World.drewN_drewN]⟩
        case measure => simp [intOf]; omega
      | false =>
        have HGO := Lib.hid (goesOn_is hg)
        have HF : Hid (false = Z) := Lib.hid (by rw [← HZ.out, HN.out, hg]; rfl)
        clear hg
        go_wp2_with (go_at_call 87; (with_reducible refine (HGO.out _).mono ?_); rintro e w' ⟨rfl, nq, rfl⟩)
        go_ret
        exact ⟨ret_bool HF.out, m + nq, by rw [HWR.out, World.drewN_drewN]⟩
    · have hI : ¬ (j : Int) < (s.size : Int) := by omega
      have HF : Hid (true = Z) := Lib.hid (by rw [← HZ.out, HE.out, List.drop_eq_nil_of_le (by rw [len_byte]; omega)]; rfl)
      go_wp2
      go_ret
      exact ⟨ret_bool HF.out, m, HWR.out⟩

/-- A token's value. -/
abbrev tokA (t : Xt) (sv : Value) : Value := .agg #[.int .i64 t.k, .string t.x, .bool t.sp, .string t.g, .int .i64 t.f, .int .i64 t.t, .bool t.d, sv]
abbrev zeroT : Value := .agg #[.int .i64 0, .string ⟨#[]⟩, .bool false, .string ⟨#[]⟩, .int .i64 0, .int .i64 0, .bool false, .slice none 0 0]
def JoinPost (W : World) (a b : Xt) (sv : Value) (e : Ending) (w' : World) : Prop := (match joinL a b with
  | some u => e = .returned (.tuple #[tokA u sv, .bool true])
  | none => e = .returned (.tuple #[zeroT, .bool false])) ∧ Below W.heap.size W w'
theorem join_no {W w' : World} {a b : Xt} {sv : Value} (h : joinL a b = none) (hb : Below W.heap.size W w') : JoinPost W a b sv (.returned (.tuple #[zeroT, .bool false])) w' := by
  unfold JoinPost
  rw [h]
  exact ⟨rfl, hb⟩
theorem join_yes {W w' : World} {a b u : Xt} {sv : Value} (h : joinL a b = some u) (hb : Below W.heap.size W w') : JoinPost W a b sv (.returned (.tuple #[tokA u sv, .bool true])) w' := by
  unfold JoinPost
  rw [h]
  exact ⟨rfl, hb⟩
/-- Both tokens' boxes, and the result's, behind a call. -/
structure Box3 (W : World) (a : Xt) (sv : Value) (w : World) : Prop where
  fst : w.heap[W.heap.size]? = some (.cells #[.int .i64 a.k, .string a.x, .bool a.sp, .string a.g, .int .i64 a.f, .int .i64 a.t, .bool a.d, sv] 26 (0, 0))
  res : w.heap[W.heap.size + 1 + 1]? = some (.cells #[.int .i64 0, .string ⟨#[]⟩, .bool false, .string ⟨#[]⟩, .int .i64 0, .int .i64 0, .bool false, .slice none 0 0] 26 (0, 0))
  low : Below W.heap.size W w
  big : W.heap.size + 1 + 1 < w.heap.size
theorem box3_next (W : World) (a : Xt) (sv : Value) (o : Obj) {w : World} (h : Below (W.heap.size + 1 + 1 + 1) (((W.alloc (.cells #[.int .i64 a.k, .string a.x, .bool a.sp, .string a.g, .int .i64 a.f, .int .i64 a.t, .bool a.d, sv] 26)).alloc o).alloc (.cells #[.int .i64 0, .string ⟨#[]⟩, .bool false, .string ⟨#[]⟩, .int .i64 0, .int .i64 0, .bool false, .slice none 0 0] 26)) w) : Box3 W a sv w := by
  have e2 : ((W.alloc (.cells #[.int .i64 a.k, .string a.x, .bool a.sp, .string a.g, .int .i64 a.f, .int .i64 a.t, .bool a.d, sv] 26)).alloc o).heap.size = W.heap.size + 1 + 1 := by simp
  refine ⟨(h.block _ (by omega)).trans ((Below.heap_alloc _ _ _ (by rw [e2]; omega)).trans (blk_new1 W _ _)), (h.block _ (by omega)).trans ?_, (below_three W _ _ _).trans (h.mono (by omega)), ?_⟩
  · have := heap_alloc_new ((W.alloc (.cells #[.int .i64 a.k, .string a.x, .bool a.sp, .string a.g, .int .i64 a.f, .int .i64 a.t, .bool a.d, sv] 26)).alloc o) (.cells #[.int .i64 0, .string ⟨#[]⟩, .bool false, .string ⟨#[]⟩, .int .i64 0, .int .i64 0, .bool false, .slice none 0 0] 26)
    rw [e2] at this
    exact this
  · have := h.size
    simp at this
    omega
theorem Box3.cells {W : World} {a : Xt} {sv : Value} {w : World} (h : Box3 W a sv w) : (w.cell? ⟨W.heap.size, 2, none⟩ = some (.bool a.sp) ∧ w.cell? ⟨W.heap.size, 3, none⟩ = some (.string a.g) ∧ w.cell? ⟨W.heap.size, 4, none⟩ = some (.int .i64 a.f) ∧ w.cell? ⟨W.heap.size, 5, none⟩ = some (.int .i64 a.t) ∧ w.cell? ⟨W.heap.size, 7, none⟩ = some sv) ∧
    (w.cell? ⟨W.heap.size + 1 + 1, 0, none⟩ = some (.int .i64 0) ∧ w.cell? ⟨W.heap.size + 1 + 1, 1, none⟩ = some (.string ⟨#[]⟩) ∧ w.cell? ⟨W.heap.size + 1 + 1, 2, none⟩ = some (.bool false) ∧ w.cell? ⟨W.heap.size + 1 + 1, 3, none⟩ = some (.string ⟨#[]⟩) ∧
    w.cell? ⟨W.heap.size + 1 + 1, 4, none⟩ = some (.int .i64 0) ∧ w.cell? ⟨W.heap.size + 1 + 1, 5, none⟩ = some (.int .i64 0) ∧ w.cell? ⟨W.heap.size + 1 + 1, 6, none⟩ = some (.bool false) ∧ w.cell? ⟨W.heap.size + 1 + 1, 7, none⟩ = some (.slice none 0 0)) ∧ ∀ j, w.frozen? ⟨W.heap.size + 1 + 1, j, none⟩ = false := by
  refine ⟨⟨?_, ?_, ?_, ?_, ?_⟩, ⟨?_, ?_, ?_, ?_, ?_, ?_, ?_, ?_⟩, fun j => Lib.frozen_of_heap h.res _⟩
  all_goals first | (rw [Lib.cell_of_heap h.fst]; rfl) | (rw [Lib.cell_of_heap h.res]; rfl)

set_option maxRecDepth 100000 in
set_option maxHeartbeats 6400000 in
theorem joined_any2 (a b : Xt) (sa : Option Addr) (sn sc : Nat) (bv : Option Addr) (bn bc : Nat) (W : World) (hs : a.x.size + b.x.size ≤ 100000) : Calls Try.prog 21 #[tokA a (.slice sa sn sc), tokA b (.slice bv bn bc)] W (JoinPost W a b (.slice sa sn sc)) := by
  have hcat : (a.x.size + b.x.size > 9223372036854775807) = False := by
    rw [eq_iff_iff, iff_false]
    omega
  have HON : Hid (∀ X : World, Calls Try.prog 38 #[.string (a.x ++ b.x)] X (onePost (a.x ++ b.x) X)) := Lib.hid (fun X => one_any (a.x ++ b.x) X (by rw [append_size]; exact hs))
  have HBX := Lib.hid (fun (w : World) (h : Below (W.heap.size + 1 + 1 + 1) (((W.alloc (.cells #[.int .i64 a.k, .string a.x, .bool a.sp, .string a.g, .int .i64 a.f, .int .i64 a.t, .bool a.d, .slice sa sn sc] 26)).alloc (.cells #[.int .i64 b.k, .string b.x, .bool b.sp, .string b.g, .int .i64 b.f, .int .i64 b.t, .bool b.d, .slice bv bn bc] 26)).alloc (.cells #[.int .i64 0, .string ⟨#[]⟩, .bool false, .string ⟨#[]⟩, .int .i64 0, .int .i64 0, .bool false, .slice none 0 0] 26)) w) => box3_next W a (.slice sa sn sc) _ h)
  unfold onePost at HON
  cases ho : oneL (a.x ++ b.x).data.toList with
  | none =>
    rw [ho] at HON
    have HJ : Hid (joinL a b = none) := Lib.hid (by unfold joinL; rw [ho]; rfl)
    clear ho hs
    go_enter Try.func21, Try.ntmps21
    go_wp2_with (go_at_call 38; (with_reducible refine (HON.out _).mono ?_); rintro e w1 ⟨rfl, hb1⟩; have HX1 := Lib.hid (HBX.out w1 (by simpa using hb1)); (obtain ⟨⟨c2, c3, c4, c5, c7⟩, ⟨z0, z1, z2, z3, z4, z5, z6, z7⟩, zf⟩ := HX1.out.cells); have hbig := HX1.out.big; clear hb1; simp only [oneV])
    obtain ⟨X, hX, -, hB, h7, -, -⟩ := st8_done HX1.out.res HX1.out.low (by omega) (.int .i64 0) (.string ⟨#[]⟩) (.bool false) (.string ⟨#[]⟩) (.int .i64 0) (.int .i64 0) (.bool false) (.slice none 0 0)
    rw [hX]
    obtain ⟨y0, y1, y2, y3, y4, y5, y6, y7⟩ := cells8 ((Below.heap_alloc X (.cells #[.int .i64 0, .string ⟨#[]⟩, .bool false, .string ⟨#[]⟩, .int .i64 0, .int .i64 0, .bool false, .slice none 0 0] 26) _ (row_lt h7)).trans h7)
    exact bodyPost_ret (v := .tuple #[zeroT, .bool false]) (by simp [results, Try.results21, go_sem, y0, y1, y2, y3, y4, y5, y6, y7]) rfl (join_no HJ.out (hB.alloc hB.size _))
  | some k =>
    rw [ho] at HON
    have HJ : Hid (joinL a b = some ⟨(k : Int), a.x ++ b.x, a.sp, a.g, a.f, a.t, true, a.ss⟩) := Lib.hid (by unfold joinL; rw [ho]; rfl)
    clear ho hs
    go_enter Try.func21, Try.ntmps21
    go_wp2_with (go_at_call 38; (with_reducible refine (HON.out _).mono ?_); rintro e w1 ⟨rfl, hb1⟩; have HX1 := Lib.hid (HBX.out w1 (by simpa using hb1)); (obtain ⟨⟨c2, c3, c4, c5, c7⟩, ⟨z0, z1, z2, z3, z4, z5, z6, z7⟩, zf⟩ := HX1.out.cells); have hbig := HX1.out.big; clear hb1; simp only [oneV])
    have hb1 : W.heap.size < w1.heap.size := by omega
    go_region
    go_wp2
    obtain ⟨X, hX, -, hB, h7, -, -⟩ := st8_done HX1.out.res HX1.out.low (by omega) (.int .i64 (k : Int)) (.string (a.x ++ b.x)) (.bool a.sp) (.string a.g) (.int .i64 a.f) (.int .i64 a.t) (.bool true) (.slice sa sn sc)
    rw [hX]
    have hz := (Below.heap_alloc X (.cells #[.int .i64 (k : Int), .string (a.x ++ b.x), .bool a.sp, .string a.g, .int .i64 a.f, .int .i64 a.t, .bool true, .slice sa sn sc] 26) _ (row_lt h7)).trans h7
    obtain ⟨y0, y1, y2, y3, y4, y5, y6, y7⟩ := cells8 (w := (X.alloc (.cells #[.int .i64 (k : Int), .string (a.x ++ b.x), .bool a.sp, .string a.g, .int .i64 a.f, .int .i64 a.t, .bool true, .slice sa sn sc] 26)).drew) hz
    exact bodyPost_ret (v := .tuple #[.agg #[.int .i64 (k : Int), .string (a.x ++ b.x), .bool a.sp, .string a.g, .int .i64 a.f, .int .i64 a.t, .bool true, .slice sa sn sc], .bool true]) (by simp [results, Try.results21, go_sem, y0, y1, y2, y3, y4, y5, y6, y7]) rfl (join_yes HJ.out (hB.alloc hB.size _).drew)

end Go.Proofs.Ytobplffailbkbaa
