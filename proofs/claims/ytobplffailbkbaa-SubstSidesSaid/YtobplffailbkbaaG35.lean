/-
  Texts of the proof, put together: SuH, SuI.
-/
import Derived.Test.YtobplffailbkbaaG34
import Derived.Deep.QuietTactic
import Derived.Test.YtobplffailbkbaaG07

/-
  The last token and the next one: the project's grow.
-/
namespace Go.Proofs.Ytobplffailbkbaa
open Go.RowKit Go.Maps

theorem xcells_all (u : Xt) (sv : Value) : ∀ (P : List (Xt × Value)) (k : Nat), k < P.length → ((((((((xcells P).set (k * 8) (.int .i64 u.k)).set (k * 8 + 1) (.string u.x)).set (k * 8 + 2) (.bool u.sp)).set (k * 8 + 3) (.string u.g)).set (k * 8 + 4) (.int .i64 u.f)).set (k * 8 + 5) (.int .i64 u.t)).set (k * 8 + 6) (.bool u.d)).set (k * 8 + 7) sv = xcells (P.set k (u, sv))
  | [], k, h => by simp at h
  | p :: P, 0, h => rfl
  | p :: P, k + 1, h => by
    have ih := xcells_all u sv P k (by simpa using h)
    have e : xcells (p :: P) = xcell p ++ xcells P := rfl
    have hl : (xcell p).length = 8 := rfl
    have hs : ∀ (L : List Value) (i : Nat) (v : Value), (xcell p ++ L).set ((k + 1) * 8 + i) v = xcell p ++ L.set (k * 8 + i) v := fun L i v => by
      rw [List.set_append_right _ _ (by rw [hl]; omega), hl, show (k + 1) * 8 + i - 8 = k * 8 + i from by omega]
    have hs0 : ∀ (L : List Value) (v : Value), (xcell p ++ L).set ((k + 1) * 8) v = xcell p ++ L.set (k * 8) v := fun L v => hs L 0 v
    rw [e, hs0, hs, hs, hs, hs, hs, hs, hs, ih]
    rfl

/-- A token of the row, read, and another one put in its place. -/
theorem TK.tok {V : World} {r : Nat} {T : List Xt} {a : Option Addr} {c : Nat} {w : World} (h : TK V r T a c w) {k : Nat} {t : Xt} (hk : T[k]? = some t) : ∃ g sa sn sc, a = some ⟨g, 0, none⟩ ∧ g < w.heap.size ∧ V.heap.size ≤ g ∧ KindAt w g 26 ∧ TokX t (.slice sa sn sc) g (k * 8) w ∧ HeldIn (Deep V r) w (SitsA t.ss (.slice sa sn sc)) ∧ T.length ≤ c ∧ c ≤ maxLen := by
  obtain ⟨P, h1, h2, h3⟩ := h
  obtain ⟨a', cap, hv, hc1, hc2, hc3⟩ := row_form h2
  simp only [Value.slice.injEq, true_and] at hv
  obtain ⟨rfl, rfl⟩ := hv
  have hPk : ∃ sv, P[k]? = some (t, sv) := by
    rw [← h1, List.getElem?_map, Option.map_eq_some_iff] at hk
    obtain ⟨⟨t', sv⟩, hp, rfl⟩ := hk
    exact ⟨sv, hp⟩
  obtain ⟨sv, hp⟩ := hPk
  have hsit := h3 _ (List.mem_of_getElem? hp)
  obtain ⟨sa, sn, sc, hsv, -⟩ := hsit.now.form
  simp only at hsv
  subst hsv
  have hg := fun j (hj : j < 8) => flat_get (f := xcell) (n := 8) (fun _ => rfl) P k _ hp j hj
  obtain ⟨g, rfl, hlt, -⟩ := hc3 (k * 8 + 1) _ ((hg 1 (by omega)).trans rfl)
  have hcx : ∀ j u, j < 8 → (xcell (t, .slice sa sn sc))[j]? = some u → w.cell? ⟨g, k * 8 + j, none⟩ = some u := by
    intro j u hj hu
    obtain ⟨g', hga', -, e⟩ := hc3 (k * 8 + j) u ((hg j hj).trans hu)
    simp only [Option.some.injEq, Addr.mk.injEq, and_true] at hga'
    rw [hga']
    exact e
  exact ⟨g, sa, sn, sc, rfl, hlt, (World.ownsRow.lt h2 g rfl).1, (row_kind h2 g rfl).2, ⟨hcx 0 _ (by omega) rfl, hcx 1 _ (by omega) rfl, hcx 2 _ (by omega) rfl, hcx 3 _ (by omega) rfl, hcx 4 _ (by omega) rfl, hcx 5 _ (by omega) rfl, hcx 6 _ (by omega) rfl, hcx 7 _ (by omega) rfl⟩, hsit, hc1, hc2⟩
theorem TK.free {V : World} {r : Nat} {T : List Xt} {g c : Nat} {w : World} (h : TK V r T (some ⟨g, 0, none⟩) c w) (j : Nat) : w.frozen? ⟨g, j, none⟩ = false := by
  obtain ⟨P, h1, h2, h3⟩ := h
  exact own_freeX h2 j
theorem TK.put {V : World} {r : Nat} {T : List Xt} {g c : Nat} {w : World} (h : TK V r T (some ⟨g, 0, none⟩) c w) {k : Nat} (hk : k < T.length) (u : Xt) {sv : Value} (hs : HeldIn (Deep V r) w (SitsA u.ss sv)) :
    TK V r (T.set k u) (some ⟨g, 0, none⟩) c ((((((((w.setCell ⟨g, k * 8, none⟩ (.int .i64 u.k)).setCell ⟨g, k * 8 + 1, none⟩ (.string u.x)).setCell ⟨g, k * 8 + 2, none⟩ (.bool u.sp)).setCell ⟨g, k * 8 + 3, none⟩ (.string u.g)).setCell ⟨g, k * 8 + 4, none⟩ (.int .i64 u.f)).setCell ⟨g, k * 8 + 5, none⟩ (.int .i64 u.t)).setCell ⟨g, k * 8 + 6, none⟩ (.bool u.d)).setCell ⟨g, k * 8 + 7, none⟩ sv) := by
  obtain ⟨P, h1, h2, h3⟩ := h
  have hl : P.length = T.length := by rw [← h1, List.length_map]
  have hVg := (World.ownsRow.lt h2 g rfl).1
  have hst : ∀ (X : World) (j : Nat) (v : Value), StillB (Deep V r) X (X.setCell ⟨g, j, none⟩ v) := fun X j v => StillB.of_grown (grown_setS X g j v) fun q hq e => by
    have := Option.some.inj e
    have := hq.1
    omega
  have hall : ∀ {R : World → Prop}, HeldIn (Deep V r) w R → HeldIn (Deep V r) ((((((((w.setCell ⟨g, k * 8, none⟩ (.int .i64 u.k)).setCell ⟨g, k * 8 + 1, none⟩ (.string u.x)).setCell ⟨g, k * 8 + 2, none⟩ (.bool u.sp)).setCell ⟨g, k * 8 + 3, none⟩ (.string u.g)).setCell ⟨g, k * 8 + 4, none⟩ (.int .i64 u.f)).setCell ⟨g, k * 8 + 5, none⟩ (.int .i64 u.t)).setCell ⟨g, k * 8 + 6, none⟩ (.bool u.d)).setCell ⟨g, k * 8 + 7, none⟩ sv) R := fun hR => (((((((hR.over (hst _ _ _)).over (hst _ _ _)).over (hst _ _ _)).over (hst _ _ _)).over (hst _ _ _)).over (hst _ _ _)).over (hst _ _ _)).over (hst _ _ _)
  refine ⟨P.set k (u, sv), by rw [List.map_set, h1], ?_, fun p hp => ?_⟩
  · rw [← xcells_all u sv P k (by omega), List.length_set]
    exact own_setX (own_setX (own_setX (own_setX (own_setX (own_setX (own_setX (own_setX h2 _ _) _ _) _ _) _ _) _ _) _ _) _ _) _ _
  · rcases List.mem_or_eq_of_mem_set hp with hp | rfl
    · exact hall (h3 p hp)
    · exact hall hs

/-- Blocks of other kinds, behind stores into one block. -/
theorem RW.toksput {V : World} {r : Nat} {S : Rw} {g : Nat} {tc : Nat} {fa : Option Addr} {fc : Nat} {da : Option Addr} {dc : Nat} {xa : Option Addr} {xc : Nat} {w w1 : World} {T' : List Xt} (h : RW V r S (some ⟨g, 0, none⟩) tc fa fc da dc xa xc w) (hg : w.grownBy w1 (some g)) (hT : TK V r T' (some ⟨g, 0, none⟩) tc w1) (hl : T'.length = S.T.length) : RW V r { S with T := T' } (some ⟨g, 0, none⟩) tc fa fc da dc xa xc w1 := by
  obtain ⟨hVg, hk⟩ := h.toks.kind g rfl
  have hgr : g ≠ r := by have := h.lt; omega
  have kb : ∀ {a : Option Addr} {e : TypeId}, (∀ q, a = some ⟨q, 0, none⟩ → V.heap.size ≤ q ∧ KindAt w q e) → e ≠ 26 → ∀ q, a = some ⟨q, 0, none⟩ → w1.heap[q]? = w.heap[q]? := fun hh he q hq =>
    hg.block q (hh q hq).2.lt fun e => (hh q hq).2.ne hk he (Option.some.inj e)
  refine ⟨h.lt, ?_, ⟨hg.os.trans h.low.os, hg.tape.trans h.low.tape, hg.output.trans h.low.output, Nat.le_trans h.low.size hg.size, fun q hq hqr => (hg.block q (Nat.lt_of_lt_of_le hq h.low.size) fun e => by have := Option.some.inj e; omega).trans (h.low.block q hq hqr)⟩, hT, h.frm.keep (kb (row_kind h.frm) (by decide)), h.dgs.keep (kb (row_kind h.dgs) (by decide)), h.txt.keep (kb h.txt.home (by decide)), fun e1 e2 => ?_, by show S.F.length = T'.length; rw [hl]; exact h.same⟩
  · show w1.heap[r]? = some (rowObj (.slice _ T'.length tc) _ _ _ _ _ _ _ _)
    rw [hl]
    exact (hg.block r (row_lt h.obj) fun e => hgr (Option.some.inj e).symm).trans h.obj
  · have e2 : T' = [] := e2
    refine h.ne e1 (List.eq_nil_of_length_eq_zero ?_)
    rw [← hl, e2]
    rfl
theorem icells_set (F : List Int) (k : Nat) (n : Int) : (icells F).set k (.int .i64 n) = icells (F.set k n) := by
  unfold icells
  rw [List.map_set]
theorem RW.fromput {V : World} {r : Nat} {S : Rw} {ta : Option Addr} {tc g fc : Nat} {da : Option Addr} {dc : Nat} {xa : Option Addr} {xc : Nat} {w : World} (h : RW V r S ta tc (some ⟨g, 0, none⟩) fc da dc xa xc w) (k : Nat) (n : Int) : RW V r { S with F := S.F.set k n } ta tc (some ⟨g, 0, none⟩) fc da dc xa xc (w.setCell ⟨g, k, none⟩ (.int .i64 n)) := by
  obtain ⟨hVg, hk⟩ := row_kind h.frm g rfl
  have hgr : g ≠ r := by have := h.lt; omega
  have hg := grown_setS w g k (.int .i64 n)
  have kb : ∀ {a : Option Addr} {e : TypeId}, (∀ q, a = some ⟨q, 0, none⟩ → V.heap.size ≤ q ∧ KindAt w q e) → e ≠ 3 → ∀ q, a = some ⟨q, 0, none⟩ → (w.setCell ⟨g, k, none⟩ (.int .i64 n)).heap[q]? = w.heap[q]? := fun hh he q hq =>
    hg.block q (hh q hq).2.lt fun e => (hh q hq).2.ne hk he (Option.some.inj e)
  have hst : StillB (Deep V r) w (w.setCell ⟨g, k, none⟩ (.int .i64 n)) := StillB.of_grown hg fun q hq e => by
    have := Option.some.inj e
    have := hq.1
    omega
  have hF := own_setX h.frm k (.int .i64 n)
  rw [icells_set] at hF
  refine ⟨h.lt, ?_, ⟨hg.os.trans h.low.os, hg.tape.trans h.low.tape, hg.output.trans h.low.output, Nat.le_trans h.low.size hg.size, fun q hq hqr => (hg.block q (Nat.lt_of_lt_of_le hq h.low.size) fun e => by have := Option.some.inj e; omega).trans (h.low.block q hq hqr)⟩, h.toks.keep (kb h.toks.kind (by decide)) hst, ?_, h.dgs.keep (kb (row_kind h.dgs) (by decide)), h.txt.keep (kb h.txt.home (by decide)), h.ne, by show (S.F.set k n).length = _; rw [List.length_set]; exact h.same⟩
  · show _ = some (rowObj _ (.slice _ (S.F.set k n).length fc) _ _ _ _ _ _ _)
    rw [List.length_set]
    exact (hg.block r (row_lt h.obj) fun e => hgr (Option.some.inj e).symm).trans h.obj
  · show World.ownsRow _ _ _ _ (.slice _ (S.F.set k n).length fc) (S.F.set k n).length _
    rw [List.length_set]
    exact hF

theorem growR_none {S : Rw} {t : Xt} {l : Xt} (hl : S.T[S.T.length - 1]? = some l) (h1 : ¬ (S.x ≠ [] ∧ growL l.k (S.x.getLast?.getD 0) t.x.data.toList = true)) (h2 : joinL (if S.x = [] then l else { l with x := ⟨S.x.toArray⟩ }) t = none) : growR S t = (false, setL S) := by
  unfold growR
  simp only [hl]
  rw [if_neg h1, h2]
theorem growR_some {S : Rw} {t u : Xt} {l : Xt} (hl : S.T[S.T.length - 1]? = some l) (h1 : ¬ (S.x ≠ [] ∧ growL l.k (S.x.getLast?.getD 0) t.x.data.toList = true)) (h2 : joinL (if S.x = [] then l else { l with x := ⟨S.x.toArray⟩ }) t = some u) : growR S t = (true, { setL S with T := lastX (setL S).T fun _ => u, F := S.F.set (S.F.length - 1) (-1), x := u.x.data.toList }) := by
  unfold growR
  simp only [hl]
  rw [if_neg h1, h2]
theorem growR_more {S : Rw} {t : Xt} {l : Xt} (hl : S.T[S.T.length - 1]? = some l) (h1 : S.x ≠ [] ∧ growL l.k (S.x.getLast?.getD 0) t.x.data.toList = true) : growR S t = (true, { S with x := S.x ++ t.x.data.toList }) := by
  unfold growR
  simp only [hl]
  rw [if_pos h1]
theorem setL_T (S : Rw) : (setL S).T.length = S.T.length ∧ (setL S).F = S.F ∧ (setL S).D = S.D ∧ (setL S).x = [] := by
  unfold setL
  split
  · rename_i h
    exact ⟨rfl, rfl, rfl, h⟩
  · exact ⟨lastX_len _ _, rfl, rfl, rfl⟩
theorem setL_last {S : Rw} {l : Xt} (hl : S.T[S.T.length - 1]? = some l) : (setL S).T[S.T.length - 1]? = some (if S.x = [] then l else { l with x := ⟨S.x.toArray⟩ }) := by
  have h0 := (List.getElem?_eq_some_iff.1 hl).1
  unfold setL
  split
  · exact hl
  · simp only
    rw [lastX_at _ hl, List.getElem?_set_self h0]

/-- Parts' boxes are as they were. -/
def Fr (w w' : World) : Prop := ∀ q, KindAt w q 83 → w'.heap[q]? = w.heap[q]?
theorem Fr.trans {a b c : World} (h : Fr a b) (k : Fr b c) : Fr a c := fun q hq => (k q (by
  obtain ⟨cur, fz, e⟩ := hq
  exact ⟨cur, fz, (h q ⟨cur, fz, e⟩).trans e⟩)).trans (h q hq)
theorem Fr.below {w w' : World} (b : Below w.heap.size w w') : Fr w w' := fun q hq => b.block q hq.lt
theorem Fr.grown {w w' : World} {g : Nat} {e : TypeId} (hg : w.grownBy w' (some g)) (hk : KindAt w g e) (he : e ≠ 83) : Fr w w' := fun q hq => hg.block q hq.lt fun e' => hk.ne hq he (Option.some.inj e').symm
theorem SetPost.fr {V : World} {r : Nat} {S S0 : Rw} {ta : Option Addr} {tc : Nat} {fa : Option Addr} {fc : Nat} {da : Option Addr} {dc : Nat} {xa : Option Addr} {xc : Nat} {w w' : World} {e : Ending} (h : SetPost V r S ta tc fa fc da dc w e w') (hR : RW V r S0 ta tc fa fc da dc xa xc w) : Fr w w' := fun q hq =>
  h.2.2.2 q (fun e => hq.ne (⟨_, _, hR.obj⟩ : KindAt w r 79) (by decide) e) fun e => hq.ne (hR.toks.kind _ e).2 (by decide) rfl
def GrowPost (V : World) (r : Nat) (w : World) (b : Bool) (S : Rw) (e : Ending) (w' : World) : Prop := e = .returned (.bool b) ∧ ∃ ta tc fa fc da dc xa xc, RW V r S ta tc fa fc da dc xa xc w' ∧ Fr w w'
theorem grow_post {V : World} {r : Nat} {w : World} {S : Rw} {t : Xt} {b : Bool} {S' : Rw} {e : Ending} {w' : World} (h : growR S t = (b, S')) (hp : GrowPost V r w b S' e w') : GrowPost V r w (growR S t).1 (growR S t).2 e w' := by
  rw [h]
  exact hp
/-- More bytes behind the text. -/
theorem RW.more {V : World} {r : Nat} {S : Rw} {ta : Option Addr} {tc : Nat} {fa : Option Addr} {fc : Nat} {da : Option Addr} {dc : Nat} {xa : Option Addr} {xc : Nat} {w : World} {ty : TypeId} (h : RW V r S ta tc fa fc da dc xa xc w) (hx : S.x ≠ []) (s : ByteArray) (hs : S.x.length + s.size ≤ 100000000) :
    ∃ b n' c' w', (Builtin.append_ #[35, 9] ty #[.slice xa S.x.length xc, .string s]).run Try.prog w = .ok (.slice (some ⟨b, 0, none⟩) n' c') w' ∧ w'.cell? ⟨r, 8, none⟩ = some (.slice xa S.x.length xc) ∧ w'.frozen? ⟨r, 8, none⟩ = false ∧ (∀ e, e ≠ 5 → ∀ q, KindAt w q e → w'.heap[q]? = w.heap[q]?) ∧ RW V r { S with x := S.x ++ s.data.toList } ta tc fa fc da dc (some ⟨b, 0, none⟩) c' (w'.setCell ⟨r, 8, none⟩ (.slice (some ⟨b, 0, none⟩) n' c')) := by
  obtain ⟨b, n', c', w', hr, hn, hB, hg⟩ := h.txt.app (ty := ty) hx s h.size hs
  refine ⟨b, n', c', w', hr, ?_⟩
  subst hn
  have hob : ∀ q, (Value.slice xa S.x.length xc).ownBlock = some q → xa = some ⟨q, 0, none⟩ := fun q hq => by
    rcases h.txt with ⟨h1, h2⟩ | ⟨g, cap, hv, -⟩
    · exact absurd h2 hx
    · simp only [Value.slice.injEq, true_and] at hv
      rw [hv.1] at hq ⊢
      simp only [Value.ownBlock, Option.some.injEq] at hq
      rw [hq]
  have hrl := row_lt h.obj
  have hne : ∀ q, xa = some ⟨q, 0, none⟩ → q ≠ r := h.away (.inr (.inr (.inr rfl)))
  have ho1 : w'.heap[r]? = w.heap[r]? := hg.block r hrl fun e => hne r (hob r e.symm) rfl
  have kb : ∀ {a : Option Addr} {e : TypeId}, (∀ q, a = some ⟨q, 0, none⟩ → V.heap.size ≤ q ∧ KindAt w q e) → e ≠ 5 → ∀ q, a = some ⟨q, 0, none⟩ → w'.heap[q]? = w.heap[q]? := fun hh he q hq =>
    hg.block q (hh q hq).2.lt fun e => (hh q hq).2.ne (h.txt.home q (hob q e.symm)).2 he rfl
  have hst : StillB (Deep V r) w w' := StillB.of_grown hg fun q hq e => by
    have := (h.txt.home q (hob q e.symm)).1
    have := hq.1
    omega
  have hR : RW V r S ta tc fa fc da dc xa xc w → True := fun _ => trivial
  have hobj := ho1.trans h.obj
  unfold rowObj at hobj
  have hset := row_set hobj 8 (.slice (some ⟨b, 0, none⟩) (S.x ++ s.data.toList).length c')
  have hst2 := StillB.of_grown (P := Deep V r) (grown_setS w' r 8 (.slice (some ⟨b, 0, none⟩) (S.x ++ s.data.toList).length c')) fun q hq e => hq.2 (Option.some.inj e)
  have far : ∀ {a : Option Addr}, (a = ta ∨ a = fa ∨ a = da ∨ a = xa) → ∀ q, a = some ⟨q, 0, none⟩ → (w'.setCell ⟨r, 8, none⟩ (.slice (some ⟨b, 0, none⟩) (S.x ++ s.data.toList).length c')).heap[q]? = w'.heap[q]? := fun ha q hq => heap_setCell_other _ _ _ _ (h.away ha q hq)
  have hbr : b ≠ r := by
    have h1 := (hB.home b rfl).1
    have := h.lt
    omega
  refine ⟨by rw [Lib.cell_of_heap hobj]; rfl, Lib.frozen_of_heap hobj _, fun e he q hq => hg.block q hq.lt fun e' => hq.ne (h.txt.home q (hob q e'.symm)).2 he rfl, h.lt, hset.trans rfl, ?_, (h.toks.keep (kb h.toks.kind (by decide)) hst).keep (far (.inl rfl)) hst2, (h.frm.keep (kb (row_kind h.frm) (by decide))).keep (far (.inr (.inl rfl))), (h.dgs.keep (kb (row_kind h.dgs) (by decide))).keep (far (.inr (.inr (.inl rfl)))), hB.keep fun q hq => heap_setCell_other _ _ _ _ (by
    simp only [Option.some.injEq, Addr.mk.injEq, and_true] at hq
    rw [← hq]
    exact hbr), fun _ => h.ne hx, h.same⟩
  refine ⟨hg.os.trans h.low.os, hg.tape.trans h.low.tape, hg.output.trans h.low.output, ?_, fun q hq hqr => ?_⟩
  · have := hg.size
    have := h.low.size
    simp [World.setCell]
    omega
  · refine (heap_setCell_other _ _ _ _ fun e => hqr (by rw [e])).trans ((hg.block q (Nat.lt_of_lt_of_le hq h.low.size) fun e => ?_).trans (h.low.block q hq hqr))
    have := (h.txt.home q (hob q e.symm)).1
    omega

end Go.Proofs.Ytobplffailbkbaa

/-
  The last token and the next one: the project's grow, walked.
-/
namespace Go.Proofs.Ytobplffailbkbaa
open Go.RowKit Go.Maps

theorem last_at {x : List UInt8} {q : Nat} {b : UInt8} (hq : x.length = q + 1) (hb : x[q]? = some b) : x.getLast?.getD 0 = b := by
  rw [List.getLast?_eq_getElem?, hq, Nat.add_sub_cancel, hb]
  rfl
theorem bz_byte {V : World} {x : List UInt8} {a : Option Addr} {n c : Nat} {w : World} (h : BZ V x (.slice a n c) w) {q : Nat} (hq : x.length = q + 1) : ∃ g b, a = some ⟨g, 0, none⟩ ∧ x[q]? = some b ∧ w.cell? ⟨g, q, none⟩ = some (.int .u8 (b.toNat : Int)) ∧ n ≤ c ∧ c ≤ maxLen := by
  rcases h with ⟨h1, h2⟩ | ⟨g, cap, hv, -, -, h1, h2, -, h4⟩
  · rw [h2] at hq
    cases hq
  · simp only [Value.slice.injEq] at hv
    obtain ⟨rfl, rfl, rfl⟩ := hv
    have hb : x[q]? = some x[q] := List.getElem?_eq_getElem (by omega)
    exact ⟨g, _, rfl, hb, h4 q _ hb, h1, h2⟩

theorem step_apx {ops : Array Oper} {o : Oper} {a : Act} {w : World} {K : Act → World → Prop} {Q : Exit → Act → World → Prop} {E : Prop} (hgd : o.guard = none) (s x : Operand) (t u : TypeId)
    (ho : o.op = .call { callee := .builtin .append, args := #[s, x], argTypes := #[t, u] }) (sv xv : Value) (hs : a.eval s = sv) (hx : a.eval x = xv) {R : Value → World → Prop}
    (h : ∃ v' w', (Builtin.append_ #[t, u] o.type #[sv, xv]).run Try.prog w = .ok v' w' ∧ R v' w') (hK : ∀ v' w', R v' w' → K (a.put o.dst v') w') : if Region.wanted o (yielded ops a.tmps) = true then Oper.wp Try.prog o a w K Q else E := by
  have hw : Region.wanted o (yielded ops a.tmps) = true := by simp [Region.wanted, hgd]
  rw [if_pos hw]
  obtain ⟨v', w', hr, hR⟩ := h
  unfold Oper.wp execOp
  simp only [ho, resolve, invoke, builtin, Sem.run_bind, Sem.run_pure, Result.andThen_ok, List.map_toArray, List.map_cons, List.map_nil, hs, hx, hr]
  exact hK v' w' hR

structure RwFit (S : Rw) : Prop where
  toks : S.T.length ≤ 1000000
  text : S.x.length ≤ 1000000

set_option maxRecDepth 100000 in
set_option maxHeartbeats 6400000 in
theorem grow_more {V : World} {r : Nat} {S : Rw} {ta : Option Addr} {tc : Nat} {fa : Option Addr} {fc : Nat} {da : Option Addr} {dc : Nat} {xa : Option Addr} {xc : Nat} {w : World} (h : RW V r S ta tc fa fc da dc xa xc w) (hf : RwFit S) (t : Xt) (sa : Option Addr) (sn sc : Nat) (ht : t.x.size ≤ 1000000) {l : Xt} (hl : S.T[S.T.length - 1]? = some l)
    (hx : S.x ≠ []) (hg : growL l.k (S.x.getLast?.getD 0) t.x.data.toList = true) :
    Calls Try.prog 53 #[.pointer (some ⟨r, 0, none⟩), tokA t (.slice sa sn sc)] w (GrowPost V r w true { S with x := S.x ++ t.x.data.toList }) := by
  have hw1 : Below w.heap.size w (w.alloc (.cells #[.int .i64 t.k, .string t.x, .bool t.sp, .string t.g, .int .i64 t.f, .int .i64 t.t, .bool t.d, .slice sa sn sc] 26)) := (Below.refl _ _).alloc (Nat.le_refl _) _
  have hR := h.over hw1
  obtain ⟨w1, hw⟩ : ∃ w1, w.alloc (.cells #[.int .i64 t.k, .string t.x, .bool t.sp, .string t.g, .int .i64 t.f, .int .i64 t.t, .bool t.d, .slice sa sn sc] 26) = w1 := ⟨_, rfl⟩
  have hbox : w1.cell? ⟨w.heap.size, 1, none⟩ = some (.string t.x) := by rw [← hw, Lib.cell_of_heap (heap_alloc_new w _)]; rfl
  have HKW : Hid (KindAt w1 w.heap.size 26) := Lib.hid ⟨_, _, by rw [← hw]; exact heap_alloc_new w _⟩
  rw [hw] at hR hw1
  have HFW := Lib.hid (Fr.below hw1)
  have HKR : Hid (KindAt w1 r 79) := Lib.hid ⟨_, _, hR.obj⟩
  obtain ⟨k0, -, -, -, -, -, -, -, k8, -⟩ := hR.cells
  obtain ⟨g, la, ln, lc, rfl, -, -, -, ⟨c0, -⟩, -, hc1, hc2⟩ := hR.toks.tok hl
  have hlen := (List.getElem?_eq_some_iff.1 hl).1
  obtain ⟨q, hq⟩ : ∃ q, S.x.length = q + 1 := ⟨S.x.length - 1, by have := List.length_pos_iff.2 hx; omega⟩
  obtain ⟨gx, b, rfl, hb, cb, hx1, hx2⟩ := bz_byte hR.txt hq
  rw [last_at hq hb] at hg
  have hft := hf.text
  have hfk := hf.toks
  have HAP := Lib.hid (fun (ty : TypeId) (X : World) (hX : Below w1.heap.size w1 X) => (hR.over hX).more (ty := ty) hx t.x (by omega))
  obtain ⟨k, hk⟩ : ∃ k, S.T.length = k + 1 := ⟨S.T.length - 1, by omega⟩
  rw [hk] at k0 c0 hc1
  rw [Nat.add_sub_cancel] at c0
  rw [hq] at k8 hx1 HAP
  have HG : Hid (∀ X : World, Calls Try.prog 74 #[.int .i64 l.k, .int .u8 (b.toNat : Int), .string t.x] X (BoolDrew true X)) := Lib.hid (fun X => hg ▸ grows_any l.k b t.x X ht)
  have hsub : IntKind.i64.wrap (k : Int) = (k : Int) := IntWalk.i64_in _ (by omega)
  have hsub2 : IntKind.i64.wrap (q : Int) = (q : Int) := IntWalk.i64_in _ (by omega)
  have hk0 : (0 : Int) ≤ (k : Int) := by omega
  have hk1 : (k : Int) < (k : Int) + 1 := by omega
  have hq0 : (0 : Int) ≤ (q : Int) := by omega
  have hq1 : (q : Int) < (q : Int) + 1 := by omega
  have hqp : (0 : Int) < (q : Int) + 1 := by omega
  unfold maxLen at hc2 hx2
  clear h hf hl hx hg hR hlen hq hb hft hfk hk hw1
  go_enter Try.func53, Try.ntmps53
  go_wp2
  clear hw
  go_quiet ((go_at_call 74; exact quiet_bdrew (HG.out _)))
  go_wp2
  have hb2 := Below.of_drews w1 nq
  obtain ⟨wd, hwd⟩ : ∃ wd, (w1.drewN nq).drew = wd := ⟨_, rfl⟩
  have hb3 := hb2.drew
  have m8 : wd.cell? ⟨r, 8, none⟩ = some (.slice (some ⟨gx, 0, none⟩) (q + 1) xc) := by rw [← hwd]; exact k8
  have mb : wd.cell? ⟨w.heap.size, 1, none⟩ = some (.string t.x) := by rw [← hwd]; exact hbox
  have HKB : Hid (KindAt wd w.heap.size 26) := Lib.hid (by rw [← hwd]; exact HKW.out)
  have HRB : Hid (KindAt wd r 79) := Lib.hid (by rw [← hwd]; exact HKR.out)
  have HFD : Hid (Fr w wd) := Lib.hid (by rw [← hwd]; exact HFW.out)
  rw [hwd] at hb3
  have HB := Lib.hid hb3
  clear hb2 hb3 k8 hbox
  obtain ⟨bx, hbx⟩ : ∃ bx, w.heap.size = bx := ⟨_, rfl⟩
  rw [hbx] at mb HKB
  simp only [hbx]
  clear hbx
  have HSW := And.intro m8 mb
  clear m8 mb
  refine region_anyT (S := fun w' => w'.cell? ⟨r, 8, none⟩ = some (.slice (some ⟨gx, 0, none⟩) (q + 1) xc) ∧ w'.cell? ⟨bx, 1, none⟩ = some (.string t.x)) 10 (by kernel_rfl) ?_
  rw [hwd]
  refine anyT_take 0 [8, 9, 10] (v := ?_) rfl (by kernel_rfl) (fun _ _ _ h => h) (Or.inl ⟨by kernel_rfl, ?_⟩) HSW ?_
  rotate_left
  · (intro w hSw; obtain ⟨hs0, hs1⟩ := hSw; go_simp; (try with_reducible rfl))
  (try simp only [Act.put]); (try simp only [List.setIfInBounds_toArray]); (try simp only [List.set_cons_succ]); (try simp only [List.set_cons_zero])
  refine anyT_take 1 [2, 3, 4, 7, 8, 9, 10] (v := ?_) rfl (by kernel_rfl) (fun _ _ _ h => h) (Or.inl ⟨by kernel_rfl, ?_⟩) HSW ?_
  rotate_left
  · (intro w hSw; obtain ⟨hs0, hs1⟩ := hSw; go_simp; (try with_reducible rfl))
  (try simp only [Act.put]); (try simp only [List.setIfInBounds_toArray]); (try simp only [List.set_cons_succ]); (try simp only [List.set_cons_zero])
  refine anyT_take 2 [3, 4, 7, 8, 9, 10] (v := ?_) rfl (by kernel_rfl) (fun _ _ _ h => h) (Or.inl ⟨by kernel_rfl, ?_⟩) HSW ?_
  rotate_left
  · (intro w hSw; obtain ⟨hs0, hs1⟩ := hSw; go_simp; (try with_reducible rfl))
  (try simp only [Act.put]); (try simp only [List.setIfInBounds_toArray]); (try simp only [List.set_cons_succ]); (try simp only [List.set_cons_zero])
  refine anyT_take 3 [4, 7, 8, 9, 10] (v := ?_) rfl (by kernel_rfl) (fun _ _ _ h => h) (Or.inl ⟨by kernel_rfl, ?_⟩) HSW ?_
  rotate_left
  · (intro w hSw; obtain ⟨hs0, hs1⟩ := hSw; go_simp; (try with_reducible rfl))
  (try simp only [Act.put]); (try simp only [List.setIfInBounds_toArray]); (try simp only [List.set_cons_succ]); (try simp only [List.set_cons_zero])
  refine anyT_take 4 [7, 8, 9, 10] (v := ?_) rfl (by kernel_rfl) (fun _ _ _ h => h) (Or.inl ⟨by kernel_rfl, ?_⟩) HSW ?_
  rotate_left
  · (intro w hSw; obtain ⟨hs0, hs1⟩ := hSw; go_simp; (try with_reducible rfl))
  (try simp only [Act.put]); (try simp only [List.setIfInBounds_toArray]); (try simp only [List.set_cons_succ]); (try simp only [List.set_cons_zero])
  refine anyT_take 5 [6, 7, 8, 9, 10] (v := ?_) rfl (by kernel_rfl) (fun _ _ _ h => h) (Or.inl ⟨by kernel_rfl, ?_⟩) HSW ?_
  rotate_left
  · (intro w hSw; obtain ⟨hs0, hs1⟩ := hSw; go_simp; (try with_reducible rfl))
  (try simp only [Act.put]); (try simp only [List.setIfInBounds_toArray]); (try simp only [List.set_cons_succ]); (try simp only [List.set_cons_zero])
  refine anyT_take 6 [7, 8, 9, 10] (v := ?_) rfl (by kernel_rfl) (fun _ _ _ h => h) (Or.inl ⟨by kernel_rfl, ?_⟩) HSW ?_
  rotate_left
  · (intro w hSw; obtain ⟨hs0, hs1⟩ := hSw; go_simp; (try with_reducible rfl))
  (try simp only [Act.put]); (try simp only [List.setIfInBounds_toArray]); (try simp only [List.set_cons_succ]); (try simp only [List.set_cons_zero])
  refine anyT_step 7 (by kernel_rfl) rfl (fun K hK => ?_)
  refine step_apx rfl (.tmp 49) (.tmp 51) 35 9 rfl (.slice (some ⟨gx, 0, none⟩) (q + 1) xc) (.string t.x) (by kernel_rfl) (by kernel_rfl) (R := fun v w9 => ∃ b9 n9 c9, v = .slice (some ⟨b9, 0, none⟩) n9 c9 ∧ w9.cell? ⟨r, 8, none⟩ = some (.slice (some ⟨gx, 0, none⟩) (q + 1) xc) ∧ w9.frozen? ⟨r, 8, none⟩ = false ∧ (∀ e, e ≠ 5 → ∀ q, KindAt wd q e → w9.heap[q]? = wd.heap[q]?) ∧ RW V r { S with x := S.x ++ t.x.data.toList } (some ⟨g, 0, none⟩) tc fa fc da dc (some ⟨b9, 0, none⟩) c9 (w9.setCell ⟨r, 8, none⟩ (.slice (some ⟨b9, 0, none⟩) n9 c9))) ?_ ?_
  · obtain ⟨b9, n9, c9, w9, h1, h2, h3, h4, h5⟩ := HAP.out 35 _ HB.out
    exact ⟨_, w9, h1, b9, n9, c9, rfl, h2, h3, h4, h5⟩
  rintro v9 w9 ⟨b9, n9, c9, rfl, m9, z9, hk9, hR9⟩
  have HR9 := Lib.hid hR9
  have mb9 : w9.cell? ⟨bx, 1, none⟩ = some (.string t.x) := (World.cell?_of_block (hk9 _ (by decide) bx HKB.out)).trans HSW.2
  have HSW := And.intro m9 mb9
  have HFX : Hid (Fr w (w9.setCell ⟨r, 8, none⟩ (.slice (some ⟨b9, 0, none⟩) n9 c9))) := Lib.hid (HFD.out.trans (Fr.trans (b := w9) (hk9 83 (by decide)) (Fr.grown (grown_setS w9 r 8 _) (⟨_, _, (hk9 79 (by decide) r HRB.out).trans HRB.out.choose_spec.choose_spec⟩ : KindAt w9 r 79) (by decide))))
  clear hR9 hk9 mb9
  refine hK.out _ _ (fun _ => HSW) ?_
  clear hK K
  (try simp only [Act.put]); (try simp only [List.setIfInBounds_toArray]); (try simp only [List.set_cons_succ]); (try simp only [List.set_cons_zero])
  refine anyT_take 8 [9, 10] (v := ?_) rfl (by kernel_rfl) (fun _ _ _ h => h) (Or.inl ⟨by kernel_rfl, ?_⟩) HSW ?_
  rotate_left
  · (intro w hSw; obtain ⟨hs0, hs1⟩ := hSw; go_simp; (try with_reducible rfl))
  (try simp only [Act.put]); (try simp only [List.setIfInBounds_toArray]); (try simp only [List.set_cons_succ]); (try simp only [List.set_cons_zero])
  refine anyT_take 9 [10] (v := ?_) rfl (by kernel_rfl) (fun _ _ _ h => h) (Or.inl ⟨by kernel_rfl, ?_⟩) HSW ?_
  rotate_left
  · (intro w hSw; obtain ⟨hs0, hs1⟩ := hSw; go_simp; (try with_reducible rfl))
  (try simp only [Act.put]); (try simp only [List.setIfInBounds_toArray]); (try simp only [List.set_cons_succ]); (try simp only [List.set_cons_zero])
  refine anyT_step 10 (by kernel_rfl) rfl (fun K hK => ?_)
  go_simp
  refine hK.out _ _ (fun h => absurd rfl h) ?_
  clear hK K
  (try simp only [Act.put]); (try simp only [List.setIfInBounds_toArray]); (try simp only [List.set_cons_succ]); (try simp only [List.set_cons_zero])
  refine anyT_done (by kernel_rfl) ?_ _
  clear HSW m9 z9
  go_wp2
  go_ret
  exact ⟨rfl, _, _, _, _, _, _, _, _, HR9.out, HFX.out⟩

end Go.Proofs.Ytobplffailbkbaa
