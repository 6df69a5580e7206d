/-
  Texts of the proof, put together: SuN, SuQ, SuS, SuU, SuV, SuW, SuX, SuY, SuYt.
-/
import Derived.Test.YtobplffailbkbaaG36
import Derived.Test.YtobplffailbkbaaG07

/-
  What came of all parts: the project's ended, walked.
-/
namespace Go.Proofs.Ytobplffailbkbaa
open Go.RowKit Go.Maps

theorem TK.toksX {V : World} {r : Nat} {T : List Xt} {a : Option Addr} {c : Nat} {w : World} (h : TK V r T a c w) : ToksX T (.slice a T.length c) w := by
  obtain ⟨P, rfl, ho, hs⟩ := h
  exact (toks_row ho fun p hp => (hs p hp).now).2

/-- What a row ends in. -/
def EndPost (V : World) (r : Nat) (S : Rw) (e : Ending) (w' : World) : Prop :=
  ∃ a n c fa fc da dc, e = .returned (.tuple #[.slice a n c, .slice fa S.F.length fc, .slice da S.D.length dc]) ∧ n = S.T.length ∧ (a = none → c = 0) ∧ HeldIn (fun g => V.heap.size ≤ g) w' (ToksX S.T (.slice a n c)) ∧ IR V S.F fa fc w' ∧ DR V S.D da dc w' ∧ V.grownBy w' (some r)

set_option maxRecDepth 100000 in
set_option maxHeartbeats 3200000 in
theorem ended_any {V : World} {r : Nat} {S : Rw} {ta : Option Addr} {tc : Nat} {fa : Option Addr} {fc : Nat} {da : Option Addr} {dc : Nat} {xa : Option Addr} {xc : Nat} {w : World} (h : RW V r S ta tc fa fc da dc xa xc w) (hb : S.x.length ≤ 100000000 ∧ S.T.length ≤ 500000) (hS : ∀ t ∈ (setL S).T, t.ss.length ≤ 500000) :
    Calls Try.prog 33 #[.pointer (some ⟨r, 0, none⟩)] w (EndPost V r (setL S)) := by
  have HSE := Lib.hid (settle_any h ⟨hb.1, by omega⟩)
  have hT : (setL S).T.length ≤ 500000 := by rw [(setL_T S).1]; exact hb.2
  obtain ⟨S2, hS2⟩ : ∃ S2, setL S = S2 := ⟨_, rfl⟩
  rw [hS2] at HSE hS hT ⊢
  have HT := Lib.hid hT
  have HS := Lib.hid hS
  clear h hb hS hT hS2
  go_enter Try.func33, Try.ntmps33
  go_wp2_with (go_at_call 55; (with_reducible refine HSE.out.mono ?_); rintro e w2 ⟨rfl, ⟨xa2, xc2, hR⟩, -, -⟩; have HR := Lib.hid hR; clear hR)
  obtain ⟨k0, k1, k2, -⟩ := HR.out.cells
  have hlt := row_lt HR.out.obj
  have HCL : Hid (∀ X : World, Below w2.heap.size w2 X → Calls Try.prog 56 #[.slice ta S2.T.length tc] X (ToksHeld X S2.T)) := Lib.hid (fun X hX => tclone_held (HR.out.toks.toksX.over hX) HT.out HS.out)
  go_region_held3 (fun w' => w'.cell? ⟨r, 0, none⟩ = some (.slice ta S2.T.length tc) ∧ w'.cell? ⟨r, 1, none⟩ = some (.slice fa S2.F.length fc) ∧ w'.cell? ⟨r, 2, none⟩ = some (.slice da S2.D.length dc)) (first | go_keep)
    (first | (go_at_call 56; (with_reducible refine (HCL.out _ (by first | exact Below.refl _ _ | exact (Below.refl _ _).drew)).mono ?_); rintro e w3 ⟨a3, n3, c3, rfl, hn3, hz3, hh3, hb3⟩; have HN3 := Lib.hid hn3; have HZ3 := Lib.hid hz3; have HH3 := Lib.hid hh3; have hb3 := (Below.refl w2.heap.size w2).drew.trans hb3; have HB3 := Lib.hid hb3; have p0 := bcell hb3 k0 hlt; have p1 := bcell hb3 k1 hlt; have p2 := bcell hb3 k2 hlt; clear hn3 hz3 hh3 hb3))
  all_goals
    go_wp2
    have hR3 := HR.out.over HB3.out
    refine bodyPost_ret (v := .tuple #[.slice a3 n3 c3, .slice fa S2.F.length fc, .slice da S2.D.length dc]) (by simp [results, Try.results33, go_sem]) rfl ?_
    exact ⟨a3, n3, c3, fa, fc, da, dc, rfl, HN3.out, HZ3.out, HH3.out.mono (fun g hg _ => Nat.le_trans HR.out.low.size hg), hR3.frm, hR3.dgs, hR3.low⟩

end Go.Proofs.Ytobplffailbkbaa

/-
  The tokens of a part, one by one.
-/
namespace Go.Proofs.Ytobplffailbkbaa
open Go.RowKit Go.Maps

theorem held_tok {V : World} {r : Nat} {T : List Xt} {a : Option Addr} {n c : Nat} (h : HeldIn (Deep V r) V (ToksX T (.slice a n c))) {k : Nat} {t : Xt} (ht : T[k]? = some t) :
    ∃ g o sv, a = some ⟨g, o, none⟩ ∧ g < V.heap.size ∧ g ≠ r ∧ (∀ X, StillB (Deep V r) V X → TokX t sv g (o + k * 8) X) ∧ HeldIn (Deep V r) V (SitsA t.ss sv) := by
  obtain ⟨a', c', hv, -, -, h0⟩ := h.now
  simp only [Value.slice.injEq] at hv
  obtain ⟨rfl, -, rfl⟩ := hv
  obtain ⟨g, o, rfl, hg, sv, htk, -⟩ := h0 k t ht
  have hgr : g ≠ r := by
    intro e
    subst e
    obtain ⟨a', c', hv, -, -, h1⟩ := h { V with heap := V.heap.setIfInBounds g (.cells #[] 0 (0, 0)) } ⟨by simp, fun q hq _ => by
      show (V.heap.setIfInBounds g _)[q]? = _
      rw [Array.getElem?_setIfInBounds_ne (Ne.symm hq.2)]⟩
    simp only [Value.slice.injEq] at hv
    obtain ⟨rfl, -, rfl⟩ := hv
    obtain ⟨g', o', e', -, sv', ht', -⟩ := h1 k t ht
    simp only [Option.some.injEq, Addr.mk.injEq, and_true] at e'
    obtain ⟨rfl, rfl⟩ := e'
    have h2 := ht'.1
    rw [Lib.cell_of_heap (show ({ V with heap := V.heap.setIfInBounds g (.cells #[] 0 (0, 0)) } : World).heap[g]? = some (.cells #[] 0 (0, 0)) from by
      show (V.heap.setIfInBounds g _)[g]? = _
      rw [Array.getElem?_setIfInBounds_self_of_lt hg])] at h2
    simp at h2
  have key : ∀ X, StillB (Deep V r) V X → TokX t sv g (o + k * 8) X ∧ SitsA t.ss sv X := by
    intro X hX
    obtain ⟨a', c', hv, -, -, h1⟩ := h X hX
    simp only [Value.slice.injEq] at hv
    obtain ⟨rfl, -, rfl⟩ := hv
    obtain ⟨g', o', e', -, sv', ht', hs'⟩ := h1 k t ht
    simp only [Option.some.injEq, Addr.mk.injEq, and_true] at e'
    obtain ⟨rfl, rfl⟩ := e'
    have hb := hX.2 g ⟨hg, hgr⟩ hg
    have e7 := htk.2.2.2.2.2.2.2
    have e8 := ht'.2.2.2.2.2.2.2
    rw [World.cell?_of_block hb, e7] at e8
    have e9 := Option.some.inj e8
    subst e9
    exact ⟨ht', hs'⟩
  exact ⟨g, o, sv, rfl, hg, hgr, fun X hX => (key X hX).1, fun X hX => (key X hX).2⟩

end Go.Proofs.Ytobplffailbkbaa

/-
  A token, and where it came from, behind the others: the two appends.
-/
namespace Go.Proofs.Ytobplffailbkbaa
open Go.RowKit Go.Maps

theorem TK.app {V : World} {r : Nat} {T : List Xt} {a : Option Addr} {c : Nat} {w : World} {ty : TypeId} (h : TK V r T a c w) (hV : V.heap.size ≤ w.heap.size) {t : Xt} {v sv : Value} {sb : Option Addr} {sn sc : Nat} (hv : sv = .slice sb sn sc) (hsrc : Src w v 1 8 (xcell (t, sv))) (hs : HeldIn (Deep V r) w (SitsA t.ss sv)) (hn : T.length + 1 ≤ 1000000) :
    ∃ a' n' c' w', (Builtin.append_ #[28, 28] ty #[.slice a T.length c, v]).run Try.prog w = .ok (.slice a' n' c') w' ∧ n' = (T ++ [t]).length ∧ TK V r (T ++ [t]) a' c' w' ∧ w.grownBy w' (Value.slice a T.length c).ownBlock := by
  obtain ⟨P, rfl, ho, hP⟩ := h
  obtain ⟨i0, hi, hz0, hz1, hz2⟩ := info_parts Try.infoTokC
  obtain ⟨v', w', hr, h2, h3⟩ := run_app (ty := ty) Try.underlying28 hi hz0 hz1 hz2 rfl (by decide) (by decide) ho hsrc (xcell_one hv) hn hV
  obtain ⟨a', c', rfl, -⟩ := row_form h2
  have hS : StillB (Deep V r) w w' := StillB.of_grown h3 fun g hg e => by
    have := (World.ownsRow.lt ho g e.symm).1
    have := hg.1
    omega
  refine ⟨a', _, c', w', hr, by simp, ⟨P ++ [(t, sv)], by simp, ?_, fun p hp => ?_⟩, h3⟩
  · rw [xcells_snoc, List.length_append]
    simpa using h2
  · rcases List.mem_append.1 hp with hp | hp
    · exact (hP p hp).over hS
    · rw [List.mem_singleton.1 hp]
      exact hs.over hS

theorem IR.app {V : World} {F : List Int} {a : Option Addr} {c : Nat} {w : World} {ty : TypeId} (h : IR V F a c w) (hV : V.heap.size ≤ w.heap.size) {o : Int} {v : Value} (hsrc : Src w v 1 1 [.int .i64 o]) (hn : F.length + 1 ≤ 1000000) :
    ∃ a' n' c' w', (Builtin.append_ #[42, 42] ty #[.slice a F.length c, v]).run Try.prog w = .ok (.slice a' n' c') w' ∧ n' = (F ++ [o]).length ∧ IR V (F ++ [o]) a' c' w' ∧ w.grownBy w' (Value.slice a F.length c).ownBlock := by
  obtain ⟨i0, hi, hz0, hz1, hz2⟩ := info_parts Try.infoIntR
  obtain ⟨v', w', hr, h2, h3⟩ := run_app (ty := ty) Try.underlying42 hi hz0 hz1 hz2 rfl (by decide) (by decide) h hsrc (fun u hu => by
    rw [List.mem_singleton.1 hu]
    rfl) hn hV
  obtain ⟨a', c', rfl, -⟩ := row_form h2
  refine ⟨a', _, c', w', hr, by simp, ?_, h3⟩
  unfold IR icells
  rw [List.map_append, List.length_append]
  exact h2

end Go.Proofs.Ytobplffailbkbaa

/-
  The row with one more token, of its pieces.
-/
namespace Go.Proofs.Ytobplffailbkbaa
open Go.RowKit Go.Maps

theorem RW.pushed {V : World} {r : Nat} {S : Rw} {t : Xt} {o : Int} {ta ta' : Option Addr} {tc tc' : Nat} {fa fa' : Option Addr} {fc fc' : Nat} {da : Option Addr} {dc : Nat} {xa : Option Addr} {xc : Nat} {w : World} {n1 n2 : Nat} (hlt : r < V.heap.size)
    (hob : w.heap[r]? = some (rowObj (.slice ta S.T.length tc) (.slice fa S.F.length fc) (.slice da S.D.length dc) (S.a : Int) S.p S.g S.f S.t (.slice xa S.x.length xc)))
    (hlow : V.grownBy w (some r)) (hT : TK V r (S.T ++ [t]) ta' tc' w) (hF : IR V (S.F ++ [o]) fa' fc' w) (hD : DR V S.D da dc w) (hX : BZ V S.x (.slice xa S.x.length xc) w) (hs : S.F.length = S.T.length) (h1 : n1 = (S.T ++ [t]).length) (h2 : n2 = (S.F ++ [o]).length) :
    RW V r { S with T := S.T ++ [t], F := S.F ++ [o] } ta' tc' fa' fc' da dc xa xc ((w.setCell ⟨r, 0, none⟩ (.slice ta' n1 tc')).setCell ⟨r, 1, none⟩ (.slice fa' n2 fc')) := by
  subst h1 h2
  have far : ∀ g, V.heap.size ≤ g → ((w.setCell ⟨r, 0, none⟩ (.slice ta' (S.T ++ [t]).length tc')).setCell ⟨r, 1, none⟩ (.slice fa' (S.F ++ [o]).length fc')).heap[g]? = w.heap[g]? := fun g hg =>
    (heap_setCell_other _ _ _ _ (Nat.ne_of_gt (Nat.lt_of_lt_of_le hlt hg))).trans (heap_setCell_other _ _ _ _ (Nat.ne_of_gt (Nat.lt_of_lt_of_le hlt hg)))
  have hG : w.grownBy ((w.setCell ⟨r, 0, none⟩ (.slice ta' (S.T ++ [t]).length tc')).setCell ⟨r, 1, none⟩ (.slice fa' (S.F ++ [o]).length fc')) (some r) := (grown_setS _ _ _ _).trans (grown_setS _ _ _ _)
  have hS : StillB (Deep V r) w ((w.setCell ⟨r, 0, none⟩ (.slice ta' (S.T ++ [t]).length tc')).setCell ⟨r, 1, none⟩ (.slice fa' (S.F ++ [o]).length fc')) := StillB.of_grown hG fun g hg e => hg.2 (Option.some.inj e)
  unfold rowObj at hob
  refine ⟨hlt, ?_, hlow.trans hG, hT.keep (fun g hg => far g (hT.kind g hg).1) hS, hF.keep fun g hg => far g (row_kind hF g hg).1, hD.keep fun g hg => far g (row_kind hD g hg).1, hX.keep fun p hp => far p (hX.home p hp).1, fun _ => by simp, by simp [hs]⟩
  have e1 := row_set hob 0 (.slice ta' (S.T ++ [t]).length tc')
  have e2 := row_set (e1.trans rfl) 1 (.slice fa' (S.F ++ [o]).length fc')
  exact e2.trans rfl

end Go.Proofs.Ytobplffailbkbaa

/-
  An append as a step of a drawn region, by what its run gives.
-/
namespace Go.Proofs.Ytobplffailbkbaa
open Go.RowKit Go.Maps

theorem step_run {ops : Array Oper} {o : Oper} {a : Act} {w : World} {K : Act → World → Prop} {Q : Exit → Act → World → Prop} {E : Prop} (hgd : o.guard = none) (s x : Operand) (t : TypeId)
    (ho : o.op = .call { callee := .builtin .append, args := #[s, x], argTypes := #[t, t] }) (d v : Value) (hs : a.eval s = d) (hx : a.eval x = v) (R : Option Addr → Nat → Nat → World → Prop)
    (h : ∃ b n c w', (Builtin.append_ #[t, t] o.type #[d, v]).run Try.prog w = .ok (.slice b n c) w' ∧ R b n c w')
    (hK : ∀ b n c w', R b n c w' → K (a.put o.dst (.slice b n c)) w') :
    if Region.wanted o (yielded ops a.tmps) = true then Oper.wp Try.prog o a w K Q else E := by
  have hw : Region.wanted o (yielded ops a.tmps) = true := by simp [Region.wanted, hgd]
  rw [if_pos hw]
  obtain ⟨b, n, c, w', hr, hR⟩ := h
  unfold Oper.wp execOp
  simp only [ho, resolve, invoke, builtin, Sem.run_bind, Sem.run_pure, Result.andThen_ok, List.map_toArray, List.map_cons, List.map_nil, hs, hx, hr]
  exact hK b n c w' hR

end Go.Proofs.Ytobplffailbkbaa

/-
  The row between its two appends.
-/
namespace Go.Proofs.Ytobplffailbkbaa
open Go.RowKit Go.Maps

/-- The tokens have one more; the row's own block is as it was. T, F: what the two rows hold now. -/
structure RT (V : World) (r : Nat) (S : Rw) (T : List Xt) (F : List Int) (ta : Option Addr) (tc : Nat) (fa : Option Addr) (fc : Nat) (da : Option Addr) (dc : Nat) (xa : Option Addr) (xc : Nat) (ta' : Option Addr) (tc' : Nat) (fa' : Option Addr) (fc' : Nat) (w : World) : Prop where
  lt : r < V.heap.size
  obj : w.heap[r]? = some (rowObj (.slice ta S.T.length tc) (.slice fa S.F.length fc) (.slice da S.D.length dc) (S.a : Int) S.p S.g S.f S.t (.slice xa S.x.length xc))
  low : V.grownBy w (some r)
  toks : TK V r T ta' tc' w
  frm : IR V F fa' fc' w
  dgs : DR V S.D da dc w
  txt : BZ V S.x (.slice xa S.x.length xc) w

theorem grown_low {V w w' : World} {r : Nat} {b : Option Nat} (h : V.grownBy w (some r)) (hg : w.grownBy w' b) (hb : ∀ k, b = some k → V.heap.size ≤ k) : V.grownBy w' (some r) :=
  ⟨hg.os.trans h.os, hg.tape.trans h.tape, hg.output.trans h.output, Nat.le_trans h.size hg.size, fun g hlt hne => (hg.block g (Nat.lt_of_lt_of_le hlt h.size) fun e => absurd (hb g e.symm) (Nat.not_le.2 hlt)).trans (h.block g hlt hne)⟩

theorem RW.rt {V : World} {r : Nat} {S : Rw} {ta : Option Addr} {tc : Nat} {fa : Option Addr} {fc : Nat} {da : Option Addr} {dc : Nat} {xa : Option Addr} {xc : Nat} {w : World} (h : RW V r S ta tc fa fc da dc xa xc w) : RT V r S S.T S.F ta tc fa fc da dc xa xc ta tc fa fc w :=
  ⟨h.lt, h.obj, h.low, h.toks, h.frm, h.dgs, h.txt⟩

theorem RT.over {V : World} {r : Nat} {S : Rw} {T : List Xt} {F : List Int} {ta : Option Addr} {tc : Nat} {fa : Option Addr} {fc : Nat} {da : Option Addr} {dc : Nat} {xa : Option Addr} {xc : Nat} {ta' : Option Addr} {tc' : Nat} {fa' : Option Addr} {fc' : Nat} {w w' : World} (h : RT V r S T F ta tc fa fc da dc xa xc ta' tc' fa' fc' w) (b : Below w.heap.size w w') : RT V r S T F ta tc fa fc da dc xa xc ta' tc' fa' fc' w' :=
  ⟨h.lt, (b.block _ (row_lt h.obj)).trans h.obj, h.low.trans (grown_below b _), h.toks.keep (fun g hg => b.block g (h.toks.kind g hg).2.lt) (StillB.of_below b), h.frm.keep fun g hg => b.block g (row_kind h.frm g hg).2.lt, h.dgs.keep fun g hg => b.block g (row_kind h.dgs g hg).2.lt, h.txt.keep fun g hg => b.block g (h.txt.home g hg).2.lt⟩

theorem RT.tok {V : World} {r : Nat} {S : Rw} {T : List Xt} {F : List Int} {ta : Option Addr} {tc : Nat} {fa : Option Addr} {fc : Nat} {da : Option Addr} {dc : Nat} {xa : Option Addr} {xc : Nat} {ta' : Option Addr} {tc' : Nat} {fa' : Option Addr} {fc' : Nat} {w : World} {ty : TypeId} (h : RT V r S T F ta tc fa fc da dc xa xc ta' tc' fa' fc' w) {t : Xt} {v sv : Value} {sb : Option Addr} {sn sc : Nat} (hv : sv = .slice sb sn sc) (hsrc : Src w v 1 8 (xcell (t, sv))) (hs : HeldIn (Deep V r) w (SitsA t.ss sv)) (hn : T.length + 1 ≤ 1000000) :
    ∃ a' n' c' w', (Builtin.append_ #[28, 28] ty #[.slice ta' T.length tc', v]).run Try.prog w = .ok (.slice a' n' c') w' ∧ n' = (T ++ [t]).length ∧ RT V r S (T ++ [t]) F ta tc fa fc da dc xa xc a' c' fa' fc' w' ∧ w.grownBy w' (Value.slice ta' T.length tc').ownBlock := by
  obtain ⟨a', n', c', w', hr, hn', hT, hg⟩ := h.toks.app (ty := ty) h.low.size hv hsrc hs hn
  obtain ⟨P, hPT, hP, -⟩ := id h.toks
  have hown : ∀ k, (Value.slice ta' T.length tc').ownBlock = some k → V.heap.size ≤ k ∧ KindAt w k 26 := fun k hk => h.toks.kind k (own_blk hk hP)
  refine ⟨a', n', c', w', hr, hn', ⟨h.lt, ?_, grown_low h.low hg fun k hk => (hown k hk).1, hT, h.frm.keep fun g e => ?_, h.dgs.keep fun g e => ?_, h.txt.keep fun g e => ?_⟩, hg⟩
  · rw [hg.block r (row_lt h.obj) fun e => by
      have := (hown r e.symm).1
      have := h.lt
      omega]
    exact h.obj
  · exact hg.block g (row_kind h.frm g e).2.lt fun e2 => (row_kind h.frm g e).2.ne (hown g e2.symm).2 (by decide) rfl
  · exact hg.block g (row_kind h.dgs g e).2.lt fun e2 => (row_kind h.dgs g e).2.ne (hown g e2.symm).2 (by decide) rfl
  · exact hg.block g (h.txt.home g e).2.lt fun e2 => (h.txt.home g e).2.ne (hown g e2.symm).2 (by decide) rfl

theorem RT.num {V : World} {r : Nat} {S : Rw} {T : List Xt} {F : List Int} {ta : Option Addr} {tc : Nat} {fa : Option Addr} {fc : Nat} {da : Option Addr} {dc : Nat} {xa : Option Addr} {xc : Nat} {ta' : Option Addr} {tc' : Nat} {fa' : Option Addr} {fc' : Nat} {w : World} {ty : TypeId} (h : RT V r S T F ta tc fa fc da dc xa xc ta' tc' fa' fc' w) {o : Int} {v : Value} (hsrc : Src w v 1 1 [.int .i64 o]) (hn : F.length + 1 ≤ 1000000) :
    ∃ a' n' c' w', (Builtin.append_ #[42, 42] ty #[.slice fa' F.length fc', v]).run Try.prog w = .ok (.slice a' n' c') w' ∧ n' = (F ++ [o]).length ∧ RT V r S T (F ++ [o]) ta tc fa fc da dc xa xc ta' tc' a' c' w' ∧ w.grownBy w' (Value.slice fa' F.length fc').ownBlock := by
  obtain ⟨a', n', c', w', hr, hn', hF, hg⟩ := h.frm.app (ty := ty) h.low.size hsrc hn
  have hown : ∀ k, (Value.slice fa' F.length fc').ownBlock = some k → V.heap.size ≤ k ∧ KindAt w k 3 := fun k hk => row_kind h.frm k (own_blk hk h.frm)
  have hS : StillB (Deep V r) w w' := StillB.of_grown hg fun g hd e => by
    have := (hown g e.symm).1
    have := hd.1
    omega
  refine ⟨a', n', c', w', hr, hn', ⟨h.lt, ?_, grown_low h.low hg fun k hk => (hown k hk).1, h.toks.keep (fun g e => ?_) hS, hF, h.dgs.keep fun g e => ?_, h.txt.keep fun g e => ?_⟩, hg⟩
  · rw [hg.block r (row_lt h.obj) fun e => by
      have := (hown r e.symm).1
      have := h.lt
      omega]
    exact h.obj
  · exact hg.block g (h.toks.kind g e).2.lt fun e2 => (h.toks.kind g e).2.ne (hown g e2.symm).2 (by decide) rfl
  · exact hg.block g (row_kind h.dgs g e).2.lt fun e2 => (row_kind h.dgs g e).2.ne (hown g e2.symm).2 (by decide) rfl
  · exact hg.block g (h.txt.home g e).2.lt fun e2 => (h.txt.home g e).2.ne (hown g e2.symm).2 (by decide) rfl

theorem RT.done {V : World} {r : Nat} {S : Rw} {t : Xt} {o : Int} {ta : Option Addr} {tc : Nat} {fa : Option Addr} {fc : Nat} {da : Option Addr} {dc : Nat} {xa : Option Addr} {xc : Nat} {ta' : Option Addr} {tc' : Nat} {fa' : Option Addr} {fc' : Nat} {w : World} (h : RT V r S (S.T ++ [t]) (S.F ++ [o]) ta tc fa fc da dc xa xc ta' tc' fa' fc' w) (hs : S.F.length = S.T.length) :
    RW V r { S with T := S.T ++ [t], F := S.F ++ [o] } ta' tc' fa' fc' da dc xa xc ((w.setCell ⟨r, 0, none⟩ (.slice ta' (S.T ++ [t]).length tc')).setCell ⟨r, 1, none⟩ (.slice fa' (S.F ++ [o]).length fc')) :=
  RW.pushed h.lt h.obj h.low h.toks h.frm h.dgs h.txt hs rfl rfl

end Go.Proofs.Ytobplffailbkbaa

/-
  What stays while the row is appended to.
-/
namespace Go.Proofs.Ytobplffailbkbaa
open Go.RowKit Go.Maps

theorem RT.sits {V : World} {r : Nat} {S : Rw} {T : List Xt} {F : List Int} {ta : Option Addr} {tc : Nat} {fa : Option Addr} {fc : Nat} {da : Option Addr} {dc : Nat} {xa : Option Addr} {xc : Nat} {ta' : Option Addr} {tc' : Nat} {fa' : Option Addr} {fc' : Nat} {w : World} (h : RT V r S T F ta tc fa fc da dc xa xc ta' tc' fa' fc' w) {R : World → Prop} (hs : HeldIn (Deep V r) V R) : HeldIn (Deep V r) w R :=
  hs.over (StillB.of_grown h.low fun _ hg e => hg.2 (Option.some.inj e))
theorem RT.owns {V : World} {r : Nat} {S : Rw} {T : List Xt} {F : List Int} {ta : Option Addr} {tc : Nat} {fa : Option Addr} {fc : Nat} {da : Option Addr} {dc : Nat} {xa : Option Addr} {xc : Nat} {ta' : Option Addr} {tc' : Nat} {fa' : Option Addr} {fc' : Nat} {w : World} (h : RT V r S T F ta tc fa fc da dc xa xc ta' tc' fa' fc' w) :
    (∀ k, (Value.slice ta' T.length tc').ownBlock = some k → V.heap.size ≤ k ∧ KindAt w k 26 ∧ ta' = some ⟨k, 0, none⟩) ∧ (∀ k, (Value.slice fa' F.length fc').ownBlock = some k → V.heap.size ≤ k ∧ KindAt w k 3) := by
  obtain ⟨P, -, hP, -⟩ := id h.toks
  exact ⟨fun k hk => ⟨(h.toks.kind k (own_blk hk hP)).1, (h.toks.kind k (own_blk hk hP)).2, own_blk hk hP⟩, fun k hk => row_kind h.frm k (own_blk hk h.frm)⟩
theorem src_num {w : World} {g : Nat} {o : Int} (h : w.heap[g]? = some (.cells #[.int .i64 o] 3)) : Src w (.slice (some ⟨g, 0, none⟩) 1 1) 1 1 [.int .i64 o] := by
  refine .inr ⟨_, 1, rfl, rfl, fun j u hj => ?_⟩
  rw [addr_add, Lib.cell_of_heap h]
  match j, hj with
  | 0, hj => exact hj

/-- The row's own block, the part's box, and the token's. -/
def St5 (r b0 b5 : Nat) (o1 o2 o3 : Option Obj) (w : World) : Prop := w.heap[r]? = o1 ∧ w.heap[b0]? = o2 ∧ w.heap[b5]? = o3
theorem St5.open {r b0 b5 : Nat} {X w : World} (h : St5 r b0 b5 X.heap[r]? X.heap[b0]? X.heap[b5]? w) : ∀ j, w.cell? ⟨r, j, none⟩ = X.cell? ⟨r, j, none⟩ ∧ w.cell? ⟨b0, j, none⟩ = X.cell? ⟨b0, j, none⟩ ∧ w.cell? ⟨b5, j, none⟩ = X.cell? ⟨b5, j, none⟩ := fun _ => ⟨World.cell?_of_block h.1, World.cell?_of_block h.2.1, World.cell?_of_block h.2.2⟩
theorem St5.over {r b0 b5 : Nat} {o1 o2 o3 : Obj} {w w' : World} (h : St5 r b0 b5 (some o1) (some o2) (some o3) w) (b : Below w.heap.size w w') : St5 r b0 b5 (some o1) (some o2) (some o3) w' :=
  ⟨(b.block _ (row_lt h.1)).trans h.1, (b.block _ (row_lt h.2.1)).trans h.2.1, (b.block _ (row_lt h.2.2)).trans h.2.2⟩
theorem St5.grown {r b0 b5 : Nat} {o1 o2 o3 : Obj} {w w' : World} {k : Option Nat} (h : St5 r b0 b5 (some o1) (some o2) (some o3) w) (hg : w.grownBy w' k) (h1 : some r ≠ k) (h2 : some b0 ≠ k) (h3 : some b5 ≠ k) : St5 r b0 b5 (some o1) (some o2) (some o3) w' :=
  ⟨(hg.block _ (row_lt h.1) h1).trans h.1, (hg.block _ (row_lt h.2.1) h2).trans h.2.1, (hg.block _ (row_lt h.2.2) h3).trans h.2.2⟩
theorem RT.st_tok {V : World} {r : Nat} {S : Rw} {T : List Xt} {F : List Int} {ta : Option Addr} {tc : Nat} {fa : Option Addr} {fc : Nat} {da : Option Addr} {dc : Nat} {xa : Option Addr} {xc : Nat} {ta' : Option Addr} {tc' : Nat} {fa' : Option Addr} {fc' : Nat} {w w' : World} (h : RT V r S T F ta tc fa fc da dc xa xc ta' tc' fa' fc' w) {b0 b5 : Nat} {o1 o3 : Obj} {q : Pt} {sv : Value} (hs : St5 r b0 b5 (some o1) (some (.cells #[.bool q.p, .string q.g, .int .i64 q.f, .int .i64 q.t, sv, .int .i64 q.o] 83)) (some o3) w) (h5 : ta' ≠ some ⟨b5, 0, none⟩) (hg : w.grownBy w' (Value.slice ta' T.length tc').ownBlock) :
    St5 r b0 b5 (some o1) (some (.cells #[.bool q.p, .string q.g, .int .i64 q.f, .int .i64 q.t, sv, .int .i64 q.o] 83)) (some o3) w' := by
  refine hs.grown hg (fun e => ?_) (fun e => ?_) (fun e => h5 (h.owns.1 b5 e.symm).2.2)
  · have := (h.owns.1 r e.symm).1
    have := h.lt
    omega
  · have hk : KindAt w b0 83 := ⟨_, _, hs.2.1⟩
    exact hk.ne (h.owns.1 b0 e.symm).2.1 (by decide) rfl
theorem RT.st_num {V : World} {r : Nat} {S : Rw} {T : List Xt} {F : List Int} {ta : Option Addr} {tc : Nat} {fa : Option Addr} {fc : Nat} {da : Option Addr} {dc : Nat} {xa : Option Addr} {xc : Nat} {ta' : Option Addr} {tc' : Nat} {fa' : Option Addr} {fc' : Nat} {w w' : World} (h : RT V r S T F ta tc fa fc da dc xa xc ta' tc' fa' fc' w) {b0 b5 : Nat} {o1 : Obj} {q : Pt} {sv : Value} {p : Xt × Value} (hs : St5 r b0 b5 (some o1) (some (.cells #[.bool q.p, .string q.g, .int .i64 q.f, .int .i64 q.t, sv, .int .i64 q.o] 83)) (some (tokObj p)) w) (hg : w.grownBy w' (Value.slice fa' F.length fc').ownBlock) :
    St5 r b0 b5 (some o1) (some (.cells #[.bool q.p, .string q.g, .int .i64 q.f, .int .i64 q.t, sv, .int .i64 q.o] 83)) (some (tokObj p)) w' := by
  refine hs.grown hg (fun e => ?_) (fun e => ?_) (fun e => ?_)
  · have := (h.owns.2 r e.symm).1
    have := h.lt
    omega
  · have hk : KindAt w b0 83 := ⟨_, _, hs.2.1⟩
    exact hk.ne (h.owns.2 b0 e.symm).2 (by decide) rfl
  · have hk : KindAt w b5 26 := ⟨_, _, hs.2.2⟩
    exact hk.ne (h.owns.2 b5 e.symm).2 (by decide) rfl

end Go.Proofs.Ytobplffailbkbaa

/-
  A region that draws its order, whose last stores (those of N) write what it loads: the loads may be taken first all the same, for the stores wait for them.
-/
namespace Go.Proofs.Ytobplffailbkbaa
open Go.RowKit

section
theorem done_mono {done : Array Bool} (j k : Nat) (h : done.getD k true = true) : (done.setIfInBounds j true).getD k true = true := by
  simp only [Array.getD_eq_getD_getElem?, Array.getElem?_setIfInBounds] at h ⊢
  by_cases e : j = k
  · subst e
    rw [if_pos rfl]
    split <;> rfl
  · rw [if_neg e]
    exact h

variable {P : Program} {ops : Array Oper} {Q : Exit → Act → World → Prop} {md : Region.Mode} {S : World → Prop} {N : List Nat}

/-- Whatever order is picked; S holds behind each operation but those of N. -/
def anyL (P : Program) (md : Region.Mode) (ops : Array Oper) (Q : Exit → Act → World → Prop) (S : World → Prop) (N : List Nat) : Nat → Array Bool → Act → World → Prop
  | 0, done, a, w => Region.ready md ops done = [] ∧ Q .normal a w
  | m + 1, done, a, w => (Region.ready md ops done = [] → Q .normal a w) ∧
    ∀ j ∈ Region.ready md ops done, wpOp P ops Q j (fun b x => (N.contains j = false → S x) ∧ anyL P md ops Q S N m (done.setIfInBounds j true) b x) a w

theorem any_of_anyL : ∀ (m : Nat) (done : Array Bool) (a : Act) (w : World), anyL P md ops Q S N m done a w → wpAny P md ops Q m done a w
  | 0, _, _, _, h => h
  | m + 1, _, _, _, h => ⟨h.1, fun j hj => wpOp_mono (fun b x hx => any_of_anyL m _ b x hx.2) (h.2 j hj)⟩

/-- Where all orders end in what has been done. -/
theorem anyL_done {done : Array Bool} {a : Act} {w : World} (hr : Region.ready md ops done = []) (h : Q .normal a w) : ∀ m, anyL P md ops Q S N m done a w
  | 0 => ⟨hr, h⟩
  | _ + 1 => ⟨fun _ => h, by rw [hr]; simp⟩

theorem anyL_first {i : Nat} {oi : Oper} {v : Value} {D : List Nat} (hi : ops[i]? = some oi) (hsel : ∀ (j : Nat) (o : Oper) cs b, ops[j]? = some o → o.op ≠ .select cs b)
    (hQ : ∀ c a w, Q (.panic c) (a.put oi.dst v) w → Q (.panic c) a w) (hD : waitsB md ops i D = true) :
    ∀ (m : Nat) (done : Array Bool) (a : Act) (w : World), (∀ d ∈ D, done.getD d false = false) → (∀ k, N.contains k = true → k ∈ D ∨ done.getD k true = true) →
      (∀ k ok, ops[k]? = some ok → k ≠ i → done.getD k true = false → (∀ e ∈ ok.after, Region.binds md e = true → e.on ≠ i) → oi.apart ops ok = true) →
      i ∈ Region.ready md ops done → YieldsIf P ops S oi v a → S w →
      anyL P md ops Q S N m (done.setIfInBounds i true) (a.put oi.dst v) w → anyL P md ops Q S N (m + 1) done a w := by
  intro m
  induction m with
  | zero =>
    intro done a w _ _ _ hr hy hT H
    refine ⟨fun h => (by rw [h] at hr; cases hr), fun j hj => ?_⟩
    by_cases e : j = i
    · rw [e]
      exact hy.wpOp hi hT ⟨fun _ => hT, H⟩
    · have h1 := ready_mono hj e
      rw [H.1] at h1
      cases h1
  | succ m ih =>
    intro done a w hRd hst hf hr hy hT H
    refine ⟨fun h => (by rw [h] at hr; cases hr), fun j hj => ?_⟩
    by_cases e : j = i
    · rw [e]
      exact hy.wpOp hi hT ⟨fun _ => hT, H⟩
    · obtain ⟨hjd, oj, hoj, hall⟩ := mem_ready.1 hj
      have hid := (mem_ready.1 hr).1
      have hno := waits_not hid hall
      have hjD := waits_keep hD hRd hid hj
      have hne : N.contains j = false := by
        cases h : N.contains j with
        | false => rfl
        | true =>
          rcases hst j h with h1 | h1
          · exact absurd h1 hjD
          · rw [hjd] at h1
            cases h1
      have h2 := wpOp_putIf hoj (hf j oj hoj e hjd hno) (fun cs b => hsel i oi cs b hi) (fun cs b => hsel j oj cs b hoj) hQ hy (H.2 j (ready_mono hj e))
      refine wpOp_mono (fun b x h3 => ⟨h3.2.1, ih (done.setIfInBounds j true) b x (fun d hd => ?_) (fun k hk => ?_) (stays_free hf hjd) (ready_mono hr (Ne.symm e)) h3.1 (h3.2.1 hne) ?_⟩) h2
      · rw [getD_set_ne false (fun h => hjD (by rw [h]; exact hd))]
        exact hRd d hd
      · exact (hst k hk).imp id (done_mono j k)
      · rw [Array.setIfInBounds_comm _ _ e]
        exact h3.2.2

/-- Take number i first. -/
theorem anyL_take (i : Nat) (D : List Nat) {oi : Oper} {v : Value} {m : Nat} {done : Array Bool} {a : Act} {w : World} (hi : ops[i]? = some oi)
    (hs : (Region.noSelect ops && Region.free md ops done i && (Region.ready md ops done).contains i && waitsB md ops i D && N.all (fun k => D.contains k || done.getD k true) && D.all fun d => !(done.getD d false)) = true)
    (hQ : ∀ c a w, Q (.panic c) (a.put oi.dst v) w → Q (.panic c) a w) (hy : YieldsIf P ops S oi v a) (hS : S w)
    (h : anyL P md ops Q S N m (done.setIfInBounds i true) (a.put oi.dst v) w) : anyL P md ops Q S N (m + 1) done a w := by
  simp only [Bool.and_eq_true] at hs
  obtain ⟨⟨⟨⟨⟨h1, h2⟩, h3⟩, h4⟩, h5⟩, h6⟩ := hs
  refine anyL_first hi (Region.noSelect_spec h1) hQ h4 m done a w (fun d hd => ?_) (fun k hk => ?_) (Region.free_spec hi h2) (by simpa using h3) hy hS h
  · have := List.all_eq_true.1 h6 d hd
    simpa using this
  · have := List.all_eq_true.1 h5 k (by simpa using hk)
    simpa using this

/-- One that needs no S, whenever it may come, is taken first. -/
theorem anyL_free {i : Nat} {oi : Oper} {v : Value} {D : List Nat} (hi : ops[i]? = some oi) (hsel : ∀ (j : Nat) (o : Oper) cs b, ops[j]? = some o → o.op ≠ .select cs b)
    (hQ : ∀ c a w, Q (.panic c) (a.put oi.dst v) w → Q (.panic c) a w) (hD : waitsB md ops i D = true) (hn : N.contains i = true) :
    ∀ (m : Nat) (done : Array Bool) (a : Act) (w : World), (∀ d ∈ D, done.getD d false = false) →
      (∀ k ok, ops[k]? = some ok → k ≠ i → done.getD k true = false → (∀ e ∈ ok.after, Region.binds md e = true → e.on ≠ i) → oi.apart ops ok = true) →
      i ∈ Region.ready md ops done → YieldsIf P ops (fun _ => True) oi v a →
      anyL P md ops Q S N m (done.setIfInBounds i true) (a.put oi.dst v) w → anyL P md ops Q S N (m + 1) done a w := by
  intro m
  induction m with
  | zero =>
    intro done a w _ _ hr hy H
    refine ⟨fun h => (by rw [h] at hr; cases hr), fun j hj => ?_⟩
    by_cases e : j = i
    · rw [e]
      exact hy.wpOp hi trivial ⟨fun h => (by rw [hn] at h; cases h), H⟩
    · have h1 := ready_mono hj e
      rw [H.1] at h1
      cases h1
  | succ m ih =>
    intro done a w hRd hf hr hy H
    refine ⟨fun h => (by rw [h] at hr; cases hr), fun j hj => ?_⟩
    by_cases e : j = i
    · rw [e]
      exact hy.wpOp hi trivial ⟨fun h => (by rw [hn] at h; cases h), H⟩
    · obtain ⟨hjd, oj, hoj, hall⟩ := mem_ready.1 hj
      have hid := (mem_ready.1 hr).1
      have hjD := waits_keep hD hRd hid hj
      have h2 := wpOp_putIf hoj (hf j oj hoj e hjd (waits_not hid hall)) (fun cs b => hsel i oi cs b hi) (fun cs b => hsel j oj cs b hoj) hQ hy (H.2 j (ready_mono hj e))
      refine wpOp_mono (fun b x h3 => ⟨h3.2.1, ih (done.setIfInBounds j true) b x (fun d hd => ?_) (stays_free hf hjd) (ready_mono hr (Ne.symm e)) h3.1 ?_⟩) h2
      · rw [getD_set_ne false (fun h => hjD (by rw [h]; exact hd))]
        exact hRd d hd
      · rw [Array.setIfInBounds_comm _ _ e]
        exact h3.2.2

/-- The one that may come up comes up. -/
theorem anyL_step (i : Nat) {o : Oper} {m : Nat} {done : Array Bool} {a : Act} {w : World} (hr : Region.ready md ops done = [i]) (ho : ops[i]? = some o)
    (h : ∀ K' : Act → World → Prop, Shut (∀ b x, (N.contains i = false → S x) → anyL P md ops Q S N m (done.setIfInBounds i true) b x → K' b x) → if Region.wanted o (yielded ops a.tmps) = true then Oper.wp P o a w K' Q else K' (a.put o.dst undef) w) :
    anyL P md ops Q S N (m + 1) done a w := by
  refine ⟨fun h0 => (by rw [h0] at hr; cases hr), fun j hj => ?_⟩
  rw [hr] at hj
  simp only [List.mem_cons, List.not_mem_nil, or_false] at hj
  rw [hj]
  exact wpOp_step ho fun K' hK => h K' fun b x hs hx => hK b x ⟨hs, hx⟩

/-- The beginning. -/
theorem region_anyL (S : World → Prop) (N : List Nat) {id : Nat} {a : Act} {w : World} (hm : P.follows .mixedOrders = true)
    (h : anyL P .any ops Q S N ops.size (Array.replicate ops.size false) a w.drew) : (Code.region id ops true).wp P Q a w :=
  wp_region_any hm (any_of_anyL _ _ _ _ h)

end

end Go.Proofs.Ytobplffailbkbaa

/-
  Steps of such a region: a take with its place given, and a branch of two.
-/
namespace Go.Proofs.Ytobplffailbkbaa
open Go.RowKit

theorem anyL_takeD {P : Program} {ops : Array Oper} {Q : Exit → Act → World → Prop} {md : Region.Mode} {S : World → Prop} {N : List Nat} (i : Nat) (D : List Nat) (d : Tmp) {oi : Oper} {v : Value} {m : Nat} {done : Array Bool} {a : Act} {w : World} (hi : ops[i]? = some oi) (hd : oi.dst = some d)
    (hs : (Region.noSelect ops && Region.free md ops done i && (Region.ready md ops done).contains i && waitsB md ops i D && N.all (fun k => D.contains k || done.getD k true) && D.all fun d => !(done.getD d false)) = true)
    (hQ : ∀ c a w, Q (.panic c) (a.put oi.dst v) w → Q (.panic c) a w) (hy : YieldsIf P ops S oi v a) (hS : S w)
    (h : anyL P md ops Q S N m (done.setIfInBounds i true) { a with tmps := a.tmps.setIfInBounds d v } w) : anyL P md ops Q S N (m + 1) done a w :=
  anyL_take i D hi hs hQ hy hS (by rw [hd]; exact h)
theorem anyL_freeD {P : Program} {ops : Array Oper} {Q : Exit → Act → World → Prop} {md : Region.Mode} {S : World → Prop} {N : List Nat} (i : Nat) (D : List Nat) (d : Tmp) {oi : Oper} {v : Value} {m : Nat} {done : Array Bool} {a : Act} {w : World} (hi : ops[i]? = some oi) (hd : oi.dst = some d)
    (hs : (Region.noSelect ops && Region.free md ops done i && (Region.ready md ops done).contains i && waitsB md ops i D && N.contains i && D.all fun d => !(done.getD d false)) = true)
    (hQ : ∀ c a w, Q (.panic c) (a.put oi.dst v) w → Q (.panic c) a w) (hy : YieldsIf P ops (fun _ => True) oi v a)
    (h : anyL P md ops Q S N m (done.setIfInBounds i true) { a with tmps := a.tmps.setIfInBounds d v } w) : anyL P md ops Q S N (m + 1) done a w := by
  simp only [Bool.and_eq_true] at hs
  obtain ⟨⟨⟨⟨⟨h1, h2⟩, h3⟩, h4⟩, h5⟩, h6⟩ := hs
  refine anyL_free hi (Region.noSelect_spec h1) hQ h4 h5 m done a w (fun d hd => ?_) (Region.free_spec hi h2) (by simpa using h3) hy (by rw [hd]; exact h)
  have := List.all_eq_true.1 h6 d hd
  simpa using this
theorem anyL_two {P : Program} {ops : Array Oper} {Q : Exit → Act → World → Prop} {md : Region.Mode} {S : World → Prop} {N : List Nat} (i j : Nat) {oi oj : Oper} {m : Nat} {done : Array Bool} {a : Act} {w : World} (hr : Region.ready md ops done = [i, j]) (hi : ops[i]? = some oi) (hj : ops[j]? = some oj)
    (h1 : ∀ K' : Act → World → Prop, Shut (∀ b x, (N.contains i = false → S x) → anyL P md ops Q S N m (done.setIfInBounds i true) b x → K' b x) → if Region.wanted oi (yielded ops a.tmps) = true then Oper.wp P oi a w K' Q else K' (a.put oi.dst undef) w)
    (h2 : ∀ K' : Act → World → Prop, Shut (∀ b x, (N.contains j = false → S x) → anyL P md ops Q S N m (done.setIfInBounds j true) b x → K' b x) → if Region.wanted oj (yielded ops a.tmps) = true then Oper.wp P oj a w K' Q else K' (a.put oj.dst undef) w) :
    anyL P md ops Q S N (m + 1) done a w := by
  refine ⟨fun h0 => (by rw [h0] at hr; cases hr), fun k hk => ?_⟩
  rw [hr] at hk
  simp only [List.mem_cons, List.not_mem_nil, or_false] at hk
  rcases hk with rfl | rfl
  · exact wpOp_step hi fun K' hK => h1 K' fun b x hs hx => hK b x ⟨hs, hx⟩
  · exact wpOp_step hj fun K' hK => h2 K' fun b x hs hx => hK b x ⟨hs, hx⟩

end Go.Proofs.Ytobplffailbkbaa
