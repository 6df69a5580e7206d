/-
  Texts of the proof, put together: LxS, HeldT.
-/
import Derived.Test.YtipipookgcdfbaaG09
import Derived.RegionTactic
import Derived.BigRegion
import Derived.Deep.RegionWith
import Derived.Deep.RegionHeld3
import Derived.Deep.AppendLies
import Derived.Deep.RegionLaw
import Derived.Test.YtipipookgcdfbaaG01

/-
  span, tell, pass, endLine and take of the project, walked.
-/
namespace Go.Proofs.Ytipipookgcdfbaa
open Go.RowKit

theorem rnF_of {L : List Rn} {i : Nat} {r : Rn} (h : L[i]? = some r) : rnF L i = r.f := by unfold rnF; rw [h]
theorem rnT_of {L : List Rn} {i : Nat} {r : Rn} (h : L[i]? = some r) : rnT L i = r.t := by unfold rnT; rw [h]

/-- Where the characters are. -/
theorem Big.row {W : World} {g : Nat} {L : List Rn} {c : WC} {B1 : Nat} {P : List (Value × Ln)} {a : Acc} {w : World} (h : Big W g L c B1 P a w) : ∃ ra cap, c.rv = .slice ra L.length cap ∧ L.length ≤ cap ∧ cap ≤ maxLen ∧ ∀ i, i < L.length → ∃ b, ra = some ⟨b, 0, none⟩ ∧ b < w.heap.size ∧ w.cell? ⟨b, i * 3 + 1, none⟩ = some (.int .i64 (rnF L i : Int)) ∧ w.cell? ⟨b, i * 3 + 2, none⟩ = some (.int .i64 (rnT L i : Int)) := by
  have hc : CRow W c.rv L w := ⟨h.runes, h.low⟩
  obtain ⟨ra, cap, hv, h1, h2, h3⟩ := crow_cells hc
  refine ⟨ra, cap, hv, h1, h2, fun i hi => ?_⟩
  obtain ⟨r, hr⟩ : ∃ r, L[i]? = some r := ⟨_, List.getElem?_eq_getElem hi⟩
  obtain ⟨b, hb, hlt, -, e1, e2⟩ := h3 i r hr
  exact ⟨b, hb, hlt, by rw [rnF_of hr]; exact e1, by rw [rnT_of hr]; exact e2⟩

def spanPost (F : ByteArray) (x y : Nat) (w : World) (e : Ending) (w' : World) : Prop :=
  e = .returned (.agg #[.string F, .int .i64 (x : Int), .int .i64 (y : Int)]) ∧ Below w.heap.size w w'

/-- The walk at a place, in a state. -/
structure Env where
  W : World
  g : Nat
  L : List Rn
  F : ByteArray
  ch : ByteArray
  sz : Nat

def Was (E : Env) (i st bg : Nat) (a : Acc) (w : World) : Prop :=
  ∃ c B1 P, c.F = E.F ∧ c.ch = E.ch ∧ c.sz = E.sz ∧ c.i = i ∧ c.st = st ∧ c.bg = bg ∧ Big E.W E.g E.L c B1 P a w
def WasPost (E : Env) (i st bg : Nat) (a : Acc) (e : Ending) (w' : World) : Prop := e = .returned (.tuple #[]) ∧ Was E i st bg a w'

theorem step_ex {ops : Array Oper} {o : Oper} {a : Act} {w : World} {K : Act → World → Prop} {Q : Exit → Act → World → Prop} {E : Prop} (hgd : o.guard = none) (s x : Operand) (t : TypeId)
    (ho : o.op = .call { callee := .builtin .append, args := #[s, x], argTypes := #[t, t] }) (R : Nat → Nat → Nat → World → Prop) (d v : Value) (hs : a.eval s = d) (hx : a.eval x = v)
    (h : ∃ b n cap w', (Builtin.append_ #[t, t] o.type #[d, v]).run Try.prog w = .ok (.slice (some ⟨b, 0, none⟩) n cap) w' ∧ R b n cap w') (hK : ∀ b n cap w', R b n cap w' → K (a.put o.dst (.slice (some ⟨b, 0, none⟩) n cap)) w') :
    if Region.wanted o (yielded ops a.tmps) = true then Oper.wp Try.prog o a w K Q else E := by
  have hw : Region.wanted o (yielded ops a.tmps) = true := by simp [Region.wanted, hgd]
  rw [if_pos hw]
  obtain ⟨b, n, cap, w', hr, hR⟩ := h
  unfold Oper.wp execOp
  simp only [ho, resolve, invoke, builtin, Sem.run_bind, Sem.run_pure, Result.andThen_ok, List.map_toArray, List.map_cons, List.map_nil, hs, hx, hr]
  exact hK b n cap w' hR

theorem Big.pushD2 {W : World} {g : Nat} {L : List Rn} {c : WC} {B1 : Nat} {P : List (Value × Ln)} {a : Acc} {w : World} {ty : TypeId} {d0 sv : Value} (h : Big W g L c B1 P a w) (hv : c.dv = d0) (d : Dg) (hs : Src w sv 1 4 (dcell c.F d)) (hn : a.diags.length ≤ 500000) :
    ∃ b n cap w', (Builtin.append_ #[77, 77] ty #[d0, sv]).run Try.prog w = .ok (.slice (some ⟨b, 0, none⟩) n cap) w' ∧ PushD W g L c B1 P { a with diags := a.diags ++ [d] } b n cap w' := hv ▸ h.pushD d hs hn
theorem Big.pushT2 {W : World} {g : Nat} {L : List Rn} {c : WC} {B1 : Nat} {P : List (Value × Ln)} {a : Acc} {w : World} {ty : TypeId} {d0 sv : Value} (h : Big W g L c B1 P a w) (hv : c.tv = d0) (t : Tk) (hs : Src w sv 1 8 (tcell c.F t)) (hn : a.toks.length ≤ 500000) :
    ∃ b n cap w', (Builtin.append_ #[22, 22] ty #[d0, sv]).run Try.prog w = .ok (.slice (some ⟨b, 0, none⟩) n cap) w' ∧ PushT W g L c B1 P { a with toks := a.toks ++ [t] } b n cap w' := hv ▸ h.pushT t hs hn
theorem Big.pushL2 {W : World} {g : Nat} {L : List Rn} {c : WC} {B1 : Nat} {P : List (Value × Ln)} {a : Acc} {w : World} {ty : TypeId} {d0 d1 sv : Value} (h : Big W g L c B1 P a w) (hv : c.lv = d0) (ht : c.tv = d1) (to : Nat) (o : Bool) (hs : Src w sv 1 4 (lcell (d1, ⟨a.toks, a.fr, to, o⟩))) (hn : a.lines.length ≤ 500000) :
    ∃ b n cap w', (Builtin.append_ #[84, 84] ty #[d0, sv]).run Try.prog w = .ok (.slice (some ⟨b, 0, none⟩) n cap) w' ∧ PushL W g L c (endA a to o) to b n cap w' := by
  subst hv ht
  exact h.pushL to o hs hn

theorem heap_drew {w : World} {b : Nat} {o : Option Obj} (h : w.heap[b]? = o) : w.drew.heap[b]? = o := h

end Go.Proofs.Ytipipookgcdfbaa

/-
  A region that draws its order, whose last store writes a cell that it loads: the loads may be taken first all the same, for the store waits for them.
-/
namespace Go.Proofs.Ytipipookgcdfbaa
open Go.RowKit

section
variable {P : Program} {ops : Array Oper} {Q : Exit → Act → World → Prop} {md : Region.Mode} {S : World → Prop} {st : Nat}

/-- Whatever order is picked; S holds behind each operation but the one numbered st. -/
def anyT (P : Program) (md : Region.Mode) (ops : Array Oper) (Q : Exit → Act → World → Prop) (S : World → Prop) (st : Nat) : Nat → Array Bool → Act → World → Prop
  | 0, done, a, w => Region.ready md ops done = [] ∧ Q .normal a w
  | m + 1, done, a, w => (Region.ready md ops done = [] → Q .normal a w) ∧
    ∀ j ∈ Region.ready md ops done, wpOp P ops Q j (fun b x => (j ≠ st → S x) ∧ anyT P md ops Q S st m (done.setIfInBounds j true) b x) a w

theorem any_of_anyT : ∀ (m : Nat) (done : Array Bool) (a : Act) (w : World), anyT P md ops Q S st m done a w → wpAny P md ops Q m done a w
  | 0, _, _, _, h => h
  | m + 1, _, _, _, h => ⟨h.1, fun j hj => wpOp_mono (fun b x hx => any_of_anyT m _ b x hx.2) (h.2 j hj)⟩

/-- Where all orders end in what has been done. -/
theorem anyT_done {done : Array Bool} {a : Act} {w : World} (hr : Region.ready md ops done = []) (h : Q .normal a w) : ∀ m, anyT P md ops Q S st m done a w
  | 0 => ⟨hr, h⟩
  | _ + 1 => ⟨fun _ => h, by rw [hr]; simp⟩

theorem stays_free {i j : Nat} {oi : Oper} {done : Array Bool}
    (hf : ∀ k ok, ops[k]? = some ok → k ≠ i → done.getD k true = false → (∀ e ∈ ok.after, Region.binds md e = true → e.on ≠ i) → oi.apart ops ok = true) (hj : done.getD j true = false) :
    ∀ k ok, ops[k]? = some ok → k ≠ i → (done.setIfInBounds j true).getD k true = false → (∀ e ∈ ok.after, Region.binds md e = true → e.on ≠ i) → oi.apart ops ok = true := by
  intro k ok hk hki hun hno
  refine hf k ok hk hki ?_ hno
  by_cases e : j = k
  · rw [← e]; exact hj
  · rwa [getD_set_ne true e] at hun

/-- Nobody who is ready waits for i, which has not come up. -/
theorem waits_not {i : Nat} {oj : Oper} {done : Array Bool} (hi : done.getD i true = false) (hall : ∀ e ∈ oj.after, Region.binds md e = true → done.getD e.on false = true) : ∀ e ∈ oj.after, Region.binds md e = true → e.on ≠ i := by
  intro e he hb h
  have h1 := hall e he hb
  rw [h] at h1
  rcases Nat.lt_or_ge i done.size with h' | h'
  · simp [h'] at hi h1
    rw [hi] at h1
    cases h1
  · simp [Array.getElem?_eq_none h'] at h1

/-- All of D wait, each for i or for another of D. -/
def waitsB (md : Region.Mode) (ops : Array Oper) (i : Nat) (D : List Nat) : Bool := D.all fun d => match ops[d]? with
  | some o => o.after.any fun e => Region.binds md e && (e.on == i || D.contains e.on)
  | none => false

theorem waits_keep {i j : Nat} {D : List Nat} {done : Array Bool} (hD : waitsB md ops i D = true) (hn : ∀ d ∈ D, done.getD d false = false) (hi : done.getD i true = false) (hj : j ∈ Region.ready md ops done) : j ∉ D := by
  intro hjD
  obtain ⟨-, oj, hoj, hall⟩ := mem_ready.1 hj
  have h1 := List.all_eq_true.1 hD j hjD
  simp only [hoj] at h1
  obtain ⟨e, he, hb⟩ := Array.any_eq_true'.1 h1
  simp only [Bool.and_eq_true, Bool.or_eq_true, beq_iff_eq, List.contains_iff_mem] at hb
  rcases hb.2 with h2 | h2
  · exact waits_not hi hall e he hb.1 h2
  · have h3 := hall e he hb.1
    rw [hn _ h2] at h3
    cases h3

theorem anyT_first {i : Nat} {oi : Oper} {v : Value} {D : List Nat} (hi : ops[i]? = some oi) (hsel : ∀ (j : Nat) (o : Oper) cs b, ops[j]? = some o → o.op ≠ .select cs b)
    (hQ : ∀ c a w, Q (.panic c) (a.put oi.dst v) w → Q (.panic c) a w) (hD : waitsB md ops i D = true) (hst : st ∈ D) :
    ∀ (m : Nat) (done : Array Bool) (a : Act) (w : World), (∀ d ∈ D, done.getD d false = false) →
      (∀ k ok, ops[k]? = some ok → k ≠ i → done.getD k true = false → (∀ e ∈ ok.after, Region.binds md e = true → e.on ≠ i) → oi.apart ops ok = true) →
      i ∈ Region.ready md ops done → YieldsIf P ops S oi v a → S w →
      anyT P md ops Q S st m (done.setIfInBounds i true) (a.put oi.dst v) w → anyT P md ops Q S st (m + 1) done a w := by
  intro m
  induction m with
  | zero =>
    intro done a w _ _ hr hy hT H
    refine ⟨fun h => (by rw [h] at hr; cases hr), fun j hj => ?_⟩
    by_cases e : j = i
    · rw [e]
      exact hy.wpOp hi hT ⟨fun _ => hT, H⟩
    · have h1 := ready_mono hj e
      rw [H.1] at h1
      cases h1
  | succ m ih =>
    intro done a w hRd hf hr hy hT H
    refine ⟨fun h => (by rw [h] at hr; cases hr), fun j hj => ?_⟩
    by_cases e : j = i
    · rw [e]
      exact hy.wpOp hi hT ⟨fun _ => hT, H⟩
    · obtain ⟨hjd, oj, hoj, hall⟩ := mem_ready.1 hj
      have hid := (mem_ready.1 hr).1
      have hno := waits_not hid hall
      have hjD := waits_keep hD hRd hid hj
      have hne : j ≠ st := fun h => hjD (h ▸ hst)
      have h2 := wpOp_putIf hoj (hf j oj hoj e hjd hno) (fun cs b => hsel i oi cs b hi) (fun cs b => hsel j oj cs b hoj) hQ hy (H.2 j (ready_mono hj e))
      refine wpOp_mono (fun b x h3 => ⟨h3.2.1, ih (done.setIfInBounds j true) b x (fun d hd => ?_) (stays_free hf hjd) (ready_mono hr (Ne.symm e)) h3.1 (h3.2.1 hne) ?_⟩) h2
      · rw [getD_set_ne false (fun h => hjD (by rw [h]; exact hd))]
        exact hRd d hd
      · rw [Array.setIfInBounds_comm _ _ e]
        exact h3.2.2

/-- Take number i first. -/
theorem anyT_take (i : Nat) (D : List Nat) {oi : Oper} {v : Value} {m : Nat} {done : Array Bool} {a : Act} {w : World} (hi : ops[i]? = some oi)
    (hs : (Region.noSelect ops && Region.free md ops done i && (Region.ready md ops done).contains i && waitsB md ops i D && D.contains st && D.all fun d => !(done.getD d false)) = true)
    (hQ : ∀ c a w, Q (.panic c) (a.put oi.dst v) w → Q (.panic c) a w) (hy : YieldsIf P ops S oi v a) (hS : S w)
    (h : anyT P md ops Q S st m (done.setIfInBounds i true) (a.put oi.dst v) w) : anyT P md ops Q S st (m + 1) done a w := by
  simp only [Bool.and_eq_true] at hs
  obtain ⟨⟨⟨⟨⟨h1, h2⟩, h3⟩, h4⟩, h5⟩, h6⟩ := hs
  refine anyT_first hi (Region.noSelect_spec h1) hQ h4 (by simpa using h5) m done a w (fun d hd => ?_) (Region.free_spec hi h2) (by simpa using h3) hy hS h
  have := List.all_eq_true.1 h6 d hd
  simpa using this

/-- The one that may come up comes up. -/
theorem anyT_step (i : Nat) {o : Oper} {m : Nat} {done : Array Bool} {a : Act} {w : World} (hr : Region.ready md ops done = [i]) (ho : ops[i]? = some o)
    (h : ∀ K' : Act → World → Prop, Shut (∀ b x, (i ≠ st → S x) → anyT P md ops Q S st m (done.setIfInBounds i true) b x → K' b x) → if Region.wanted o (yielded ops a.tmps) = true then Oper.wp P o a w K' Q else K' (a.put o.dst undef) w) :
    anyT P md ops Q S st (m + 1) done a w := by
  refine ⟨fun h0 => (by rw [h0] at hr; cases hr), fun j hj => ?_⟩
  rw [hr] at hj
  simp only [List.mem_cons, List.not_mem_nil, or_false] at hj
  rw [hj]
  exact wpOp_step ho fun K' hK => h K' fun b x hs hx => hK b x ⟨hs, hx⟩

/-- The beginning. -/
theorem region_anyT (S : World → Prop) (st : Nat) {id : Nat} {a : Act} {w : World} (hm : P.follows .mixedOrders = true)
    (h : anyT P .any ops Q S st ops.size (Array.replicate ops.size false) a w.drew) : (Code.region id ops true).wp P Q a w :=
  wp_region_any hm (any_of_anyT _ _ _ _ h)

end

end Go.Proofs.Ytipipookgcdfbaa
