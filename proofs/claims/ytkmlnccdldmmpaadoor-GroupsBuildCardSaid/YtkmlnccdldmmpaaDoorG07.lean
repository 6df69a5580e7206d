/-
  Texts of the proof, put together: LxB, LxS, HeldT, LxT3, LxE, LxStep, RBack, Back, LxOver.
-/
import Derived.Test.YtkmlnccdldmmpaaDoorG05
import Derived.Test.YtkmlnccdldmmpaaDoorG06
import Derived.RegionTactic
import Derived.BigRegion
import Derived.Deep.RegionWith
import Derived.Deep.RegionHeld3
import Derived.Deep.AppendLies
import Derived.Test.YtkmlnccdldmmpaaDoorG01
import Derived.Laws.BytesArg

/-
  What the walk of the project holds in memory, all of it: its block, its rows, the lines that are done.
-/
namespace Go.Proofs.YtkmlnccdldmmpaaDoor
open Go.RowKit

theorem Tryd.infoTok : (Tryd.prog.info? 36).map (fun i => (i.zero, i.size, i.bytes)) = some (some (.agg #[.int .i64 0, .string ⟨#[]⟩, .bool false, .string ⟨#[]⟩, .int .i64 0, .int .i64 0, .bool false, .slice none 0 0]), 8, 96) := by kernel_rfl

theorem Tryd.infoLine : (Tryd.prog.info? 61).map (fun i => (i.zero, i.size, i.bytes)) = some (some (.agg #[.slice none 0 0, .int .i64 0, .int .i64 0, .bool false]), 4, 48) := by kernel_rfl

theorem Tryd.infoDiag : (Tryd.prog.info? 63).map (fun i => (i.zero, i.size, i.bytes)) = some (some (.agg #[.int .i64 0, .string ⟨#[]⟩, .int .i64 0, .int .i64 0]), 4, 40) := by kernel_rfl

theorem Tryd.infoRLine : (Tryd.prog.info? 79).map (fun i => (i.zero, i.size, i.bytes)) = some (some (.agg #[.slice none 0 0, .int .i64 0, .int .i64 0, .bool false]), 4, 48) := by kernel_rfl

def tcell (F : ByteArray) (t : Tk) : List Value := [.int .i64 (t.k : Int), .string ⟨t.x.toArray⟩, .bool t.sp, .string F, .int .i64 (t.f : Int), .int .i64 (t.t : Int), .bool false, .slice none 0 0]
def tcells (F : ByteArray) (T : List Tk) : List Value := T.flatMap (tcell F)
def lcell (p : Value × Ln) : List Value := [p.1, .int .i64 (p.2.f : Int), .int .i64 (p.2.t : Int), .bool p.2.o]
def lcells (P : List (Value × Ln)) : List Value := P.flatMap lcell
def dcell (F : ByteArray) (d : Dg) : List Value := [.int .i64 (d.c : Int), .string F, .int .i64 (d.f : Int), .int .i64 (d.t : Int)]
def dcells (F : ByteArray) (D : List Dg) : List Value := D.flatMap (dcell F)

theorem tcells_snoc (F : ByteArray) (T : List Tk) (t : Tk) : tcells F (T ++ [t]) = tcells F T ++ tcell F t := by simp [tcells]
theorem lcells_snoc (P : List (Value × Ln)) (p : Value × Ln) : lcells (P ++ [p]) = lcells P ++ lcell p := by simp [lcells]
theorem dcells_snoc (F : ByteArray) (D : List Dg) (d : Dg) : dcells F (D ++ [d]) = dcells F D ++ dcell F d := by simp [dcells]

theorem flat_get {α : Type} {f : α → List Value} {n : Nat} (hf : ∀ a, (f a).length = n) : ∀ (l : List α) (i : Nat) (a : α), l[i]? = some a → ∀ j, j < n → (l.flatMap f)[i * n + j]? = (f a)[j]?
  | [], i, a, h, _, _ => by simp at h
  | x :: r, 0, a, h, j, hj => by
    simp only [List.getElem?_cons_zero, Option.some.injEq] at h
    subst h
    rw [List.flatMap_cons, List.getElem?_append_left (by rw [hf]; omega)]
    simp
  | x :: r, i + 1, a, h, j, hj => by
    rw [List.flatMap_cons, List.getElem?_append_right (by rw [hf, Nat.succ_mul]; omega), hf, Nat.succ_mul]
    have := flat_get hf r i a (by simpa using h) j hj
    rw [← this]
    congr 1
    omega

/-- The kind of the block that a row lies in. -/
theorem own_kind {B : Nat} {w : World} {e : TypeId} {size : Nat} {v : Value} {n : Nat} {xs : List Value} (h : w.ownsRow B e size v n xs) {k : Nat} (hk : v.ownBlock = some k) : ∃ cs, w.heap[k]? = some (.cells cs e (0, 0)) := by
  obtain ⟨-, h2 | ⟨g, cap, cur, rfl, -, hh, -⟩⟩ := h
  · rw [h2.1] at hk
    cases hk
  · simp only [Value.ownBlock, Option.some.injEq] at hk
    subst hk
    exact ⟨cur, hh⟩

theorem own_apart {B B2 : Nat} {w : World} {e e2 : TypeId} {size size2 : Nat} {v v2 : Value} {n n2 : Nat} {xs xs2 : List Value} (h : w.ownsRow B e size v n xs) (h2 : w.ownsRow B2 e2 size2 v2 n2 xs2) (he : e ≠ e2) : v.ownBlock = none ∨ v.ownBlock ≠ v2.ownBlock := by
  cases hk : v.ownBlock with
  | none => exact .inl rfl
  | some k =>
    refine .inr fun e3 => he ?_
    obtain ⟨c1, h3⟩ := own_kind h hk
    obtain ⟨c2, h4⟩ := own_kind h2 e3.symm
    rw [h3] at h4
    simp only [Option.some.injEq, Obj.cells.injEq] at h4
    exact h4.2.1

theorem own_off {B : Nat} {w : World} {e e2 : TypeId} {size : Nat} {v : Value} {n : Nat} {xs : List Value} {g : Nat} {cs : Array Value} (h : w.ownsRow B e size v n xs) (hg : w.heap[g]? = some (.cells cs e2 (0, 0))) (he : e ≠ e2) : v.ownBlock = none ∨ v.ownBlock ≠ some g := by
  cases hk : v.ownBlock with
  | none => exact .inl rfl
  | some k =>
    refine .inr fun e3 => he ?_
    cases e3
    obtain ⟨c1, h3⟩ := own_kind h hk
    rw [hg] at h3
    simp only [Option.some.injEq, Obj.cells.injEq] at h3
    exact h3.2.1.symm

/-- The source of an append, just laid. -/
theorem src_row {w : World} {b : Nat} {cs : Array Value} {e : TypeId} {n : Nat} {news : List Value} (h : w.heap[b]? = some (.cells cs e (0, 0))) (hn : cs.toList = news) (hl : news.length = n) : Src w (.slice (some ⟨b, 0, none⟩) 1 1) 1 n news :=
  .inr ⟨_, 1, rfl, by omega, fun j u hj => by
    rw [addr_add, Lib.cell_of_heap h, ← Array.getElem?_toList, hn]
    exact hj⟩

theorem append_form {B : Nat} {w : World} {e : TypeId} {size : Nat} {v : Value} {n : Nat} {xs : List Value} (h : w.ownsRow B e size v n xs) (hn : 0 < n) : ∃ b cap, v = .slice (some ⟨b, 0, none⟩) n cap := by
  obtain ⟨-, h2 | ⟨g, cap, cur, rfl, -⟩⟩ := h
  · omega
  · exact ⟨g, cap, rfl⟩

theorem own_lt {B : Nat} {w : World} {e : TypeId} {size : Nat} {v : Value} {n : Nat} {xs : List Value} (h : w.ownsRow B e size v n xs) {k : Nat} (hk : v.ownBlock = some k) : k < w.heap.size := (World.ownsRow.lt h k hk).2

end Go.Proofs.YtkmlnccdldmmpaaDoor

/-
  span, tell, pass, endLine and take of the project, walked.
-/
namespace Go.Proofs.YtkmlnccdldmmpaaDoor
open Go.RowKit

theorem rnF_of {L : List Rn} {i : Nat} {r : Rn} (h : L[i]? = some r) : rnF L i = r.f := by unfold rnF; rw [h]
theorem rnT_of {L : List Rn} {i : Nat} {r : Rn} (h : L[i]? = some r) : rnT L i = r.t := by unfold rnT; rw [h]

def spanPost (F : ByteArray) (x y : Nat) (w : World) (e : Ending) (w' : World) : Prop :=
  e = .returned (.agg #[.string F, .int .i64 (x : Int), .int .i64 (y : Int)]) ∧ Below w.heap.size w w'

/-- The walk at a place, in a state. -/
structure Env where
  W : World
  g : Nat
  L : List Rn
  F : ByteArray
  ch : ByteArray
  sz : Nat

theorem step_ex {ops : Array Oper} {o : Oper} {a : Act} {w : World} {K : Act → World → Prop} {Q : Exit → Act → World → Prop} {E : Prop} (hgd : o.guard = none) (s x : Operand) (t : TypeId)
    (ho : o.op = .call { callee := .builtin .append, args := #[s, x], argTypes := #[t, t] }) (R : Nat → Nat → Nat → World → Prop) (d v : Value) (hs : a.eval s = d) (hx : a.eval x = v)
    (h : ∃ b n cap w', (Builtin.append_ #[t, t] o.type #[d, v]).run Tryd.prog w = .ok (.slice (some ⟨b, 0, none⟩) n cap) w' ∧ R b n cap w') (hK : ∀ b n cap w', R b n cap w' → K (a.put o.dst (.slice (some ⟨b, 0, none⟩) n cap)) w') :
    if Region.wanted o (yielded ops a.tmps) = true then Oper.wp Tryd.prog o a w K Q else E := by
  have hw : Region.wanted o (yielded ops a.tmps) = true := by simp [Region.wanted, hgd]
  rw [if_pos hw]
  obtain ⟨b, n, cap, w', hr, hR⟩ := h
  unfold Oper.wp execOp
  simp only [ho, resolve, invoke, builtin, Sem.run_bind, Sem.run_pure, Result.andThen_ok, List.map_toArray, List.map_cons, List.map_nil, hs, hx, hr]
  exact hK b n cap w' hR

theorem heap_drew {w : World} {b : Nat} {o : Option Obj} (h : w.heap[b]? = o) : w.drew.heap[b]? = o := h

end Go.Proofs.YtkmlnccdldmmpaaDoor

/-
  A region that draws its order, whose last store writes a cell that it loads: the loads may be taken first all the same, for the store waits for them.
-/
namespace Go.Proofs.YtkmlnccdldmmpaaDoor
open Go.RowKit

section
variable {P : Program} {ops : Array Oper} {Q : Exit → Act → World → Prop} {md : Region.Mode} {S : World → Prop} {st : Nat}

/-- Whatever order is picked; S holds behind each operation but the one numbered st. -/
def anyT (P : Program) (md : Region.Mode) (ops : Array Oper) (Q : Exit → Act → World → Prop) (S : World → Prop) (st : Nat) : Nat → Array Bool → Act → World → Prop
  | 0, done, a, w => Region.ready md ops done = [] ∧ Q .normal a w
  | m + 1, done, a, w => (Region.ready md ops done = [] → Q .normal a w) ∧
    ∀ j ∈ Region.ready md ops done, wpOp P ops Q j (fun b x => (j ≠ st → S x) ∧ anyT P md ops Q S st m (done.setIfInBounds j true) b x) a w

theorem any_of_anyT : ∀ (m : Nat) (done : Array Bool) (a : Act) (w : World), anyT P md ops Q S st m done a w → wpAny P md ops Q m done a w
  | 0, _, _, _, h => h
  | m + 1, _, _, _, h => ⟨h.1, fun j hj => wpOp_mono (fun b x hx => any_of_anyT m _ b x hx.2) (h.2 j hj)⟩

/-- Where all orders end in what has been done. -/
theorem anyT_done {done : Array Bool} {a : Act} {w : World} (hr : Region.ready md ops done = []) (h : Q .normal a w) : ∀ m, anyT P md ops Q S st m done a w
  | 0 => ⟨hr, h⟩
  | _ + 1 => ⟨fun _ => h, by rw [hr]; simp⟩

theorem stays_free {i j : Nat} {oi : Oper} {done : Array Bool}
    (hf : ∀ k ok, ops[k]? = some ok → k ≠ i → done.getD k true = false → (∀ e ∈ ok.after, Region.binds md e = true → e.on ≠ i) → oi.apart ops ok = true) (hj : done.getD j true = false) :
    ∀ k ok, ops[k]? = some ok → k ≠ i → (done.setIfInBounds j true).getD k true = false → (∀ e ∈ ok.after, Region.binds md e = true → e.on ≠ i) → oi.apart ops ok = true := by
  intro k ok hk hki hun hno
  refine hf k ok hk hki ?_ hno
  by_cases e : j = k
  · rw [← e]; exact hj
  · rwa [getD_set_ne true e] at hun

/-- Nobody who is ready waits for i, which has not come up. -/
theorem waits_not {i : Nat} {oj : Oper} {done : Array Bool} (hi : done.getD i true = false) (hall : ∀ e ∈ oj.after, Region.binds md e = true → done.getD e.on false = true) : ∀ e ∈ oj.after, Region.binds md e = true → e.on ≠ i := by
  intro e he hb h
  have h1 := hall e he hb
  rw [h] at h1
  rcases Nat.lt_or_ge i done.size with h' | h'
  · simp [h'] at hi h1
    rw [hi] at h1
    cases h1
  · simp [Array.getElem?_eq_none h'] at h1

/-- All of D wait, each for i or for another of D. -/
def waitsB (md : Region.Mode) (ops : Array Oper) (i : Nat) (D : List Nat) : Bool := D.all fun d => match ops[d]? with
  | some o => o.after.any fun e => Region.binds md e && (e.on == i || D.contains e.on)
  | none => false

theorem waits_keep {i j : Nat} {D : List Nat} {done : Array Bool} (hD : waitsB md ops i D = true) (hn : ∀ d ∈ D, done.getD d false = false) (hi : done.getD i true = false) (hj : j ∈ Region.ready md ops done) : j ∉ D := by
  intro hjD
  obtain ⟨-, oj, hoj, hall⟩ := mem_ready.1 hj
  have h1 := List.all_eq_true.1 hD j hjD
  simp only [hoj] at h1
  obtain ⟨e, he, hb⟩ := Array.any_eq_true'.1 h1
  simp only [Bool.and_eq_true, Bool.or_eq_true, beq_iff_eq, List.contains_iff_mem] at hb
  rcases hb.2 with h2 | h2
  · exact waits_not hi hall e he hb.1 h2
  · have h3 := hall e he hb.1
    rw [hn _ h2] at h3
    cases h3

theorem anyT_first {i : Nat} {oi : Oper} {v : Value} {D : List Nat} (hi : ops[i]? = some oi) (hsel : ∀ (j : Nat) (o : Oper) cs b, ops[j]? = some o → o.op ≠ .select cs b)
    (hQ : ∀ c a w, Q (.panic c) (a.put oi.dst v) w → Q (.panic c) a w) (hD : waitsB md ops i D = true) (hst : st ∈ D) :
    ∀ (m : Nat) (done : Array Bool) (a : Act) (w : World), (∀ d ∈ D, done.getD d false = false) →
      (∀ k ok, ops[k]? = some ok → k ≠ i → done.getD k true = false → (∀ e ∈ ok.after, Region.binds md e = true → e.on ≠ i) → oi.apart ops ok = true) →
      i ∈ Region.ready md ops done → YieldsIf P ops S oi v a → S w →
      anyT P md ops Q S st m (done.setIfInBounds i true) (a.put oi.dst v) w → anyT P md ops Q S st (m + 1) done a w := by
  intro m
  induction m with
  | zero =>
    intro done a w _ _ hr hy hT H
    refine ⟨fun h => (by rw [h] at hr; cases hr), fun j hj => ?_⟩
    by_cases e : j = i
    · rw [e]
      exact hy.wpOp hi hT ⟨fun _ => hT, H⟩
    · have h1 := ready_mono hj e
      rw [H.1] at h1
      cases h1
  | succ m ih =>
    intro done a w hRd hf hr hy hT H
    refine ⟨fun h => (by rw [h] at hr; cases hr), fun j hj => ?_⟩
    by_cases e : j = i
    · rw [e]
      exact hy.wpOp hi hT ⟨fun _ => hT, H⟩
    · obtain ⟨hjd, oj, hoj, hall⟩ := mem_ready.1 hj
      have hid := (mem_ready.1 hr).1
      have hno := waits_not hid hall
      have hjD := waits_keep hD hRd hid hj
      have hne : j ≠ st := fun h => hjD (h ▸ hst)
      have h2 := wpOp_putIf hoj (hf j oj hoj e hjd hno) (fun cs b => hsel i oi cs b hi) (fun cs b => hsel j oj cs b hoj) hQ hy (H.2 j (ready_mono hj e))
      refine wpOp_mono (fun b x h3 => ⟨h3.2.1, ih (done.setIfInBounds j true) b x (fun d hd => ?_) (stays_free hf hjd) (ready_mono hr (Ne.symm e)) h3.1 (h3.2.1 hne) ?_⟩) h2
      · rw [getD_set_ne false (fun h => hjD (by rw [h]; exact hd))]
        exact hRd d hd
      · rw [Array.setIfInBounds_comm _ _ e]
        exact h3.2.2

/-- Take number i first. -/
theorem anyT_take (i : Nat) (D : List Nat) {oi : Oper} {v : Value} {m : Nat} {done : Array Bool} {a : Act} {w : World} (hi : ops[i]? = some oi)
    (hs : (Region.noSelect ops && Region.free md ops done i && (Region.ready md ops done).contains i && waitsB md ops i D && D.contains st && D.all fun d => !(done.getD d false)) = true)
    (hQ : ∀ c a w, Q (.panic c) (a.put oi.dst v) w → Q (.panic c) a w) (hy : YieldsIf P ops S oi v a) (hS : S w)
    (h : anyT P md ops Q S st m (done.setIfInBounds i true) (a.put oi.dst v) w) : anyT P md ops Q S st (m + 1) done a w := by
  simp only [Bool.and_eq_true] at hs
  obtain ⟨⟨⟨⟨⟨h1, h2⟩, h3⟩, h4⟩, h5⟩, h6⟩ := hs
  refine anyT_first hi (Region.noSelect_spec h1) hQ h4 (by simpa using h5) m done a w (fun d hd => ?_) (Region.free_spec hi h2) (by simpa using h3) hy hS h
  have := List.all_eq_true.1 h6 d hd
  simpa using this

/-- The one that may come up comes up. -/
theorem anyT_step (i : Nat) {o : Oper} {m : Nat} {done : Array Bool} {a : Act} {w : World} (hr : Region.ready md ops done = [i]) (ho : ops[i]? = some o)
    (h : ∀ K' : Act → World → Prop, Shut (∀ b x, (i ≠ st → S x) → anyT P md ops Q S st m (done.setIfInBounds i true) b x → K' b x) → if Region.wanted o (yielded ops a.tmps) = true then Oper.wp P o a w K' Q else K' (a.put o.dst undef) w) :
    anyT P md ops Q S st (m + 1) done a w := by
  refine ⟨fun h0 => (by rw [h0] at hr; cases hr), fun j hj => ?_⟩
  rw [hr] at hj
  simp only [List.mem_cons, List.not_mem_nil, or_false] at hj
  rw [hj]
  exact wpOp_step ho fun K' hK => h K' fun b x hs hx => hK b x ⟨hs, hx⟩

/-- The beginning. -/
theorem region_anyT (S : World → Prop) (st : Nat) {id : Nat} {a : Act} {w : World} (hm : P.follows .mixedOrders = true)
    (h : anyT P .any ops Q S st ops.size (Array.replicate ops.size false) a w.drew) : (Code.region id ops true).wp P Q a w :=
  wp_region_any hm (any_of_anyT _ _ _ _ h)

end

end Go.Proofs.YtkmlnccdldmmpaaDoor

/-
  take of the project, walked.
-/
namespace Go.Proofs.YtkmlnccdldmmpaaDoor
open Go.RowKit

/-- s[i:j] of a string. -/
theorem slice_lh (s : ByteArray) (l h : Nat) (h1 : l ≤ h) (h2 : h ≤ s.size) (w : World) : (Instr.slice 9 (.string s) (some (.int .i64 (l : Int))) (some (.int .i64 (h : Int))) none).run Tryd.prog w = .ok (.string (s.extract l h)) w := by
  have a1 : (l : Int) ≤ (h : Int) := by omega
  have a2 : (h : Int) ≤ (s.size : Int) := by omega
  have a3 : (0 : Int) ≤ (l : Int) := by omega
  have a4 : (0 : Int) ≤ (h : Int) := by omega
  simp [Instr.slice, run_underlying Tryd.underlying9, Instr.sliceBounds, run_sliceBound, *]

theorem ext_text (s : ByteArray) (a b : Nat) : s.extract a b = ⟨((s.data.toList.drop a).take (b - a)).toArray⟩ := by
  have h := ext_data s a b
  obtain ⟨d⟩ := s
  rw [← h]

end Go.Proofs.YtkmlnccdldmmpaaDoor

/-
  pass and endLine of the project, walked.
-/
namespace Go.Proofs.YtkmlnccdldmmpaaDoor
open Go.RowKit

end Go.Proofs.YtkmlnccdldmmpaaDoor

/-
  step of the project, walked: state by state.
-/
namespace Go.Proofs.YtkmlnccdldmmpaaDoor
open Go.RowKit

end Go.Proofs.YtkmlnccdldmmpaaDoor

/-
  The document's own Back, in memory; a row of bytes as a text.
-/
namespace Go.Proofs.YtkmlnccdldmmpaaDoor
open Go.RowKit

def bcells (bs : List UInt8) : List Value := bs.map fun c => Value.int .u8 (c.toNat : Int)
theorem bcells_len (bs : List UInt8) : (bcells bs).length = bs.length := by simp [bcells]

theorem Tryd.infoByte : (Tryd.prog.info? 5).map (fun i => (i.zero, i.size, i.bytes)) = some (some (.int .u8 0), 1, 1) := by kernel_rfl

def BRow (W : World) (v : Value) (bs : List UInt8) (w : World) : Prop := Up W 5 1 v bs.length (bcells bs) w

theorem byte_one {x : Int} : ∀ u ∈ [Value.int .u8 x], u.oneCell' = true := by
  intro u hu
  simp only [List.mem_cons, List.not_mem_nil, or_false] at hu
  subst hu
  rfl

theorem BRow.push {W : World} {v : Value} {bs : List UInt8} {w : World} {x : Int} (c : UInt8) (h : Up W 5 1 v (bs.length + 1) (bcells bs ++ [.int .u8 x]) w) (hx : x = (c.toNat : Int)) : BRow W v (bs ++ [c]) w := by
  unfold BRow
  rw [List.length_append]
  have e : bcells (bs ++ [c]) = bcells bs ++ [.int .u8 x] := by rw [hx]; simp [bcells]
  rw [e]
  exact h

set_option maxRecDepth 100000 in
theorem brow_text {W : World} {a : Option Addr} {cap : Nat} {bs : List UInt8} {w : World} (h : BRow W (.slice a bs.length cap) bs w) : (convert 115 9 (.slice a bs.length cap)).run Tryd.prog w = .ok (.string ⟨bs.toArray⟩) w := by
  obtain ⟨a', cap', hv, -, -, hcell⟩ := row_form h.1
  simp only [Value.slice.injEq] at hv
  obtain ⟨rfl, -, rfl⟩ := hv
  cases hb : bs with
  | nil =>
    subst hb
    obtain ⟨-, ⟨hv, -⟩ | ⟨g, c', cur, hv, -⟩⟩ := h.1
    · simp only [Value.slice.injEq] at hv
      obtain ⟨rfl, -, rfl⟩ := hv
      exact run_convert_bytes_nil (P := Tryd.prog) w 115 5 Tryd.underlying115 Tryd.underlying5 0 0 9 Tryd.underlying9
    · simp only [Value.slice.injEq] at hv
      obtain ⟨rfl, -, rfl⟩ := hv
      exact run_convert_bytes_arg (P := Tryd.prog) w 115 5 Tryd.underlying115 Tryd.underlying5 g 0 0 cap [] rfl (fun i hi => by omega) 9 Tryd.underlying9
  | cons b0 bt =>
    have h0 : (bcells bs)[0]? = some (.int .u8 (b0.toNat : Int)) := by rw [hb]; rfl
    obtain ⟨g, rfl, -, -⟩ := hcell 0 _ h0
    have e := run_convert_bytes_arg (P := Tryd.prog) w 115 5 Tryd.underlying115 Tryd.underlying5 g 0 bs.length cap (bs.map fun c => (c.toNat : Int)) (by simp) (fun i hi => by
      have hi' : (bcells bs)[i]? = some (.int .u8 ((bs[i]).toNat : Int)) := by simp [bcells, hi]
      obtain ⟨g', hg', -, hc⟩ := hcell i _ hi'
      simp only [Option.some.injEq, Addr.mk.injEq, and_true] at hg'
      subst hg'
      rw [Nat.zero_add, hc]
      simp [List.getD, hi]) 9 Tryd.underlying9
    rw [← hb, e]
    have : strOfNums (bs.map fun c => (c.toNat : Int)) = ⟨bs.toArray⟩ := by
      unfold strOfNums
      rw [List.map_map]
      congr 2
      have : ((fun n : Int => UInt8.ofNat n.toNat) ∘ fun c : UInt8 => (c.toNat : Int)) = id := by
        funext c
        simp
      rw [this, List.map_id]
    rw [this]

/-- What stays of characters from a place on. -/
def kept (a b : Int) (C : List Rn) (k : Nat) : List UInt8 := ((C.drop k).filter (within a b)).map Rn.c
theorem kept_end {a b : Int} {C : List Rn} {k : Nat} (h : C.length ≤ k) : kept a b C k = [] := by
  unfold kept
  rw [List.drop_eq_nil_of_le h]
  rfl
theorem kept_in {a b : Int} {C : List Rn} {k : Nat} {r : Rn} (h : C[k]? = some r) (hw : within a b r = true) : kept a b C k = r.c :: kept a b C (k + 1) := by
  unfold kept
  rw [drop_get h, List.filter_cons, hw]
  rfl
theorem kept_out {a b : Int} {C : List Rn} {k : Nat} {r : Rn} (h : C[k]? = some r) (hw : within a b r = false) : kept a b C k = kept a b C (k + 1) := by
  unfold kept
  rw [drop_get h, List.filter_cons, hw]
  rfl

def RBackRel (W : World) (C : List Rn) (a b : Int) (o i : Value) (w : World) : Prop :=
  ∃ (k : Nat) (bs : List UInt8) (ad : Option Addr) (n cap : Nat), i = .int .i64 (k : Int) ∧ k ≤ C.length ∧ bs.length ≤ k ∧ o = .slice ad n cap ∧ n = bs.length ∧ bs ++ kept a b C k = kept a b C 0 ∧ BRow W o bs w

def TextPost (W : World) (l : List UInt8) (e : Ending) (w' : World) : Prop := e = .returned (.string ⟨l.toArray⟩) ∧ Below W.heap.size W w'

theorem rback_in {W : World} {C : List Rn} {a b : Int} {k : Nat} {bs : List UInt8} {w : World} {ad : Option Addr} {cap : Nat} {r : Rn} {i : Int} (hi : i = ((k + 1 : Nat) : Int)) (hr : C[k]? = some r) (hk : k < C.length) (hLk : bs.length ≤ k) (hw : within a b r = true) (hL : bs ++ kept a b C k = kept a b C 0) (hU : BRow W (.slice ad (bs.length + 1) cap) (bs ++ [r.c]) w) :
    RBackRel W C a b (.slice ad (bs.length + 1) cap) (.int .i64 i) w := by
  refine ⟨k + 1, bs ++ [r.c], ad, bs.length + 1, cap, by rw [hi], hk, by simp; omega, rfl, by simp, ?_, hU⟩
  rw [← hL, kept_in hr hw, List.append_assoc]
  rfl
theorem rback_out {W : World} {C : List Rn} {a b : Int} {k : Nat} {bs : List UInt8} {w : World} {ad : Option Addr} {cap : Nat} {r : Rn} {i : Int} (hi : i = ((k + 1 : Nat) : Int)) (hr : C[k]? = some r) (hk : k < C.length) (hLk : bs.length ≤ k) (hw : within a b r = false) (hL : bs ++ kept a b C k = kept a b C 0) (hU : BRow W (.slice ad bs.length cap) bs w) :
    RBackRel W C a b (.slice ad bs.length cap) (.int .i64 i) w :=
  ⟨k + 1, bs, ad, bs.length, cap, by rw [hi], hk, by omega, rfl, rfl, by rw [← kept_out hr hw]; exact hL, hU⟩

theorem within_in {a b : Int} {r : Rn} (h1 : a ≤ (r.f : Int)) (h2 : (r.t : Int) ≤ b) : within a b r = true := by simp [within, h1, h2]
theorem within_a {a b : Int} {r : Rn} (h1 : ¬ a ≤ (r.f : Int)) : within a b r = false := by simp [within, h1]
theorem within_b {a b : Int} {r : Rn} (h1 : ¬ (r.t : Int) ≤ b) : within a b r = false := by simp [within, h1]

end Go.Proofs.YtkmlnccdldmmpaaDoor

/-
  Back of the project, walked: it begins a little ahead of what is asked for, and ends at what is behind it.
-/
namespace Go.Proofs.YtkmlnccdldmmpaaDoor
open Go.RowKit

theorem src_one2 (w : World) (o : Obj) (u : Value) (e : TypeId) : Src ((w.alloc o).alloc (.cells #[u] e)) (.slice (some ⟨w.heap.size + 1, 0, none⟩) 1 1) 1 1 [u] := by
  have h := src_one (w.alloc o) u e
  rw [show (w.alloc o).heap.size = w.heap.size + 1 from by simp] at h
  exact h

def BRel (W : World) (l : List UInt8) (a b : Int) (o i : Value) (w : World) : Prop :=
  ∃ (k : Nat) (bs : List UInt8) (ad : Option Addr) (n cap : Nat), i = .int .i64 (k : Int) ∧ bs.length ≤ k ∧ bs.length ≤ l.length ∧ (k : Int) ≤ 9223372036854775807 ∧ o = .slice ad n cap ∧ n = bs.length ∧ bs ++ bk l a b k = backL l a b ∧ BRow W o bs w

theorem brel_in {W : World} {l : List UInt8} {a b : Int} {k : Nat} {bs : List UInt8} {w : World} {ad : Option Addr} {cap : Nat} {r : Rn} (hl : l.length ≤ 100000) (hk : k < l.length) (hLk : bs.length ≤ k) (ho : tk l k = (r, true)) (hw : within a b r = true) (hL : bs ++ bk l a b k = backL l a b) (hU : BRow W (.slice ad (bs.length + 1) cap) (bs ++ [r.c]) w) :
    BRel W l a b (.slice ad (bs.length + 1) cap) (.int .i64 (r.t : Int)) w := by
  have h1 : k < r.t ∧ r.t ≤ k + 4 ∧ (k < l.length → r.t ≤ l.length) := by
    have := tk_t l k
    rw [ho] at this
    exact this
  have h2 := bk_take (a := a) (b := b) hk (by rw [ho]) (by rw [ho]; exact hw)
  rw [ho] at h2
  refine ⟨r.t, bs ++ [r.c], ad, bs.length + 1, cap, rfl, by simp; omega, by simp; omega, by omega, rfl, by simp, ?_, hU⟩
  rw [← hL, h2, List.append_assoc]
  rfl
theorem brel_next {W : World} {l : List UInt8} {a b : Int} {k : Nat} {bs : List UInt8} {w : World} {ad : Option Addr} {cap : Nat} {r : Rn} {st : Bool} (hl : l.length ≤ 100000) (hk : k < l.length) (hLk : bs.length ≤ k) (ho : tk l k = (r, st)) (hw : st = false ∨ within a b r = false) (hL : bs ++ bk l a b k = backL l a b) (hU : BRow W (.slice ad bs.length cap) bs w) :
    BRel W l a b (.slice ad bs.length cap) (.int .i64 (r.t : Int)) w := by
  have h1 : k < r.t ∧ r.t ≤ k + 4 ∧ (k < l.length → r.t ≤ l.length) := by
    have := tk_t l k
    rw [ho] at this
    exact this
  have h2 : bk l a b k = bk l a b r.t := by
    have e : (tk l k).1.t = r.t := by rw [ho]
    rw [← e]
    rcases hw with h | h
    · exact bk_skip hk (by rw [ho]; exact h)
    · exact bk_out hk (by rw [ho]; exact h)
  exact ⟨r.t, bs, ad, bs.length, cap, rfl, by omega, by omega, by omega, rfl, rfl, by rw [← h2]; exact hL, hU⟩

theorem back_past {l : List UInt8} {a b : Int} {k : Nat} {bs : List UInt8} {r : Rn} {st : Bool} (hk : k < l.length) (ho : tk l k = (r, st)) (hb : b < (r.t : Int)) (hL : bs ++ bk l a b k = backL l a b) : bs = backL l a b := by
  rw [bk_past hk (by rw [ho]; exact hb), List.append_nil] at hL
  exact hL

theorem BRow.over {W w w' : World} {v : Value} {bs : List UInt8} (h : BRow W v bs w) (b : Below w.heap.size w w') : BRow W v bs w' := Up.over h b
theorem BRow.alloc {W w : World} {v : Value} {bs : List UInt8} (h : BRow W v bs w) (o : Obj) : BRow W v bs (w.alloc o) := Up.alloc h o

end Go.Proofs.YtkmlnccdldmmpaaDoor

/-
  over of the project, walked: the beginning of a walk.
-/
namespace Go.Proofs.YtkmlnccdldmmpaaDoor
open Go.RowKit

def ovals (l : List UInt8) (k : Nat) : List Value := (List.range l.length).map fun j => Value.int .u8 (if j < k then ((l.getD j 0).toNat : Int) else 0)
theorem ovals_len (l : List UInt8) (k : Nat) : (ovals l k).length = l.length := by simp [ovals]
theorem ovals_get {l : List UInt8} {k j : Nat} (hj : j < l.length) : (ovals l k)[j]? = some (.int .u8 (if j < k then ((l.getD j 0).toNat : Int) else 0)) := by
  simp [ovals, hj]
theorem ovals_set {l : List UInt8} {k : Nat} (hk : k < l.length) : (ovals l k).set k (.int .u8 ((l.getD k 0).toNat : Int)) = ovals l (k + 1) := by
  apply List.ext_getElem?
  intro j
  by_cases hj : j < l.length
  · rw [List.getElem?_set, ovals_len, ovals_get hj, ovals_get hj]
    by_cases e : k = j
    · subst e
      rw [if_pos rfl, if_pos hk, if_pos (Nat.lt_succ_self k)]
    · rw [if_neg e]
      by_cases h2 : j < k
      · rw [if_pos h2, if_pos (by omega)]
      · rw [if_neg h2, if_neg (by omega)]
  · rw [List.getElem?_eq_none (by rw [List.length_set, ovals_len]; omega), List.getElem?_eq_none (by rw [ovals_len]; omega)]
theorem ovals_all (l : List UInt8) : ovals l l.length = bcells l := by
  apply List.ext_getElem?
  intro j
  by_cases hj : j < l.length
  · rw [ovals_get hj, if_pos hj]
    simp [bcells, hj, List.getD]
  · rw [List.getElem?_eq_none (by rw [ovals_len]; omega), List.getElem?_eq_none (by rw [bcells_len]; omega)]
theorem ovals_zero (l : List UInt8) : ovals l 0 = (madeCells (Value.int .u8 0).cells (l.length * 1)).toList := by
  show _ = (madeCells #[Value.int .u8 0] (l.length * 1)).toList
  rw [toList_madeCells_one, Nat.mul_one]
  apply List.ext_getElem?
  intro j
  by_cases hj : j < l.length
  · rw [ovals_get hj, if_neg (Nat.not_lt_zero j)]
    simp [hj]
  · rw [List.getElem?_eq_none (by rw [ovals_len]; omega), List.getElem?_eq_none (by simp; omega)]

theorem charsL_few (l : List UInt8) : ∃ n, n = (charsL l).length ∧ n ≤ l.length + 1 := by
  refine ⟨_, rfl, ?_⟩
  have h := chs_len l _ 0 (Nat.le_refl _)
  unfold charsL withNl
  split
  · simp
  · split
    · omega
    · simp
      omega

theorem below_of {w w' : World} (h : w.grownBy w' none) : Below w.heap.size w w' := ⟨h.os, h.tape, h.output, h.size, fun k hk => h.block k hk (by simp)⟩

end Go.Proofs.YtkmlnccdldmmpaaDoor
