/-
  Texts of the proof, put together: LxB, LxS.
-/
import Derived.Test.YtkmlnccdldmmpaaDoorG08
import Derived.Test.YtkmlnccdldmmpaaDoorG10
import Derived.RegionTactic
import Derived.BigRegion
import Derived.Deep.RegionWith
import Derived.Deep.RegionHeld3
import Derived.Deep.AppendLies

/-
  What the walk of the project holds in memory, all of it: its block, its rows, the lines that are done.
-/
namespace Go.Proofs.YtkmlnccdldmmpaaDoor
open Go.RowKit

theorem Tryd.infoTok : (Tryd.prog.info? 36).map (fun i => (i.zero, i.size, i.bytes)) = some (some (.agg #[.int .i64 0, .string ⟨#[]⟩, .bool false, .string ⟨#[]⟩, .int .i64 0, .int .i64 0, .bool false, .slice none 0 0]), 8, 96) := by kernel_rfl

theorem Tryd.infoLine : (Tryd.prog.info? 61).map (fun i => (i.zero, i.size, i.bytes)) = some (some (.agg #[.slice none 0 0, .int .i64 0, .int .i64 0, .bool false]), 4, 48) := by kernel_rfl

theorem Tryd.infoDiag : (Tryd.prog.info? 63).map (fun i => (i.zero, i.size, i.bytes)) = some (some (.agg #[.int .i64 0, .string ⟨#[]⟩, .int .i64 0, .int .i64 0]), 4, 40) := by kernel_rfl

theorem Tryd.infoRLine : (Tryd.prog.info? 79).map (fun i => (i.zero, i.size, i.bytes)) = some (some (.agg #[.slice none 0 0, .int .i64 0, .int .i64 0, .bool false]), 4, 48) := by kernel_rfl

def tcell (F : ByteArray) (t : Tk) : List Value := [.int .i64 (t.k : Int), .string ⟨t.x.toArray⟩, .bool t.sp, .string F, .int .i64 (t.f : Int), .int .i64 (t.t : Int), .bool false, .slice none 0 0]
def tcells (F : ByteArray) (T : List Tk) : List Value := T.flatMap (tcell F)
def lcell (p : Value × Ln) : List Value := [p.1, .int .i64 (p.2.f : Int), .int .i64 (p.2.t : Int), .bool p.2.o]
def lcells (P : List (Value × Ln)) : List Value := P.flatMap lcell
def dcell (F : ByteArray) (d : Dg) : List Value := [.int .i64 (d.c : Int), .string F, .int .i64 (d.f : Int), .int .i64 (d.t : Int)]
def dcells (F : ByteArray) (D : List Dg) : List Value := D.flatMap (dcell F)

theorem tcells_snoc (F : ByteArray) (T : List Tk) (t : Tk) : tcells F (T ++ [t]) = tcells F T ++ tcell F t := by simp [tcells]
theorem lcells_snoc (P : List (Value × Ln)) (p : Value × Ln) : lcells (P ++ [p]) = lcells P ++ lcell p := by simp [lcells]
theorem dcells_snoc (F : ByteArray) (D : List Dg) (d : Dg) : dcells F (D ++ [d]) = dcells F D ++ dcell F d := by simp [dcells]

theorem flat_get {α : Type} {f : α → List Value} {n : Nat} (hf : ∀ a, (f a).length = n) : ∀ (l : List α) (i : Nat) (a : α), l[i]? = some a → ∀ j, j < n → (l.flatMap f)[i * n + j]? = (f a)[j]?
  | [], i, a, h, _, _ => by simp at h
  | x :: r, 0, a, h, j, hj => by
    simp only [List.getElem?_cons_zero, Option.some.injEq] at h
    subst h
    rw [List.flatMap_cons, List.getElem?_append_left (by rw [hf]; omega)]
    simp
  | x :: r, i + 1, a, h, j, hj => by
    rw [List.flatMap_cons, List.getElem?_append_right (by rw [hf, Nat.succ_mul]; omega), hf, Nat.succ_mul]
    have := flat_get hf r i a (by simpa using h) j hj
    rw [← this]
    congr 1
    omega

/-- The kind of the block that a row lies in. -/
theorem own_kind {B : Nat} {w : World} {e : TypeId} {size : Nat} {v : Value} {n : Nat} {xs : List Value} (h : w.ownsRow B e size v n xs) {k : Nat} (hk : v.ownBlock = some k) : ∃ cs, w.heap[k]? = some (.cells cs e (0, 0)) := by
  obtain ⟨-, h2 | ⟨g, cap, cur, rfl, -, hh, -⟩⟩ := h
  · rw [h2.1] at hk
    cases hk
  · simp only [Value.ownBlock, Option.some.injEq] at hk
    subst hk
    exact ⟨cur, hh⟩

theorem own_apart {B B2 : Nat} {w : World} {e e2 : TypeId} {size size2 : Nat} {v v2 : Value} {n n2 : Nat} {xs xs2 : List Value} (h : w.ownsRow B e size v n xs) (h2 : w.ownsRow B2 e2 size2 v2 n2 xs2) (he : e ≠ e2) : v.ownBlock = none ∨ v.ownBlock ≠ v2.ownBlock := by
  cases hk : v.ownBlock with
  | none => exact .inl rfl
  | some k =>
    refine .inr fun e3 => he ?_
    obtain ⟨c1, h3⟩ := own_kind h hk
    obtain ⟨c2, h4⟩ := own_kind h2 e3.symm
    rw [h3] at h4
    simp only [Option.some.injEq, Obj.cells.injEq] at h4
    exact h4.2.1

theorem own_off {B : Nat} {w : World} {e e2 : TypeId} {size : Nat} {v : Value} {n : Nat} {xs : List Value} {g : Nat} {cs : Array Value} (h : w.ownsRow B e size v n xs) (hg : w.heap[g]? = some (.cells cs e2 (0, 0))) (he : e ≠ e2) : v.ownBlock = none ∨ v.ownBlock ≠ some g := by
  cases hk : v.ownBlock with
  | none => exact .inl rfl
  | some k =>
    refine .inr fun e3 => he ?_
    cases e3
    obtain ⟨c1, h3⟩ := own_kind h hk
    rw [hg] at h3
    simp only [Option.some.injEq, Obj.cells.injEq] at h3
    exact h3.2.1.symm

/-- The source of an append, just laid. -/
theorem src_row {w : World} {b : Nat} {cs : Array Value} {e : TypeId} {n : Nat} {news : List Value} (h : w.heap[b]? = some (.cells cs e (0, 0))) (hn : cs.toList = news) (hl : news.length = n) : Src w (.slice (some ⟨b, 0, none⟩) 1 1) 1 n news :=
  .inr ⟨_, 1, rfl, by omega, fun j u hj => by
    rw [addr_add, Lib.cell_of_heap h, ← Array.getElem?_toList, hn]
    exact hj⟩

theorem append_form {B : Nat} {w : World} {e : TypeId} {size : Nat} {v : Value} {n : Nat} {xs : List Value} (h : w.ownsRow B e size v n xs) (hn : 0 < n) : ∃ b cap, v = .slice (some ⟨b, 0, none⟩) n cap := by
  obtain ⟨-, h2 | ⟨g, cap, cur, rfl, -⟩⟩ := h
  · omega
  · exact ⟨g, cap, rfl⟩

theorem own_lt {B : Nat} {w : World} {e : TypeId} {size : Nat} {v : Value} {n : Nat} {xs : List Value} (h : w.ownsRow B e size v n xs) {k : Nat} (hk : v.ownBlock = some k) : k < w.heap.size := (World.ownsRow.lt h k hk).2

end Go.Proofs.YtkmlnccdldmmpaaDoor

/-
  span, tell, pass, endLine and take of the project, walked.
-/
namespace Go.Proofs.YtkmlnccdldmmpaaDoor
open Go.RowKit

theorem rnF_of {L : List Rn} {i : Nat} {r : Rn} (h : L[i]? = some r) : rnF L i = r.f := by unfold rnF; rw [h]
theorem rnT_of {L : List Rn} {i : Nat} {r : Rn} (h : L[i]? = some r) : rnT L i = r.t := by unfold rnT; rw [h]

def spanPost (F : ByteArray) (x y : Nat) (w : World) (e : Ending) (w' : World) : Prop :=
  e = .returned (.agg #[.string F, .int .i64 (x : Int), .int .i64 (y : Int)]) ∧ Below w.heap.size w w'

/-- The walk at a place, in a state. -/
structure Env where
  W : World
  g : Nat
  L : List Rn
  F : ByteArray
  ch : ByteArray
  sz : Nat

theorem step_ex {ops : Array Oper} {o : Oper} {a : Act} {w : World} {K : Act → World → Prop} {Q : Exit → Act → World → Prop} {E : Prop} (hgd : o.guard = none) (s x : Operand) (t : TypeId)
    (ho : o.op = .call { callee := .builtin .append, args := #[s, x], argTypes := #[t, t] }) (R : Nat → Nat → Nat → World → Prop) (d v : Value) (hs : a.eval s = d) (hx : a.eval x = v)
    (h : ∃ b n cap w', (Builtin.append_ #[t, t] o.type #[d, v]).run Tryd.prog w = .ok (.slice (some ⟨b, 0, none⟩) n cap) w' ∧ R b n cap w') (hK : ∀ b n cap w', R b n cap w' → K (a.put o.dst (.slice (some ⟨b, 0, none⟩) n cap)) w') :
    if Region.wanted o (yielded ops a.tmps) = true then Oper.wp Tryd.prog o a w K Q else E := by
  have hw : Region.wanted o (yielded ops a.tmps) = true := by simp [Region.wanted, hgd]
  rw [if_pos hw]
  obtain ⟨b, n, cap, w', hr, hR⟩ := h
  unfold Oper.wp execOp
  simp only [ho, resolve, invoke, builtin, Sem.run_bind, Sem.run_pure, Result.andThen_ok, List.map_toArray, List.map_cons, List.map_nil, hs, hx, hr]
  exact hK b n cap w' hR

theorem heap_drew {w : World} {b : Nat} {o : Option Obj} (h : w.heap[b]? = o) : w.drew.heap[b]? = o := h

end Go.Proofs.YtkmlnccdldmmpaaDoor
