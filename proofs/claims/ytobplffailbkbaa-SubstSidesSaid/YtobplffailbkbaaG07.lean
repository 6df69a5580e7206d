/-
  Texts of the proof, put together: LxB, LxS, HeldT.
-/
import Derived.Test.YtobplffailbkbaaG05
import Derived.Test.YtobplffailbkbaaG06
import Derived.RegionTactic
import Derived.BigRegion
import Derived.Deep.RegionWith
import Derived.Deep.RegionHeld3
import Derived.Deep.AppendLies
import Derived.Deep.RegionLaw
import Derived.Test.YtobplffailbkbaaG01

/-
  What the walk of the project holds in memory, all of it: its block, its rows, the lines that are done.
-/
namespace Go.Proofs.Ytobplffailbkbaa
open Go.RowKit

theorem Try.infoTok : (Try.prog.info? 26).map (fun i => (i.zero, i.size, i.bytes)) = some (some (.agg #[.int .i64 0, .string ⟨#[]⟩, .bool false, .string ⟨#[]⟩, .int .i64 0, .int .i64 0, .bool false, .slice none 0 0]), 8, 96) := by kernel_rfl

theorem Try.infoLine : (Try.prog.info? 157).map (fun i => (i.zero, i.size, i.bytes)) = some (some (.agg #[.slice none 0 0, .int .i64 0, .int .i64 0, .bool false]), 4, 48) := by kernel_rfl

theorem Try.infoDiag : (Try.prog.info? 50).map (fun i => (i.zero, i.size, i.bytes)) = some (some (.agg #[.int .i64 0, .string ⟨#[]⟩, .int .i64 0, .int .i64 0]), 4, 40) := by kernel_rfl

theorem Try.infoRLine : (Try.prog.info? 67).map (fun i => (i.zero, i.size, i.bytes)) = some (some (.agg #[.slice none 0 0, .int .i64 0, .int .i64 0, .bool false]), 4, 48) := by kernel_rfl

theorem Try.infoWalk : (Try.prog.info? 111).map (fun i => (i.size)) = some 14 := by kernel_rfl

def tcell (F : ByteArray) (t : Tk) : List Value := [.int .i64 (t.k : Int), .string ⟨t.x.toArray⟩, .bool t.sp, .string F, .int .i64 (t.f : Int), .int .i64 (t.t : Int), .bool false, .slice none 0 0]
def tcells (F : ByteArray) (T : List Tk) : List Value := T.flatMap (tcell F)
def lcell (p : Value × Ln) : List Value := [p.1, .int .i64 (p.2.f : Int), .int .i64 (p.2.t : Int), .bool p.2.o]
def lcells (P : List (Value × Ln)) : List Value := P.flatMap lcell
def dcell (F : ByteArray) (d : Dg) : List Value := [.int .i64 (d.c : Int), .string F, .int .i64 (d.f : Int), .int .i64 (d.t : Int)]
def dcells (F : ByteArray) (D : List Dg) : List Value := D.flatMap (dcell F)

theorem tcells_snoc (F : ByteArray) (T : List Tk) (t : Tk) : tcells F (T ++ [t]) = tcells F T ++ tcell F t := by simp [tcells]
theorem lcells_snoc (P : List (Value × Ln)) (p : Value × Ln) : lcells (P ++ [p]) = lcells P ++ lcell p := by simp [lcells]
theorem dcells_snoc (F : ByteArray) (D : List Dg) (d : Dg) : dcells F (D ++ [d]) = dcells F D ++ dcell F d := by simp [dcells]

theorem flat_get {α : Type} {f : α → List Value} {n : Nat} (hf : ∀ a, (f a).length = n) : ∀ (l : List α) (i : Nat) (a : α), l[i]? = some a → ∀ j, j < n → (l.flatMap f)[i * n + j]? = (f a)[j]?
  | [], i, a, h, _, _ => by simp at h
  | x :: r, 0, a, h, j, hj => by
    simp only [List.getElem?_cons_zero, Option.some.injEq] at h
    subst h
    rw [List.flatMap_cons, List.getElem?_append_left (by rw [hf]; omega)]
    simp
  | x :: r, i + 1, a, h, j, hj => by
    rw [List.flatMap_cons, List.getElem?_append_right (by rw [hf, Nat.succ_mul]; omega), hf, Nat.succ_mul]
    have := flat_get hf r i a (by simpa using h) j hj
    rw [← this]
    congr 1
    omega

/-- The kind of the block that a row lies in. -/
theorem own_kind {B : Nat} {w : World} {e : TypeId} {size : Nat} {v : Value} {n : Nat} {xs : List Value} (h : w.ownsRow B e size v n xs) {k : Nat} (hk : v.ownBlock = some k) : ∃ cs, w.heap[k]? = some (.cells cs e (0, 0)) := by
  obtain ⟨-, h2 | ⟨g, cap, cur, rfl, -, hh, -⟩⟩ := h
  · rw [h2.1] at hk
    cases hk
  · simp only [Value.ownBlock, Option.some.injEq] at hk
    subst hk
    exact ⟨cur, hh⟩

theorem own_apart {B B2 : Nat} {w : World} {e e2 : TypeId} {size size2 : Nat} {v v2 : Value} {n n2 : Nat} {xs xs2 : List Value} (h : w.ownsRow B e size v n xs) (h2 : w.ownsRow B2 e2 size2 v2 n2 xs2) (he : e ≠ e2) : v.ownBlock = none ∨ v.ownBlock ≠ v2.ownBlock := by
  cases hk : v.ownBlock with
  | none => exact .inl rfl
  | some k =>
    refine .inr fun e3 => he ?_
    obtain ⟨c1, h3⟩ := own_kind h hk
    obtain ⟨c2, h4⟩ := own_kind h2 e3.symm
    rw [h3] at h4
    simp only [Option.some.injEq, Obj.cells.injEq] at h4
    exact h4.2.1

theorem own_off {B : Nat} {w : World} {e e2 : TypeId} {size : Nat} {v : Value} {n : Nat} {xs : List Value} {g : Nat} {cs : Array Value} (h : w.ownsRow B e size v n xs) (hg : w.heap[g]? = some (.cells cs e2 (0, 0))) (he : e ≠ e2) : v.ownBlock = none ∨ v.ownBlock ≠ some g := by
  cases hk : v.ownBlock with
  | none => exact .inl rfl
  | some k =>
    refine .inr fun e3 => he ?_
    cases e3
    obtain ⟨c1, h3⟩ := own_kind h hk
    rw [hg] at h3
    simp only [Option.some.injEq, Obj.cells.injEq] at h3
    exact h3.2.1.symm

/-- A block turned alone is growth by that block. -/
theorem Step.grown {g : Nat} {c c' : WC} {w w' : World} (h : Step g c c' w w') : w.grownBy w' (some g) :=
  ⟨h.os, h.tape, h.output, Nat.le_of_eq h.size.symm, fun k _ hk => h.block k fun e => hk (by rw [e])⟩

structure Big (W : World) (g : Nat) (L : List Rn) (c : WC) (B1 : Nat) (P : List (Value × Ln)) (a : Acc) (w : World) : Prop where
  blk : WAt g c w
  hg : W.heap.size ≤ g
  low : Below W.heap.size W w
  runes : w.ownsRow W.heap.size 156 3 c.rv L.length (rcells L)
  chars : c.ch.data.toList = bytesOf L
  toks : w.ownsRow B1 26 8 c.tv a.toks.length (tcells c.F a.toks)
  b0 : W.heap.size ≤ B1
  b1 : B1 ≤ w.heap.size
  lines : w.ownsRow W.heap.size 157 4 c.lv P.length (lcells P)
  pl : P.map Prod.snd = a.lines
  done : ∀ p ∈ P, w.ownsRow W.heap.size 26 8 p.1 p.2.toks.length (tcells c.F p.2.toks) ∧ ∀ k, p.1.ownBlock = some k → k < B1
  diags : w.ownsRow W.heap.size 50 4 c.dv a.diags.length (dcells c.F a.diags)
  fr : c.fr = a.fr
  sp : c.sp = a.sp
  un0 : Un c.ch.data.toList c.i 34 c.u0
  un1 : Un c.ch.data.toList c.i 39 c.u1

theorem Big.lt {W : World} {g : Nat} {L : List Rn} {c : WC} {B1 : Nat} {P : List (Value × Ln)} {a : Acc} {w : World} (h : Big W g L c B1 P a w) : g < w.heap.size := row_lt h.blk

/-- New blocks alone. -/
theorem Big.next {W : World} {g : Nat} {L : List Rn} {c : WC} {B1 : Nat} {P : List (Value × Ln)} {a : Acc} {w w' : World} (h : Big W g L c B1 P a w) (b : Below w.heap.size w w') : Big W g L c B1 P a w' := by
  have hg : w.grownBy w' none := ⟨b.os, b.tape, b.output, b.size, fun k hk _ => b.block k hk⟩
  have hk : ∀ v : Value, v.ownBlock = none ∨ v.ownBlock ≠ none := fun v => by cases v.ownBlock <;> simp
  exact ⟨(b.block g h.lt).trans h.blk, h.hg, h.low.trans (b.mono h.low.size), World.ownsRow.kept h.runes hg (hk _), h.chars, World.ownsRow.kept h.toks hg (hk _), h.b0, Nat.le_trans h.b1 b.size, World.ownsRow.kept h.lines hg (hk _), h.pl,
    fun p hp => ⟨World.ownsRow.kept (h.done p hp).1 hg (hk _), (h.done p hp).2⟩, World.ownsRow.kept h.diags hg (hk _), h.fr, h.sp, h.un0, h.un1⟩
theorem Big.alloc {W : World} {g : Nat} {L : List Rn} {c : WC} {B1 : Nat} {P : List (Value × Ln)} {a : Acc} {w : World} (h : Big W g L c B1 P a w) (o : Obj) : Big W g L c B1 P a (w.alloc o) := h.next ((Below.refl _ _).alloc (Nat.le_refl _) o)
theorem Big.drewN {W : World} {g : Nat} {L : List Rn} {c : WC} {B1 : Nat} {P : List (Value × Ln)} {a : Acc} {w : World} (h : Big W g L c B1 P a w) (n : Nat) : Big W g L c B1 P a (w.drewN n) := h.next (Below.of_drews _ _)
theorem Big.drew {W : World} {g : Nat} {L : List Rn} {c : WC} {B1 : Nat} {P : List (Value × Ln)} {a : Acc} {w : World} (h : Big W g L c B1 P a w) : Big W g L c B1 P a w.drew := h.next (Below.refl _ _).drew

/-- The block alone: whatever of it turns that is no row. -/
theorem Big.step {W : World} {g : Nat} {L : List Rn} {c c' : WC} {B1 : Nat} {P : List (Value × Ln)} {a a' : Acc} {w w' : World} (h : Big W g L c B1 P a w) (s : Step g c c' w w')
    (e : c'.F = c.F ∧ c'.rv = c.rv ∧ c'.ch = c.ch ∧ c'.tv = c.tv ∧ c'.lv = c.lv ∧ c'.dv = c.dv) (ea : a'.toks = a.toks ∧ a'.lines = a.lines ∧ a'.diags = a.diags) (hfr : c'.fr = a'.fr) (hsp : c'.sp = a'.sp) (u0 : Un c.ch.data.toList c'.i 34 c'.u0) (u1 : Un c.ch.data.toList c'.i 39 c'.u1) : Big W g L c' B1 P a' w' := by
  obtain ⟨e1, e2, e3, e4, e5, e6⟩ := e
  obtain ⟨a1, a2, a3⟩ := ea
  have hb : ∀ k, k < W.heap.size → k ≠ g := fun k hk e => by have := h.hg; omega
  refine ⟨s.is, h.hg, ⟨s.os.trans h.low.os, s.tape.trans h.low.tape, s.output.trans h.low.output, by rw [s.size]; exact h.low.size, fun k hk => (s.block k (hb k hk)).trans (h.low.block k hk)⟩, ?_, by rw [e3]; exact h.chars, ?_, h.b0, by rw [s.size]; exact h.b1, ?_, by rw [a2]; exact h.pl, fun p hp => ?_, ?_, hfr, hsp, by rw [e3]; exact u0, by rw [e3]; exact u1⟩
  · rw [e2]
    exact World.ownsRow.kept h.runes s.grown (own_off h.runes h.blk (by decide))
  · rw [e4, e1, a1]
    exact World.ownsRow.kept h.toks s.grown (own_off h.toks h.blk (by decide))
  · rw [e5]
    exact World.ownsRow.kept h.lines s.grown (own_off h.lines h.blk (by decide))
  · rw [e1]
    exact ⟨World.ownsRow.kept (h.done p hp).1 s.grown (own_off (h.done p hp).1 h.blk (by decide)), (h.done p hp).2⟩
  · rw [e6, e1, a3]
    exact World.ownsRow.kept h.diags s.grown (own_off h.diags h.blk (by decide))

theorem WAt.grown {g : Nat} {c : WC} {B : Nat} {w w' : World} {e : TypeId} {size : Nat} {v : Value} {n : Nat} {xs : List Value} (h : WAt g c w) (hv : w.ownsRow B e size v n xs) (he : e ≠ 111) (hg : w.grownBy w' v.ownBlock) : WAt g c w' :=
  (hg.block g (row_lt h) fun e2 => by
    rcases own_off hv h he with h1 | h1
    · rw [h1] at e2; cases e2
    · exact h1 e2.symm).trans h

/-- The source of an append, just laid. -/
theorem src_row {w : World} {b : Nat} {cs : Array Value} {e : TypeId} {n : Nat} {news : List Value} (h : w.heap[b]? = some (.cells cs e (0, 0))) (hn : cs.toList = news) (hl : news.length = n) : Src w (.slice (some ⟨b, 0, none⟩) 1 1) 1 n news :=
  .inr ⟨_, 1, rfl, by omega, fun j u hj => by
    rw [addr_add, Lib.cell_of_heap h, ← Array.getElem?_toList, hn]
    exact hj⟩

theorem append_form {B : Nat} {w : World} {e : TypeId} {size : Nat} {v : Value} {n : Nat} {xs : List Value} (h : w.ownsRow B e size v n xs) (hn : 0 < n) : ∃ b cap, v = .slice (some ⟨b, 0, none⟩) n cap := by
  obtain ⟨-, h2 | ⟨g, cap, cur, rfl, -⟩⟩ := h
  · omega
  · exact ⟨g, cap, rfl⟩

def PushD (W : World) (g : Nat) (L : List Rn) (c : WC) (B1 : Nat) (P : List (Value × Ln)) (a : Acc) (b n cap : Nat) (w' : World) : Prop :=
  WAt g c w' ∧ Big W g L { c with dv := .slice (some ⟨b, 0, none⟩) n cap } B1 P a (w'.setCell ⟨g, 11, none⟩ (.slice (some ⟨b, 0, none⟩) n cap))

theorem Big.pushD {W : World} {g : Nat} {L : List Rn} {c : WC} {B1 : Nat} {P : List (Value × Ln)} {a : Acc} {w : World} {ty : TypeId} {sv : Value} (h : Big W g L c B1 P a w) (d : Dg) (hs : Src w sv 1 4 (dcell c.F d)) (hn : a.diags.length ≤ 500000) :
    ∃ b n cap w', (Builtin.append_ #[39, 39] ty #[c.dv, sv]).run Try.prog w = .ok (.slice (some ⟨b, 0, none⟩) n cap) w' ∧ PushD W g L c B1 P { a with diags := a.diags ++ [d] } b n cap w' := by
  obtain ⟨i0, hi, hz0, hz1, hz2⟩ := info_parts Try.infoDiag
  obtain ⟨v', w', hr, h2, h3⟩ := run_app (ty := ty) Try.underlying39 hi hz0 hz1 hz2 rfl (by decide) (by decide) h.diags hs (by intro u hu; simp only [dcell, List.mem_cons, List.not_mem_nil, or_false] at hu; rcases hu with rfl | rfl | rfl | rfl <;> rfl) (by omega) h.low.size
  have hA := h.blk.grown h.diags (by decide) h3
  have hS : Step g c { c with dv := v' } w' (w'.setCell ⟨g, 11, none⟩ v') := (Step.refl hA).set 11 v' _ rfl
  obtain ⟨b, cap, hv⟩ := append_form h2 (by omega)
  refine ⟨b, _, cap, w', by rw [← hv]; exact hr, hA, ?_⟩
  rw [← hv]
  have hB : Below W.heap.size W w' := h.low.grown h3 h.low.size fun k hk => (World.ownsRow.lt h.diags k hk).1
  have hgk := h.hg
  refine ⟨hS.is, h.hg, hB.setCell (by exact h.hg) _, ?_, h.chars, ?_, h.b0, ?_, ?_, h.pl, fun p hp => ⟨?_, (h.done p hp).2⟩, ?_, h.fr, h.sp, h.un0, h.un1⟩
  · have h4 := World.ownsRow.kept h.runes h3 (own_apart h.runes h.diags (by decide))
    exact World.ownsRow.kept h4 hS.grown (own_off h4 hA (by decide))
  · have h4 := World.ownsRow.kept h.toks h3 (own_apart h.toks h.diags (by decide))
    exact World.ownsRow.kept h4 hS.grown (own_off h4 hA (by decide))
  · rw [hS.size]
    exact Nat.le_trans h.b1 h3.size
  · have h4 := World.ownsRow.kept h.lines h3 (own_apart h.lines h.diags (by decide))
    exact World.ownsRow.kept h4 hS.grown (own_off h4 hA (by decide))
  · have h4 := World.ownsRow.kept (h.done p hp).1 h3 (own_apart (h.done p hp).1 h.diags (by decide))
    exact World.ownsRow.kept h4 hS.grown (own_off h4 hA (by decide))
  · have h4 : w'.ownsRow W.heap.size 50 4 v' (a.diags ++ [d]).length (dcells c.F (a.diags ++ [d])) := by
      rw [dcells_snoc, List.length_append]
      exact h2
    exact World.ownsRow.kept h4 hS.grown (own_off h4 hA (by decide))

def PushT (W : World) (g : Nat) (L : List Rn) (c : WC) (B1 : Nat) (P : List (Value × Ln)) (a : Acc) (b n cap : Nat) (w' : World) : Prop :=
  WAt g c w' ∧ Big W g L { c with tv := .slice (some ⟨b, 0, none⟩) n cap } B1 P a (w'.setCell ⟨g, 9, none⟩ (.slice (some ⟨b, 0, none⟩) n cap))

theorem Big.pushT {W : World} {g : Nat} {L : List Rn} {c : WC} {B1 : Nat} {P : List (Value × Ln)} {a : Acc} {w : World} {ty : TypeId} {sv : Value} (h : Big W g L c B1 P a w) (t : Tk) (hs : Src w sv 1 8 (tcell c.F t)) (hn : a.toks.length ≤ 500000) :
    ∃ b n cap w', (Builtin.append_ #[28, 28] ty #[c.tv, sv]).run Try.prog w = .ok (.slice (some ⟨b, 0, none⟩) n cap) w' ∧ PushT W g L c B1 P { a with toks := a.toks ++ [t] } b n cap w' := by
  obtain ⟨i0, hi, hz0, hz1, hz2⟩ := info_parts Try.infoTok
  obtain ⟨v', w', hr, h2, h3⟩ := run_app (ty := ty) Try.underlying28 hi hz0 hz1 hz2 rfl (by decide) (by decide) h.toks hs (by intro u hu; simp only [tcell, List.mem_cons, List.not_mem_nil, or_false] at hu; rcases hu with rfl | rfl | rfl | rfl | rfl | rfl | rfl | rfl <;> rfl) (by omega) h.b1
  have hA := h.blk.grown h.toks (by decide) h3
  have hS : Step g c { c with tv := v' } w' (w'.setCell ⟨g, 9, none⟩ v') := (Step.refl hA).set 9 v' _ rfl
  obtain ⟨b, cap, hv⟩ := append_form h2 (by omega)
  refine ⟨b, _, cap, w', by rw [← hv]; exact hr, hA, ?_⟩
  rw [← hv]
  have hB : Below W.heap.size W w' := h.low.grown h3 h.low.size fun k hk => Nat.le_trans h.b0 (World.ownsRow.lt h.toks k hk).1
  have hgk := h.hg
  refine ⟨hS.is, h.hg, hB.setCell (by exact h.hg) _, ?_, h.chars, ?_, h.b0, ?_, ?_, h.pl, fun p hp => ⟨?_, (h.done p hp).2⟩, ?_, h.fr, h.sp, h.un0, h.un1⟩
  · have h4 := World.ownsRow.kept h.runes h3 (own_apart h.runes h.toks (by decide))
    exact World.ownsRow.kept h4 hS.grown (own_off h4 hA (by decide))
  · have h4 : w'.ownsRow B1 26 8 v' (a.toks ++ [t]).length (tcells c.F (a.toks ++ [t])) := by
      rw [tcells_snoc, List.length_append]
      exact h2
    exact World.ownsRow.kept h4 hS.grown (own_off h4 hA (by decide))
  · rw [hS.size]
    exact Nat.le_trans h.b1 h3.size
  · have h4 := World.ownsRow.kept h.lines h3 (own_apart h.lines h.toks (by decide))
    exact World.ownsRow.kept h4 hS.grown (own_off h4 hA (by decide))
  · have hne : p.1.ownBlock = none ∨ p.1.ownBlock ≠ c.tv.ownBlock := by
      cases hk : p.1.ownBlock with
      | none => exact .inl rfl
      | some k =>
        refine .inr fun e => ?_
        have h5 := (h.done p hp).2 k hk
        have h6 := (World.ownsRow.lt h.toks k e.symm).1
        omega
    have h4 := World.ownsRow.kept (h.done p hp).1 h3 hne
    exact World.ownsRow.kept h4 hS.grown (own_off h4 hA (by decide))
  · have h4 := World.ownsRow.kept h.diags h3 (own_apart h.diags h.toks (by decide))
    exact World.ownsRow.kept h4 hS.grown (own_off h4 hA (by decide))

/-- The line's end: all four stores. -/
def endWorld (g : Nat) (to : Nat) (v' : Value) (w' : World) : World := (((w'.setCell ⟨g, 10, none⟩ v').setCell ⟨g, 7, none⟩ (.int .i64 (to : Int))).setCell ⟨g, 8, none⟩ (.bool false)).setCell ⟨g, 9, none⟩ (.slice none 0 0)
def PushL (W : World) (g : Nat) (L : List Rn) (c : WC) (a : Acc) (to : Nat) (b n cap : Nat) (w' : World) : Prop :=
  WAt g c w' ∧ ∃ B1 P', Big W g L { c with lv := .slice (some ⟨b, 0, none⟩) n cap, fr := to, sp := false, tv := .slice none 0 0 } B1 P' a (endWorld g to (.slice (some ⟨b, 0, none⟩) n cap) w')

theorem own_lt {B : Nat} {w : World} {e : TypeId} {size : Nat} {v : Value} {n : Nat} {xs : List Value} (h : w.ownsRow B e size v n xs) {k : Nat} (hk : v.ownBlock = some k) : k < w.heap.size := (World.ownsRow.lt h k hk).2

theorem Big.pushL {W : World} {g : Nat} {L : List Rn} {c : WC} {B1 : Nat} {P : List (Value × Ln)} {a : Acc} {w : World} {ty : TypeId} {sv : Value} (h : Big W g L c B1 P a w) (to : Nat) (o : Bool) (hs : Src w sv 1 4 (lcell (c.tv, ⟨a.toks, a.fr, to, o⟩))) (hn : a.lines.length ≤ 500000) :
    ∃ b n cap w', (Builtin.append_ #[108, 108] ty #[c.lv, sv]).run Try.prog w = .ok (.slice (some ⟨b, 0, none⟩) n cap) w' ∧ PushL W g L c (endA a to o) to b n cap w' := by
  obtain ⟨i0, hi, hz0, hz1, hz2⟩ := info_parts Try.infoLine
  have hPn : P.length ≤ 500000 := by rw [← h.pl, List.length_map] at hn; exact hn
  have ht1 : c.tv.oneCell' = true := by
    obtain ⟨a0, cap0, hv, -⟩ := row_form h.toks
    rw [hv]
    rfl
  obtain ⟨v', w', hr, h2, h3⟩ := run_app (ty := ty) Try.underlying108 hi hz0 hz1 hz2 rfl (by decide) (by decide) h.lines hs (by intro u hu; simp only [lcell, List.mem_cons, List.not_mem_nil, or_false] at hu; rcases hu with rfl | rfl | rfl | rfl <;> first | exact ht1 | rfl) (by omega) h.low.size
  have hA := h.blk.grown h.lines (by decide) h3
  have hS : Step g c { c with lv := v', fr := to, sp := false, tv := .slice none 0 0 } w' (endWorld g to v' w') := by
    have s1 : Step g c { c with lv := v' } w' (w'.setCell ⟨g, 10, none⟩ v') := (Step.refl hA).set 10 v' _ rfl
    have s2 := s1.set 7 (.int .i64 (to : Int)) { c with lv := v', fr := to } rfl
    have s3 := s2.set 8 (.bool false) { c with lv := v', fr := to, sp := false } rfl
    exact s3.set 9 (.slice none 0 0) _ rfl
  obtain ⟨b, cap, hv⟩ := append_form h2 (by omega)
  have hB : Below W.heap.size W w' := h.low.grown h3 h.low.size fun k hk => (World.ownsRow.lt h.lines k hk).1
  have hgk := h.hg
  have hT := World.ownsRow.kept h.toks h3 (own_apart h.toks h.lines (by decide))
  refine ⟨b, _, cap, w', by rw [← hv]; exact hr, hA, w'.heap.size, P ++ [(c.tv, ⟨a.toks, a.fr, to, o⟩)], ?_⟩
  rw [← hv]
  refine ⟨hS.is, h.hg, (((hB.setCell (by exact h.hg) _).setCell (by exact h.hg) _).setCell (by exact h.hg) _).setCell (by exact h.hg) _, ?_, h.chars, World.ownsRow_nil _ _ _ _, hB.size, Nat.le_of_eq hS.size.symm, ?_, ?_, fun p hp => ?_, ?_, rfl, rfl, h.un0, h.un1⟩
  · have h4 := World.ownsRow.kept h.runes h3 (own_apart h.runes h.lines (by decide))
    exact World.ownsRow.kept h4 hS.grown (own_off h4 hA (by decide))
  · have h4 : w'.ownsRow W.heap.size 157 4 v' (P ++ [(c.tv, (⟨a.toks, a.fr, to, o⟩ : Ln))]).length (lcells (P ++ [(c.tv, ⟨a.toks, a.fr, to, o⟩)])) := by
      rw [lcells_snoc, List.length_append]
      exact h2
    exact World.ownsRow.kept h4 hS.grown (own_off h4 hA (by decide))
  · rw [List.map_append, h.pl]
    rfl
  · rcases List.mem_append.1 hp with hp | hp
    · have h4 := World.ownsRow.kept (h.done p hp).1 h3 (own_apart (h.done p hp).1 h.lines (by decide))
      exact ⟨World.ownsRow.kept h4 hS.grown (own_off h4 hA (by decide)), fun k hk => own_lt h4 hk⟩
    · simp only [List.mem_cons, List.not_mem_nil, or_false] at hp
      subst hp
      exact ⟨row_low (World.ownsRow.kept hT hS.grown (own_off hT hA (by decide))) h.b0, fun k hk => own_lt hT hk⟩
  · have h4 := World.ownsRow.kept h.diags h3 (own_apart h.diags h.lines (by decide))
    exact World.ownsRow.kept h4 hS.grown (own_off h4 hA (by decide))

end Go.Proofs.Ytobplffailbkbaa

/-
  span, tell, pass, endLine and take of the project, walked.
-/
namespace Go.Proofs.Ytobplffailbkbaa
open Go.RowKit

theorem rnF_of {L : List Rn} {i : Nat} {r : Rn} (h : L[i]? = some r) : rnF L i = r.f := by unfold rnF; rw [h]
theorem rnT_of {L : List Rn} {i : Nat} {r : Rn} (h : L[i]? = some r) : rnT L i = r.t := by unfold rnT; rw [h]

/-- Where the characters are. -/
theorem Big.row {W : World} {g : Nat} {L : List Rn} {c : WC} {B1 : Nat} {P : List (Value × Ln)} {a : Acc} {w : World} (h : Big W g L c B1 P a w) : ∃ ra cap, c.rv = .slice ra L.length cap ∧ L.length ≤ cap ∧ cap ≤ maxLen ∧ ∀ i, i < L.length → ∃ b, ra = some ⟨b, 0, none⟩ ∧ b < w.heap.size ∧ w.cell? ⟨b, i * 3 + 1, none⟩ = some (.int .i64 (rnF L i : Int)) ∧ w.cell? ⟨b, i * 3 + 2, none⟩ = some (.int .i64 (rnT L i : Int)) := by
  have hc : CRow W c.rv L w := ⟨h.runes, h.low⟩
  obtain ⟨ra, cap, hv, h1, h2, h3⟩ := crow_cells hc
  refine ⟨ra, cap, hv, h1, h2, fun i hi => ?_⟩
  obtain ⟨r, hr⟩ : ∃ r, L[i]? = some r := ⟨_, List.getElem?_eq_getElem hi⟩
  obtain ⟨b, hb, hlt, -, e1, e2⟩ := h3 i r hr
  exact ⟨b, hb, hlt, by rw [rnF_of hr]; exact e1, by rw [rnT_of hr]; exact e2⟩

def spanPost (F : ByteArray) (x y : Nat) (w : World) (e : Ending) (w' : World) : Prop :=
  e = .returned (.agg #[.string F, .int .i64 (x : Int), .int .i64 (y : Int)]) ∧ Below w.heap.size w w'

/-- The walk at a place, in a state. -/
structure Env where
  W : World
  g : Nat
  L : List Rn
  F : ByteArray
  ch : ByteArray
  sz : Nat

def Was (E : Env) (i st bg : Nat) (a : Acc) (w : World) : Prop :=
  ∃ c B1 P, c.F = E.F ∧ c.ch = E.ch ∧ c.sz = E.sz ∧ c.i = i ∧ c.st = st ∧ c.bg = bg ∧ Big E.W E.g E.L c B1 P a w
def WasPost (E : Env) (i st bg : Nat) (a : Acc) (e : Ending) (w' : World) : Prop := e = .returned (.tuple #[]) ∧ Was E i st bg a w'

theorem step_ex {ops : Array Oper} {o : Oper} {a : Act} {w : World} {K : Act → World → Prop} {Q : Exit → Act → World → Prop} {E : Prop} (hgd : o.guard = none) (s x : Operand) (t : TypeId)
    (ho : o.op = .call { callee := .builtin .append, args := #[s, x], argTypes := #[t, t] }) (R : Nat → Nat → Nat → World → Prop) (d v : Value) (hs : a.eval s = d) (hx : a.eval x = v)
    (h : ∃ b n cap w', (Builtin.append_ #[t, t] o.type #[d, v]).run Try.prog w = .ok (.slice (some ⟨b, 0, none⟩) n cap) w' ∧ R b n cap w') (hK : ∀ b n cap w', R b n cap w' → K (a.put o.dst (.slice (some ⟨b, 0, none⟩) n cap)) w') :
    if Region.wanted o (yielded ops a.tmps) = true then Oper.wp Try.prog o a w K Q else E := by
  have hw : Region.wanted o (yielded ops a.tmps) = true := by simp [Region.wanted, hgd]
  rw [if_pos hw]
  obtain ⟨b, n, cap, w', hr, hR⟩ := h
  unfold Oper.wp execOp
  simp only [ho, resolve, invoke, builtin, Sem.run_bind, Sem.run_pure, Result.andThen_ok, List.map_toArray, List.map_cons, List.map_nil, hs, hx, hr]
  exact hK b n cap w' hR

theorem Big.pushD2 {W : World} {g : Nat} {L : List Rn} {c : WC} {B1 : Nat} {P : List (Value × Ln)} {a : Acc} {w : World} {ty : TypeId} {d0 sv : Value} (h : Big W g L c B1 P a w) (hv : c.dv = d0) (d : Dg) (hs : Src w sv 1 4 (dcell c.F d)) (hn : a.diags.length ≤ 500000) :
    ∃ b n cap w', (Builtin.append_ #[39, 39] ty #[d0, sv]).run Try.prog w = .ok (.slice (some ⟨b, 0, none⟩) n cap) w' ∧ PushD W g L c B1 P { a with diags := a.diags ++ [d] } b n cap w' := hv ▸ h.pushD d hs hn
theorem Big.pushT2 {W : World} {g : Nat} {L : List Rn} {c : WC} {B1 : Nat} {P : List (Value × Ln)} {a : Acc} {w : World} {ty : TypeId} {d0 sv : Value} (h : Big W g L c B1 P a w) (hv : c.tv = d0) (t : Tk) (hs : Src w sv 1 8 (tcell c.F t)) (hn : a.toks.length ≤ 500000) :
    ∃ b n cap w', (Builtin.append_ #[28, 28] ty #[d0, sv]).run Try.prog w = .ok (.slice (some ⟨b, 0, none⟩) n cap) w' ∧ PushT W g L c B1 P { a with toks := a.toks ++ [t] } b n cap w' := hv ▸ h.pushT t hs hn
theorem Big.pushL2 {W : World} {g : Nat} {L : List Rn} {c : WC} {B1 : Nat} {P : List (Value × Ln)} {a : Acc} {w : World} {ty : TypeId} {d0 d1 sv : Value} (h : Big W g L c B1 P a w) (hv : c.lv = d0) (ht : c.tv = d1) (to : Nat) (o : Bool) (hs : Src w sv 1 4 (lcell (d1, ⟨a.toks, a.fr, to, o⟩))) (hn : a.lines.length ≤ 500000) :
    ∃ b n cap w', (Builtin.append_ #[108, 108] ty #[d0, sv]).run Try.prog w = .ok (.slice (some ⟨b, 0, none⟩) n cap) w' ∧ PushL W g L c (endA a to o) to b n cap w' := by
  subst hv ht
  exact h.pushL to o hs hn

theorem heap_drew {w : World} {b : Nat} {o : Option Obj} (h : w.heap[b]? = o) : w.drew.heap[b]? = o := h

end Go.Proofs.Ytobplffailbkbaa

/-
  A region that draws its order, whose last store writes a cell that it loads: the loads may be taken first all the same, for the store waits for them.
-/
namespace Go.Proofs.Ytobplffailbkbaa
open Go.RowKit

section
variable {P : Program} {ops : Array Oper} {Q : Exit → Act → World → Prop} {md : Region.Mode} {S : World → Prop} {st : Nat}

/-- Whatever order is picked; S holds behind each operation but the one numbered st. -/
def anyT (P : Program) (md : Region.Mode) (ops : Array Oper) (Q : Exit → Act → World → Prop) (S : World → Prop) (st : Nat) : Nat → Array Bool → Act → World → Prop
  | 0, done, a, w => Region.ready md ops done = [] ∧ Q .normal a w
  | m + 1, done, a, w => (Region.ready md ops done = [] → Q .normal a w) ∧
    ∀ j ∈ Region.ready md ops done, wpOp P ops Q j (fun b x => (j ≠ st → S x) ∧ anyT P md ops Q S st m (done.setIfInBounds j true) b x) a w

theorem any_of_anyT : ∀ (m : Nat) (done : Array Bool) (a : Act) (w : World), anyT P md ops Q S st m done a w → wpAny P md ops Q m done a w
  | 0, _, _, _, h => h
  | m + 1, _, _, _, h => ⟨h.1, fun j hj => wpOp_mono (fun b x hx => any_of_anyT m _ b x hx.2) (h.2 j hj)⟩

/-- Where all orders end in what has been done. -/
theorem anyT_done {done : Array Bool} {a : Act} {w : World} (hr : Region.ready md ops done = []) (h : Q .normal a w) : ∀ m, anyT P md ops Q S st m done a w
  | 0 => ⟨hr, h⟩
  | _ + 1 => ⟨fun _ => h, by rw [hr]; simp⟩

theorem stays_free {i j : Nat} {oi : Oper} {done : Array Bool}
    (hf : ∀ k ok, ops[k]? = some ok → k ≠ i → done.getD k true = false → (∀ e ∈ ok.after, Region.binds md e = true → e.on ≠ i) → oi.apart ops ok = true) (hj : done.getD j true = false) :
    ∀ k ok, ops[k]? = some ok → k ≠ i → (done.setIfInBounds j true).getD k true = false → (∀ e ∈ ok.after, Region.binds md e = true → e.on ≠ i) → oi.apart ops ok = true := by
  intro k ok hk hki hun hno
  refine hf k ok hk hki ?_ hno
  by_cases e : j = k
  · rw [← e]; exact hj
  · rwa [getD_set_ne true e] at hun

/-- Nobody who is ready waits for i, which has not come up. -/
theorem waits_not {i : Nat} {oj : Oper} {done : Array Bool} (hi : done.getD i true = false) (hall : ∀ e ∈ oj.after, Region.binds md e = true → done.getD e.on false = true) : ∀ e ∈ oj.after, Region.binds md e = true → e.on ≠ i := by
  intro e he hb h
  have h1 := hall e he hb
  rw [h] at h1
  rcases Nat.lt_or_ge i done.size with h' | h'
  · simp [h'] at hi h1
    rw [hi] at h1
    cases h1
  · simp [Array.getElem?_eq_none h'] at h1

/-- All of D wait, each for i or for another of D. -/
def waitsB (md : Region.Mode) (ops : Array Oper) (i : Nat) (D : List Nat) : Bool := D.all fun d => match ops[d]? with
  | some o => o.after.any fun e => Region.binds md e && (e.on == i || D.contains e.on)
  | none => false

theorem waits_keep {i j : Nat} {D : List Nat} {done : Array Bool} (hD : waitsB md ops i D = true) (hn : ∀ d ∈ D, done.getD d false = false) (hi : done.getD i true = false) (hj : j ∈ Region.ready md ops done) : j ∉ D := by
  intro hjD
  obtain ⟨-, oj, hoj, hall⟩ := mem_ready.1 hj
  have h1 := List.all_eq_true.1 hD j hjD
  simp only [hoj] at h1
  obtain ⟨e, he, hb⟩ := Array.any_eq_true'.1 h1
  simp only [Bool.and_eq_true, Bool.or_eq_true, beq_iff_eq, List.contains_iff_mem] at hb
  rcases hb.2 with h2 | h2
  · exact waits_not hi hall e he hb.1 h2
  · have h3 := hall e he hb.1
    rw [hn _ h2] at h3
    cases h3

theorem anyT_first {i : Nat} {oi : Oper} {v : Value} {D : List Nat} (hi : ops[i]? = some oi) (hsel : ∀ (j : Nat) (o : Oper) cs b, ops[j]? = some o → o.op ≠ .select cs b)
    (hQ : ∀ c a w, Q (.panic c) (a.put oi.dst v) w → Q (.panic c) a w) (hD : waitsB md ops i D = true) (hst : st ∈ D) :
    ∀ (m : Nat) (done : Array Bool) (a : Act) (w : World), (∀ d ∈ D, done.getD d false = false) →
      (∀ k ok, ops[k]? = some ok → k ≠ i → done.getD k true = false → (∀ e ∈ ok.after, Region.binds md e = true → e.on ≠ i) → oi.apart ops ok = true) →
      i ∈ Region.ready md ops done → YieldsIf P ops S oi v a → S w →
      anyT P md ops Q S st m (done.setIfInBounds i true) (a.put oi.dst v) w → anyT P md ops Q S st (m + 1) done a w := by
  intro m
  induction m with
  | zero =>
    intro done a w _ _ hr hy hT H
    refine ⟨fun h => (by rw [h] at hr; cases hr), fun j hj => ?_⟩
    by_cases e : j = i
    · rw [e]
      exact hy.wpOp hi hT ⟨fun _ => hT, H⟩
    · have h1 := ready_mono hj e
      rw [H.1] at h1
      cases h1
  | succ m ih =>
    intro done a w hRd hf hr hy hT H
    refine ⟨fun h => (by rw [h] at hr; cases hr), fun j hj => ?_⟩
    by_cases e : j = i
    · rw [e]
      exact hy.wpOp hi hT ⟨fun _ => hT, H⟩
    · obtain ⟨hjd, oj, hoj, hall⟩ := mem_ready.1 hj
      have hid := (mem_ready.1 hr).1
      have hno := waits_not hid hall
      have hjD := waits_keep hD hRd hid hj
      have hne : j ≠ st := fun h => hjD (h ▸ hst)
      have h2 := wpOp_putIf hoj (hf j oj hoj e hjd hno) (fun cs b => hsel i oi cs b hi) (fun cs b => hsel j oj cs b hoj) hQ hy (H.2 j (ready_mono hj e))
      refine wpOp_mono (fun b x h3 => ⟨h3.2.1, ih (done.setIfInBounds j true) b x (fun d hd => ?_) (stays_free hf hjd) (ready_mono hr (Ne.symm e)) h3.1 (h3.2.1 hne) ?_⟩) h2
      · rw [getD_set_ne false (fun h => hjD (by rw [h]; exact hd))]
        exact hRd d hd
      · rw [Array.setIfInBounds_comm _ _ e]
        exact h3.2.2

/-- Take number i first. -/
theorem anyT_take (i : Nat) (D : List Nat) {oi : Oper} {v : Value} {m : Nat} {done : Array Bool} {a : Act} {w : World} (hi : ops[i]? = some oi)
    (hs : (Region.noSelect ops && Region.free md ops done i && (Region.ready md ops done).contains i && waitsB md ops i D && D.contains st && D.all fun d => !(done.getD d false)) = true)
    (hQ : ∀ c a w, Q (.panic c) (a.put oi.dst v) w → Q (.panic c) a w) (hy : YieldsIf P ops S oi v a) (hS : S w)
    (h : anyT P md ops Q S st m (done.setIfInBounds i true) (a.put oi.dst v) w) : anyT P md ops Q S st (m + 1) done a w := by
  simp only [Bool.and_eq_true] at hs
  obtain ⟨⟨⟨⟨⟨h1, h2⟩, h3⟩, h4⟩, h5⟩, h6⟩ := hs
  refine anyT_first hi (Region.noSelect_spec h1) hQ h4 (by simpa using h5) m done a w (fun d hd => ?_) (Region.free_spec hi h2) (by simpa using h3) hy hS h
  have := List.all_eq_true.1 h6 d hd
  simpa using this

/-- The one that may come up comes up. -/
theorem anyT_step (i : Nat) {o : Oper} {m : Nat} {done : Array Bool} {a : Act} {w : World} (hr : Region.ready md ops done = [i]) (ho : ops[i]? = some o)
    (h : ∀ K' : Act → World → Prop, Shut (∀ b x, (i ≠ st → S x) → anyT P md ops Q S st m (done.setIfInBounds i true) b x → K' b x) → if Region.wanted o (yielded ops a.tmps) = true then Oper.wp P o a w K' Q else K' (a.put o.dst undef) w) :
    anyT P md ops Q S st (m + 1) done a w := by
  refine ⟨fun h0 => (by rw [h0] at hr; cases hr), fun j hj => ?_⟩
  rw [hr] at hj
  simp only [List.mem_cons, List.not_mem_nil, or_false] at hj
  rw [hj]
  exact wpOp_step ho fun K' hK => h K' fun b x hs hx => hK b x ⟨hs, hx⟩

/-- The beginning. -/
theorem region_anyT (S : World → Prop) (st : Nat) {id : Nat} {a : Act} {w : World} (hm : P.follows .mixedOrders = true)
    (h : anyT P .any ops Q S st ops.size (Array.replicate ops.size false) a w.drew) : (Code.region id ops true).wp P Q a w :=
  wp_region_any hm (any_of_anyT _ _ _ _ h)

end

end Go.Proofs.Ytobplffailbkbaa
