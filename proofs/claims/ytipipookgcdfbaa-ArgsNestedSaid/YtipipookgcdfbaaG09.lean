/-
  Texts of the proof, put together: LxB.
-/
import Derived.Test.YtipipookgcdfbaaG07
import Derived.Test.YtipipookgcdfbaaG08

/-
  What the walk of the project holds in memory, all of it: its block, its rows, the lines that are done.
-/
namespace Go.Proofs.Ytipipookgcdfbaa
open Go.RowKit

theorem Try.infoTok : (Try.prog.info? 50).map (fun i => (i.zero, i.size, i.bytes)) = some (some (.agg #[.int .i64 0, .string ⟨#[]⟩, .bool false, .string ⟨#[]⟩, .int .i64 0, .int .i64 0, .bool false, .slice none 0 0]), 8, 96) := by kernel_rfl

theorem Try.infoLine : (Try.prog.info? 134).map (fun i => (i.zero, i.size, i.bytes)) = some (some (.agg #[.slice none 0 0, .int .i64 0, .int .i64 0, .bool false]), 4, 48) := by kernel_rfl

theorem Try.infoDiag : (Try.prog.info? 105).map (fun i => (i.zero, i.size, i.bytes)) = some (some (.agg #[.int .i64 0, .string ⟨#[]⟩, .int .i64 0, .int .i64 0]), 4, 40) := by kernel_rfl

theorem Try.infoRLine : (Try.prog.info? 81).map (fun i => (i.zero, i.size, i.bytes)) = some (some (.agg #[.slice none 0 0, .int .i64 0, .int .i64 0, .bool false]), 4, 48) := by kernel_rfl

theorem Try.infoWalk : (Try.prog.info? 87).map (fun i => (i.size)) = some 14 := by kernel_rfl

def tcell (F : ByteArray) (t : Tk) : List Value := [.int .i64 (t.k : Int), .string ⟨t.x.toArray⟩, .bool t.sp, .string F, .int .i64 (t.f : Int), .int .i64 (t.t : Int), .bool false, .slice none 0 0]
def tcells (F : ByteArray) (T : List Tk) : List Value := T.flatMap (tcell F)
def lcell (p : Value × Ln) : List Value := [p.1, .int .i64 (p.2.f : Int), .int .i64 (p.2.t : Int), .bool p.2.o]
def lcells (P : List (Value × Ln)) : List Value := P.flatMap lcell
def dcell (F : ByteArray) (d : Dg) : List Value := [.int .i64 (d.c : Int), .string F, .int .i64 (d.f : Int), .int .i64 (d.t : Int)]
def dcells (F : ByteArray) (D : List Dg) : List Value := D.flatMap (dcell F)

theorem tcells_snoc (F : ByteArray) (T : List Tk) (t : Tk) : tcells F (T ++ [t]) = tcells F T ++ tcell F t := by simp [tcells]
theorem lcells_snoc (P : List (Value × Ln)) (p : Value × Ln) : lcells (P ++ [p]) = lcells P ++ lcell p := by simp [lcells]
theorem dcells_snoc (F : ByteArray) (D : List Dg) (d : Dg) : dcells F (D ++ [d]) = dcells F D ++ dcell F d := by simp [dcells]

theorem flat_get {α : Type} {f : α → List Value} {n : Nat} (hf : ∀ a, (f a).length = n) : ∀ (l : List α) (i : Nat) (a : α), l[i]? = some a → ∀ j, j < n → (l.flatMap f)[i * n + j]? = (f a)[j]?
  | [], i, a, h, _, _ => by simp at h
  | x :: r, 0, a, h, j, hj => by
    simp only [List.getElem?_cons_zero, Option.some.injEq] at h
    subst h
    rw [List.flatMap_cons, List.getElem?_append_left (by rw [hf]; omega)]
    simp
  | x :: r, i + 1, a, h, j, hj => by
    rw [List.flatMap_cons, List.getElem?_append_right (by rw [hf, Nat.succ_mul]; omega), hf, Nat.succ_mul]
    have := flat_get hf r i a (by simpa using h) j hj
    rw [← this]
    congr 1
    omega

/-- The kind of the block that a row lies in. -/
theorem own_kind {B : Nat} {w : World} {e : TypeId} {size : Nat} {v : Value} {n : Nat} {xs : List Value} (h : w.ownsRow B e size v n xs) {k : Nat} (hk : v.ownBlock = some k) : ∃ cs, w.heap[k]? = some (.cells cs e (0, 0)) := by
  obtain ⟨-, h2 | ⟨g, cap, cur, rfl, -, hh, -⟩⟩ := h
  · rw [h2.1] at hk
    cases hk
  · simp only [Value.ownBlock, Option.some.injEq] at hk
    subst hk
    exact ⟨cur, hh⟩

theorem own_apart {B B2 : Nat} {w : World} {e e2 : TypeId} {size size2 : Nat} {v v2 : Value} {n n2 : Nat} {xs xs2 : List Value} (h : w.ownsRow B e size v n xs) (h2 : w.ownsRow B2 e2 size2 v2 n2 xs2) (he : e ≠ e2) : v.ownBlock = none ∨ v.ownBlock ≠ v2.ownBlock := by
  cases hk : v.ownBlock with
  | none => exact .inl rfl
  | some k =>
    refine .inr fun e3 => he ?_
    obtain ⟨c1, h3⟩ := own_kind h hk
    obtain ⟨c2, h4⟩ := own_kind h2 e3.symm
    rw [h3] at h4
    simp only [Option.some.injEq, Obj.cells.injEq] at h4
    exact h4.2.1

theorem own_off {B : Nat} {w : World} {e e2 : TypeId} {size : Nat} {v : Value} {n : Nat} {xs : List Value} {g : Nat} {cs : Array Value} (h : w.ownsRow B e size v n xs) (hg : w.heap[g]? = some (.cells cs e2 (0, 0))) (he : e ≠ e2) : v.ownBlock = none ∨ v.ownBlock ≠ some g := by
  cases hk : v.ownBlock with
  | none => exact .inl rfl
  | some k =>
    refine .inr fun e3 => he ?_
    cases e3
    obtain ⟨c1, h3⟩ := own_kind h hk
    rw [hg] at h3
    simp only [Option.some.injEq, Obj.cells.injEq] at h3
    exact h3.2.1.symm

/-- A block turned alone is growth by that block. -/
theorem Step.grown {g : Nat} {c c' : WC} {w w' : World} (h : Step g c c' w w') : w.grownBy w' (some g) :=
  ⟨h.os, h.tape, h.output, Nat.le_of_eq h.size.symm, fun k _ hk => h.block k fun e => hk (by rw [e])⟩

structure Big (W : World) (g : Nat) (L : List Rn) (c : WC) (B1 : Nat) (P : List (Value × Ln)) (a : Acc) (w : World) : Prop where
  blk : WAt g c w
  hg : W.heap.size ≤ g
  low : Below W.heap.size W w
  runes : w.ownsRow W.heap.size 133 3 c.rv L.length (rcells L)
  chars : c.ch.data.toList = bytesOf L
  toks : w.ownsRow B1 50 8 c.tv a.toks.length (tcells c.F a.toks)
  b0 : W.heap.size ≤ B1
  b1 : B1 ≤ w.heap.size
  lines : w.ownsRow W.heap.size 134 4 c.lv P.length (lcells P)
  pl : P.map Prod.snd = a.lines
  done : ∀ p ∈ P, w.ownsRow W.heap.size 50 8 p.1 p.2.toks.length (tcells c.F p.2.toks) ∧ ∀ k, p.1.ownBlock = some k → k < B1
  diags : w.ownsRow W.heap.size 105 4 c.dv a.diags.length (dcells c.F a.diags)
  fr : c.fr = a.fr
  sp : c.sp = a.sp
  un0 : Un c.ch.data.toList c.i 34 c.u0
  un1 : Un c.ch.data.toList c.i 39 c.u1

theorem Big.lt {W : World} {g : Nat} {L : List Rn} {c : WC} {B1 : Nat} {P : List (Value × Ln)} {a : Acc} {w : World} (h : Big W g L c B1 P a w) : g < w.heap.size := row_lt h.blk

/-- New blocks alone. -/
theorem Big.next {W : World} {g : Nat} {L : List Rn} {c : WC} {B1 : Nat} {P : List (Value × Ln)} {a : Acc} {w w' : World} (h : Big W g L c B1 P a w) (b : Below w.heap.size w w') : Big W g L c B1 P a w' := by
  have hg : w.grownBy w' none := ⟨b.os, b.tape, b.output, b.size, fun k hk _ => b.block k hk⟩
  have hk : ∀ v : Value, v.ownBlock = none ∨ v.ownBlock ≠ none := fun v => by cases v.ownBlock <;> simp
  exact ⟨(b.block g h.lt).trans h.blk, h.hg, h.low.trans (b.mono h.low.size), World.ownsRow.kept h.runes hg (hk _), h.chars, World.ownsRow.kept h.toks hg (hk _), h.b0, Nat.le_trans h.b1 b.size, World.ownsRow.kept h.lines hg (hk _), h.pl,
    fun p hp => ⟨World.ownsRow.kept (h.done p hp).1 hg (hk _), (h.done p hp).2⟩, World.ownsRow.kept h.diags hg (hk _), h.fr, h.sp, h.un0, h.un1⟩
theorem Big.alloc {W : World} {g : Nat} {L : List Rn} {c : WC} {B1 : Nat} {P : List (Value × Ln)} {a : Acc} {w : World} (h : Big W g L c B1 P a w) (o : Obj) : Big W g L c B1 P a (w.alloc o) := h.next ((Below.refl _ _).alloc (Nat.le_refl _) o)
theorem Big.drewN {W : World} {g : Nat} {L : List Rn} {c : WC} {B1 : Nat} {P : List (Value × Ln)} {a : Acc} {w : World} (h : Big W g L c B1 P a w) (n : Nat) : Big W g L c B1 P a (w.drewN n) := h.next (Below.of_drews _ _)
theorem Big.drew {W : World} {g : Nat} {L : List Rn} {c : WC} {B1 : Nat} {P : List (Value × Ln)} {a : Acc} {w : World} (h : Big W g L c B1 P a w) : Big W g L c B1 P a w.drew := h.next (Below.refl _ _).drew

/-- The block alone: whatever of it turns that is no row. -/
theorem Big.step {W : World} {g : Nat} {L : List Rn} {c c' : WC} {B1 : Nat} {P : List (Value × Ln)} {a a' : Acc} {w w' : World} (h : Big W g L c B1 P a w) (s : Step g c c' w w')
    (e : c'.F = c.F ∧ c'.rv = c.rv ∧ c'.ch = c.ch ∧ c'.tv = c.tv ∧ c'.lv = c.lv ∧ c'.dv = c.dv) (ea : a'.toks = a.toks ∧ a'.lines = a.lines ∧ a'.diags = a.diags) (hfr : c'.fr = a'.fr) (hsp : c'.sp = a'.sp) (u0 : Un c.ch.data.toList c'.i 34 c'.u0) (u1 : Un c.ch.data.toList c'.i 39 c'.u1) : Big W g L c' B1 P a' w' := by
  obtain ⟨e1, e2, e3, e4, e5, e6⟩ := e
  obtain ⟨a1, a2, a3⟩ := ea
  have hb : ∀ k, k < W.heap.size → k ≠ g := fun k hk e => by have := h.hg; omega
  refine ⟨s.is, h.hg, ⟨s.os.trans h.low.os, s.tape.trans h.low.tape, s.output.trans h.low.output, by rw [s.size]; exact h.low.size, fun k hk => (s.block k (hb k hk)).trans (h.low.block k hk)⟩, ?_, by rw [e3]; exact h.chars, ?_, h.b0, by rw [s.size]; exact h.b1, ?_, by rw [a2]; exact h.pl, fun p hp => ?_, ?_, hfr, hsp, by rw [e3]; exact u0, by rw [e3]; exact u1⟩
  · rw [e2]
    exact World.ownsRow.kept h.runes s.grown (own_off h.runes h.blk (by decide))
  · rw [e4, e1, a1]
    exact World.ownsRow.kept h.toks s.grown (own_off h.toks h.blk (by decide))
  · rw [e5]
    exact World.ownsRow.kept h.lines s.grown (own_off h.lines h.blk (by decide))
  · rw [e1]
    exact ⟨World.ownsRow.kept (h.done p hp).1 s.grown (own_off (h.done p hp).1 h.blk (by decide)), (h.done p hp).2⟩
  · rw [e6, e1, a3]
    exact World.ownsRow.kept h.diags s.grown (own_off h.diags h.blk (by decide))

theorem WAt.grown {g : Nat} {c : WC} {B : Nat} {w w' : World} {e : TypeId} {size : Nat} {v : Value} {n : Nat} {xs : List Value} (h : WAt g c w) (hv : w.ownsRow B e size v n xs) (he : e ≠ 87) (hg : w.grownBy w' v.ownBlock) : WAt g c w' :=
  (hg.block g (row_lt h) fun e2 => by
    rcases own_off hv h he with h1 | h1
    · rw [h1] at e2; cases e2
    · exact h1 e2.symm).trans h

/-- The source of an append, just laid. -/
theorem src_row {w : World} {b : Nat} {cs : Array Value} {e : TypeId} {n : Nat} {news : List Value} (h : w.heap[b]? = some (.cells cs e (0, 0))) (hn : cs.toList = news) (hl : news.length = n) : Src w (.slice (some ⟨b, 0, none⟩) 1 1) 1 n news :=
  .inr ⟨_, 1, rfl, by omega, fun j u hj => by
    rw [addr_add, Lib.cell_of_heap h, ← Array.getElem?_toList, hn]
    exact hj⟩

theorem append_form {B : Nat} {w : World} {e : TypeId} {size : Nat} {v : Value} {n : Nat} {xs : List Value} (h : w.ownsRow B e size v n xs) (hn : 0 < n) : ∃ b cap, v = .slice (some ⟨b, 0, none⟩) n cap := by
  obtain ⟨-, h2 | ⟨g, cap, cur, rfl, -⟩⟩ := h
  · omega
  · exact ⟨g, cap, rfl⟩

def PushD (W : World) (g : Nat) (L : List Rn) (c : WC) (B1 : Nat) (P : List (Value × Ln)) (a : Acc) (b n cap : Nat) (w' : World) : Prop :=
  WAt g c w' ∧ Big W g L { c with dv := .slice (some ⟨b, 0, none⟩) n cap } B1 P a (w'.setCell ⟨g, 11, none⟩ (.slice (some ⟨b, 0, none⟩) n cap))

theorem Big.pushD {W : World} {g : Nat} {L : List Rn} {c : WC} {B1 : Nat} {P : List (Value × Ln)} {a : Acc} {w : World} {ty : TypeId} {sv : Value} (h : Big W g L c B1 P a w) (d : Dg) (hs : Src w sv 1 4 (dcell c.F d)) (hn : a.diags.length ≤ 500000) :
    ∃ b n cap w', (Builtin.append_ #[77, 77] ty #[c.dv, sv]).run Try.prog w = .ok (.slice (some ⟨b, 0, none⟩) n cap) w' ∧ PushD W g L c B1 P { a with diags := a.diags ++ [d] } b n cap w' := by
  obtain ⟨i0, hi, hz0, hz1, hz2⟩ := info_parts Try.infoDiag
  obtain ⟨v', w', hr, h2, h3⟩ := run_app (ty := ty) Try.underlying77 hi hz0 hz1 hz2 rfl (by decide) (by decide) h.diags hs (by intro u hu; simp only [dcell, List.mem_cons, List.not_mem_nil, or_false] at hu; rcases hu with rfl | rfl | rfl | rfl <;> rfl) (by omega) h.low.size
  have hA := h.blk.grown h.diags (by decide) h3
  have hS : Step g c { c with dv := v' } w' (w'.setCell ⟨g, 11, none⟩ v') := (Step.refl hA).set 11 v' _ rfl
  obtain ⟨b, cap, hv⟩ := append_form h2 (by omega)
  refine ⟨b, _, cap, w', by rw [← hv]; exact hr, hA, ?_⟩
  rw [← hv]
  have hB : Below W.heap.size W w' := h.low.grown h3 h.low.size fun k hk => (World.ownsRow.lt h.diags k hk).1
  have hgk := h.hg
  refine ⟨hS.is, h.hg, hB.setCell (by exact h.hg) _, ?_, h.chars, ?_, h.b0, ?_, ?_, h.pl, fun p hp => ⟨?_, (h.done p hp).2⟩, ?_, h.fr, h.sp, h.un0, h.un1⟩
  · have h4 := World.ownsRow.kept h.runes h3 (own_apart h.runes h.diags (by decide))
    exact World.ownsRow.kept h4 hS.grown (own_off h4 hA (by decide))
  · have h4 := World.ownsRow.kept h.toks h3 (own_apart h.toks h.diags (by decide))
    exact World.ownsRow.kept h4 hS.grown (own_off h4 hA (by decide))
  · rw [hS.size]
    exact Nat.le_trans h.b1 h3.size
  · have h4 := World.ownsRow.kept h.lines h3 (own_apart h.lines h.diags (by decide))
    exact World.ownsRow.kept h4 hS.grown (own_off h4 hA (by decide))
  · have h4 := World.ownsRow.kept (h.done p hp).1 h3 (own_apart (h.done p hp).1 h.diags (by decide))
    exact World.ownsRow.kept h4 hS.grown (own_off h4 hA (by decide))
  · have h4 : w'.ownsRow W.heap.size 105 4 v' (a.diags ++ [d]).length (dcells c.F (a.diags ++ [d])) := by
      rw [dcells_snoc, List.length_append]
      exact h2
    exact World.ownsRow.kept h4 hS.grown (own_off h4 hA (by decide))

def PushT (W : World) (g : Nat) (L : List Rn) (c : WC) (B1 : Nat) (P : List (Value × Ln)) (a : Acc) (b n cap : Nat) (w' : World) : Prop :=
  WAt g c w' ∧ Big W g L { c with tv := .slice (some ⟨b, 0, none⟩) n cap } B1 P a (w'.setCell ⟨g, 9, none⟩ (.slice (some ⟨b, 0, none⟩) n cap))

theorem Big.pushT {W : World} {g : Nat} {L : List Rn} {c : WC} {B1 : Nat} {P : List (Value × Ln)} {a : Acc} {w : World} {ty : TypeId} {sv : Value} (h : Big W g L c B1 P a w) (t : Tk) (hs : Src w sv 1 8 (tcell c.F t)) (hn : a.toks.length ≤ 500000) :
    ∃ b n cap w', (Builtin.append_ #[22, 22] ty #[c.tv, sv]).run Try.prog w = .ok (.slice (some ⟨b, 0, none⟩) n cap) w' ∧ PushT W g L c B1 P { a with toks := a.toks ++ [t] } b n cap w' := by
  obtain ⟨i0, hi, hz0, hz1, hz2⟩ := info_parts Try.infoTok
  obtain ⟨v', w', hr, h2, h3⟩ := run_app (ty := ty) Try.underlying22 hi hz0 hz1 hz2 rfl (by decide) (by decide) h.toks hs (by intro u hu; simp only [tcell, List.mem_cons, List.not_mem_nil, or_false] at hu; rcases hu with rfl | rfl | rfl | rfl | rfl | rfl | rfl | rfl <;> rfl) (by omega) h.b1
  have hA := h.blk.grown h.toks (by decide) h3
  have hS : Step g c { c with tv := v' } w' (w'.setCell ⟨g, 9, none⟩ v') := (Step.refl hA).set 9 v' _ rfl
  obtain ⟨b, cap, hv⟩ := append_form h2 (by omega)
  refine ⟨b, _, cap, w', by rw [← hv]; exact hr, hA, ?_⟩
  rw [← hv]
  have hB : Below W.heap.size W w' := h.low.grown h3 h.low.size fun k hk => Nat.le_trans h.b0 (World.ownsRow.lt h.toks k hk).1
  have hgk := h.hg
  refine ⟨hS.is, h.hg, hB.setCell (by exact h.hg) _, ?_, h.chars, ?_, h.b0, ?_, ?_, h.pl, fun p hp => ⟨?_, (h.done p hp).2⟩, ?_, h.fr, h.sp, h.un0, h.un1⟩
  · have h4 := World.ownsRow.kept h.runes h3 (own_apart h.runes h.toks (by decide))
    exact World.ownsRow.kept h4 hS.grown (own_off h4 hA (by decide))
  · have h4 : w'.ownsRow B1 50 8 v' (a.toks ++ [t]).length (tcells c.F (a.toks ++ [t])) := by
      rw [tcells_snoc, List.length_append]
      exact h2
    exact World.ownsRow.kept h4 hS.grown (own_off h4 hA (by decide))
  · rw [hS.size]
    exact Nat.le_trans h.b1 h3.size
  · have h4 := World.ownsRow.kept h.lines h3 (own_apart h.lines h.toks (by decide))
    exact World.ownsRow.kept h4 hS.grown (own_off h4 hA (by decide))
  · have hne : p.1.ownBlock = none ∨ p.1.ownBlock ≠ c.tv.ownBlock := by
      cases hk : p.1.ownBlock with
      | none => exact .inl rfl
      | some k =>
        refine .inr fun e => ?_
        have h5 := (h.done p hp).2 k hk
        have h6 := (World.ownsRow.lt h.toks k e.symm).1
        omega
    have h4 := World.ownsRow.kept (h.done p hp).1 h3 hne
    exact World.ownsRow.kept h4 hS.grown (own_off h4 hA (by decide))
  · have h4 := World.ownsRow.kept h.diags h3 (own_apart h.diags h.toks (by decide))
    exact World.ownsRow.kept h4 hS.grown (own_off h4 hA (by decide))

/-- The line's end: all four stores. -/
def endWorld (g : Nat) (to : Nat) (v' : Value) (w' : World) : World := (((w'.setCell ⟨g, 10, none⟩ v').setCell ⟨g, 7, none⟩ (.int .i64 (to : Int))).setCell ⟨g, 8, none⟩ (.bool false)).setCell ⟨g, 9, none⟩ (.slice none 0 0)
def PushL (W : World) (g : Nat) (L : List Rn) (c : WC) (a : Acc) (to : Nat) (b n cap : Nat) (w' : World) : Prop :=
  WAt g c w' ∧ ∃ B1 P', Big W g L { c with lv := .slice (some ⟨b, 0, none⟩) n cap, fr := to, sp := false, tv := .slice none 0 0 } B1 P' a (endWorld g to (.slice (some ⟨b, 0, none⟩) n cap) w')

theorem own_lt {B : Nat} {w : World} {e : TypeId} {size : Nat} {v : Value} {n : Nat} {xs : List Value} (h : w.ownsRow B e size v n xs) {k : Nat} (hk : v.ownBlock = some k) : k < w.heap.size := (World.ownsRow.lt h k hk).2

theorem Big.pushL {W : World} {g : Nat} {L : List Rn} {c : WC} {B1 : Nat} {P : List (Value × Ln)} {a : Acc} {w : World} {ty : TypeId} {sv : Value} (h : Big W g L c B1 P a w) (to : Nat) (o : Bool) (hs : Src w sv 1 4 (lcell (c.tv, ⟨a.toks, a.fr, to, o⟩))) (hn : a.lines.length ≤ 500000) :
    ∃ b n cap w', (Builtin.append_ #[84, 84] ty #[c.lv, sv]).run Try.prog w = .ok (.slice (some ⟨b, 0, none⟩) n cap) w' ∧ PushL W g L c (endA a to o) to b n cap w' := by
  obtain ⟨i0, hi, hz0, hz1, hz2⟩ := info_parts Try.infoLine
  have hPn : P.length ≤ 500000 := by rw [← h.pl, List.length_map] at hn; exact hn
  have ht1 : c.tv.oneCell' = true := by
    obtain ⟨a0, cap0, hv, -⟩ := row_form h.toks
    rw [hv]
    rfl
  obtain ⟨v', w', hr, h2, h3⟩ := run_app (ty := ty) Try.underlying84 hi hz0 hz1 hz2 rfl (by decide) (by decide) h.lines hs (by intro u hu; simp only [lcell, List.mem_cons, List.not_mem_nil, or_false] at hu; rcases hu with rfl | rfl | rfl | rfl <;> first | exact ht1 | rfl) (by omega) h.low.size
  have hA := h.blk.grown h.lines (by decide) h3
  have hS : Step g c { c with lv := v', fr := to, sp := false, tv := .slice none 0 0 } w' (endWorld g to v' w') := by
    have s1 : Step g c { c with lv := v' } w' (w'.setCell ⟨g, 10, none⟩ v') := (Step.refl hA).set 10 v' _ rfl
    have s2 := s1.set 7 (.int .i64 (to : Int)) { c with lv := v', fr := to } rfl
    have s3 := s2.set 8 (.bool false) { c with lv := v', fr := to, sp := false } rfl
    exact s3.set 9 (.slice none 0 0) _ rfl
  obtain ⟨b, cap, hv⟩ := append_form h2 (by omega)
  have hB : Below W.heap.size W w' := h.low.grown h3 h.low.size fun k hk => (World.ownsRow.lt h.lines k hk).1
  have hgk := h.hg
  have hT := World.ownsRow.kept h.toks h3 (own_apart h.toks h.lines (by decide))
  refine ⟨b, _, cap, w', by rw [← hv]; exact hr, hA, w'.heap.size, P ++ [(c.tv, ⟨a.toks, a.fr, to, o⟩)], ?_⟩
  rw [← hv]
  refine ⟨hS.is, h.hg, (((hB.setCell (by exact h.hg) _).setCell (by exact h.hg) _).setCell (by exact h.hg) _).setCell (by exact h.hg) _, ?_, h.chars, World.ownsRow_nil _ _ _ _, hB.size, Nat.le_of_eq hS.size.symm, ?_, ?_, fun p hp => ?_, ?_, rfl, rfl, h.un0, h.un1⟩
  · have h4 := World.ownsRow.kept h.runes h3 (own_apart h.runes h.lines (by decide))
    exact World.ownsRow.kept h4 hS.grown (own_off h4 hA (by decide))
  · have h4 : w'.ownsRow W.heap.size 134 4 v' (P ++ [(c.tv, (⟨a.toks, a.fr, to, o⟩ : Ln))]).length (lcells (P ++ [(c.tv, ⟨a.toks, a.fr, to, o⟩)])) := by
      rw [lcells_snoc, List.length_append]
      exact h2
    exact World.ownsRow.kept h4 hS.grown (own_off h4 hA (by decide))
  · rw [List.map_append, h.pl]
    rfl
  · rcases List.mem_append.1 hp with hp | hp
    · have h4 := World.ownsRow.kept (h.done p hp).1 h3 (own_apart (h.done p hp).1 h.lines (by decide))
      exact ⟨World.ownsRow.kept h4 hS.grown (own_off h4 hA (by decide)), fun k hk => own_lt h4 hk⟩
    · simp only [List.mem_cons, List.not_mem_nil, or_false] at hp
      subst hp
      exact ⟨row_low (World.ownsRow.kept hT hS.grown (own_off hT hA (by decide))) h.b0, fun k hk => own_lt hT hk⟩
  · have h4 := World.ownsRow.kept h.diags h3 (own_apart h.diags h.lines (by decide))
    exact World.ownsRow.kept h4 hS.grown (own_off h4 hA (by decide))

end Go.Proofs.Ytipipookgcdfbaa
