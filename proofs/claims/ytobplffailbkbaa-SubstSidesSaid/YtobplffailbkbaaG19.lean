/-
  Texts of the proof, put together: RLb, RLp.
-/
import Derived.Test.YtobplffailbkbaaG18

/-
  What the document's own Lines holds in memory.
-/
namespace Go.Proofs.Ytobplffailbkbaa
open Go.RowKit

/-- The box of the line under way. -/
def boxC (tv : Value) (fr to : Nat) (op : Bool) : Array Value := #[tv, .int .i64 (fr : Int), .int .i64 (to : Int), .bool op]

structure RB (W : World) (g : Nat) (F : ByteArray) (L : List Rn) (rv ov dv tv : Value) (to : Nat) (op : Bool) (B1 : Nat) (P : List (Value × Ln)) (a : Acc) (w : World) : Prop where
  box : w.heap[g]? = some (.cells (boxC tv a.fr to op) 67 (0, 0))
  hg : W.heap.size ≤ g
  low : Below W.heap.size W w
  runes : w.ownsRow W.heap.size 93 3 rv L.length (rcells L)
  toks : w.ownsRow B1 26 8 tv a.toks.length (tcells F a.toks)
  b0 : W.heap.size ≤ B1
  b1 : B1 ≤ w.heap.size
  lines : w.ownsRow (g + 1) 67 4 ov P.length (lcells P)
  pl : P.map Prod.snd = a.lines
  done : ∀ p ∈ P, w.ownsRow W.heap.size 26 8 p.1 p.2.toks.length (tcells F p.2.toks) ∧ ∀ k, p.1.ownBlock = some k → k < B1
  diags : w.ownsRow W.heap.size 50 4 dv a.diags.length (dcells F a.diags)

section
variable {W : World} {g : Nat} {F : ByteArray} {L : List Rn} {rv ov dv tv : Value} {to : Nat} {op : Bool} {B1 : Nat} {P : List (Value × Ln)} {a : Acc} {w : World}

theorem RB.lt (h : RB W g F L rv ov dv tv to op B1 P a w) : g < w.heap.size := row_lt h.box
theorem RB.k0 (h : RB W g F L rv ov dv tv to op B1 P a w) : w.cell? ⟨g, 0, none⟩ = some tv := (Lib.cell_of_heap h.box 0).trans rfl
theorem RB.k1 (h : RB W g F L rv ov dv tv to op B1 P a w) : w.cell? ⟨g, 1, none⟩ = some (.int .i64 (a.fr : Int)) := (Lib.cell_of_heap h.box 1).trans rfl
theorem RB.k2 (h : RB W g F L rv ov dv tv to op B1 P a w) : w.cell? ⟨g, 2, none⟩ = some (.int .i64 (to : Int)) := (Lib.cell_of_heap h.box 2).trans rfl
theorem RB.k3 (h : RB W g F L rv ov dv tv to op B1 P a w) : w.cell? ⟨g, 3, none⟩ = some (.bool op) := (Lib.cell_of_heap h.box 3).trans rfl
theorem RB.free (h : RB W g F L rv ov dv tv to op B1 P a w) (k : Nat) : w.frozen? ⟨g, k, none⟩ = false := frozen_of_row w g k _ _ h.box
theorem RB.at (h : RB W g F L rv ov dv tv to op B1 P a w) : RsAt L rv w := RRow.at (W := W) ⟨h.runes, h.low⟩

theorem RB.next {w' : World} (h : RB W g F L rv ov dv tv to op B1 P a w) (b : Below w.heap.size w w') : RB W g F L rv ov dv tv to op B1 P a w' := by
  have hg : w.grownBy w' none := ⟨b.os, b.tape, b.output, b.size, fun k hk _ => b.block k hk⟩
  have hk : ∀ v : Value, v.ownBlock = none ∨ v.ownBlock ≠ none := fun v => by cases v.ownBlock <;> simp
  exact ⟨(b.block g h.lt).trans h.box, h.hg, h.low.trans (b.mono h.low.size), World.ownsRow.kept h.runes hg (hk _), World.ownsRow.kept h.toks hg (hk _), h.b0, Nat.le_trans h.b1 b.size, World.ownsRow.kept h.lines hg (hk _), h.pl,
    fun p hp => ⟨World.ownsRow.kept (h.done p hp).1 hg (hk _), (h.done p hp).2⟩, World.ownsRow.kept h.diags hg (hk _)⟩
theorem RB.alloc (h : RB W g F L rv ov dv tv to op B1 P a w) (o : Obj) : RB W g F L rv ov dv tv to op B1 P a (w.alloc o) := h.next ((Below.refl _ _).alloc (Nat.le_refl _) o)
theorem RB.drewN (h : RB W g F L rv ov dv tv to op B1 P a w) (n : Nat) : RB W g F L rv ov dv tv to op B1 P a (w.drewN n) := h.next (Below.of_drews _ _)
theorem RB.drew (h : RB W g F L rv ov dv tv to op B1 P a w) : RB W g F L rv ov dv tv to op B1 P a w.drew := h.next (Below.refl _ _).drew

theorem RB.off (h : RB W g F L rv ov dv tv to op B1 P a w) : ov.ownBlock = none ∨ ov.ownBlock ≠ some g := by
  cases hk : ov.ownBlock with
  | none => exact .inl rfl
  | some k =>
    refine .inr fun e => ?_
    cases e
    have := (World.ownsRow.lt h.lines g hk).1
    omega

theorem grown_set (w : World) (g k : Nat) (v : Value) : w.grownBy (w.setCell ⟨g, k, none⟩ v) (some g) := ⟨rfl, rfl, rfl, by simp [World.setCell], fun j _ hj => heap_setCell_other w ⟨g, k, none⟩ j v fun e => hj (by rw [e])⟩

/-- The box alone. -/
theorem RB.set {tv' : Value} {to' : Nat} {op' : Bool} {a' : Acc} {B' : Nat} (h : RB W g F L rv ov dv tv to op B1 P a w) (k : Nat) (v : Value) (he : (boxC tv a.fr to op).setIfInBounds k v = boxC tv' a'.fr to' op') (ea : a'.lines = a.lines ∧ a'.diags = a.diags)
    (ht : (w.setCell ⟨g, k, none⟩ v).ownsRow B' 26 8 tv' a'.toks.length (tcells F a'.toks)) (hB : B1 ≤ B') (hB2 : B' ≤ w.heap.size) : RB W g F L rv ov dv tv' to' op' B' P a' (w.setCell ⟨g, k, none⟩ v) := by
  have hgr := grown_set w g k v
  have hs : (w.setCell ⟨g, k, none⟩ v).heap.size = w.heap.size := by simp [World.setCell]
  refine ⟨?_, h.hg, h.low.setCell (by exact h.hg) _, World.ownsRow.kept h.runes hgr (own_off h.runes h.box (by decide)), ht, Nat.le_trans h.b0 hB, by rw [hs]; exact hB2, World.ownsRow.kept h.lines hgr h.off, by rw [ea.1]; exact h.pl, fun p hp => ⟨?_, fun k hk => Nat.lt_of_lt_of_le ((h.done p hp).2 k hk) hB⟩, ?_⟩
  · rw [heap_setCell_same w g k _ _ v h.box, he]
  · exact World.ownsRow.kept (h.done p hp).1 hgr (own_off (h.done p hp).1 h.box (by decide))
  · rw [ea.2]
    exact World.ownsRow.kept h.diags hgr (own_off h.diags h.box (by decide))
theorem RB.toksSet (h : RB W g F L rv ov dv tv to op B1 P a w) (k : Nat) (v : Value) : (w.setCell ⟨g, k, none⟩ v).ownsRow B1 26 8 tv a.toks.length (tcells F a.toks) := World.ownsRow.kept h.toks (grown_set w g k v) (own_off h.toks h.box (by decide))
theorem RB.setTo (h : RB W g F L rv ov dv tv to op B1 P a w) (t : Nat) {x : Int} (hx : x = (t : Int)) : RB W g F L rv ov dv tv t op B1 P a (w.setCell ⟨g, 2, none⟩ (.int .i64 x)) := by
  subst hx
  exact h.set 2 _ rfl ⟨rfl, rfl⟩ (h.toksSet 2 _) (Nat.le_refl _) h.b1
theorem RB.setOpen (h : RB W g F L rv ov dv tv to op B1 P a w) (b : Bool) : RB W g F L rv ov dv tv to b B1 P a (w.setCell ⟨g, 3, none⟩ (.bool b)) := h.set 3 _ rfl ⟨rfl, rfl⟩ (h.toksSet 3 _) (Nat.le_refl _) h.b1
theorem RB.setFr (h : RB W g F L rv ov dv tv to op B1 P a w) (f : Nat) {x : Int} (hx : x = (f : Int)) : RB W g F L rv ov dv tv to op B1 P { a with fr := f } (w.setCell ⟨g, 1, none⟩ (.int .i64 x)) := by
  subst hx
  exact h.set (a' := { a with fr := f }) 1 _ rfl ⟨rfl, rfl⟩ (h.toksSet 1 _) (Nat.le_refl _) h.b1
/-- What is told. -/
def RPD (W : World) (g : Nat) (F : ByteArray) (L : List Rn) (rv ov tv : Value) (to : Nat) (op : Bool) (B1 : Nat) (P : List (Value × Ln)) (a : Acc) (b n cap : Nat) (w' : World) : Prop := RB W g F L rv ov (.slice (some ⟨b, 0, none⟩) n cap) tv to op B1 P a w'
theorem RB.pushD {ty : TypeId} {sv : Value} (h : RB W g F L rv ov dv tv to op B1 P a w) (d : Dg) (hs : Src w sv 1 4 (dcell F d)) (hn : a.diags.length ≤ 500000) :
    ∃ b n cap w', (Builtin.append_ #[39, 39] ty #[dv, sv]).run Try.prog w = .ok (.slice (some ⟨b, 0, none⟩) n cap) w' ∧ n = a.diags.length + 1 ∧ RPD W g F L rv ov tv to op B1 P { a with diags := a.diags ++ [d] } b n cap w' := by
  obtain ⟨i0, hi, hz0, hz1, hz2⟩ := info_parts Try.infoDiag
  obtain ⟨v', w', hr, h2, h3⟩ := run_app (ty := ty) Try.underlying39 hi hz0 hz1 hz2 rfl (by decide) (by decide) h.diags hs (by intro u hu; simp only [dcell, List.mem_cons, List.not_mem_nil, or_false] at hu; rcases hu with rfl | rfl | rfl | rfl <;> rfl) (by omega) h.low.size
  obtain ⟨b, cap, hv⟩ := append_form h2 (by omega)
  refine ⟨b, _, cap, w', by rw [← hv]; exact hr, rfl, ?_⟩
  unfold RPD
  rw [← hv]
  refine ⟨(h3.block g h.lt fun e => ?_).trans h.box, h.hg, h.low.grown h3 h.low.size fun k hk => (World.ownsRow.lt h.diags k hk).1, World.ownsRow.kept h.runes h3 (own_apart h.runes h.diags (by decide)), World.ownsRow.kept h.toks h3 (own_apart h.toks h.diags (by decide)), h.b0, Nat.le_trans h.b1 h3.size, World.ownsRow.kept h.lines h3 (own_apart h.lines h.diags (by decide)), h.pl, fun p hp => ⟨World.ownsRow.kept (h.done p hp).1 h3 (own_apart (h.done p hp).1 h.diags (by decide)), (h.done p hp).2⟩, ?_⟩
  · rcases own_off h.diags h.box (by decide) with h1 | h1
    · rw [h1] at e; cases e
    · exact h1 e.symm
  · rw [dcells_snoc, List.length_append]
    exact h2

/-- Blocks that hold no tokens stay. -/
def keepT (w w' : World) : Prop := ∀ (b : Nat) (cs : Array Value) (e : TypeId), w.heap[b]? = some (.cells cs e (0, 0)) → e ≠ 26 → w'.heap[b]? = some (.cells cs e (0, 0))
/-- A token; what the box is to hold then. -/
def RPT (W : World) (g : Nat) (F : ByteArray) (L : List Rn) (rv ov dv tv : Value) (w : World) (to : Nat) (op : Bool) (B1 : Nat) (P : List (Value × Ln)) (a : Acc) (b n cap : Nat) (w' : World) : Prop :=
  (w'.frozen? ⟨g, 0, none⟩ = false ∧ w'.cell? ⟨g, 0, none⟩ = some tv) ∧ keepT w w' ∧ RB W g F L rv ov dv (.slice (some ⟨b, 0, none⟩) n cap) to op B1 P a (w'.setCell ⟨g, 0, none⟩ (.slice (some ⟨b, 0, none⟩) n cap))
theorem RB.pushT {ty : TypeId} {sv : Value} (h : RB W g F L rv ov dv tv to op B1 P a w) (t : Tk) (hs : Src w sv 1 8 (tcell F t)) (hn : a.toks.length ≤ 500000) :
    ∃ b n cap w', (Builtin.append_ #[28, 28] ty #[tv, sv]).run Try.prog w = .ok (.slice (some ⟨b, 0, none⟩) n cap) w' ∧ RPT W g F L rv ov dv tv w to op B1 P { a with toks := a.toks ++ [t] } b n cap w' := by
  obtain ⟨i0, hi, hz0, hz1, hz2⟩ := info_parts Try.infoTok
  obtain ⟨v', w', hr, h2, h3⟩ := run_app (ty := ty) Try.underlying28 hi hz0 hz1 hz2 rfl (by decide) (by decide) h.toks hs (by intro u hu; simp only [tcell, List.mem_cons, List.not_mem_nil, or_false] at hu; rcases hu with rfl | rfl | rfl | rfl | rfl | rfl | rfl | rfl <;> rfl) (by omega) h.b1
  obtain ⟨b, cap, hv⟩ := append_form h2 (by omega)
  have hbox : w'.heap[g]? = some (.cells (boxC tv a.fr to op) 67 (0, 0)) := (h3.block g h.lt fun e => by
    rcases own_off h.toks h.box (by decide) with h1 | h1
    · rw [h1] at e; cases e
    · exact h1 e.symm).trans h.box
  refine ⟨b, _, cap, w', by rw [← hv]; exact hr, ⟨frozen_of_row w' g 0 _ _ hbox, (Lib.cell_of_heap hbox 0).trans rfl⟩, fun b cs e hb he => (h3.block b (row_lt hb) fun e2 => (own_off h.toks hb fun e3 => he e3.symm).elim (fun h1 => by rw [h1] at e2; cases e2) fun h1 => h1 e2.symm).trans hb, ?_⟩
  rw [← hv]
  have hgr := grown_set w' g 0 v'
  refine ⟨?_, h.hg, (h.low.grown h3 h.low.size fun k hk => Nat.le_trans h.b0 (World.ownsRow.lt h.toks k hk).1).setCell (by exact h.hg) _, ?_, ?_, h.b0, ?_, ?_, h.pl, fun p hp => ⟨?_, (h.done p hp).2⟩, ?_⟩
  · rw [heap_setCell_same w' g 0 _ _ v' hbox]
    rfl
  · have h4 := World.ownsRow.kept h.runes h3 (own_apart h.runes h.toks (by decide))
    exact World.ownsRow.kept h4 hgr (own_off h4 hbox (by decide))
  · have h4 : w'.ownsRow B1 26 8 v' (a.toks ++ [t]).length (tcells F (a.toks ++ [t])) := by
      rw [tcells_snoc, List.length_append]
      exact h2
    exact World.ownsRow.kept h4 hgr (own_off h4 hbox (by decide))
  · rw [show (w'.setCell ⟨g, 0, none⟩ v').heap.size = w'.heap.size from by simp [World.setCell]]
    exact Nat.le_trans h.b1 h3.size
  · exact World.ownsRow.kept (World.ownsRow.kept h.lines h3 (own_apart h.lines h.toks (by decide))) hgr h.off
  · have hne : p.1.ownBlock = none ∨ p.1.ownBlock ≠ tv.ownBlock := by
      cases hk : p.1.ownBlock with
      | none => exact .inl rfl
      | some k =>
        refine .inr fun e => ?_
        have h5 := (h.done p hp).2 k hk
        have h6 := (World.ownsRow.lt h.toks k e.symm).1
        omega
    have h4 := World.ownsRow.kept (h.done p hp).1 h3 hne
    exact World.ownsRow.kept h4 hgr (own_off h4 hbox (by decide))
  · have h4 := World.ownsRow.kept h.diags h3 (own_apart h.diags h.toks (by decide))
    exact World.ownsRow.kept h4 hgr (own_off h4 hbox (by decide))

/-- A line that is done; the box still holds what it held. -/
def RPL (W : World) (g : Nat) (F : ByteArray) (L : List Rn) (rv dv tv : Value) (to : Nat) (op : Bool) (a : Acc) (b n cap : Nat) (w' : World) : Prop :=
  ∃ P', P'.length = n ∧ RB W g F L rv (.slice (some ⟨b, 0, none⟩) n cap) dv (.slice none 0 0) to op w'.heap.size P' a (w'.setCell ⟨g, 0, none⟩ (.slice none 0 0)) ∧ w'.heap[g]? = some (.cells (boxC tv a.fr to op) 67 (0, 0)) ∧ RsAt L rv w' ∧ LRow W F 67 (.slice (some ⟨b, 0, none⟩) n cap) a.lines w' ∧ DRow W F dv a.diags w'
theorem RB.pushL {ty : TypeId} {sv : Value} (h : RB W g F L rv ov dv tv to op B1 P a w) (hs : Src w sv 1 4 (lcell (tv, ⟨a.toks, a.fr, to, op⟩))) (hn : a.lines.length ≤ 500000) :
    ∃ b n cap w', (Builtin.append_ #[63, 63] ty #[ov, sv]).run Try.prog w = .ok (.slice (some ⟨b, 0, none⟩) n cap) w' ∧ RPL W g F L rv dv tv to op { a with toks := [], lines := a.lines ++ [⟨a.toks, a.fr, to, op⟩] } b n cap w' := by
  obtain ⟨i0, hi, hz0, hz1, hz2⟩ := info_parts Try.infoRLine
  have hPn : P.length ≤ 500000 := by rw [← h.pl, List.length_map] at hn; exact hn
  have ht1 : tv.oneCell' = true := by
    obtain ⟨a0, cap0, hv, -⟩ := row_form h.toks
    rw [hv]
    rfl
  obtain ⟨v', w', hr, h2, h3⟩ := run_app (ty := ty) Try.underlying63 hi hz0 hz1 hz2 rfl (by decide) (by decide) h.lines hs (by intro u hu; simp only [lcell, List.mem_cons, List.not_mem_nil, or_false] at hu; rcases hu with rfl | rfl | rfl | rfl <;> first | exact ht1 | rfl) (by omega) h.lt
  have hbox : w'.heap[g]? = some (.cells (boxC tv a.fr to op) 67 (0, 0)) := (h3.block g h.lt fun e => by
    rcases h.off with h1 | h1
    · rw [h1] at e; cases e
    · exact h1 e.symm).trans h.box
  obtain ⟨b, cap, hv⟩ := append_form h2 (by omega)
  have hgr := grown_set w' g 0 (.slice none 0 0)
  have hB : Below W.heap.size W w' := h.low.grown h3 h.low.size fun k hk => Nat.le_trans h.hg (Nat.le_trans (Nat.le_succ g) (World.ownsRow.lt h.lines k hk).1)
  have hT := World.ownsRow.kept h.toks h3 (own_apart h.toks h.lines (by decide))
  have h40 : w'.ownsRow (g + 1) 67 4 v' (P ++ [(tv, (⟨a.toks, a.fr, to, op⟩ : Ln))]).length (lcells (P ++ [(tv, ⟨a.toks, a.fr, to, op⟩)])) := by
    rw [lcells_snoc, List.length_append]
    exact h2
  have hLR : LRow W F 67 v' (a.lines ++ [⟨a.toks, a.fr, to, op⟩]) w' := by
    refine ⟨_, by rw [List.map_append, h.pl]; rfl, ⟨row_low h40 (Nat.le_trans h.hg (Nat.le_succ g)), hB⟩, fun p hp => ⟨?_, hB⟩⟩
    rcases List.mem_append.1 hp with hp | hp
    · exact World.ownsRow.kept (h.done p hp).1 h3 (own_apart (h.done p hp).1 h.lines (by decide))
    · simp only [List.mem_cons, List.not_mem_nil, or_false] at hp
      subst hp
      exact row_low hT h.b0
  have hDR : DRow W F dv a.diags w' := ⟨World.ownsRow.kept h.diags h3 (own_apart h.diags h.lines (by decide)), hB⟩
  refine ⟨b, _, cap, w', by rw [← hv]; exact hr, P ++ [(tv, ⟨a.toks, a.fr, to, op⟩)], by simp, ?_, hbox, RRow.at (W := W) ⟨World.ownsRow.kept h.runes h3 (own_apart h.runes h.lines (by decide)), hB⟩, by rw [← hv]; exact hLR, hDR⟩
  rw [← hv]
  refine ⟨?_, h.hg, hB.setCell (by exact h.hg) _, ?_, World.ownsRow_nil _ _ _ _, hB.size, by simp [World.setCell], ?_, ?_, fun p hp => ?_, ?_⟩
  · rw [heap_setCell_same w' g 0 _ _ _ hbox]
    rfl
  · have h4 := World.ownsRow.kept h.runes h3 (own_apart h.runes h.lines (by decide))
    exact World.ownsRow.kept h4 hgr (own_off h4 hbox (by decide))
  · have h4 : w'.ownsRow (g + 1) 67 4 v' (P ++ [(tv, (⟨a.toks, a.fr, to, op⟩ : Ln))]).length (lcells (P ++ [(tv, ⟨a.toks, a.fr, to, op⟩)])) := by
      rw [lcells_snoc, List.length_append]
      exact h2
    refine World.ownsRow.kept h4 hgr ?_
    cases hk : v'.ownBlock with
    | none => exact .inl rfl
    | some k =>
      refine .inr fun e => ?_
      cases e
      have := (World.ownsRow.lt h4 g hk).1
      omega
  · rw [List.map_append, h.pl]
    rfl
  · rcases List.mem_append.1 hp with hp | hp
    · have h4 := World.ownsRow.kept (h.done p hp).1 h3 (own_apart (h.done p hp).1 h.lines (by decide))
      exact ⟨World.ownsRow.kept h4 hgr (own_off h4 hbox (by decide)), fun k hk => own_lt h4 hk⟩
    · simp only [List.mem_cons, List.not_mem_nil, or_false] at hp
      subst hp
      exact ⟨row_low (World.ownsRow.kept hT hgr (own_off hT hbox (by decide))) h.b0, fun k hk => own_lt hT hk⟩
  · have h4 := World.ownsRow.kept h.diags h3 (own_apart h.diags h.lines (by decide))
    exact World.ownsRow.kept h4 hgr (own_off h4 hbox (by decide))

end

end Go.Proofs.Ytobplffailbkbaa

/-
  The document's own run over the characters, over lists.
-/
namespace Go.Proofs.Ytobplffailbkbaa
open Go.RowKit

/-- What is answered, once the last line's end is set. -/
def Fin (sz : Nat) (R a : Acc) : Prop := R.diags = a.diags ∧ ((a.lines = [] ∧ R.lines = []) ∨ ∃ A x, a.lines = A ++ [x] ∧ R.lines = A ++ [{ x with t := sz }])
def RMid (L : List Rn) (sz : Nat) (R : Acc) (i : Nat) (a : Acc) : Prop := i ≤ L.length ∧ Lim a i ∧ (i < L.length → fromA L sz i a = R) ∧ (i = L.length → Fin sz R a)

theorem rmid_zero (L : List Rn) (sz : Nat) : RMid L sz (linesA L sz) 0 acc0 := by
  refine ⟨Nat.zero_le _, ⟨Nat.le_refl _, Nat.le_refl _, Nat.le_refl _⟩, fun _ => rfl, fun h => ?_⟩
  have : linesA L sz = acc0 := fromA_end (L := L) (sz := sz) (i := 0) (a := acc0) (by omega)
  rw [this]
  exact ⟨rfl, .inl ⟨rfl, rfl⟩⟩

section
variable {L : List Rn} {sz : Nat} {R : Acc} {i : Nat} {a : Acc}

theorem rmid_nl (h : RMid L sz R i a) (hi : i < L.length) (h10 : (bytesOf L).getD i 0 = 10) : RMid L sz R (i + 1) (endA a (rnT L i) false) := by
  obtain ⟨-, hl, h1, -⟩ := h
  have hf := h1 hi
  have hit : item ((bytesOf L).drop i) = .nl := item_nl (begN_two' (by rw [getD_drop]; exact h10))
  rw [fromA_step hi, hit] at hf
  simp only [lenA, stepA] at hf
  obtain ⟨l1, l2, l3⟩ := hl
  refine ⟨hi, ⟨by simp [endA], by simp [endA]; omega, by simp [endA]; omega⟩, fun h2 => ?_, fun h2 => ?_⟩
  · unfold toA at hf
    rw [if_pos h2, Nat.add_sub_cancel] at hf
    exact hf
  · unfold toA at hf
    rw [if_neg (by omega), fromA_end (by omega)] at hf
    rw [← hf]
    exact ⟨rfl, .inr ⟨a.lines, _, rfl, rfl⟩⟩

/-- No item but a line's end comes to the last character's end. -/
theorem item_short (hN : Nl (bytesOf L)) (hi : i < L.length) {it : It} (hit : item ((bytesOf L).drop i) = it) (ho : it ≠ .opn) (hn : it ≠ .nl) : 0 < it.len ∧ i + it.len < L.length := by
  subst hit
  have h := item_in (l := (bytesOf L).drop i) (by rw [List.length_drop, bytesOf_len]; omega) ho
  rw [List.length_drop, bytesOf_len, getD_drop] at h
  have h3 := h.2.2 hn
  have hl := hN.2
  rw [bytesOf_len] at hl
  refine ⟨h.1, ?_⟩
  rcases Nat.lt_or_ge (i + (item ((bytesOf L).drop i)).len) L.length with h4 | h4
  · exact h4
  · refine absurd ?_ h3
    rw [show i + ((item ((bytesOf L).drop i)).len - 1) = L.length - 1 from by omega]
    exact hl

theorem rmid_on (h : RMid L sz R i a) (hi : i < L.length) {it : It} (hit : item ((bytesOf L).drop i) = it) {n : Nat} (hn : lenA L i it = n) (hs : 0 < n ∧ i + n < L.length) : RMid L sz R (i + n) (stepA L sz i a it) := by
  obtain ⟨-, hl, h1, -⟩ := h
  have hf := h1 hi
  rw [fromA_step hi, hit, hn] at hf
  exact ⟨by omega, (hl.step it).up (by omega), fun _ => hf, fun h => by omega⟩

theorem rmid_opn (h : RMid L sz R i a) (hi : i < L.length) (hit : item ((bytesOf L).drop i) = .opn) : R = endA (tellA L a 1 i (i + 2)) sz true := by
  have hf := h.2.2.1 hi
  rw [fromA_step hi, hit] at hf
  simp only [lenA, stepA] at hf
  rw [fromA_end (by omega)] at hf
  exact hf.symm

end

theorem begN_no {l : List UInt8} (h10 : l.getD 0 0 ≠ 10) (hw : isWhi (l.getD 0 0) = false) (h : ¬ (l.getD 0 0 = 47 ∧ l.getD 1 0 = 47)) (h2 : ¬ (l.getD 0 0 = 47 ∧ l.getD 1 0 = 42)) : begN l = 1 := by
  unfold begN
  rw [if_neg h10, if_neg (by rw [hw]; simp), if_neg h, if_neg h2]
theorem remN_beg {l : List UInt8} (h : l.getD 0 0 = 47) : 0 < remN l := by
  cases l with
  | nil => simp at h
  | cons c r =>
    unfold remN
    rw [if_neg (by rw [show c = 47 from h]; decide)]
    omega

/-- What the document's comment finds, and what begins there. -/
theorem rcom_cases (l : List UInt8) (i : Nat) (h10 : l.getD i 0 ≠ 10) (hw : isWhi (l.getD i 0) = false) :
    (rcom l i = (i, false) ∧ item (l.drop i) = .tk (tok (l.drop i)).1 (tok (l.drop i)).2) ∨ (∃ n, 0 < n ∧ rcom l i = (i + n, false) ∧ item (l.drop i) = .gap n) ∨ (rcom l i = (l.length, true) ∧ item (l.drop i) = .opn ∧ l.getD (i + 1) 0 = 42) := by
  have g0 := getD_drop l i 0
  have g1 := getD_drop l i 1
  rw [Nat.add_zero] at g0
  by_cases h1 : l.getD i 0 = 47 ∧ l.getD (i + 1) 0 = 47
  · have hb : begN (l.drop i) = 4 := by
      unfold begN
      rw [g0, g1, if_neg h10, if_neg (by rw [hw]; simp), if_pos h1]
    refine .inr (.inl ⟨_, remN_beg (l := l.drop i) (by rw [g0]; exact h1.1), ?_, item_rem hb⟩)
    unfold rcom
    rw [if_pos h1]
  · by_cases h2 : l.getD i 0 = 47 ∧ l.getD (i + 1) 0 = 42
    · have hb : begN (l.drop i) = 5 := by
        unfold begN
        rw [g0, g1, if_neg h10, if_neg (by rw [hw]; simp), if_neg h1, if_pos h2]
      have hr : rcom l i = comOut l.length i (comN (l.drop (i + 2))) := by
        unfold rcom
        rw [if_neg h1, if_pos h2]
      rw [hr]
      cases hc : comN (l.drop (i + 2)) with
      | none => exact .inr (.inr ⟨rfl, item_opn hb (by rw [List.drop_drop]; exact hc), h2.2⟩)
      | some n =>
        refine .inr (.inl ⟨n + 2, by omega, ?_, item_com hb (by rw [List.drop_drop]; exact hc)⟩)
        show (i + 2 + n, false) = _
        rw [show i + 2 + n = i + (n + 2) from by omega]
    · refine .inl ⟨?_, item_tk (begN_no (by rw [g0]; exact h10) (by rw [g0]; exact hw) (by rw [g0, g1]; exact h1) (by rw [g0, g1]; exact h2))⟩
      unfold rcom
      rw [if_neg h1, if_neg h2]

end Go.Proofs.Ytobplffailbkbaa
