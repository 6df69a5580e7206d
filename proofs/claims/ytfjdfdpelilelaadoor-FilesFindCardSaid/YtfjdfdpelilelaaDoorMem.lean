/-
  How trees of text lie in memory: a table M says which block is which tree; blocks in L are locked.
-/
import Derived.Test.YtfjdfdpelilelaaDoorTree
import Derived.Test.YtfjdfdpelilelaaDoorRows
import Derived.WalkKit
import Derived.Lib.Hide
import Derived.Lib.Builder
namespace Go.Proofs.YtfjdfdpelilelaaDoor
open Go.RowKit

abbrev Mp := Nat → Option T

def lim : Nat := 1000000

def nodeObj (lp rp : Option Addr) (t : T) (d st q br : Int) : Obj :=
  .cells #[.pointer lp, .pointer rp, .string t.str, .int .i64 (t.size : Int), .int .i64 (t.depth : Int), .int .u32 d, .int .i32 st, .int .u32 q, .int .i64 br] 150 (0, 0)

def kids (M : Mp) : T → Option Addr → Option Addr → Prop
  | .leaf _, lp, rp => lp = none ∧ rp = none
  | .node l r, lp, rp => ∃ bl br, lp = some ⟨bl, 0, none⟩ ∧ rp = some ⟨br, 0, none⟩ ∧ M bl = some l ∧ M br = some r

theorem kids_mono {M M' : Mp} {t : T} {lp rp : Option Addr} (h : kids M t lp rp) (hm : ∀ b u, M b = some u → M' b = some u) : kids M' t lp rp := by
  cases t with
  | leaf s => exact h
  | node l r => obtain ⟨bl, br, h1, h2, h3, h4⟩ := h; exact ⟨bl, br, h1, h2, hm _ _ h3, hm _ _ h4⟩

def NodeAt (L : List Nat) (M : Mp) (w : World) (b : Nat) (t : T) : Prop :=
  ∃ lp rp d st q br, w.heap[b]? = some (nodeObj lp rp t d st q br) ∧ kids M t lp rp ∧ (b ∈ L → d = 0 ∧ st = 1) ∧ (b ∉ L → st = 0 ∧ (d = 0 ∨ (d = 1 ∧ br = (t.nl : Int))))

structure Inv (B : Nat) (L : List Nat) (M : Mp) (w : World) : Prop where
  base : B ≤ w.heap.size
  old : ∀ b t, M b = some t → B ≤ b
  full : ∀ b t, M b = some t → t.full ∧ t.size ≤ lim
  node : ∀ b t, M b = some t → NodeAt L M w b t

theorem lt_of_heap {w : World} {b : Nat} {o : Obj} (h : w.heap[b]? = some o) : b < w.heap.size := by
  rcases Nat.lt_or_ge b w.heap.size with h' | h'
  · exact h'
  · simp [Array.getElem?_eq_none h'] at h

theorem NodeAt.lt {L : List Nat} {M : Mp} {w : World} {b : Nat} {t : T} (h : NodeAt L M w b t) : b < w.heap.size := by
  obtain ⟨_, _, _, _, _, _, h, _⟩ := h
  exact lt_of_heap h

theorem Inv.lt {B : Nat} {L : List Nat} {M : Mp} {w : World} (h : Inv B L M w) {b : Nat} {t : T} (hb : M b = some t) : b < w.heap.size := (h.node b t hb).lt

theorem Inv.gone {B : Nat} {L : List Nat} {M : Mp} {w : World} (h : Inv B L M w) {b : Nat} (hb : w.heap.size ≤ b) : M b = none := by
  cases e : M b with
  | none => rfl
  | some t => have := h.lt e; omega

theorem Inv.gone_low {B : Nat} {L : List Nat} {M : Mp} {w : World} (h : Inv B L M w) {b : Nat} (hb : b < B) : M b = none := by
  cases e : M b with
  | none => rfl
  | some t => have := h.old b t e; omega

/-- What a pointer to a node stands for. -/
def PT (M : Mp) (p : Option Addr) (o : Option T) : Prop := (p = none ∧ o = none) ∨ ∃ b t, p = some ⟨b, 0, none⟩ ∧ o = some t ∧ M b = some t

/-- What has become of the world: blocks that are no nodes are as they were. -/
structure Fr (M : Mp) (w w' : World) : Prop where
  os : w'.os = w.os
  tape : w'.tape = w.tape
  output : w'.output = w.output
  size : w.heap.size ≤ w'.heap.size
  block : ∀ k, k < w.heap.size → M k = none → w'.heap[k]? = w.heap[k]?
  low : ∀ k j, k < w.heap.size → j < 5 → w'.cell? ⟨k, j, none⟩ = w.cell? ⟨k, j, none⟩

theorem Fr.refl (M : Mp) (w : World) : Fr M w w := ⟨rfl, rfl, rfl, Nat.le_refl _, fun _ _ _ => rfl, fun _ _ _ _ => rfl⟩
theorem Fr.of_below {M : Mp} {w w' : World} (h : Below w.heap.size w w') : Fr M w w' := ⟨h.os, h.tape, h.output, h.size, fun k hk _ => h.block k hk, fun k _ hk _ => World.cell?_of_block (w := w) (h.block k hk)⟩

/-- A cell of a block that is no node. -/
theorem Fr.cell {M : Mp} {w w' : World} (h : Fr M w w') {k j : Nat} (hk : k < w.heap.size) (hn : M k = none) : w'.cell? ⟨k, j, none⟩ = w.cell? ⟨k, j, none⟩ := World.cell?_of_block (w := w) (h.block k hk hn)

/-- A step: the table has grown by new blocks alone. -/
structure St (B : Nat) (M : Mp) (w : World) (M' : Mp) (w' : World) : Prop where
  inv : Inv B [] M' w'
  ext : ∀ k, k < w.heap.size → M' k = M k
  fr : Fr M w w'

theorem St.refl {B : Nat} {M : Mp} {w : World} (h : Inv B [] M w) : St B M w M w := ⟨h, fun _ _ => rfl, Fr.refl M w⟩

theorem Fr.trans {M M' : Mp} {a b c : World} (h : Fr M a b) (k : Fr M' b c) (hm : ∀ j, j < a.heap.size → M' j = M j) : Fr M a c :=
  ⟨k.os.trans h.os, k.tape.trans h.tape, k.output.trans h.output, Nat.le_trans h.size k.size, fun i hi hn => (k.block i (Nat.lt_of_lt_of_le hi h.size) ((hm i hi).trans hn)).trans (h.block i hi hn),
    fun i j hi hj => (k.low i j (Nat.lt_of_lt_of_le hi h.size) hj).trans (h.low i j hi hj)⟩

theorem St.trans {B : Nat} {M M' M'' : Mp} {a b c : World} (h : St B M a M' b) (k : St B M' b M'' c) : St B M a M'' c :=
  ⟨k.inv, fun j hj => (k.ext j (Nat.lt_of_lt_of_le hj h.fr.size)).trans (h.ext j hj), h.fr.trans k.fr h.ext⟩

theorem St.keep {B : Nat} {M M' : Mp} {w w' : World} (h : St B M w M' w') (h0 : Inv B [] M w) {b : Nat} {t : T} (hb : M b = some t) : M' b = some t := (h.ext b (h0.lt hb)).trans hb

theorem St.pt {B : Nat} {M M' : Mp} {w w' : World} (h : St B M w M' w') (h0 : Inv B [] M w) {p : Option Addr} {o : Option T} (hp : PT M p o) : PT M' p o := by
  rcases hp with hp | ⟨b, t, h1, h2, h3⟩
  · exact .inl hp
  · exact .inr ⟨b, t, h1, h2, h.keep h0 h3⟩

/-- The world has become another one, in which all nodes lie as they did. -/
theorem Inv.same {B : Nat} {L : List Nat} {M : Mp} {w w' : World} (h : Inv B L M w) (hs : w.heap.size ≤ w'.heap.size) (hb : ∀ b t, M b = some t → w'.heap[b]? = w.heap[b]?) : Inv B L M w' :=
  ⟨Nat.le_trans h.base hs, h.old, h.full, fun b t hbt => by
    obtain ⟨lp, rp, d, st, q, br, h1, h2⟩ := h.node b t hbt
    exact ⟨lp, rp, d, st, q, br, (hb b t hbt).trans h1, h2⟩⟩

theorem Inv.drew {B : Nat} {L : List Nat} {M : Mp} {w : World} (h : Inv B L M w) : Inv B L M w.drew := h.same (Nat.le_refl _) fun _ _ _ => rfl

theorem Inv.below {B : Nat} {L : List Nat} {M : Mp} {w w' : World} (h : Inv B L M w) (hb : Below w.heap.size w w') : Inv B L M w' :=
  h.same hb.size fun b _ hbt => hb.block b (h.lt hbt)

/-- A step that makes memory, and no node. -/
theorem St.below {B : Nat} {M : Mp} {w w' : World} (h : Inv B [] M w) (hb : Below w.heap.size w w') : St B M w M w' :=
  ⟨h.below hb, fun _ _ => rfl, Fr.of_below hb⟩

theorem Below.of_drew {B : Nat} {w w' : World} (h : Below B w.drew w') : Below B w w' := (Below.refl B w).drew.trans h

/-- A draw ahead of a step. -/
theorem St.of_drew {B : Nat} {M M' : Mp} {w w' : World} (s : St B M w.drew M' w') : St B M w M' w' :=
  ⟨s.inv, s.ext, ⟨s.fr.os, s.fr.tape, s.fr.output, s.fr.size, s.fr.block, s.fr.low⟩⟩

/-- A draw behind a step. -/
theorem St.drew {B : Nat} {M M' : Mp} {w w' : World} (s : St B M w M' w') : St B M w M' w'.drew :=
  ⟨s.inv.drew, s.ext, ⟨s.fr.os, s.fr.tape, s.fr.output, s.fr.size, s.fr.block, s.fr.low⟩⟩

theorem Inv.ali {B : Nat} {L : List Nat} {M : Mp} {w w1 : World} (h : Inv B L M w) (e : w1.heap = w.heap) : Inv B L M w1 :=
  h.same (Nat.le_of_eq (by rw [e])) fun _ _ _ => by rw [e]

theorem St.ali {B : Nat} {M M' : Mp} {w w1 w' : World} (s : St B M w1 M' w') (h1 : w1.heap = w.heap) (h2 : w1.os = w.os) (h3 : w1.tape = w.tape) (h4 : w1.output = w.output) : St B M w M' w' := by
  obtain ⟨i, e, f⟩ := s
  have hc : ∀ a, w1.cell? a = w.cell? a := fun a => by unfold World.cell?; rw [h1]
  refine ⟨i, by rw [← h1]; exact e, f.os.trans h2, f.tape.trans h3, f.output.trans h4, by rw [← h1]; exact f.size, fun k hk hn => ?_, fun k j hk hj => ?_⟩
  · rw [← h1] at hk ⊢; exact f.block k hk hn
  · rw [← h1] at hk; exact (f.low k j hk hj).trans (hc _)

/-- A new node. -/
theorem Inv.newNode {B : Nat} {M : Mp} {w w' : World} (h : Inv B [] M w) (hb : Below w.heap.size w w') (t : T) (lp rp : Option Addr) (q br : Int) (nb : Nat) (hnb : w.heap.size ≤ nb)
    (ho : w'.heap[nb]? = some (nodeObj lp rp t 0 0 q br)) (hk : kids M t lp rp) (hf : t.full) (hl : t.size ≤ lim) : St B M w (fun b => if b = nb then some t else M b) w' := by
  have hext : ∀ k, k < w.heap.size → (fun b => if b = nb then some t else M b) k = M k := fun k hk => by
    simp only
    rw [if_neg (by omega)]
  have hup : ∀ b u, M b = some u → (fun b => if b = nb then some t else M b) b = some u := fun b u hb => (hext b (h.lt hb)).trans hb
  refine ⟨⟨Nat.le_trans h.base hb.size, ?_, ?_, ?_⟩, hext, Fr.of_below hb⟩
  · intro b u hbu
    by_cases e : b = nb
    · subst e; exact Nat.le_trans h.base hnb
    · simp only [if_neg e] at hbu; exact h.old b u hbu
  · intro b u hbu
    by_cases e : b = nb
    · simp only [if_pos e] at hbu; cases hbu; exact ⟨hf, hl⟩
    · simp only [if_neg e] at hbu; exact h.full b u hbu
  · intro b u hbu
    by_cases e : b = nb
    · subst e
      simp only [if_pos] at hbu
      cases hbu
      exact ⟨lp, rp, 0, 0, q, br, ho, kids_mono hk hup, by simp, by simp⟩
    · simp only [if_neg e] at hbu
      obtain ⟨lp', rp', d, st, q', br', h1, h2, h3⟩ := h.node b u hbu
      exact ⟨lp', rp', d, st, q', br', (hb.block b (h.lt hbu)).trans h1, kids_mono h2 hup, h3⟩

/-- One node has been turned; all else is as it was. -/
theorem Inv.turn {B : Nat} {L L' : List Nat} {M : Mp} {w w' : World} (h : Inv B L M w) {b : Nat} {t : T} (hb : M b = some t) (hs : w'.heap.size = w.heap.size) (ho : ∀ k, k ≠ b → w'.heap[k]? = w.heap[k]?)
    {lp rp : Option Addr} {d st q br : Int} (hn : w'.heap[b]? = some (nodeObj lp rp t d st q br)) (hk : kids M t lp rp) (hL : ∀ k, k ≠ b → (k ∈ L' ↔ k ∈ L)) (h1 : b ∈ L' → d = 0 ∧ st = 1) (h2 : b ∉ L' → st = 0 ∧ (d = 0 ∨ (d = 1 ∧ br = (t.nl : Int)))) : Inv B L' M w' := by
  refine ⟨by rw [hs]; exact h.base, h.old, h.full, fun k u hku => ?_⟩
  by_cases e : k = b
  · subst e
    rw [hb] at hku
    cases hku
    exact ⟨lp, rp, d, st, q, br, hn, hk, h1, h2⟩
  · obtain ⟨lp', rp', d', st', q', br', a1, a2, a3, a4⟩ := h.node k u hku
    exact ⟨lp', rp', d', st', q', br', (ho k e).trans a1, a2, fun x => a3 ((hL k e).1 x), fun x => a4 (fun y => x ((hL k e).2 y))⟩

/-- What a node's cells hold. -/
theorem Inv.cells {B : Nat} {L : List Nat} {M : Mp} {w : World} (h : Inv B L M w) {b : Nat} {t : T} (hb : M b = some t) :
    ∃ lp rp, kids M t lp rp ∧ w.cell? ⟨b, 0, none⟩ = some (.pointer lp) ∧ w.cell? ⟨b, 1, none⟩ = some (.pointer rp) ∧ w.cell? ⟨b, 2, none⟩ = some (.string t.str) ∧ w.cell? ⟨b, 3, none⟩ = some (.int .i64 (t.size : Int)) ∧ w.cell? ⟨b, 4, none⟩ = some (.int .i64 (t.depth : Int)) := by
  obtain ⟨lp, rp, d, st, q, br, h1, h2, _⟩ := h.node b t hb
  unfold nodeObj at h1
  refine ⟨lp, rp, h2, ?_, ?_, ?_, ?_, ?_⟩ <;> (rw [Lib.cell_of_heap h1]; rfl)

end Go.Proofs.YtfjdfdpelilelaaDoor
