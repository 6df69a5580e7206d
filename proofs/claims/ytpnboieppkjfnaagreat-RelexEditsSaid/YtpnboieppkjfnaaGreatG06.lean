/-
  Texts of the proof, put together: Tree, Mem, Small, Branch, Shelf.
-/
import Derived.Lib.Bytealg
import Derived.Test.YtpnboieppkjfnaaGreatRows
import Derived.WalkKit
import Derived.Lib.Hide
import Derived.Lib.Builder
import Derived.RegionTactic
import Derived.ChangeAlike
import Derived.BigRegion
import Derived.Shelf.Strings.Builder1
import Derived.Shelf.Strings.Builder2
import Derived.Shelf.Small.Strs
import Derived.Shelf.Strings.BuilderF
import Derived.Shelf.Strings.BuilderK
import Derived.Shelf.LaysM
import Derived.Shelf.Strconv.Clone
import Derived.Shelf.Strings.Search1
import Derived.Shelf.Strings.Prefix
import Derived.Test.YtpnboieppkjfnaaGreatProg

/-
  Trees of text: plain facts, of no program.
-/
namespace Go.Proofs.YtpnboieppkjfnaaGreat

inductive T where
  | leaf (s : ByteArray)
  | node (l r : T)

def T.size : T → Nat
  | .leaf s => s.size
  | .node l r => l.size + r.size
def T.depth : T → Nat
  | .leaf _ => 1
  | .node l r => max l.depth r.depth + 1
def T.text : T → List UInt8
  | .leaf s => s.data.toList
  | .node l r => l.text ++ r.text
def T.str : T → ByteArray
  | .leaf s => s
  | .node _ _ => ⟨#[]⟩
def T.nl (t : T) : Nat := t.text.count 10
def T.full : T → Prop
  | .leaf s => 1 ≤ s.size
  | .node l r => l.full ∧ r.full
def T.nn : T → Nat
  | .leaf _ => 0
  | .node l r => l.nn + r.nn + 1

theorem T.size_eq : ∀ t : T, t.size = t.text.length
  | .leaf s => by simp [T.size, T.text]
  | .node l r => by simp [T.size, T.text, T.size_eq l, T.size_eq r]

theorem T.full_pos : ∀ t : T, t.full → 1 ≤ t.size
  | .leaf _, h => h
  | .node l r, h => by have := T.full_pos l h.1; simp only [T.size]; omega

theorem T.depth_le : ∀ t : T, t.full → t.depth ≤ t.size
  | .leaf _, h => h
  | .node l r, h => by
    have h1 := T.depth_le l h.1
    have h2 := T.depth_le r h.2
    have h3 := T.full_pos l h.1
    have h4 := T.full_pos r h.2
    simp only [T.size, T.depth]
    omega

theorem T.depth_pos : ∀ t : T, 1 ≤ t.depth
  | .leaf _ => Nat.le_refl _
  | .node l r => by simp [T.depth]

theorem T.nl_node (l r : T) : (T.node l r).nl = l.nl + r.nl := by simp [T.nl, T.text]
theorem T.nl_le (t : T) : t.nl ≤ t.size := by rw [T.size_eq]; exact List.count_le_length

/-- A tree, or none: what a pointer to a node stands for. -/
def osize : Option T → Nat
  | none => 0
  | some t => t.size
def otext : Option T → List UInt8
  | none => []
  | some t => t.text
def odepth : Option T → Nat
  | none => 0
  | some t => t.depth

theorem osize_eq (o : Option T) : osize o = (otext o).length := by
  cases o with
  | none => rfl
  | some t => exact T.size_eq t

end Go.Proofs.YtpnboieppkjfnaaGreat

/-
  How trees of text lie in memory: a table M says which block is which tree; blocks in L are locked.
-/
namespace Go.Proofs.YtpnboieppkjfnaaGreat
open Go.RowKit

abbrev Mp := Nat → Option T

def lim : Nat := 1000000

def nodeObj (lp rp : Option Addr) (t : T) (d st q br : Int) : Obj :=
  .cells #[.pointer lp, .pointer rp, .string t.str, .int .i64 (t.size : Int), .int .i64 (t.depth : Int), .int .u32 d, .int .i32 st, .int .u32 q, .int .i64 br] 144 (0, 0)

def kids (M : Mp) : T → Option Addr → Option Addr → Prop
  | .leaf _, lp, rp => lp = none ∧ rp = none
  | .node l r, lp, rp => ∃ bl br, lp = some ⟨bl, 0, none⟩ ∧ rp = some ⟨br, 0, none⟩ ∧ M bl = some l ∧ M br = some r

theorem kids_mono {M M' : Mp} {t : T} {lp rp : Option Addr} (h : kids M t lp rp) (hm : ∀ b u, M b = some u → M' b = some u) : kids M' t lp rp := by
  cases t with
  | leaf s => exact h
  | node l r => obtain ⟨bl, br, h1, h2, h3, h4⟩ := h; exact ⟨bl, br, h1, h2, hm _ _ h3, hm _ _ h4⟩

def NodeAt (L : List Nat) (M : Mp) (w : World) (b : Nat) (t : T) : Prop :=
  ∃ lp rp d st q br, w.heap[b]? = some (nodeObj lp rp t d st q br) ∧ kids M t lp rp ∧ (b ∈ L → d = 0 ∧ st = 1) ∧ (b ∉ L → st = 0 ∧ (d = 0 ∨ (d = 1 ∧ br = (t.nl : Int))))

structure Inv (B : Nat) (L : List Nat) (M : Mp) (w : World) : Prop where
  base : B ≤ w.heap.size
  old : ∀ b t, M b = some t → B ≤ b
  full : ∀ b t, M b = some t → t.full ∧ t.size ≤ lim
  node : ∀ b t, M b = some t → NodeAt L M w b t

theorem lt_of_heap {w : World} {b : Nat} {o : Obj} (h : w.heap[b]? = some o) : b < w.heap.size := by
  rcases Nat.lt_or_ge b w.heap.size with h' | h'
  · exact h'
  · simp [Array.getElem?_eq_none h'] at h

theorem NodeAt.lt {L : List Nat} {M : Mp} {w : World} {b : Nat} {t : T} (h : NodeAt L M w b t) : b < w.heap.size := by
  obtain ⟨_, _, _, _, _, _, h, _⟩ := h
  exact lt_of_heap h

theorem Inv.lt {B : Nat} {L : List Nat} {M : Mp} {w : World} (h : Inv B L M w) {b : Nat} {t : T} (hb : M b = some t) : b < w.heap.size := (h.node b t hb).lt

theorem Inv.gone {B : Nat} {L : List Nat} {M : Mp} {w : World} (h : Inv B L M w) {b : Nat} (hb : w.heap.size ≤ b) : M b = none := by
  cases e : M b with
  | none => rfl
  | some t => have := h.lt e; omega

theorem Inv.gone_low {B : Nat} {L : List Nat} {M : Mp} {w : World} (h : Inv B L M w) {b : Nat} (hb : b < B) : M b = none := by
  cases e : M b with
  | none => rfl
  | some t => have := h.old b t e; omega

/-- What a pointer to a node stands for. -/
def PT (M : Mp) (p : Option Addr) (o : Option T) : Prop := (p = none ∧ o = none) ∨ ∃ b t, p = some ⟨b, 0, none⟩ ∧ o = some t ∧ M b = some t

/-- What has become of the world: blocks that are no nodes are as they were. -/
structure Fr (M : Mp) (w w' : World) : Prop where
  os : w'.os = w.os
  tape : w'.tape = w.tape
  output : w'.output = w.output
  size : w.heap.size ≤ w'.heap.size
  block : ∀ k, k < w.heap.size → M k = none → w'.heap[k]? = w.heap[k]?
  low : ∀ k j, k < w.heap.size → j < 5 → w'.cell? ⟨k, j, none⟩ = w.cell? ⟨k, j, none⟩

theorem Fr.refl (M : Mp) (w : World) : Fr M w w := ⟨rfl, rfl, rfl, Nat.le_refl _, fun _ _ _ => rfl, fun _ _ _ _ => rfl⟩
theorem Fr.of_below {M : Mp} {w w' : World} (h : Below w.heap.size w w') : Fr M w w' := ⟨h.os, h.tape, h.output, h.size, fun k hk _ => h.block k hk, fun k _ hk _ => World.cell?_of_block (w := w) (h.block k hk)⟩

/-- A cell of a block that is no node. -/
theorem Fr.cell {M : Mp} {w w' : World} (h : Fr M w w') {k j : Nat} (hk : k < w.heap.size) (hn : M k = none) : w'.cell? ⟨k, j, none⟩ = w.cell? ⟨k, j, none⟩ := World.cell?_of_block (w := w) (h.block k hk hn)

/-- A step: the table has grown by new blocks alone. -/
structure St (B : Nat) (M : Mp) (w : World) (M' : Mp) (w' : World) : Prop where
  inv : Inv B [] M' w'
  ext : ∀ k, k < w.heap.size → M' k = M k
  fr : Fr M w w'

theorem St.refl {B : Nat} {M : Mp} {w : World} (h : Inv B [] M w) : St B M w M w := ⟨h, fun _ _ => rfl, Fr.refl M w⟩

theorem Fr.trans {M M' : Mp} {a b c : World} (h : Fr M a b) (k : Fr M' b c) (hm : ∀ j, j < a.heap.size → M' j = M j) : Fr M a c :=
  ⟨k.os.trans h.os, k.tape.trans h.tape, k.output.trans h.output, Nat.le_trans h.size k.size, fun i hi hn => (k.block i (Nat.lt_of_lt_of_le hi h.size) ((hm i hi).trans hn)).trans (h.block i hi hn),
    fun i j hi hj => (k.low i j (Nat.lt_of_lt_of_le hi h.size) hj).trans (h.low i j hi hj)⟩

theorem St.trans {B : Nat} {M M' M'' : Mp} {a b c : World} (h : St B M a M' b) (k : St B M' b M'' c) : St B M a M'' c :=
  ⟨k.inv, fun j hj => (k.ext j (Nat.lt_of_lt_of_le hj h.fr.size)).trans (h.ext j hj), h.fr.trans k.fr h.ext⟩

theorem St.keep {B : Nat} {M M' : Mp} {w w' : World} (h : St B M w M' w') (h0 : Inv B [] M w) {b : Nat} {t : T} (hb : M b = some t) : M' b = some t := (h.ext b (h0.lt hb)).trans hb

theorem St.pt {B : Nat} {M M' : Mp} {w w' : World} (h : St B M w M' w') (h0 : Inv B [] M w) {p : Option Addr} {o : Option T} (hp : PT M p o) : PT M' p o := by
  rcases hp with hp | ⟨b, t, h1, h2, h3⟩
  · exact .inl hp
  · exact .inr ⟨b, t, h1, h2, h.keep h0 h3⟩

/-- The world has become another one, in which all nodes lie as they did. -/
theorem Inv.same {B : Nat} {L : List Nat} {M : Mp} {w w' : World} (h : Inv B L M w) (hs : w.heap.size ≤ w'.heap.size) (hb : ∀ b t, M b = some t → w'.heap[b]? = w.heap[b]?) : Inv B L M w' :=
  ⟨Nat.le_trans h.base hs, h.old, h.full, fun b t hbt => by
    obtain ⟨lp, rp, d, st, q, br, h1, h2⟩ := h.node b t hbt
    exact ⟨lp, rp, d, st, q, br, (hb b t hbt).trans h1, h2⟩⟩

theorem Inv.drew {B : Nat} {L : List Nat} {M : Mp} {w : World} (h : Inv B L M w) : Inv B L M w.drew := h.same (Nat.le_refl _) fun _ _ _ => rfl

theorem Inv.below {B : Nat} {L : List Nat} {M : Mp} {w w' : World} (h : Inv B L M w) (hb : Below w.heap.size w w') : Inv B L M w' :=
  h.same hb.size fun b _ hbt => hb.block b (h.lt hbt)

/-- A step that makes memory, and no node. -/
theorem St.below {B : Nat} {M : Mp} {w w' : World} (h : Inv B [] M w) (hb : Below w.heap.size w w') : St B M w M w' :=
  ⟨h.below hb, fun _ _ => rfl, Fr.of_below hb⟩

theorem Below.of_drew {B : Nat} {w w' : World} (h : Below B w.drew w') : Below B w w' := (Below.refl B w).drew.trans h

/-- A draw ahead of a step. -/
theorem St.of_drew {B : Nat} {M M' : Mp} {w w' : World} (s : St B M w.drew M' w') : St B M w M' w' :=
  ⟨s.inv, s.ext, ⟨s.fr.os, s.fr.tape, s.fr.output, s.fr.size, s.fr.block, s.fr.low⟩⟩

/-- A draw behind a step. -/
theorem St.drew {B : Nat} {M M' : Mp} {w w' : World} (s : St B M w M' w') : St B M w M' w'.drew :=
  ⟨s.inv.drew, s.ext, ⟨s.fr.os, s.fr.tape, s.fr.output, s.fr.size, s.fr.block, s.fr.low⟩⟩

theorem Inv.ali {B : Nat} {L : List Nat} {M : Mp} {w w1 : World} (h : Inv B L M w) (e : w1.heap = w.heap) : Inv B L M w1 :=
  h.same (Nat.le_of_eq (by rw [e])) fun _ _ _ => by rw [e]

theorem St.ali {B : Nat} {M M' : Mp} {w w1 w' : World} (s : St B M w1 M' w') (h1 : w1.heap = w.heap) (h2 : w1.os = w.os) (h3 : w1.tape = w.tape) (h4 : w1.output = w.output) : St B M w M' w' := by
  obtain ⟨i, e, f⟩ := s
  have hc : ∀ a, w1.cell? a = w.cell? a := fun a => by unfold World.cell?; rw [h1]
  refine ⟨i, by rw [← h1]; exact e, f.os.trans h2, f.tape.trans h3, f.output.trans h4, by rw [← h1]; exact f.size, fun k hk hn => ?_, fun k j hk hj => ?_⟩
  · rw [← h1] at hk ⊢; exact f.block k hk hn
  · rw [← h1] at hk; exact (f.low k j hk hj).trans (hc _)

/-- A new node. -/
theorem Inv.newNode {B : Nat} {M : Mp} {w w' : World} (h : Inv B [] M w) (hb : Below w.heap.size w w') (t : T) (lp rp : Option Addr) (q br : Int) (nb : Nat) (hnb : w.heap.size ≤ nb)
    (ho : w'.heap[nb]? = some (nodeObj lp rp t 0 0 q br)) (hk : kids M t lp rp) (hf : t.full) (hl : t.size ≤ lim) : St B M w (fun b => if b = nb then some t else M b) w' := by
  have hext : ∀ k, k < w.heap.size → (fun b => if b = nb then some t else M b) k = M k := fun k hk => by
    simp only
    rw [if_neg (by omega)]
  have hup : ∀ b u, M b = some u → (fun b => if b = nb then some t else M b) b = some u := fun b u hb => (hext b (h.lt hb)).trans hb
  refine ⟨⟨Nat.le_trans h.base hb.size, ?_, ?_, ?_⟩, hext, Fr.of_below hb⟩
  · intro b u hbu
    by_cases e : b = nb
    · subst e; exact Nat.le_trans h.base hnb
    · simp only [if_neg e] at hbu; exact h.old b u hbu
  · intro b u hbu
    by_cases e : b = nb
    · simp only [if_pos e] at hbu; cases hbu; exact ⟨hf, hl⟩
    · simp only [if_neg e] at hbu; exact h.full b u hbu
  · intro b u hbu
    by_cases e : b = nb
    · subst e
      simp only [if_pos] at hbu
      cases hbu
      exact ⟨lp, rp, 0, 0, q, br, ho, kids_mono hk hup, by simp, by simp⟩
    · simp only [if_neg e] at hbu
      obtain ⟨lp', rp', d, st, q', br', h1, h2, h3⟩ := h.node b u hbu
      exact ⟨lp', rp', d, st, q', br', (hb.block b (h.lt hbu)).trans h1, kids_mono h2 hup, h3⟩

/-- One node has been turned; all else is as it was. -/
theorem Inv.turn {B : Nat} {L L' : List Nat} {M : Mp} {w w' : World} (h : Inv B L M w) {b : Nat} {t : T} (hb : M b = some t) (hs : w'.heap.size = w.heap.size) (ho : ∀ k, k ≠ b → w'.heap[k]? = w.heap[k]?)
    {lp rp : Option Addr} {d st q br : Int} (hn : w'.heap[b]? = some (nodeObj lp rp t d st q br)) (hk : kids M t lp rp) (hL : ∀ k, k ≠ b → (k ∈ L' ↔ k ∈ L)) (h1 : b ∈ L' → d = 0 ∧ st = 1) (h2 : b ∉ L' → st = 0 ∧ (d = 0 ∨ (d = 1 ∧ br = (t.nl : Int)))) : Inv B L' M w' := by
  refine ⟨by rw [hs]; exact h.base, h.old, h.full, fun k u hku => ?_⟩
  by_cases e : k = b
  · subst e
    rw [hb] at hku
    cases hku
    exact ⟨lp, rp, d, st, q, br, hn, hk, h1, h2⟩
  · obtain ⟨lp', rp', d', st', q', br', a1, a2, a3, a4⟩ := h.node k u hku
    exact ⟨lp', rp', d', st', q', br', (ho k e).trans a1, a2, fun x => a3 ((hL k e).1 x), fun x => a4 (fun y => x ((hL k e).2 y))⟩

/-- What a node's cells hold. -/
theorem Inv.cells {B : Nat} {L : List Nat} {M : Mp} {w : World} (h : Inv B L M w) {b : Nat} {t : T} (hb : M b = some t) :
    ∃ lp rp, kids M t lp rp ∧ w.cell? ⟨b, 0, none⟩ = some (.pointer lp) ∧ w.cell? ⟨b, 1, none⟩ = some (.pointer rp) ∧ w.cell? ⟨b, 2, none⟩ = some (.string t.str) ∧ w.cell? ⟨b, 3, none⟩ = some (.int .i64 (t.size : Int)) ∧ w.cell? ⟨b, 4, none⟩ = some (.int .i64 (t.depth : Int)) := by
  obtain ⟨lp, rp, d, st, q, br, h1, h2, _⟩ := h.node b t hb
  unfold nodeObj at h1
  refine ⟨lp, rp, h2, ?_, ?_, ?_, ?_, ?_⟩ <;> (rw [Lib.cell_of_heap h1]; rfl)

end Go.Proofs.YtpnboieppkjfnaaGreat

/-
  The small functions of a node and of a rope, that only read.
-/
namespace Go.Proofs.YtpnboieppkjfnaaGreat
open Go.RowKit

def isLeafB : T → Bool
  | .leaf _ => true
  | .node _ _ => false

/-- What the cells of a leaf and of a branch hold. -/
theorem Inv.leafCells {B : Nat} {L : List Nat} {M : Mp} {w : World} (h : Inv B L M w) {b : Nat} {s : ByteArray} (hb : M b = some (.leaf s)) :
    w.cell? ⟨b, 0, none⟩ = some (.pointer none) ∧ w.cell? ⟨b, 2, none⟩ = some (.string s) ∧ w.cell? ⟨b, 3, none⟩ = some (.int .i64 (s.size : Int)) ∧ w.cell? ⟨b, 4, none⟩ = some (.int .i64 1) := by
  obtain ⟨lp, rp, ⟨rfl, rfl⟩, c0, _, c2, c3, c4⟩ := h.cells hb
  exact ⟨c0, c2, c3, c4⟩

theorem Inv.nodeCells {B : Nat} {L : List Nat} {M : Mp} {w : World} (h : Inv B L M w) {b : Nat} {l r : T} (hb : M b = some (.node l r)) :
    ∃ bl br, M bl = some l ∧ M br = some r ∧ w.cell? ⟨b, 0, none⟩ = some (.pointer (some ⟨bl, 0, none⟩)) ∧ w.cell? ⟨b, 1, none⟩ = some (.pointer (some ⟨br, 0, none⟩)) ∧ w.cell? ⟨b, 3, none⟩ = some (.int .i64 ((T.node l r).size : Int)) ∧ w.cell? ⟨b, 4, none⟩ = some (.int .i64 ((T.node l r).depth : Int)) := by
  obtain ⟨lp, rp, ⟨bl, br, rfl, rfl, hl, hr⟩, c0, c1, _, c3, c4⟩ := h.cells hb
  exact ⟨bl, br, hl, hr, c0, c1, c3, c4⟩

theorem isLeaf_any {B : Nat} {L : List Nat} {M : Mp} {w : World} (h : Inv B L M w) {b : Nat} {t : T} (hb : M b = some t) :
    Calls Tryz.prog 79 #[.pointer (some ⟨b, 0, none⟩)] w fun e w' => e = .returned (.bool (isLeafB t)) ∧ w = w' := by
  cases t with
  | leaf s =>
    obtain ⟨c0, _⟩ := h.leafCells hb
    clear h hb
    go_enter Tryz.func79, Tryz.ntmps79
    go_wp2
    go_ret
    exact ⟨rfl, rfl⟩
  | node l r =>
    obtain ⟨bl, br, _, _, c0, _⟩ := h.nodeCells hb
    clear h hb
    go_enter Tryz.func79, Tryz.ntmps79
    go_wp2
    go_ret
    exact ⟨rfl, rfl⟩

theorem length_any {B : Nat} {L : List Nat} {M : Mp} {w : World} (h : Inv B L M w) {p : Option Addr} {o : Option T} (hp : PT M p o) :
    Calls Tryz.prog 63 #[.pointer p] w fun e w' => e = .returned (.int .i64 (osize o : Int)) ∧ w = w' := by
  rcases hp with ⟨rfl, rfl⟩ | ⟨b, t, rfl, rfl, hb⟩
  · clear h
    go_enter Tryz.func63, Tryz.ntmps63
    go_wp2
    go_ret
    exact ⟨rfl, rfl⟩
  · obtain ⟨_, _, _, _, _, _, c3, _⟩ := h.cells hb
    clear h hb
    go_enter Tryz.func63, Tryz.ntmps63
    go_wp2
    go_ret
    exact ⟨rfl, rfl⟩

/-- A rope in memory: a cell that is no node, with a pointer to the tree's root; a nil rope is an empty one. -/
def RP (M : Mp) (w : World) (r : Option Addr) (o : Option T) : Prop :=
  (r = none ∧ o = none) ∨ ∃ b p, r = some ⟨b, 0, none⟩ ∧ M b = none ∧ w.heap[b]? = some (.cells #[.pointer p] 93 (0, 0)) ∧ PT M p o

theorem RP.step {B : Nat} {M M' : Mp} {w w' : World} (h0 : Inv B [] M w) (s : St B M w M' w') {r : Option Addr} {o : Option T} (h : RP M w r o) : RP M' w' r o := by
  rcases h with h | ⟨b, p, rfl, hn, hh, hp⟩
  · exact .inl h
  · have hl := lt_of_heap hh
    exact .inr ⟨b, p, rfl, (s.ext b hl).trans hn, (s.fr.block b hl hn).trans hh, s.pt h0 hp⟩

theorem top_any {M : Mp} {w : World} {r : Option Addr} {o : Option T} (h : RP M w r o) :
    Calls Tryz.prog 62 #[.pointer r] w fun e w' => (∃ p, e = .returned (.pointer p) ∧ PT M p o) ∧ w = w' := by
  rcases h with ⟨rfl, rfl⟩ | ⟨b, p, rfl, hn, hh, hp⟩
  · go_enter Tryz.func62, Tryz.ntmps62
    go_wp2
    go_ret
    exact ⟨⟨none, rfl, .inl ⟨rfl, rfl⟩⟩, rfl⟩
  · have c0 : w.cell? ⟨b, 0, none⟩ = some (.pointer p) := by rw [Lib.cell_of_heap hh]; rfl
    clear hh hn
    have hp := Lib.hid hp
    go_enter Tryz.func62, Tryz.ntmps62
    go_wp2
    go_ret
    exact ⟨⟨p, rfl, hp.out⟩, rfl⟩

theorem len_any {B : Nat} {L : List Nat} {M : Mp} {w : World} (h : Inv B L M w) {r : Option Addr} {o : Option T} (hr : RP M w r o) :
    Calls Tryz.prog 41 #[.pointer r] w fun e w' => e = .returned (.int .i64 (osize o : Int)) ∧ w = w' := by
  have H := Lib.hid h
  have HR := Lib.hid hr
  clear h hr
  go_enter Tryz.func41, Tryz.ntmps41
  go_wp2_with fail
  refine (top_any HR.out).mono ?_
  rintro e w' ⟨⟨p, rfl, hp⟩, rfl⟩
  have HP := Lib.hid hp
  clear hp
  go_wp2_with fail
  refine (length_any H.out HP.out).mono ?_
  rintro e w' ⟨rfl, rfl⟩
  go_wp2
  go_ret
  exact ⟨rfl, rfl⟩

end Go.Proofs.YtpnboieppkjfnaaGreat

/-
  branch: the node over two trees.
-/
namespace Go.Proofs.YtpnboieppkjfnaaGreat
open Go.RowKit

/-- What makes a tree hands back a pointer to it, in a world that has grown. -/
def Made (B : Nat) (M : Mp) (w : World) (o : Option T) (e : Ending) (w' : World) : Prop :=
  ∃ M' p, e = .returned (.pointer p) ∧ PT M' p o ∧ St B M w M' w'

theorem branch_fin {B : Nat} {M : Mp} {w : World} (h : Inv B [] M w) {bl br : Nat} {l r : T} (hl : M bl = some l) (hr : M br = some r) (hs : l.size + r.size ≤ lim) (v : Int) (hv : v = ((T.node l r).depth : Int)) :
    Made B M w (some (.node l r)) (.returned (.pointer (some ⟨w.heap.size, 0, none⟩)))
      (w.alloc (.cells #[.pointer (some ⟨bl, 0, none⟩), .pointer (some ⟨br, 0, none⟩), .string ⟨#[]⟩, .int .i64 ((l.size : Int) + r.size), .int .i64 v, .int .u32 0, .int .i32 0, .int .u32 0, .int .i64 0] 144)).drew := by
  subst hv
  have hb : Below w.heap.size w (w.alloc (.cells #[.pointer (some ⟨bl, 0, none⟩), .pointer (some ⟨br, 0, none⟩), .string ⟨#[]⟩, .int .i64 ((l.size : Int) + r.size), .int .i64 ((T.node l r).depth : Int), .int .u32 0, .int .i32 0, .int .u32 0, .int .i64 0] 144)).drew := ((Below.refl _ w).alloc (Nat.le_refl _) _).drew
  refine ⟨_, _, rfl, ?_, h.newNode hb (.node l r) (some ⟨bl, 0, none⟩) (some ⟨br, 0, none⟩) 0 0 w.heap.size (Nat.le_refl _) (heap_alloc_new w _) ⟨bl, br, rfl, rfl, hl, hr⟩ ⟨(h.full bl l hl).1, (h.full br r hr).1⟩ hs⟩
  exact .inr ⟨w.heap.size, .node l r, rfl, rfl, by simp⟩

theorem branch_any {B : Nat} {M : Mp} {w : World} (h : Inv B [] M w) {bl br : Nat} {l r : T} (hl : M bl = some l) (hr : M br = some r) (hs : l.size + r.size ≤ lim) :
    Calls Tryz.prog 50 #[.pointer (some ⟨bl, 0, none⟩), .pointer (some ⟨br, 0, none⟩)] w (Made B M w (some (.node l r))) := by
  obtain ⟨_, _, _, _, _, _, l3, l4⟩ := h.cells hl
  obtain ⟨_, _, _, _, _, _, r3, r4⟩ := h.cells hr
  obtain ⟨fl, _⟩ := h.full bl l hl
  obtain ⟨fr, _⟩ := h.full br r hr
  have dl := l.depth_le fl
  have dr := r.depth_le fr
  unfold lim at hs
  have hw : IntKind.i64.wrap ((l.size : Int) + r.size) = (l.size : Int) + r.size := IntWalk.i64_in _ (by omega)
  have H := Lib.hid h
  have HL := Lib.hid hl
  have HR := Lib.hid hr
  clear h hl hr
  go_enter Tryz.func50, Tryz.ntmps50
  go_wp2
  go_region
  all_goals go_wp2
  all_goals go_ret
  all_goals exact branch_fin H.out HL.out HR.out hs _ (by simp only [T.depth]; omega)

end Go.Proofs.YtpnboieppkjfnaaGreat

/-
  What is used here of the contracts of the library, laid at this program.
-/
namespace Go.Proofs
open Go.Shelf Go.RowKit

def Tryz.lays169_ren : Go.Shelf.Ren := ⟨fun | 169 => 76 | n => n, fun | 70 => 145 | 9 => 9 | 0 => 0 | 72 => 147 | 37 => 123 | 127 => 124 | 3 => 3 | 5 => 5 | n => n, fun | n => n⟩

theorem Tryz.lays169 : Go.Proofs.Lays.n169 Tryz.prog Tryz.lays169_ren := {
  mixed := by kernel_rfl
  f169 := Tryz.func76.trans (congrArg some (by kernel_rfl))
  t0 := Tryz.underlying0
  a0 := Tryz.isAgg0
  z0 := Tryz.sizeOf0
  v0 := Tryz.zeroValue0
  t3 := Tryz.underlying3
  a3 := Tryz.isAgg3
  z3 := Tryz.sizeOf3
  v3 := Tryz.zeroValue3
  t9 := Tryz.underlying9
  a9 := Tryz.isAgg9
  z9 := Tryz.sizeOf9
  v9 := Tryz.zeroValue9
  t37 := Tryz.underlying123
  a37 := Tryz.isAgg123
  z37 := Tryz.sizeOf123
  v37 := Tryz.zeroValue123
  t70 := Tryz.underlying145
  a70 := Tryz.isAgg145
  z70 := Tryz.sizeOf145
  v70 := Tryz.zeroValue145
  t72 := Tryz.underlying147
  a72 := Tryz.isAgg147
  z72 := Tryz.sizeOf147
  v72 := Tryz.zeroValue147
  t127 := Tryz.underlying124
  a127 := Tryz.isAgg124
  z127 := Tryz.sizeOf124
  v127 := Tryz.zeroValue124 }

theorem Tryz.Builder_Extra_169 : Builder.Extra Tryz.prog Tryz.lays169_ren := {
  sizeBuilder := by kernel_rfl
  liesBuilder := by kernel_rfl
  t5 := Tryz.underlying5
  a5 := Tryz.isAgg5
  z5 := Tryz.sizeOf5
  v5 := Tryz.zeroValue5
  infoByte := by kernel_rfl
  cellsByte := by kernel_rfl
  sizeByte := by kernel_rfl
  neB5 := by decide }
open Go.RowKit in

theorem Tryz.Builder_String_any (B b : Nat) (l : List UInt8) (w : World) (h : Lib.IsBuilder 147 5 B b (Lib.byteCells l) w) (hBw : B ≤ w.heap.size) :
    Calls Tryz.prog 76 #[.pointer (some ⟨b, 0, none⟩)] w fun e w' => e = .returned (.string ⟨l.toArray⟩) ∧ Below B w w' := Any.Builder_String_any Tryz.lays169 Tryz.Builder_Extra_169 B b l w h hBw

def Tryz.lays165_ren : Go.Shelf.Ren := ⟨fun | 165 => 74 | 240 => 95 | 241 => 96 | 276 => 112 | 277 => 113 | n => n, fun | 70 => 145 | 3 => 3 | 0 => 0 | 4 => 4 | 9 => 9 | 20 => 20 | 72 => 147 | 37 => 123 | 164 => 188 | 5 => 5 | n => n, fun | n => n⟩

theorem Tryz.lays165 : Go.Proofs.Lays.n165 Tryz.prog Tryz.lays165_ren := {
  mixed := by kernel_rfl
  f165 := Tryz.func74.trans (congrArg some (by kernel_rfl))
  f240 := Tryz.func95.trans (congrArg some (by kernel_rfl))
  f241 := Tryz.func96.trans (congrArg some (by kernel_rfl))
  f276 := Tryz.func112.trans (congrArg some (by kernel_rfl))
  f277 := Tryz.func113.trans (congrArg some (by kernel_rfl))
  t0 := Tryz.underlying0
  a0 := Tryz.isAgg0
  z0 := Tryz.sizeOf0
  v0 := Tryz.zeroValue0
  t3 := Tryz.underlying3
  a3 := Tryz.isAgg3
  z3 := Tryz.sizeOf3
  v3 := Tryz.zeroValue3
  t4 := Tryz.underlying4
  a4 := Tryz.isAgg4
  z4 := Tryz.sizeOf4
  v4 := Tryz.zeroValue4
  t9 := Tryz.underlying9
  a9 := Tryz.isAgg9
  z9 := Tryz.sizeOf9
  v9 := Tryz.zeroValue9
  t20 := Tryz.underlying20
  a20 := Tryz.isAgg20
  z20 := Tryz.sizeOf20
  v20 := Tryz.zeroValue20
  t37 := Tryz.underlying123
  a37 := Tryz.isAgg123
  z37 := Tryz.sizeOf123
  v37 := Tryz.zeroValue123
  t70 := Tryz.underlying145
  a70 := Tryz.isAgg145
  z70 := Tryz.sizeOf145
  v70 := Tryz.zeroValue145
  t72 := Tryz.underlying147
  a72 := Tryz.isAgg147
  z72 := Tryz.sizeOf147
  v72 := Tryz.zeroValue147
  t164 := Tryz.underlying188
  a164 := Tryz.isAgg188
  z164 := Tryz.sizeOf188
  v164 := Tryz.zeroValue188 }

theorem Tryz.Builder_Extra_165 : Builder.Extra Tryz.prog Tryz.lays165_ren := {
  sizeBuilder := by kernel_rfl
  liesBuilder := by kernel_rfl
  t5 := Tryz.underlying5
  a5 := Tryz.isAgg5
  z5 := Tryz.sizeOf5
  v5 := Tryz.zeroValue5
  infoByte := by kernel_rfl
  cellsByte := by kernel_rfl
  sizeByte := by kernel_rfl
  neB5 := by decide }
open Go.RowKit in

theorem Tryz.Builder_Grow_fresh (B b n : Nat) (w : World) (hB : B ≤ b) (hbk : w.heap[b]? = some (.cells #[.pointer none, .slice none 0 0] 147 (0, 0))) (hBw : B ≤ w.heap.size) (hn : n ≤ 281474976710656) :
    Calls Tryz.prog 74 #[.pointer (some ⟨b, 0, none⟩), .int .i64 n] w fun e w' => e = .returned (.tuple #[]) ∧ (Lib.BuilderAt 147 5 B b (.pointer (some ⟨b, 0, none⟩)) [] w' ∧ Below B w w') := Any.Builder_Grow_fresh Tryz.lays165 Tryz.Builder_Extra_165 B b n w hB hbk hBw hn

def Tryz.lays137_ren : Go.Shelf.Ren := ⟨fun | 137 => 154 | 217 => 156 | 266 => 157 | n => n, fun | 9 => 9 | 5 => 5 | 3 => 3 | n => n, fun | n => n⟩

theorem Tryz.lays137 : Go.Proofs.Lays.n137 Tryz.prog Tryz.lays137_ren := {
  mixed := by kernel_rfl
  f137 := Tryz.func154.trans (congrArg some (by kernel_rfl))
  f217 := Tryz.func156.trans (congrArg some (by kernel_rfl))
  f266 := Tryz.func157.trans (congrArg some (by kernel_rfl))
  t3 := Tryz.underlying3
  a3 := Tryz.isAgg3
  z3 := Tryz.sizeOf3
  v3 := Tryz.zeroValue3
  t5 := Tryz.underlying5
  a5 := Tryz.isAgg5
  z5 := Tryz.sizeOf5
  v5 := Tryz.zeroValue5
  t9 := Tryz.underlying9
  a9 := Tryz.isAgg9
  z9 := Tryz.sizeOf9
  v9 := Tryz.zeroValue9 }
open Go.RowKit in

theorem Tryz.strings_IndexByte (s : ByteArray) (c : Int) (w : World) :
    Calls Tryz.prog 154 #[.string s, .int .u8 c] w fun e w' => e = .returned (.int .i64 (Lib.indexByte s.data.toList c.toNat.toUInt8)) ∧ w' = w := Any.strings_IndexByte Tryz.lays137 s c w
open Go.RowKit in

def Tryz.laysM316_ren : Go.Shelf.Ren := ⟨fun | 316 => 31 | n => n, fun | 9 => 9 | 3 => 3 | 4 => 4 | 37 => 123 | 0 => 0 | 127 => 124 | 5 => 5 | n => n, fun | n => n⟩

theorem Tryz.laysM316 : Go.Proofs.LaysM.n316 Tryz.prog Tryz.laysM316_ren := {
  mixed := by kernel_rfl
  f316 := Tryz.func31.trans (congrArg some (by kernel_rfl))
  t0 := Tryz.underlying0
  a0 := Tryz.isAgg0
  z0 := Tryz.sizeOf0
  v0 := Tryz.zeroValue0
  t3 := Tryz.underlying3
  a3 := Tryz.isAgg3
  z3 := Tryz.sizeOf3
  v3 := Tryz.zeroValue3
  t4 := Tryz.underlying4
  a4 := Tryz.isAgg4
  z4 := Tryz.sizeOf4
  v4 := Tryz.zeroValue4
  t9 := Tryz.underlying9
  a9 := Tryz.isAgg9
  z9 := Tryz.sizeOf9
  v9 := Tryz.zeroValue9
  t37 := Tryz.underlying123
  a37 := Tryz.isAgg123
  z37 := Tryz.sizeOf123
  v37 := Tryz.zeroValue123
  t127 := Tryz.underlying124
  a127 := Tryz.isAgg124
  z127 := Tryz.sizeOf124
  v127 := Tryz.zeroValue124
  t5 := Tryz.underlying5
  a5 := Tryz.isAgg5
  z5 := Tryz.sizeOf5
  v5 := Tryz.zeroValue5
  i0 := by kernel_rfl
  i3 := by kernel_rfl
  i4 := by kernel_rfl
  i5 := by kernel_rfl
  i9 := by kernel_rfl
  i37 := by kernel_rfl
  i127 := by kernel_rfl }
open Go.RowKit in

theorem Tryz.stringslite_Clone (s : ByteArray) (w : World) (hlim : s.size ≤ 281474976710656) :
    Calls Tryz.prog 31 #[.string s] w fun e w' => e = .returned (.string s) ∧ Below w.heap.size w w' := Any.stringslite_Clone Tryz.laysM316 s w hlim

def Tryz.lays99_ren : Go.Shelf.Ren := ⟨fun | 99 => 129 | 206 => 142 | n => n, fun | 9 => 9 | 4 => 4 | 3 => 3 | n => n, fun | n => n⟩

theorem Tryz.lays99 : Go.Proofs.Lays.n99 Tryz.prog Tryz.lays99_ren := {
  mixed := by kernel_rfl
  f99 := Tryz.func129.trans (congrArg some (by kernel_rfl))
  f206 := Tryz.func142.trans (congrArg some (by kernel_rfl))
  t3 := Tryz.underlying3
  a3 := Tryz.isAgg3
  z3 := Tryz.sizeOf3
  v3 := Tryz.zeroValue3
  t4 := Tryz.underlying4
  a4 := Tryz.isAgg4
  z4 := Tryz.sizeOf4
  v4 := Tryz.zeroValue4
  t9 := Tryz.underlying9
  a9 := Tryz.isAgg9
  z9 := Tryz.sizeOf9
  v9 := Tryz.zeroValue9 }
open Go.RowKit Go.Lib in

theorem Tryz.strings_HasPrefix (s p : ByteArray) (w : World) :
    Calls Tryz.prog 129 #[.string s, .string p] w fun e w' => e = .returned (.bool (Lib.hasPrefix s.data.toList p.data.toList)) ∧ w' = w := Any.strings_HasPrefix Tryz.lays99 s p w

def Tryz.lays100_ren : Go.Shelf.Ren := ⟨fun | 100 => 105 | 207 => 124 | n => n, fun | 9 => 9 | 4 => 4 | 3 => 3 | n => n, fun | n => n⟩

theorem Tryz.lays100 : Go.Proofs.Lays.n100 Tryz.prog Tryz.lays100_ren := {
  mixed := by kernel_rfl
  f100 := Tryz.func105.trans (congrArg some (by kernel_rfl))
  f207 := Tryz.func124.trans (congrArg some (by kernel_rfl))
  t3 := Tryz.underlying3
  a3 := Tryz.isAgg3
  z3 := Tryz.sizeOf3
  v3 := Tryz.zeroValue3
  t4 := Tryz.underlying4
  a4 := Tryz.isAgg4
  z4 := Tryz.sizeOf4
  v4 := Tryz.zeroValue4
  t9 := Tryz.underlying9
  a9 := Tryz.isAgg9
  z9 := Tryz.sizeOf9
  v9 := Tryz.zeroValue9 }
open Go.RowKit Go.Lib in

theorem Tryz.strings_HasSuffix (s p : ByteArray) (w : World) (hs : s.size ≤ 9223372036854775807) :
    Calls Tryz.prog 105 #[.string s, .string p] w fun e w' => e = .returned (.bool (Lib.hasSuffix s.data.toList p.data.toList)) ∧ w' = w := Any.strings_HasSuffix Tryz.lays100 s p w hs


def Tryz.w166_ren : Go.Shelf.Ren := ⟨fun | 166 => 97 | 240 => 95 | 276 => 112 | n => n,
  fun | 0 => 0 | 3 => 3 | 4 => 4 | 5 => 5 | 9 => 9 | 20 => 20 | 37 => 123 | 70 => 145 | 72 => 147 | 75 => 168 | 80 => 68 | 164 => 188 | n => n, fun n => n⟩

theorem Tryz.lays166x : Lays.n166 Tryz.prog Tryz.w166_ren := {
  mixed := by kernel_rfl
  f166 := Tryz.func97.trans (congrArg some (by kernel_rfl))
  f240 := Tryz.func95.trans (congrArg some (by kernel_rfl))
  f276 := Tryz.func112.trans (congrArg some (by kernel_rfl))
  t0 := Tryz.underlying0
  a0 := Tryz.isAgg0
  z0 := Tryz.sizeOf0
  v0 := Tryz.zeroValue0
  t3 := Tryz.underlying3
  a3 := Tryz.isAgg3
  z3 := Tryz.sizeOf3
  v3 := Tryz.zeroValue3
  t4 := Tryz.underlying4
  a4 := Tryz.isAgg4
  z4 := Tryz.sizeOf4
  v4 := Tryz.zeroValue4
  t9 := Tryz.underlying9
  a9 := Tryz.isAgg9
  z9 := Tryz.sizeOf9
  v9 := Tryz.zeroValue9
  t20 := Tryz.underlying20
  a20 := Tryz.isAgg20
  z20 := Tryz.sizeOf20
  v20 := Tryz.zeroValue20
  t37 := Tryz.underlying123
  a37 := Tryz.isAgg123
  z37 := Tryz.sizeOf123
  v37 := Tryz.zeroValue123
  t70 := Tryz.underlying145
  a70 := Tryz.isAgg145
  z70 := Tryz.sizeOf145
  v70 := Tryz.zeroValue145
  t72 := Tryz.underlying147
  a72 := Tryz.isAgg147
  z72 := Tryz.sizeOf147
  v72 := Tryz.zeroValue147
  t75 := Tryz.underlying168
  a75 := Tryz.isAgg168
  z75 := Tryz.sizeOf168
  v75 := Tryz.zeroValue168
  t164 := Tryz.underlying188
  a164 := Tryz.isAgg188
  z164 := Tryz.sizeOf188
  v164 := Tryz.zeroValue188 }

theorem Tryz.extra166x : Builder.Extra Tryz.prog Tryz.w166_ren := {
  sizeBuilder := by kernel_rfl
  liesBuilder := by kernel_rfl
  t5 := Tryz.underlying5
  a5 := Tryz.isAgg5
  z5 := Tryz.sizeOf5
  v5 := Tryz.zeroValue5
  infoByte := by kernel_rfl
  cellsByte := by kernel_rfl
  sizeByte := by kernel_rfl
  neB5 := by decide }

open Go.RowKit in
theorem Tryz.Builder_WriteString (B b : Nat) (bs : List Value) (s : ByteArray) (w : World) (h : Lib.IsBuilder 147 5 B b bs w) (hlen : bs.length + s.size ≤ 140737488355328) (hBw : B ≤ w.heap.size) :
    Calls Tryz.prog 97 #[.pointer (some ⟨b, 0, none⟩), .string s] w fun e w' => e = .returned (.tuple #[.int .i64 s.size, .nilIface]) ∧ (Lib.BuilderAt 147 5 B b (.pointer (some ⟨b, 0, none⟩)) (bs ++ Lib.strCells s) w' ∧ Below B w w') := Any.Builder_WriteString Tryz.lays166x Tryz.extra166x B b bs s w h hlen hBw

end Go.Proofs
