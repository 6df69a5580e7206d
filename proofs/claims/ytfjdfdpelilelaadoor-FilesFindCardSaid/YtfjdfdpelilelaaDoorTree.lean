/-
  Trees of text: plain facts, of no program.
-/
import Derived.Lib.Bytealg
namespace Go.Proofs.YtfjdfdpelilelaaDoor

inductive T where
  | leaf (s : ByteArray)
  | node (l r : T)

def T.size : T → Nat
  | .leaf s => s.size
  | .node l r => l.size + r.size
def T.depth : T → Nat
  | .leaf _ => 1
  | .node l r => max l.depth r.depth + 1
def T.text : T → List UInt8
  | .leaf s => s.data.toList
  | .node l r => l.text ++ r.text
def T.str : T → ByteArray
  | .leaf s => s
  | .node _ _ => ⟨#[]⟩
def T.nl (t : T) : Nat := t.text.count 10
def T.full : T → Prop
  | .leaf s => 1 ≤ s.size
  | .node l r => l.full ∧ r.full
def T.nn : T → Nat
  | .leaf _ => 0
  | .node l r => l.nn + r.nn + 1

theorem T.size_eq : ∀ t : T, t.size = t.text.length
  | .leaf s => by simp [T.size, T.text]
  | .node l r => by simp [T.size, T.text, T.size_eq l, T.size_eq r]

theorem T.full_pos : ∀ t : T, t.full → 1 ≤ t.size
  | .leaf _, h => h
  | .node l r, h => by have := T.full_pos l h.1; simp only [T.size]; omega

theorem T.depth_le : ∀ t : T, t.full → t.depth ≤ t.size
  | .leaf _, h => h
  | .node l r, h => by
    have h1 := T.depth_le l h.1
    have h2 := T.depth_le r h.2
    have h3 := T.full_pos l h.1
    have h4 := T.full_pos r h.2
    simp only [T.size, T.depth]
    omega

theorem T.depth_pos : ∀ t : T, 1 ≤ t.depth
  | .leaf _ => Nat.le_refl _
  | .node l r => by simp [T.depth]

theorem T.nl_node (l r : T) : (T.node l r).nl = l.nl + r.nl := by simp [T.nl, T.text]
theorem T.nl_le (t : T) : t.nl ≤ t.size := by rw [T.size_eq]; exact List.count_le_length

/-- A tree, or none: what a pointer to a node stands for. -/
def osize : Option T → Nat
  | none => 0
  | some t => t.size
def otext : Option T → List UInt8
  | none => []
  | some t => t.text
def odepth : Option T → Nat
  | none => 0
  | some t => t.depth

theorem osize_eq (o : Option T) : osize o = (otext o).length := by
  cases o with
  | none => rfl
  | some t => exact T.size_eq t

end Go.Proofs.YtfjdfdpelilelaaDoor
