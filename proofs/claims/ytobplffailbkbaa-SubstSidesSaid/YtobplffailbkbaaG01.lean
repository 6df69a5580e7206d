/-
  Texts of the proof, put together: Row, DkL, ChL.
-/
import Derived.Test.YtobplffailbkbaaRows
import Derived.WalkKit
import Derived.LoopTactic
import Derived.Lib.Hide
import Derived.Lib.Builder
import Derived.Deep.QuietTactic
import Derived.BigQuiet
import Derived.Laws.AppendOwnNone
import Derived.OwnWalk
import GoSem.Core.Value

/-
  Rows of memory that a call owns, of any length and of elements of any size: read, appended to.
-/
namespace Go.Proofs.Ytobplffailbkbaa
open Go.RowKit

theorem row_lt {w : World} {b : Nat} {o : Obj} (h : w.heap[b]? = some o) : b < w.heap.size := by
  rcases Nat.lt_or_ge b w.heap.size with h1 | h1
  · exact h1
  · rw [Array.getElem?_eq_none h1] at h
    cases h

theorem Below.of_drews (w : World) (n : Nat) : Below w.heap.size w (w.drewN n) := ⟨rfl, rfl, rfl, Nat.le_refl _, fun _ _ => rfl⟩

theorem row_form {B : Nat} {w : World} {v : Value} {e : TypeId} {size n : Nat} {xs : List Value} (h : w.ownsRow B e size v n xs) : ∃ a cap, v = .slice a n cap ∧ n ≤ cap ∧ cap ≤ maxLen ∧ ∀ j u, xs[j]? = some u → ∃ g, a = some ⟨g, 0, none⟩ ∧ g < w.heap.size ∧ w.cell? ⟨g, j, none⟩ = some u := by
  obtain ⟨h1, ⟨rfl, rfl⟩ | ⟨g, cap, cur, rfl, hg, hh, hc, hm, hs, ht⟩⟩ := h
  · exact ⟨none, 0, rfl, Nat.le_refl _, Nat.zero_le _, fun j u hj => by
      have : xs = [] := List.eq_nil_of_length_eq_zero (by omega)
      rw [this] at hj
      simp at hj⟩
  · refine ⟨_, cap, rfl, hc, hm, fun j u hj => ⟨g, rfl, row_lt hh, ?_⟩⟩
    rw [Lib.cell_of_heap hh, ← Array.getElem?_toList]
    have hjl : j < n * size := by
      rcases Nat.lt_or_ge j xs.length with h | h
      · omega
      · rw [List.getElem?_eq_none h] at hj; cases hj
    have e : (cur.toList.take (n * size))[j]? = xs[j]? := by rw [ht]
    rw [List.getElem?_take_of_lt hjl] at e
    rw [e, hj]

/-- A slice as a source: what its cells hold. -/
def Src (w : World) (sv : Value) (m size : Nat) (news : List Value) : Prop :=
  (sv = .slice none 0 0 ∧ m = 0 ∧ news = []) ∨ ∃ ad c, sv = .slice (some ad) m c ∧ news.length = m * size ∧ ∀ j u, news[j]? = some u → w.cell? (ad.add j) = some u

theorem add_block2 (a : Addr) (i : Nat) : (a.add i).block = a.block := by unfold Addr.add; split <;> rfl

theorem addr_add (g j : Nat) : (⟨g, 0, none⟩ : Addr).add j = ⟨g, j, none⟩ := by
  simp [Addr.add]
  intro h
  exact h.symm

theorem row_src {B : Nat} {w : World} {v : Value} {e : TypeId} {size n : Nat} {xs : List Value} (h : w.ownsRow B e size v n xs) : Src w v n size xs := by
  have h0 := h
  obtain ⟨h1, ⟨rfl, rfl⟩ | ⟨g, cap, cur, rfl, -⟩⟩ := h
  · exact .inl ⟨rfl, rfl, List.eq_nil_of_length_eq_zero (by omega)⟩
  · obtain ⟨a, cap', hv, -, -, hc⟩ := row_form h0
    refine .inr ⟨_, cap, rfl, h1, fun j u hj => ?_⟩
    obtain ⟨g', hg, -, hcell⟩ := hc j u hj
    simp only [Value.slice.injEq] at hv
    rw [hg] at hv
    simp only [Option.some.injEq, Addr.mk.injEq, and_true] at hv
    rw [addr_add, hv.1]
    exact hcell

theorem run_app {t ty e : TypeId} {i0 : TypeInfo} {z : Value} {size bytes : Nat} {B n m : Nat} {v sv : Value} {xs news : List Value} {w : World}
    (ht : Try.prog.underlying t = some (.slice e)) (hi : Try.prog.info? e = some i0) (hz : i0.zero = some z) (hsz : i0.size = size) (hby : i0.bytes = bytes) (hzs : z.cells.size = size) (hpos : 0 < size) (hbb : bytes ≤ 100)
    (hd : w.ownsRow B e size v n xs) (hs : Src w sv m size news) (h1 : ∀ u ∈ news, u.oneCell' = true) (hn : n + m ≤ 1000000) (hB : B ≤ w.heap.size) :
    ∃ v' w', (Builtin.append_ #[t, t] ty #[v, sv]).run Try.prog w = .ok v' w' ∧ (w'.ownsRow B e size v' (n + m) (xs ++ news) ∧ w.grownBy w' v.ownBlock) := by
  have hbytes : (n + m) * bytes ≤ 140737488355328 := by
    have := Nat.mul_le_mul hn hbb
    omega
  rcases hs with ⟨rfl, rfl, rfl⟩ | ⟨ad, c, rfl, hl, hc⟩
  · rw [List.append_nil]
    exact ⟨v, w, run_append_owned_none (P := Try.prog) (w := w) B t ty e i0 size ht hi v n xs hd, hd, World.grownBy.refl w _⟩
  · obtain ⟨v', w', hr, h2, h3, -⟩ := run_append_own (P := Try.prog) w B t ty e i0 z size bytes ht hi hz hsz hby hzs hpos v n xs hd ad m c news hl hc h1 (by unfold maxLen; omega) hbytes hB
    exact ⟨v', w', hr, h2, h3⟩

/-- An append of which it is known that it goes through. -/
theorem wpList_append_ex {ops : Array Oper} {rest : List Oper} {o : Oper} {a : Act} {w : World} {Q : Exit → Act → World → Prop} (hg : o.guard = none) (s x : Operand) (t : TypeId)
    (ho : o.op = .call { callee := .builtin .append, args := #[s, x], argTypes := #[t, t] }) (R : Value → World → Prop)
    (h : ∃ v' w', (Builtin.append_ #[t, t] o.type #[a.eval s, a.eval x]).run Try.prog w = .ok v' w' ∧ R v' w') (hK : ∀ v' w', R v' w' → wpList Try.prog ops Q rest (a.put o.dst v') w') : wpList Try.prog ops Q (o :: rest) a w := by
  obtain ⟨v', w', hr, hR⟩ := h
  refine wpList_plain hg fun K' hK' => ?_
  unfold Oper.wp
  simp only [execOp, ho, resolve, invoke, builtin, Sem.run_bind, Sem.run_pure, Result.andThen_ok, List.map_toArray, List.map_cons, List.map_nil, hr]
  exact hK' _ _ (hK v' w' hR)

theorem row_empty {B : Nat} {w : World} (e : TypeId) (size : Nat) (hB : B ≤ w.heap.size) : (w.alloc (.cells #[] e)).ownsRow B e size (.slice (some ⟨w.heap.size, 0, none⟩) 0 0) 0 [] :=
  World.ownsRow_made w #[] 0 hB (Nat.zero_le _) (by simp)

/-- A source of one element, just laid. -/
theorem src_one (w : World) (u : Value) (e : TypeId) : Src (w.alloc (.cells #[u] e)) (.slice (some ⟨w.heap.size, 0, none⟩) 1 1) 1 1 [u] :=
  .inr ⟨_, 1, rfl, rfl, fun j x hj => by
    match j, hj with
    | 0, hj => simp at hj; subst hj; simp [Addr.add]⟩

theorem Src.below {w w' : World} {sv : Value} {m size : Nat} {news : List Value} (h : Src w sv m size news) (hlt : ∀ ad m c, sv = .slice (some ad) m c → ad.block < w.heap.size) (b : Below w.heap.size w w') : Src w' sv m size news := by
  rcases h with h | ⟨ad, c, rfl, hl, hc⟩
  · exact .inl h
  · refine .inr ⟨ad, c, rfl, hl, fun j u hj => ?_⟩
    rw [b.cell (by rw [add_block2]; exact hlt ad m c rfl)]
    exact hc j u hj

/-- A row of the call's own, above W. -/
def Up (W : World) (e : TypeId) (size : Nat) (v : Value) (n : Nat) (xs : List Value) (w : World) : Prop :=
  w.ownsRow W.heap.size e size v n xs ∧ Below W.heap.size W w

theorem app_up {t ty e : TypeId} {i0 : TypeInfo} {z : Value} {size bytes : Nat} {n m : Nat} {v sv : Value} {xs news : List Value} {W w : World}
    (ht : Try.prog.underlying t = some (.slice e)) (hi : Try.prog.info? e = some i0) (hz : i0.zero = some z) (hsz : i0.size = size) (hby : i0.bytes = bytes) (hzs : z.cells.size = size) (hpos : 0 < size) (hbb : bytes ≤ 100)
    (hd : Up W e size v n xs w) (hs : Src w sv m size news) (h1 : ∀ u ∈ news, u.oneCell' = true) (hn : n + m ≤ 1000000) :
    ∃ v' w', (Builtin.append_ #[t, t] ty #[v, sv]).run Try.prog w = .ok v' w' ∧ Up W e size v' (n + m) (xs ++ news) w' := by
  obtain ⟨v', w', hr, h2, h3⟩ := run_app (ty := ty) ht hi hz hsz hby hzs hpos hbb hd.1 hs h1 hn hd.2.size
  exact ⟨v', w', hr, h2, hd.2.grown h3 hd.2.size fun k hk => (World.ownsRow.lt hd.1 k hk).1⟩

theorem up_empty (w : World) (e : TypeId) (size : Nat) : Up w e size (.slice (some ⟨w.heap.size, 0, none⟩) 0 0) 0 [] (w.alloc (.cells #[] e)) :=
  ⟨row_empty e size (Nat.le_refl _), (Below.refl _ _).alloc (Nat.le_refl _) _⟩

theorem up_nil (w : World) (e : TypeId) (size : Nat) : Up w e size (.slice none 0 0) 0 [] w := ⟨⟨by simp, .inl ⟨rfl, rfl⟩⟩, Below.refl _ _⟩

theorem Up.alloc {W w : World} {e : TypeId} {size : Nat} {v : Value} {n : Nat} {xs : List Value} (h : Up W e size v n xs w) (o : Obj) : Up W e size v n xs (w.alloc o) :=
  ⟨World.ownsRow.alloc h.1 o, h.2.alloc h.2.size o⟩

/-- A row that was there is a source in any world above. -/
theorem row_src_up {B : Nat} {W w : World} {v : Value} {e : TypeId} {size n : Nat} {xs : List Value} (h : W.ownsRow B e size v n xs) (b : Below W.heap.size W w) : Src w v n size xs :=
  (row_src h).below (fun ad m c e => (World.ownsRow.lt h ad.block (by rw [e]; simp [Value.ownBlock])).2) b

theorem row_low {w : World} {base base' : Nat} {e : TypeId} {size : Nat} {v : Value} {n : Nat} {xs : List Value} (h : w.ownsRow base e size v n xs) (hb : base' ≤ base) : w.ownsRow base' e size v n xs := by
  obtain ⟨h1, h2 | ⟨g, cap, cur, rfl, hg, h3⟩⟩ := h
  · exact ⟨h1, .inl h2⟩
  · exact ⟨h1, .inr ⟨g, cap, cur, rfl, Nat.le_trans hb hg, h3⟩⟩

theorem src_nil (w : World) (size : Nat) : Src w (.slice none 0 0) 0 size [] := .inl ⟨rfl, rfl, rfl⟩

end Go.Proofs.Ytobplffailbkbaa

/-
  Directives, over lists: any tokens, which kind a line of them is of, and what stands behind its word.
-/
namespace Go.Proofs.Ytobplffailbkbaa

/-- A site. -/
structure Xs where
  m : ByteArray
  g : ByteArray
  f : Int
  t : Int
  d : Bool
/-- A token, any. -/
structure Xt where
  k : Int
  x : ByteArray
  sp : Bool
  g : ByteArray
  f : Int
  t : Int
  d : Bool
  ss : List Xs

/-- The words by their kinds. -/
def wB : Nat → ByteArray
  | 2 => ⟨#[105, 102]⟩
  | 3 => ⟨#[105, 102, 100, 101, 102]⟩
  | 4 => ⟨#[105, 102, 110, 100, 101, 102]⟩
  | 5 => ⟨#[101, 108, 105, 102]⟩
  | 6 => ⟨#[101, 108, 115, 101]⟩
  | 7 => ⟨#[101, 110, 100, 105, 102]⟩
  | 8 => ⟨#[105, 110, 99, 108, 117, 100, 101]⟩
  | 9 => ⟨#[100, 101, 102, 105, 110, 101]⟩
  | 10 => ⟨#[117, 110, 100, 101, 102]⟩
  | 11 => ⟨#[108, 105, 110, 101]⟩
  | 12 => ⟨#[101, 114, 114, 111, 114]⟩
  | 13 => ⟨#[112, 114, 97, 103, 109, 97]⟩
  | _ => ⟨#[]⟩

def wFrom (x : ByteArray) : Nat → Nat → Nat
  | 0, _ => 14
  | n + 1, i => if x = wB i then i else wFrom x n (i + 1)
/-- A word's kind. -/
def wKind (x : ByteArray) : Nat := wFrom x 12 2

theorem wFrom_yes {x : ByteArray} {k : Nat} (h : x = wB k) (hk : k < 14) : wFrom x (14 - k) k = k := by
  obtain ⟨n, hn⟩ : ∃ n, 14 - k = n + 1 := ⟨13 - k, by omega⟩
  rw [hn]
  show (if x = wB k then k else _) = k
  rw [if_pos h]
theorem wFrom_no {x : ByteArray} {k : Nat} (h : x ≠ wB k) (hk : k < 14) : wFrom x (14 - k) k = wFrom x (14 - (k + 1)) (k + 1) := by
  obtain ⟨n, hn⟩ : ∃ n, 14 - k = n + 1 := ⟨13 - k, by omega⟩
  rw [hn, show 14 - (k + 1) = n from by omega]
  show (if x = wB k then k else wFrom x n (k + 1)) = _
  rw [if_neg h]
theorem wFrom_is {x : ByteArray} : ∀ (n i : Nat), i + n = 14 → 2 ≤ i → (wFrom x n i = 14 ∨ (i ≤ wFrom x n i ∧ wFrom x n i < 14 ∧ x = wB (wFrom x n i)))
  | 0, i, _, _ => .inl rfl
  | n + 1, i, h, h2 => by
    show (if x = wB i then i else wFrom x n (i + 1)) = 14 ∨ (i ≤ (if x = wB i then i else wFrom x n (i + 1)) ∧ (if x = wB i then i else wFrom x n (i + 1)) < 14 ∧ x = wB (if x = wB i then i else wFrom x n (i + 1)))
    by_cases hx : x = wB i
    · rw [if_pos hx]
      exact .inr ⟨Nat.le_refl _, by omega, hx⟩
    · rw [if_neg hx]
      rcases wFrom_is n (i + 1) (by omega) (by omega) with h1 | ⟨h1, h3, h4⟩
      · exact .inl h1
      · exact .inr ⟨by omega, h3, h4⟩
theorem wKind_is (x : ByteArray) : wKind x = 14 ∨ (2 ≤ wKind x ∧ wKind x < 14 ∧ x = wB (wKind x)) := wFrom_is 12 2 rfl (by omega)
theorem wKind_word : ∀ k, 2 ≤ k → k < 14 → wKind (wB k) = k := by
  intro k h1 h2
  have : k = 2 ∨ k = 3 ∨ k = 4 ∨ k = 5 ∨ k = 6 ∨ k = 7 ∨ k = 8 ∨ k = 9 ∨ k = 10 ∨ k = 11 ∨ k = 12 ∨ k = 13 := by omega
  rcases this with rfl | rfl | rfl | rfl | rfl | rfl | rfl | rfl | rfl | rfl | rfl | rfl <;> decide

def bH : ByteArray := ⟨#[35]⟩
def bD : ByteArray := ⟨#[37, 58]⟩
/-- Is a token a hash? -/
def hashX (t : Xt) : Bool := decide (t.k = 5) && (t.x.toList == [35] || t.x.toList == [37, 58])

/-- A line's kind. -/
def kindL : List Xt → Nat
  | [] => 0
  | h :: r => if hashX h then (match r with
    | [] => 1
    | s :: _ => if s.k = 1 then wKind s.x else 14) else 0
/-- What stands behind its word. -/
def restL (T : List Xt) : List Xt := if kindL T < 2 then [] else T.drop 2

theorem kindL_le (T : List Xt) : kindL T ≤ 14 := by
  unfold kindL
  split
  · omega
  · split
    · split
      · omega
      · split
        · rename_i s _ _
          rcases wKind_is s.x with h | h <;> omega
        · omega
    · omega
theorem kindL_len {T : List Xt} (h : 2 ≤ kindL T) : 2 ≤ T.length := by
  match T with
  | [] => simp [kindL] at h
  | [a] =>
    rw [show kindL [a] = if hashX a then 1 else 0 from rfl] at h
    split at h <;> omega
  | a :: b :: r => simp
theorem kindL_word {T : List Xt} (h : 2 ≤ kindL T) : kindL T = 14 ∨ (kindL T < 14 ∧ ∃ t, T[1]? = some t ∧ t.x = wB (kindL T)) := by
  match T with
  | [] => simp [kindL] at h
  | [a] =>
    rw [show kindL [a] = if hashX a then 1 else 0 from rfl] at h
    split at h <;> omega
  | a :: b :: r =>
    have e : kindL (a :: b :: r) = if hashX a then (if b.k = 1 then wKind b.x else 14) else 0 := rfl
    rw [e] at h ⊢
    split at h
    · rename_i ha
      rw [if_pos ha]
      split
      · rename_i hb
        rcases wKind_is b.x with h1 | h1
        · exact .inl h1
        · exact .inr ⟨h1.2.1, b, rfl, h1.2.2⟩
      · exact .inl rfl
    · omega

end Go.Proofs.Ytobplffailbkbaa

/-
  Characters of a text, over lists: the walk of the project (chs) and the two of the document (pls, spL) are one.
-/
namespace Go.Proofs.Ytobplffailbkbaa

/-- What two questions and a sign stand for. -/
def tri (c : UInt8) : Option UInt8 :=
  if c = 61 then some 35 else if c = 47 then some 92 else if c = 39 then some 94 else if c = 40 then some 91 else if c = 41 then some 93 else if c = 33 then some 124 else if c = 60 then some 123 else if c = 62 then some 125 else if c = 45 then some 126 else none

structure Rn where
  c : UInt8
  f : Nat
  t : Nat

def triAt (l : List UInt8) (i : Nat) : Option UInt8 :=
  if i + 2 < l.length ∧ l.getD i 0 = 63 ∧ l.getD (i + 1) 0 = 63 then tri (l.getD (i + 2) 0) else none

def one (l : List UInt8) (i : Nat) : Rn := match triAt l i with
  | some c => ⟨c, i, i + 3⟩
  | none => ⟨l.getD i 0, i, i + 1⟩

def spl (l : List UInt8) (r : Rn) : Bool := decide (r.c = 92) && (decide (r.t < l.length) && decide (l.getD r.t 0 = 10))

def tk (l : List UInt8) (i : Nat) : Rn × Bool := if spl l (one l i) then (⟨(one l i).c, i, (one l i).t + 1⟩, false) else (one l i, true)

def chGo (l : List UInt8) : Nat → Nat → List Rn
  | 0, _ => []
  | n + 1, i => if i < l.length then (if (tk l i).2 then [(tk l i).1] else []) ++ chGo l n (tk l i).1.t else []

def plGo (l : List UInt8) : Nat → Nat → List Rn
  | 0, _ => []
  | n + 1, i => if i < l.length then one l i :: plGo l n (one l i).t else []

def spL : List Rn → List Rn
  | [] => []
  | [a] => [a]
  | a :: b :: r => if a.c = 92 ∧ b.c = 10 then spL r else a :: spL (b :: r)

def chs (l : List UInt8) (i : Nat) : List Rn := chGo l (l.length - i) i
def pls (l : List UInt8) (i : Nat) : List Rn := plGo l (l.length - i) i

theorem tri_ne (c d : UInt8) (h : tri c = some d) : d ≠ 10 ∧ d ≠ 63 ∧ c ≠ 63 ∧ c ≠ 92 ∧ c ≠ 10 := by
  unfold tri at h
  repeat' (split at h)
  all_goals (first | cases h | skip)
  all_goals (subst_vars; decide)

theorem triAt_some {l : List UInt8} {i : Nat} {d : UInt8} (h : triAt l i = some d) : i + 2 < l.length ∧ l.getD i 0 = 63 ∧ l.getD (i + 1) 0 = 63 ∧ tri (l.getD (i + 2) 0) = some d := by
  unfold triAt at h
  split at h
  · rename_i h1
    exact ⟨h1.1, h1.2.1, h1.2.2, h⟩
  · cases h

theorem one_f (l : List UInt8) (i : Nat) : (one l i).f = i := by unfold one; split <;> rfl
theorem one_t (l : List UInt8) (i : Nat) : i < (one l i).t ∧ (one l i).t ≤ i + 3 ∧ (i < l.length → (one l i).t ≤ l.length) := by
  unfold one
  split
  · rename_i c h
    have := triAt_some h
    exact ⟨by simp, by simp, fun _ => by simp; omega⟩
  · exact ⟨by simp, by simp, fun _ => by simp; omega⟩

theorem spl_true {l : List UInt8} {r : Rn} (h : spl l r = true) : r.c = 92 ∧ r.t < l.length ∧ l.getD r.t 0 = 10 := by
  unfold spl at h
  simpa using h

theorem spl_false {l : List UInt8} {r : Rn} (h : spl l r = false) : ¬ (r.c = 92 ∧ r.t < l.length ∧ l.getD r.t 0 = 10) := by
  intro h1
  unfold spl at h
  rw [decide_eq_true h1.1, decide_eq_true h1.2.1, decide_eq_true h1.2.2] at h
  cases h

theorem tk_f (l : List UInt8) (i : Nat) : (tk l i).1.f = i := by unfold tk; split <;> simp [one_f]
theorem tk_t (l : List UInt8) (i : Nat) : i < (tk l i).1.t ∧ (tk l i).1.t ≤ i + 4 ∧ (i < l.length → (tk l i).1.t ≤ l.length) := by
  have h := one_t l i
  unfold tk
  split
  · rename_i hs
    have := spl_true hs
    exact ⟨by simp; omega, by simp; omega, fun _ => by simp; omega⟩
  · exact ⟨h.1, by simp; omega, h.2.2⟩
theorem tk_stands {l : List UInt8} {i : Nat} (h : (tk l i).2 = true) : tk l i = (one l i, true) := by
  unfold tk at h ⊢
  split at h
  · cases h
  · rename_i hs
    rw [if_neg hs]

theorem chGo_fuel (l : List UInt8) : ∀ (n m i : Nat), l.length - i ≤ n → l.length - i ≤ m → chGo l n i = chGo l m i
  | 0, 0, _, _, _ => rfl
  | 0, m + 1, i, h, _ => by
    unfold chGo
    rw [if_neg (by omega)]
  | n + 1, 0, i, _, h => by
    unfold chGo
    rw [if_neg (by omega)]
  | n + 1, m + 1, i, h1, h2 => by
    unfold chGo
    split
    · have := tk_t l i
      rw [chGo_fuel l n m (tk l i).1.t (by omega) (by omega)]
    · rfl

theorem plGo_fuel (l : List UInt8) : ∀ (n m i : Nat), l.length - i ≤ n → l.length - i ≤ m → plGo l n i = plGo l m i
  | 0, 0, _, _, _ => rfl
  | 0, m + 1, i, h, _ => by
    unfold plGo
    rw [if_neg (by omega)]
  | n + 1, 0, i, _, h => by
    unfold plGo
    rw [if_neg (by omega)]
  | n + 1, m + 1, i, h1, h2 => by
    unfold plGo
    split
    · have := one_t l i
      rw [plGo_fuel l n m (one l i).t (by omega) (by omega)]
    · rfl

theorem chs_end {l : List UInt8} {i : Nat} (h : l.length ≤ i) : chs l i = [] := by
  unfold chs
  rw [show l.length - i = 0 from by omega]
  rfl
theorem pls_end {l : List UInt8} {i : Nat} (h : l.length ≤ i) : pls l i = [] := by
  unfold pls
  rw [show l.length - i = 0 from by omega]
  rfl
theorem chs_step {l : List UInt8} {i : Nat} (h : i < l.length) : chs l i = (if (tk l i).2 then [(tk l i).1] else []) ++ chs l (tk l i).1.t := by
  have := tk_t l i
  unfold chs
  obtain ⟨n, hn⟩ : ∃ n, l.length - i = n + 1 := ⟨l.length - i - 1, by omega⟩
  rw [hn, show chGo l (n + 1) i = if i < l.length then (if (tk l i).2 then [(tk l i).1] else []) ++ chGo l n (tk l i).1.t else [] from rfl, if_pos h, chGo_fuel l n (l.length - (tk l i).1.t) _ (by omega) (by omega)]
theorem pls_step {l : List UInt8} {i : Nat} (h : i < l.length) : pls l i = one l i :: pls l (one l i).t := by
  have := one_t l i
  unfold pls
  obtain ⟨n, hn⟩ : ∃ n, l.length - i = n + 1 := ⟨l.length - i - 1, by omega⟩
  rw [hn, show plGo l (n + 1) i = if i < l.length then one l i :: plGo l n (one l i).t else [] from rfl, if_pos h, plGo_fuel l n (l.length - (one l i).t) _ (by omega) (by omega)]

theorem one_plain {l : List UInt8} {i : Nat} (h : l.getD i 0 ≠ 63) : one l i = ⟨l.getD i 0, i, i + 1⟩ := by
  unfold one
  have : triAt l i = none := by
    unfold triAt
    rw [if_neg fun h1 => h h1.2.1]
  rw [this]

theorem one_ten (l : List UInt8) (i : Nat) : (one l i).c = 10 ↔ l.getD i 0 = 10 := by
  constructor
  · intro h
    unfold one at h
    split at h
    · rename_i c h1
      exact absurd h (tri_ne _ _ (triAt_some h1).2.2.2).1
    · exact h
  · intro h
    rw [one_plain (by rw [h]; decide)]
    exact h

/-- The document's two walks answer as the project's one. -/
theorem spL_pls (l : List UInt8) : ∀ (n i : Nat), l.length - i ≤ n → spL (pls l i) = chs l i
  | 0, i, h => by
    rw [pls_end (by omega), chs_end (by omega)]
    rfl
  | n + 1, i, h => by
    by_cases hi : i < l.length
    · have ht := one_t l i
      rw [pls_step hi, chs_step hi]
      cases hs : spl l (one l i) with
      | true =>
        have h1 := spl_true hs
        have hk : tk l i = (⟨(one l i).c, i, (one l i).t + 1⟩, false) := by unfold tk; rw [if_pos hs]
        have h2 : one l (one l i).t = ⟨l.getD (one l i).t 0, (one l i).t, (one l i).t + 1⟩ := one_plain (by rw [h1.2.2]; decide)
        rw [pls_step h1.2.1, hk, h2]
        unfold spL
        rw [if_pos ⟨h1.1, h1.2.2⟩, spL_pls l n ((one l i).t + 1) (by omega)]
        rfl
      | false =>
        have h1 := spl_false hs
        have hk : tk l i = (one l i, true) := by unfold tk; rw [if_neg (by rw [hs]; simp)]
        rw [hk]
        show _ = one l i :: chs l (one l i).t
        rw [← spL_pls l n (one l i).t (by omega)]
        by_cases he : (one l i).t < l.length
        · rw [pls_step he]
          rw [spL, if_neg]
          rintro ⟨ha, hb⟩
          exact h1 ⟨ha, he, (one_ten l _).1 hb⟩
        · rw [pls_end (by omega)]
          rfl
    · rw [pls_end (by omega), chs_end (by omega)]
      rfl

theorem spL_all (l : List UInt8) : spL (pls l 0) = chs l 0 := spL_pls l _ 0 (Nat.le_refl _)

/-- Where each stands. -/
theorem chs_mem (l : List UInt8) : ∀ (n i : Nat), l.length - i ≤ n → ∀ r ∈ chs l i, i ≤ r.f ∧ r.f < r.t ∧ r.t ≤ r.f + 3 ∧ r.t ≤ l.length
  | 0, i, h, r, hr => by
    rw [chs_end (by omega)] at hr
    simp at hr
  | n + 1, i, h, r, hr => by
    by_cases hi : i < l.length
    · have ht := tk_t l i
      rw [chs_step hi] at hr
      rcases List.mem_append.1 hr with h1 | h1
      · cases hs : (tk l i).2 with
        | false => rw [hs] at h1; simp at h1
        | true =>
          rw [hs] at h1
          simp at h1
          rw [h1]
          have h2 := tk_stands hs
          have h3 := one_t l i
          rw [tk_f]
          refine ⟨Nat.le_refl _, ht.1, ?_, ht.2.2 hi⟩
          rw [h2]
          exact h3.2.1
      · have := chs_mem l n _ (by omega) r h1
        omega
    · rw [chs_end (by omega)] at hr
      simp at hr

theorem chs_len (l : List UInt8) : ∀ (n i : Nat), l.length - i ≤ n → (chs l i).length ≤ l.length - i
  | 0, i, h => by
    rw [chs_end (by omega)]
    simp
  | n + 1, i, h => by
    by_cases hi : i < l.length
    · have ht := tk_t l i
      have := chs_len l n (tk l i).1.t (by omega)
      rw [chs_step hi, List.length_append]
      have h2 : (if (tk l i).2 then [(tk l i).1] else []).length ≤ 1 := by split <;> simp
      omega
    · rw [chs_end (by omega)]
      simp

theorem pls_len (l : List UInt8) : ∀ (n i : Nat), l.length - i ≤ n → (pls l i).length ≤ l.length - i
  | 0, i, h => by
    rw [pls_end (by omega)]
    simp
  | n + 1, i, h => by
    by_cases hi : i < l.length
    · have ht := one_t l i
      have := pls_len l n (one l i).t (by omega)
      rw [pls_step hi, List.length_cons]
      omega
    · rw [pls_end (by omega)]
      simp

/-- With the byte 10 put behind. -/
def endsNl (o : List Rn) : Bool := match o.getLast? with
  | none => false
  | some r => decide (r.c = 10)
def withNl (n : Nat) (o : List Rn) : List Rn := if endsNl o then o else o ++ [⟨10, n, n⟩]
def charsL (l : List UInt8) : List Rn := if l = [] then [] else withNl l.length (chs l 0)

/-- What stands from i on, of those within. -/
def within (a b : Int) (r : Rn) : Bool := decide (a ≤ (r.f : Int)) && decide ((r.t : Int) ≤ b)
def bk (l : List UInt8) (a b : Int) (i : Nat) : List UInt8 := ((chs l i).filter (within a b)).map Rn.c
def backL (l : List UInt8) (a b : Int) : List UInt8 := bk l a b 0

theorem bk_end {l : List UInt8} {a b : Int} {i : Nat} (h : l.length ≤ i) : bk l a b i = [] := by
  unfold bk
  rw [chs_end h]
  rfl
theorem bk_skip {l : List UInt8} {a b : Int} {i : Nat} (h : i < l.length) (hs : (tk l i).2 = false) : bk l a b i = bk l a b (tk l i).1.t := by
  unfold bk
  rw [chs_step h, hs]
  rfl
theorem bk_out {l : List UInt8} {a b : Int} {i : Nat} (h : i < l.length) (hw : within a b (tk l i).1 = false) : bk l a b i = bk l a b (tk l i).1.t := by
  unfold bk
  rw [chs_step h]
  split
  · rw [List.singleton_append, List.filter_cons, hw]
    rfl
  · rfl
theorem bk_take {l : List UInt8} {a b : Int} {i : Nat} (h : i < l.length) (hs : (tk l i).2 = true) (hw : within a b (tk l i).1 = true) : bk l a b i = (tk l i).1.c :: bk l a b (tk l i).1.t := by
  unfold bk
  rw [chs_step h, hs]
  rw [if_pos rfl, List.singleton_append, List.filter_cons, hw]
  rfl
theorem bk_past {l : List UInt8} {a b : Int} {i : Nat} (h : i < l.length) (hb : b < ((tk l i).1.t : Int)) : bk l a b i = [] := by
  have hf : within a b (tk l i).1 = false := by
    unfold within
    simp
    omega
  rw [bk_out h hf]
  unfold bk
  rw [List.filter_eq_nil_iff.2]
  · rfl
  · intro r hr
    have := chs_mem l _ (tk l i).1.t (Nat.le_refl _) r hr
    unfold within
    simp
    omega

/-- A byte that begins nothing is one. -/
theorem tk_byte {l : List UInt8} {i : Nat} (h1 : triAt l i = none) (h2 : l.getD i 0 ≠ 92) : tk l i = (⟨l.getD i 0, i, i + 1⟩, true) := by
  have h : one l i = ⟨l.getD i 0, i, i + 1⟩ := by
    unfold one
    rw [h1]
  unfold tk
  rw [h, if_neg]
  intro hs
  exact h2 (spl_true hs).1

theorem triAt_not {l : List UInt8} {i : Nat} (h : l.getD i 0 ≠ 63) : triAt l i = none := by
  unfold triAt
  rw [if_neg fun h1 => h h1.2.1]
theorem triAt_not2 {l : List UInt8} {i : Nat} (h : l.getD (i + 1) 0 ≠ 63) : triAt l i = none := by
  unfold triAt
  rw [if_neg fun h1 => h h1.2.2]

/-- Behind the first byte of what is taken at once, each byte is one till its end. -/
theorem tk_inner {l : List UInt8} {j i : Nat} (h1 : j < i) (h2 : i < (tk l j).1.t) : tk l i = (⟨l.getD i 0, i, i + 1⟩, true) := by
  unfold tk at h2
  cases htr : triAt l j with
  | some d =>
    have ht := triAt_some htr
    have hn := tri_ne _ _ ht.2.2.2
    have ho : one l j = ⟨d, j, j + 3⟩ := by unfold one; rw [htr]
    rw [ho] at h2
    have h12 : i = j + 1 ∨ i = j + 2 ∨ (i = j + 3 ∧ l.getD (j + 3) 0 = 10) := by
      split at h2
      · rename_i hs
        have h3 : l.getD (j + 3) 0 = 10 := (spl_true hs).2.2
        have h4 : i < j + 3 + 1 := h2
        by_cases he : i = j + 3
        · exact .inr (.inr ⟨he, h3⟩)
        · omega
      · have h4 : i < j + 3 := h2
        omega
    rcases h12 with rfl | rfl | ⟨rfl, h3⟩
    · exact tk_byte (triAt_not2 hn.2.2.1) (by rw [ht.2.2.1]; decide)
    · exact tk_byte (triAt_not hn.2.2.1) hn.2.2.2.1
    · exact tk_byte (triAt_not (by rw [h3]; decide)) (by rw [h3]; decide)
  | none =>
    have ho : one l j = ⟨l.getD j 0, j, j + 1⟩ := by unfold one; rw [htr]
    rw [ho] at h2
    split at h2
    · rename_i hs
      have h3 := spl_true hs
      simp at h2 h3
      have e : i = j + 1 := by omega
      subst e
      have h4 : l.getD (j + 1) 0 = 10 := by simpa using h3.2.2
      exact tk_byte (triAt_not (by rw [h4]; decide)) (by rw [h4]; decide)
    · simp at h2
      omega

/-- From within what is taken at once, the walk comes to its end, and nothing of it counts that begins ahead of a. -/
theorem bk_inner {l : List UInt8} {a b : Int} {j : Nat} (h0 : j < l.length) (ha : ((tk l j).1.t : Int) ≤ a) : ∀ (n i : Nat), (tk l j).1.t - i ≤ n → j < i → i ≤ (tk l j).1.t → bk l a b i = bk l a b (tk l j).1.t
  | 0, i, h, h1, h2 => by rw [show i = (tk l j).1.t from by omega]
  | n + 1, i, h, h1, h2 => by
    by_cases he : i = (tk l j).1.t
    · rw [he]
    · have hk := tk_inner (l := l) h1 (by omega)
      have ht := (tk_t l j).2.2 h0
      have hi : i < l.length := by omega
      rw [bk_out hi]
      · rw [hk]
        exact bk_inner h0 ha n (i + 1) (by omega) (by omega) (by omega)
      · rw [hk]
        unfold within
        simp
        omega

/-- The walk may begin up to three bytes ahead of a, wherever that is. -/
theorem bk_from {l : List UInt8} {a b : Int} {i : Nat} (hi : ((i + 3 : Nat) : Int) ≤ a) : ∀ (n j : Nat), i - j ≤ n → j ≤ i → bk l a b i = bk l a b j
  | 0, j, h, hj => by rw [show i = j from by omega]
  | n + 1, j, h, hj => by
    by_cases he : i = j
    · rw [he]
    · by_cases hl : j < l.length
      · have ht := tk_t l j
        have hw : within a b (tk l j).1 = false := by
          unfold within
          rw [tk_f]
          simp
          omega
        rw [bk_out hl hw]
        by_cases h2 : (tk l j).1.t ≤ i
        · exact bk_from hi n _ (by omega) h2
        · exact bk_inner hl (by omega) _ i (Nat.le_refl _) (by omega) (by omega)
      · rw [bk_end (i := i) (by omega), bk_end (i := j) (by omega)]

/-- Where Back begins. -/
def aheadN (a : Int) : Nat := (max a 3 - 3).toNat
theorem bk_ahead (l : List UInt8) (a b : Int) : bk l a b (aheadN a) = backL l a b := by
  unfold backL aheadN
  by_cases h : a ≤ 3
  · rw [show (max a 3 - 3).toNat = 0 from by omega]
  · exact bk_from (by omega) _ 0 (Nat.le_refl _) (Nat.zero_le _)

/-- What the nine signs stand for, as the functions answer it. -/
def triB (c : UInt8) : UInt8 := (tri c).getD 0
def isTri (c : UInt8) : Bool := (tri c).isSome
def signL : List UInt8 := [61, 47, 39, 40, 41, 33, 60, 62, 45]
def standL : List UInt8 := [35, 92, 94, 91, 93, 124, 123, 125, 126]

theorem tri_sign (k : Nat) (hk : k < 9) : triB (signL.getD k 0) = standL.getD k 0 ∧ isTri (signL.getD k 0) = true := by
  match k, hk with
  | 0, _ | 1, _ | 2, _ | 3, _ | 4, _ | 5, _ | 6, _ | 7, _ | 8, _ => decide
  | n + 9, h => omega

theorem tri_none {c : UInt8} (h : ∀ j < 9, signL.getD j 0 ≠ c) : tri c = none := by
  unfold tri
  have h0 : c ≠ 61 := fun e => h 0 (by omega) e.symm
  have h1 : c ≠ 47 := fun e => h 1 (by omega) e.symm
  have h2 : c ≠ 39 := fun e => h 2 (by omega) e.symm
  have h3 : c ≠ 40 := fun e => h 3 (by omega) e.symm
  have h4 : c ≠ 41 := fun e => h 4 (by omega) e.symm
  have h5 : c ≠ 33 := fun e => h 5 (by omega) e.symm
  have h6 : c ≠ 60 := fun e => h 6 (by omega) e.symm
  have h7 : c ≠ 62 := fun e => h 7 (by omega) e.symm
  have h8 : c ≠ 45 := fun e => h 8 (by omega) e.symm
  simp only [h0, h1, h2, h3, h4, h5, h6, h7, h8, if_false]

end Go.Proofs.Ytobplffailbkbaa
