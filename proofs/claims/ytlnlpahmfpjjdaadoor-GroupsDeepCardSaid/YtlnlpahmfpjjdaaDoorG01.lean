/-
  Texts of the proof, put together: Row, ChL, LxL.
-/
import Derived.Test.YtlnlpahmfpjjdaaDoorRows
import Derived.WalkKit
import Derived.LoopTactic
import Derived.Lib.Hide
import Derived.Lib.Builder
import Derived.Deep.QuietTactic
import Derived.BigQuiet
import Derived.Laws.AppendOwnNone
import Derived.OwnWalk
import GoSem.Core.Value

/-
  Rows of memory that a call owns, of any length and of elements of any size: read, appended to.
-/
namespace Go.Proofs.YtlnlpahmfpjjdaaDoor
open Go.RowKit

theorem row_lt {w : World} {b : Nat} {o : Obj} (h : w.heap[b]? = some o) : b < w.heap.size := by
  rcases Nat.lt_or_ge b w.heap.size with h1 | h1
  · exact h1
  · rw [Array.getElem?_eq_none h1] at h
    cases h

theorem Below.of_drews (w : World) (n : Nat) : Below w.heap.size w (w.drewN n) := ⟨rfl, rfl, rfl, Nat.le_refl _, fun _ _ => rfl⟩

theorem row_form {B : Nat} {w : World} {v : Value} {e : TypeId} {size n : Nat} {xs : List Value} (h : w.ownsRow B e size v n xs) : ∃ a cap, v = .slice a n cap ∧ n ≤ cap ∧ cap ≤ maxLen ∧ ∀ j u, xs[j]? = some u → ∃ g, a = some ⟨g, 0, none⟩ ∧ g < w.heap.size ∧ w.cell? ⟨g, j, none⟩ = some u := by
  obtain ⟨h1, ⟨rfl, rfl⟩ | ⟨g, cap, cur, rfl, hg, hh, hc, hm, hs, ht⟩⟩ := h
  · exact ⟨none, 0, rfl, Nat.le_refl _, Nat.zero_le _, fun j u hj => by
      have : xs = [] := List.eq_nil_of_length_eq_zero (by omega)
      rw [this] at hj
      simp at hj⟩
  · refine ⟨_, cap, rfl, hc, hm, fun j u hj => ⟨g, rfl, row_lt hh, ?_⟩⟩
    rw [Lib.cell_of_heap hh, ← Array.getElem?_toList]
    have hjl : j < n * size := by
      rcases Nat.lt_or_ge j xs.length with h | h
      · omega
      · rw [List.getElem?_eq_none h] at hj; cases hj
    have e : (cur.toList.take (n * size))[j]? = xs[j]? := by rw [ht]
    rw [List.getElem?_take_of_lt hjl] at e
    rw [e, hj]

/-- A slice as a source: what its cells hold. -/
def Src (w : World) (sv : Value) (m size : Nat) (news : List Value) : Prop :=
  (sv = .slice none 0 0 ∧ m = 0 ∧ news = []) ∨ ∃ ad c, sv = .slice (some ad) m c ∧ news.length = m * size ∧ ∀ j u, news[j]? = some u → w.cell? (ad.add j) = some u

theorem add_block2 (a : Addr) (i : Nat) : (a.add i).block = a.block := by unfold Addr.add; split <;> rfl

theorem addr_add (g j : Nat) : (⟨g, 0, none⟩ : Addr).add j = ⟨g, j, none⟩ := by
  simp [Addr.add]
  intro h
  exact h.symm

theorem row_src {B : Nat} {w : World} {v : Value} {e : TypeId} {size n : Nat} {xs : List Value} (h : w.ownsRow B e size v n xs) : Src w v n size xs := by
  have h0 := h
  obtain ⟨h1, ⟨rfl, rfl⟩ | ⟨g, cap, cur, rfl, -⟩⟩ := h
  · exact .inl ⟨rfl, rfl, List.eq_nil_of_length_eq_zero (by omega)⟩
  · obtain ⟨a, cap', hv, -, -, hc⟩ := row_form h0
    refine .inr ⟨_, cap, rfl, h1, fun j u hj => ?_⟩
    obtain ⟨g', hg, -, hcell⟩ := hc j u hj
    simp only [Value.slice.injEq] at hv
    rw [hg] at hv
    simp only [Option.some.injEq, Addr.mk.injEq, and_true] at hv
    rw [addr_add, hv.1]
    exact hcell

theorem run_app {t ty e : TypeId} {i0 : TypeInfo} {z : Value} {size bytes : Nat} {B n m : Nat} {v sv : Value} {xs news : List Value} {w : World}
    (ht : Tryd.prog.underlying t = some (.slice e)) (hi : Tryd.prog.info? e = some i0) (hz : i0.zero = some z) (hsz : i0.size = size) (hby : i0.bytes = bytes) (hzs : z.cells.size = size) (hpos : 0 < size) (hbb : bytes ≤ 100)
    (hd : w.ownsRow B e size v n xs) (hs : Src w sv m size news) (h1 : ∀ u ∈ news, u.oneCell' = true) (hn : n + m ≤ 1000000) (hB : B ≤ w.heap.size) :
    ∃ v' w', (Builtin.append_ #[t, t] ty #[v, sv]).run Tryd.prog w = .ok v' w' ∧ (w'.ownsRow B e size v' (n + m) (xs ++ news) ∧ w.grownBy w' v.ownBlock) := by
  have hbytes : (n + m) * bytes ≤ 140737488355328 := by
    have := Nat.mul_le_mul hn hbb
    omega
  rcases hs with ⟨rfl, rfl, rfl⟩ | ⟨ad, c, rfl, hl, hc⟩
  · rw [List.append_nil]
    exact ⟨v, w, run_append_owned_none (P := Tryd.prog) (w := w) B t ty e i0 size ht hi v n xs hd, hd, World.grownBy.refl w _⟩
  · obtain ⟨v', w', hr, h2, h3, -⟩ := run_append_own (P := Tryd.prog) w B t ty e i0 z size bytes ht hi hz hsz hby hzs hpos v n xs hd ad m c news hl hc h1 (by unfold maxLen; omega) hbytes hB
    exact ⟨v', w', hr, h2, h3⟩

/-- An append of which it is known that it goes through. -/
theorem wpList_append_ex {ops : Array Oper} {rest : List Oper} {o : Oper} {a : Act} {w : World} {Q : Exit → Act → World → Prop} (hg : o.guard = none) (s x : Operand) (t : TypeId)
    (ho : o.op = .call { callee := .builtin .append, args := #[s, x], argTypes := #[t, t] }) (R : Value → World → Prop)
    (h : ∃ v' w', (Builtin.append_ #[t, t] o.type #[a.eval s, a.eval x]).run Tryd.prog w = .ok v' w' ∧ R v' w') (hK : ∀ v' w', R v' w' → wpList Tryd.prog ops Q rest (a.put o.dst v') w') : wpList Tryd.prog ops Q (o :: rest) a w := by
  obtain ⟨v', w', hr, hR⟩ := h
  refine wpList_plain hg fun K' hK' => ?_
  unfold Oper.wp
  simp only [execOp, ho, resolve, invoke, builtin, Sem.run_bind, Sem.run_pure, Result.andThen_ok, List.map_toArray, List.map_cons, List.map_nil, hr]
  exact hK' _ _ (hK v' w' hR)

theorem row_empty {B : Nat} {w : World} (e : TypeId) (size : Nat) (hB : B ≤ w.heap.size) : (w.alloc (.cells #[] e)).ownsRow B e size (.slice (some ⟨w.heap.size, 0, none⟩) 0 0) 0 [] :=
  World.ownsRow_made w #[] 0 hB (Nat.zero_le _) (by simp)

/-- A source of one element, just laid. -/
theorem src_one (w : World) (u : Value) (e : TypeId) : Src (w.alloc (.cells #[u] e)) (.slice (some ⟨w.heap.size, 0, none⟩) 1 1) 1 1 [u] :=
  .inr ⟨_, 1, rfl, rfl, fun j x hj => by
    match j, hj with
    | 0, hj => simp at hj; subst hj; simp [Addr.add]⟩

theorem Src.below {w w' : World} {sv : Value} {m size : Nat} {news : List Value} (h : Src w sv m size news) (hlt : ∀ ad m c, sv = .slice (some ad) m c → ad.block < w.heap.size) (b : Below w.heap.size w w') : Src w' sv m size news := by
  rcases h with h | ⟨ad, c, rfl, hl, hc⟩
  · exact .inl h
  · refine .inr ⟨ad, c, rfl, hl, fun j u hj => ?_⟩
    rw [b.cell (by rw [add_block2]; exact hlt ad m c rfl)]
    exact hc j u hj

/-- A row of the call's own, above W. -/
def Up (W : World) (e : TypeId) (size : Nat) (v : Value) (n : Nat) (xs : List Value) (w : World) : Prop :=
  w.ownsRow W.heap.size e size v n xs ∧ Below W.heap.size W w

theorem app_up {t ty e : TypeId} {i0 : TypeInfo} {z : Value} {size bytes : Nat} {n m : Nat} {v sv : Value} {xs news : List Value} {W w : World}
    (ht : Tryd.prog.underlying t = some (.slice e)) (hi : Tryd.prog.info? e = some i0) (hz : i0.zero = some z) (hsz : i0.size = size) (hby : i0.bytes = bytes) (hzs : z.cells.size = size) (hpos : 0 < size) (hbb : bytes ≤ 100)
    (hd : Up W e size v n xs w) (hs : Src w sv m size news) (h1 : ∀ u ∈ news, u.oneCell' = true) (hn : n + m ≤ 1000000) :
    ∃ v' w', (Builtin.append_ #[t, t] ty #[v, sv]).run Tryd.prog w = .ok v' w' ∧ Up W e size v' (n + m) (xs ++ news) w' := by
  obtain ⟨v', w', hr, h2, h3⟩ := run_app (ty := ty) ht hi hz hsz hby hzs hpos hbb hd.1 hs h1 hn hd.2.size
  exact ⟨v', w', hr, h2, hd.2.grown h3 hd.2.size fun k hk => (World.ownsRow.lt hd.1 k hk).1⟩

theorem up_empty (w : World) (e : TypeId) (size : Nat) : Up w e size (.slice (some ⟨w.heap.size, 0, none⟩) 0 0) 0 [] (w.alloc (.cells #[] e)) :=
  ⟨row_empty e size (Nat.le_refl _), (Below.refl _ _).alloc (Nat.le_refl _) _⟩

theorem up_nil (w : World) (e : TypeId) (size : Nat) : Up w e size (.slice none 0 0) 0 [] w := ⟨⟨by simp, .inl ⟨rfl, rfl⟩⟩, Below.refl _ _⟩

theorem Up.alloc {W w : World} {e : TypeId} {size : Nat} {v : Value} {n : Nat} {xs : List Value} (h : Up W e size v n xs w) (o : Obj) : Up W e size v n xs (w.alloc o) :=
  ⟨World.ownsRow.alloc h.1 o, h.2.alloc h.2.size o⟩

/-- A row that was there is a source in any world above. -/
theorem row_src_up {B : Nat} {W w : World} {v : Value} {e : TypeId} {size n : Nat} {xs : List Value} (h : W.ownsRow B e size v n xs) (b : Below W.heap.size W w) : Src w v n size xs :=
  (row_src h).below (fun ad m c e => (World.ownsRow.lt h ad.block (by rw [e]; simp [Value.ownBlock])).2) b

theorem row_low {w : World} {base base' : Nat} {e : TypeId} {size : Nat} {v : Value} {n : Nat} {xs : List Value} (h : w.ownsRow base e size v n xs) (hb : base' ≤ base) : w.ownsRow base' e size v n xs := by
  obtain ⟨h1, h2 | ⟨g, cap, cur, rfl, hg, h3⟩⟩ := h
  · exact ⟨h1, .inl h2⟩
  · exact ⟨h1, .inr ⟨g, cap, cur, rfl, Nat.le_trans hb hg, h3⟩⟩

theorem src_nil (w : World) (size : Nat) : Src w (.slice none 0 0) 0 size [] := .inl ⟨rfl, rfl, rfl⟩

end Go.Proofs.YtlnlpahmfpjjdaaDoor

/-
  Characters of a text, over lists: the walk of the project (chs) and the two of the document (pls, spL) are one.
-/
namespace Go.Proofs.YtlnlpahmfpjjdaaDoor

/-- What two questions and a sign stand for. -/
def tri (c : UInt8) : Option UInt8 :=
  if c = 61 then some 35 else if c = 47 then some 92 else if c = 39 then some 94 else if c = 40 then some 91 else if c = 41 then some 93 else if c = 33 then some 124 else if c = 60 then some 123 else if c = 62 then some 125 else if c = 45 then some 126 else none

structure Rn where
  c : UInt8
  f : Nat
  t : Nat

def triAt (l : List UInt8) (i : Nat) : Option UInt8 :=
  if i + 2 < l.length ∧ l.getD i 0 = 63 ∧ l.getD (i + 1) 0 = 63 then tri (l.getD (i + 2) 0) else none

def one (l : List UInt8) (i : Nat) : Rn := match triAt l i with
  | some c => ⟨c, i, i + 3⟩
  | none => ⟨l.getD i 0, i, i + 1⟩

def spl (l : List UInt8) (r : Rn) : Bool := decide (r.c = 92) && (decide (r.t < l.length) && decide (l.getD r.t 0 = 10))

def tk (l : List UInt8) (i : Nat) : Rn × Bool := if spl l (one l i) then (⟨(one l i).c, i, (one l i).t + 1⟩, false) else (one l i, true)

def chGo (l : List UInt8) : Nat → Nat → List Rn
  | 0, _ => []
  | n + 1, i => if i < l.length then (if (tk l i).2 then [(tk l i).1] else []) ++ chGo l n (tk l i).1.t else []

def plGo (l : List UInt8) : Nat → Nat → List Rn
  | 0, _ => []
  | n + 1, i => if i < l.length then one l i :: plGo l n (one l i).t else []

def spL : List Rn → List Rn
  | [] => []
  | [a] => [a]
  | a :: b :: r => if a.c = 92 ∧ b.c = 10 then spL r else a :: spL (b :: r)

def chs (l : List UInt8) (i : Nat) : List Rn := chGo l (l.length - i) i
def pls (l : List UInt8) (i : Nat) : List Rn := plGo l (l.length - i) i

theorem tri_ne (c d : UInt8) (h : tri c = some d) : d ≠ 10 ∧ d ≠ 63 ∧ c ≠ 63 ∧ c ≠ 92 ∧ c ≠ 10 := by
  unfold tri at h
  repeat' (split at h)
  all_goals (first | cases h | skip)
  all_goals (subst_vars; decide)

theorem triAt_some {l : List UInt8} {i : Nat} {d : UInt8} (h : triAt l i = some d) : i + 2 < l.length ∧ l.getD i 0 = 63 ∧ l.getD (i + 1) 0 = 63 ∧ tri (l.getD (i + 2) 0) = some d := by
  unfold triAt at h
  split at h
  · rename_i h1
    exact ⟨h1.1, h1.2.1, h1.2.2, h⟩
  · cases h

theorem one_f (l : List UInt8) (i : Nat) : (one l i).f = i := by unfold one; split <;> rfl
theorem one_t (l : List UInt8) (i : Nat) : i < (one l i).t ∧ (one l i).t ≤ i + 3 ∧ (i < l.length → (one l i).t ≤ l.length) := by
  unfold one
  split
  · rename_i c h
    have := triAt_some h
    exact ⟨by simp, by simp, fun _ => by simp; omega⟩
  · exact ⟨by simp, by simp, fun _ => by simp; omega⟩

theorem spl_true {l : List UInt8} {r : Rn} (h : spl l r = true) : r.c = 92 ∧ r.t < l.length ∧ l.getD r.t 0 = 10 := by
  unfold spl at h
  simpa using h

theorem spl_false {l : List UInt8} {r : Rn} (h : spl l r = false) : ¬ (r.c = 92 ∧ r.t < l.length ∧ l.getD r.t 0 = 10) := by
  intro h1
  unfold spl at h
  rw [decide_eq_true h1.1, decide_eq_true h1.2.1, decide_eq_true h1.2.2] at h
  cases h

theorem tk_f (l : List UInt8) (i : Nat) : (tk l i).1.f = i := by unfold tk; split <;> simp [one_f]
theorem tk_t (l : List UInt8) (i : Nat) : i < (tk l i).1.t ∧ (tk l i).1.t ≤ i + 4 ∧ (i < l.length → (tk l i).1.t ≤ l.length) := by
  have h := one_t l i
  unfold tk
  split
  · rename_i hs
    have := spl_true hs
    exact ⟨by simp; omega, by simp; omega, fun _ => by simp; omega⟩
  · exact ⟨h.1, by simp; omega, h.2.2⟩
theorem tk_stands {l : List UInt8} {i : Nat} (h : (tk l i).2 = true) : tk l i = (one l i, true) := by
  unfold tk at h ⊢
  split at h
  · cases h
  · rename_i hs
    rw [if_neg hs]

theorem chGo_fuel (l : List UInt8) : ∀ (n m i : Nat), l.length - i ≤ n → l.length - i ≤ m → chGo l n i = chGo l m i
  | 0, 0, _, _, _ => rfl
  | 0, m + 1, i, h, _ => by
    unfold chGo
    rw [if_neg (by omega)]
  | n + 1, 0, i, _, h => by
    unfold chGo
    rw [if_neg (by omega)]
  | n + 1, m + 1, i, h1, h2 => by
    unfold chGo
    split
    · have := tk_t l i
      rw [chGo_fuel l n m (tk l i).1.t (by omega) (by omega)]
    · rfl

theorem plGo_fuel (l : List UInt8) : ∀ (n m i : Nat), l.length - i ≤ n → l.length - i ≤ m → plGo l n i = plGo l m i
  | 0, 0, _, _, _ => rfl
  | 0, m + 1, i, h, _ => by
    unfold plGo
    rw [if_neg (by omega)]
  | n + 1, 0, i, _, h => by
    unfold plGo
    rw [if_neg (by omega)]
  | n + 1, m + 1, i, h1, h2 => by
    unfold plGo
    split
    · have := one_t l i
      rw [plGo_fuel l n m (one l i).t (by omega) (by omega)]
    · rfl

theorem chs_end {l : List UInt8} {i : Nat} (h : l.length ≤ i) : chs l i = [] := by
  unfold chs
  rw [show l.length - i = 0 from by omega]
  rfl
theorem pls_end {l : List UInt8} {i : Nat} (h : l.length ≤ i) : pls l i = [] := by
  unfold pls
  rw [show l.length - i = 0 from by omega]
  rfl
theorem chs_step {l : List UInt8} {i : Nat} (h : i < l.length) : chs l i = (if (tk l i).2 then [(tk l i).1] else []) ++ chs l (tk l i).1.t := by
  have := tk_t l i
  unfold chs
  obtain ⟨n, hn⟩ : ∃ n, l.length - i = n + 1 := ⟨l.length - i - 1, by omega⟩
  rw [hn, show chGo l (n + 1) i = if i < l.length then (if (tk l i).2 then [(tk l i).1] else []) ++ chGo l n (tk l i).1.t else [] from rfl, if_pos h, chGo_fuel l n (l.length - (tk l i).1.t) _ (by omega) (by omega)]
theorem pls_step {l : List UInt8} {i : Nat} (h : i < l.length) : pls l i = one l i :: pls l (one l i).t := by
  have := one_t l i
  unfold pls
  obtain ⟨n, hn⟩ : ∃ n, l.length - i = n + 1 := ⟨l.length - i - 1, by omega⟩
  rw [hn, show plGo l (n + 1) i = if i < l.length then one l i :: plGo l n (one l i).t else [] from rfl, if_pos h, plGo_fuel l n (l.length - (one l i).t) _ (by omega) (by omega)]

theorem one_plain {l : List UInt8} {i : Nat} (h : l.getD i 0 ≠ 63) : one l i = ⟨l.getD i 0, i, i + 1⟩ := by
  unfold one
  have : triAt l i = none := by
    unfold triAt
    rw [if_neg fun h1 => h h1.2.1]
  rw [this]

theorem one_ten (l : List UInt8) (i : Nat) : (one l i).c = 10 ↔ l.getD i 0 = 10 := by
  constructor
  · intro h
    unfold one at h
    split at h
    · rename_i c h1
      exact absurd h (tri_ne _ _ (triAt_some h1).2.2.2).1
    · exact h
  · intro h
    rw [one_plain (by rw [h]; decide)]
    exact h

/-- The document's two walks answer as the project's one. -/
theorem spL_pls (l : List UInt8) : ∀ (n i : Nat), l.length - i ≤ n → spL (pls l i) = chs l i
  | 0, i, h => by
    rw [pls_end (by omega), chs_end (by omega)]
    rfl
  | n + 1, i, h => by
    by_cases hi : i < l.length
    · have ht := one_t l i
      rw [pls_step hi, chs_step hi]
      cases hs : spl l (one l i) with
      | true =>
        have h1 := spl_true hs
        have hk : tk l i = (⟨(one l i).c, i, (one l i).t + 1⟩, false) := by unfold tk; rw [if_pos hs]
        have h2 : one l (one l i).t = ⟨l.getD (one l i).t 0, (one l i).t, (one l i).t + 1⟩ := one_plain (by rw [h1.2.2]; decide)
        rw [pls_step h1.2.1, hk, h2]
        unfold spL
        rw [if_pos ⟨h1.1, h1.2.2⟩, spL_pls l n ((one l i).t + 1) (by omega)]
        rfl
      | false =>
        have h1 := spl_false hs
        have hk : tk l i = (one l i, true) := by unfold tk; rw [if_neg (by rw [hs]; simp)]
        rw [hk]
        show _ = one l i :: chs l (one l i).t
        rw [← spL_pls l n (one l i).t (by omega)]
        by_cases he : (one l i).t < l.length
        · rw [pls_step he]
          rw [spL, if_neg]
          rintro ⟨ha, hb⟩
          exact h1 ⟨ha, he, (one_ten l _).1 hb⟩
        · rw [pls_end (by omega)]
          rfl
    · rw [pls_end (by omega), chs_end (by omega)]
      rfl

theorem spL_all (l : List UInt8) : spL (pls l 0) = chs l 0 := spL_pls l _ 0 (Nat.le_refl _)

/-- Where each stands. -/
theorem chs_mem (l : List UInt8) : ∀ (n i : Nat), l.length - i ≤ n → ∀ r ∈ chs l i, i ≤ r.f ∧ r.f < r.t ∧ r.t ≤ r.f + 3 ∧ r.t ≤ l.length
  | 0, i, h, r, hr => by
    rw [chs_end (by omega)] at hr
    simp at hr
  | n + 1, i, h, r, hr => by
    by_cases hi : i < l.length
    · have ht := tk_t l i
      rw [chs_step hi] at hr
      rcases List.mem_append.1 hr with h1 | h1
      · cases hs : (tk l i).2 with
        | false => rw [hs] at h1; simp at h1
        | true =>
          rw [hs] at h1
          simp at h1
          rw [h1]
          have h2 := tk_stands hs
          have h3 := one_t l i
          rw [tk_f]
          refine ⟨Nat.le_refl _, ht.1, ?_, ht.2.2 hi⟩
          rw [h2]
          exact h3.2.1
      · have := chs_mem l n _ (by omega) r h1
        omega
    · rw [chs_end (by omega)] at hr
      simp at hr

theorem chs_len (l : List UInt8) : ∀ (n i : Nat), l.length - i ≤ n → (chs l i).length ≤ l.length - i
  | 0, i, h => by
    rw [chs_end (by omega)]
    simp
  | n + 1, i, h => by
    by_cases hi : i < l.length
    · have ht := tk_t l i
      have := chs_len l n (tk l i).1.t (by omega)
      rw [chs_step hi, List.length_append]
      have h2 : (if (tk l i).2 then [(tk l i).1] else []).length ≤ 1 := by split <;> simp
      omega
    · rw [chs_end (by omega)]
      simp

theorem pls_len (l : List UInt8) : ∀ (n i : Nat), l.length - i ≤ n → (pls l i).length ≤ l.length - i
  | 0, i, h => by
    rw [pls_end (by omega)]
    simp
  | n + 1, i, h => by
    by_cases hi : i < l.length
    · have ht := one_t l i
      have := pls_len l n (one l i).t (by omega)
      rw [pls_step hi, List.length_cons]
      omega
    · rw [pls_end (by omega)]
      simp

/-- With the byte 10 put behind. -/
def endsNl (o : List Rn) : Bool := match o.getLast? with
  | none => false
  | some r => decide (r.c = 10)
def withNl (n : Nat) (o : List Rn) : List Rn := if endsNl o then o else o ++ [⟨10, n, n⟩]
def charsL (l : List UInt8) : List Rn := if l = [] then [] else withNl l.length (chs l 0)

/-- What stands from i on, of those within. -/
def within (a b : Int) (r : Rn) : Bool := decide (a ≤ (r.f : Int)) && decide ((r.t : Int) ≤ b)
def bk (l : List UInt8) (a b : Int) (i : Nat) : List UInt8 := ((chs l i).filter (within a b)).map Rn.c
def backL (l : List UInt8) (a b : Int) : List UInt8 := bk l a b 0

theorem bk_end {l : List UInt8} {a b : Int} {i : Nat} (h : l.length ≤ i) : bk l a b i = [] := by
  unfold bk
  rw [chs_end h]
  rfl
theorem bk_skip {l : List UInt8} {a b : Int} {i : Nat} (h : i < l.length) (hs : (tk l i).2 = false) : bk l a b i = bk l a b (tk l i).1.t := by
  unfold bk
  rw [chs_step h, hs]
  rfl
theorem bk_out {l : List UInt8} {a b : Int} {i : Nat} (h : i < l.length) (hw : within a b (tk l i).1 = false) : bk l a b i = bk l a b (tk l i).1.t := by
  unfold bk
  rw [chs_step h]
  split
  · rw [List.singleton_append, List.filter_cons, hw]
    rfl
  · rfl
theorem bk_take {l : List UInt8} {a b : Int} {i : Nat} (h : i < l.length) (hs : (tk l i).2 = true) (hw : within a b (tk l i).1 = true) : bk l a b i = (tk l i).1.c :: bk l a b (tk l i).1.t := by
  unfold bk
  rw [chs_step h, hs]
  rw [if_pos rfl, List.singleton_append, List.filter_cons, hw]
  rfl
theorem bk_past {l : List UInt8} {a b : Int} {i : Nat} (h : i < l.length) (hb : b < ((tk l i).1.t : Int)) : bk l a b i = [] := by
  have hf : within a b (tk l i).1 = false := by
    unfold within
    simp
    omega
  rw [bk_out h hf]
  unfold bk
  rw [List.filter_eq_nil_iff.2]
  · rfl
  · intro r hr
    have := chs_mem l _ (tk l i).1.t (Nat.le_refl _) r hr
    unfold within
    simp
    omega

/-- A byte that begins nothing is one. -/
theorem tk_byte {l : List UInt8} {i : Nat} (h1 : triAt l i = none) (h2 : l.getD i 0 ≠ 92) : tk l i = (⟨l.getD i 0, i, i + 1⟩, true) := by
  have h : one l i = ⟨l.getD i 0, i, i + 1⟩ := by
    unfold one
    rw [h1]
  unfold tk
  rw [h, if_neg]
  intro hs
  exact h2 (spl_true hs).1

theorem triAt_not {l : List UInt8} {i : Nat} (h : l.getD i 0 ≠ 63) : triAt l i = none := by
  unfold triAt
  rw [if_neg fun h1 => h h1.2.1]
theorem triAt_not2 {l : List UInt8} {i : Nat} (h : l.getD (i + 1) 0 ≠ 63) : triAt l i = none := by
  unfold triAt
  rw [if_neg fun h1 => h h1.2.2]

/-- Behind the first byte of what is taken at once, each byte is one till its end. -/
theorem tk_inner {l : List UInt8} {j i : Nat} (h1 : j < i) (h2 : i < (tk l j).1.t) : tk l i = (⟨l.getD i 0, i, i + 1⟩, true) := by
  unfold tk at h2
  cases htr : triAt l j with
  | some d =>
    have ht := triAt_some htr
    have hn := tri_ne _ _ ht.2.2.2
    have ho : one l j = ⟨d, j, j + 3⟩ := by unfold one; rw [htr]
    rw [ho] at h2
    have h12 : i = j + 1 ∨ i = j + 2 ∨ (i = j + 3 ∧ l.getD (j + 3) 0 = 10) := by
      split at h2
      · rename_i hs
        have h3 : l.getD (j + 3) 0 = 10 := (spl_true hs).2.2
        have h4 : i < j + 3 + 1 := h2
        by_cases he : i = j + 3
        · exact .inr (.inr ⟨he, h3⟩)
        · omega
      · have h4 : i < j + 3 := h2
        omega
    rcases h12 with rfl | rfl | ⟨rfl, h3⟩
    · exact tk_byte (triAt_not2 hn.2.2.1) (by rw [ht.2.2.1]; decide)
    · exact tk_byte (triAt_not hn.2.2.1) hn.2.2.2.1
    · exact tk_byte (triAt_not (by rw [h3]; decide)) (by rw [h3]; decide)
  | none =>
    have ho : one l j = ⟨l.getD j 0, j, j + 1⟩ := by unfold one; rw [htr]
    rw [ho] at h2
    split at h2
    · rename_i hs
      have h3 := spl_true hs
      simp at h2 h3
      have e : i = j + 1 := by omega
      subst e
      have h4 : l.getD (j + 1) 0 = 10 := by simpa using h3.2.2
      exact tk_byte (triAt_not (by rw [h4]; decide)) (by rw [h4]; decide)
    · simp at h2
      omega

/-- From within what is taken at once, the walk comes to its end, and nothing of it counts that begins ahead of a. -/
theorem bk_inner {l : List UInt8} {a b : Int} {j : Nat} (h0 : j < l.length) (ha : ((tk l j).1.t : Int) ≤ a) : ∀ (n i : Nat), (tk l j).1.t - i ≤ n → j < i → i ≤ (tk l j).1.t → bk l a b i = bk l a b (tk l j).1.t
  | 0, i, h, h1, h2 => by rw [show i = (tk l j).1.t from by omega]
  | n + 1, i, h, h1, h2 => by
    by_cases he : i = (tk l j).1.t
    · rw [he]
    · have hk := tk_inner (l := l) h1 (by omega)
      have ht := (tk_t l j).2.2 h0
      have hi : i < l.length := by omega
      rw [bk_out hi]
      · rw [hk]
        exact bk_inner h0 ha n (i + 1) (by omega) (by omega) (by omega)
      · rw [hk]
        unfold within
        simp
        omega

/-- The walk may begin up to three bytes ahead of a, wherever that is. -/
theorem bk_from {l : List UInt8} {a b : Int} {i : Nat} (hi : ((i + 3 : Nat) : Int) ≤ a) : ∀ (n j : Nat), i - j ≤ n → j ≤ i → bk l a b i = bk l a b j
  | 0, j, h, hj => by rw [show i = j from by omega]
  | n + 1, j, h, hj => by
    by_cases he : i = j
    · rw [he]
    · by_cases hl : j < l.length
      · have ht := tk_t l j
        have hw : within a b (tk l j).1 = false := by
          unfold within
          rw [tk_f]
          simp
          omega
        rw [bk_out hl hw]
        by_cases h2 : (tk l j).1.t ≤ i
        · exact bk_from hi n _ (by omega) h2
        · exact bk_inner hl (by omega) _ i (Nat.le_refl _) (by omega) (by omega)
      · rw [bk_end (i := i) (by omega), bk_end (i := j) (by omega)]

/-- Where Back begins. -/
def aheadN (a : Int) : Nat := (max a 3 - 3).toNat
theorem bk_ahead (l : List UInt8) (a b : Int) : bk l a b (aheadN a) = backL l a b := by
  unfold backL aheadN
  by_cases h : a ≤ 3
  · rw [show (max a 3 - 3).toNat = 0 from by omega]
  · exact bk_from (by omega) _ 0 (Nat.le_refl _) (Nat.zero_le _)

/-- What the nine signs stand for, as the functions answer it. -/
def triB (c : UInt8) : UInt8 := (tri c).getD 0
def isTri (c : UInt8) : Bool := (tri c).isSome
def signL : List UInt8 := [61, 47, 39, 40, 41, 33, 60, 62, 45]
def standL : List UInt8 := [35, 92, 94, 91, 93, 124, 123, 125, 126]

theorem tri_sign (k : Nat) (hk : k < 9) : triB (signL.getD k 0) = standL.getD k 0 ∧ isTri (signL.getD k 0) = true := by
  match k, hk with
  | 0, _ | 1, _ | 2, _ | 3, _ | 4, _ | 5, _ | 6, _ | 7, _ | 8, _ => decide
  | n + 9, h => omega

theorem tri_none {c : UInt8} (h : ∀ j < 9, signL.getD j 0 ≠ c) : tri c = none := by
  unfold tri
  have h0 : c ≠ 61 := fun e => h 0 (by omega) e.symm
  have h1 : c ≠ 47 := fun e => h 1 (by omega) e.symm
  have h2 : c ≠ 39 := fun e => h 2 (by omega) e.symm
  have h3 : c ≠ 40 := fun e => h 3 (by omega) e.symm
  have h4 : c ≠ 41 := fun e => h 4 (by omega) e.symm
  have h5 : c ≠ 33 := fun e => h 5 (by omega) e.symm
  have h6 : c ≠ 60 := fun e => h 6 (by omega) e.symm
  have h7 : c ≠ 62 := fun e => h 7 (by omega) e.symm
  have h8 : c ≠ 45 := fun e => h 8 (by omega) e.symm
  simp only [h0, h1, h2, h3, h4, h5, h6, h7, h8, if_false]

end Go.Proofs.YtlnlpahmfpjjdaaDoor

/-
  Tokens, over lists of bytes: what begins somewhere, and how long it is.
-/
namespace Go.Proofs.YtlnlpahmfpjjdaaDoor

def isLet (c : UInt8) : Bool := (decide (97 ≤ c.toNat) && decide (c.toNat ≤ 122)) || (decide (65 ≤ c.toNat) && decide (c.toNat ≤ 90)) || decide (c.toNat = 95)
def isDig (c : UInt8) : Bool := decide (48 ≤ c.toNat) && decide (c.toNat ≤ 57)
def isWhi (c : UInt8) : Bool := decide (c.toNat = 32) || decide (c.toNat = 9) || (decide (11 ≤ c.toNat) && decide (c.toNat ≤ 13))
def isWord (c : UInt8) : Bool := isLet c || isDig c
def isExp (c : UInt8) : Bool := decide (c.toNat = 101) || decide (c.toNat = 69) || decide (c.toNat = 112) || decide (c.toNat = 80)
def isSign (c : UInt8) : Bool := decide (c.toNat = 43) || decide (c.toNat = 45)

def wordN : List UInt8 → Nat
  | [] => 0
  | c :: r => if isWord c then wordN r + 1 else 0
def numC (p c : UInt8) : Bool := isWord c || decide (c.toNat = 46) || (isExp p && isSign c)
def numN (p : UInt8) : List UInt8 → Nat
  | [] => 0
  | c :: r => if numC p c then numN c r + 1 else 0
def qN (q : UInt8) : Bool → List UInt8 → Option Nat
  | _, [] => none
  | t, c :: r => if c = 10 then none else if t then (qN q false r).map (· + 1) else if c = 92 then (qN q true r).map (· + 1) else if c = q then some 1 else (qN q false r).map (· + 1)
def lettN (l : List UInt8) : Nat :=
  if l.getD 0 0 = 117 ∧ l.getD 1 0 = 56 ∧ l.getD 2 0 = 34 then 2
  else if (l.getD 0 0 = 76 ∨ l.getD 0 0 = 117 ∨ l.getD 0 0 = 85) ∧ (l.getD 1 0 = 34 ∨ l.getD 1 0 = 39) then 1 else 0
def conN (l : List UInt8) : Option (Nat × Nat) :=
  if l.getD (lettN l) 0 = 34 then (qN 34 false (l.drop (lettN l + 1))).map fun n => (4, lettN l + 1 + n)
  else if l.getD (lettN l) 0 = 39 then (qN 39 false (l.drop (lettN l + 1))).map fun n => (3, lettN l + 1 + n)
  else none
/-- The punctuators, the longest first. -/
def PL : List (List UInt8) := [[37, 58, 37, 58], [46, 46, 46], [60, 60, 61], [62, 62, 61], [45, 62], [43, 43], [45, 45], [60, 60], [62, 62], [60, 61], [62, 61], [61, 61], [33, 61], [38, 38], [124, 124], [42, 61], [47, 61], [37, 61], [43, 61], [45, 61], [38, 61], [94, 61], [124, 61], [35, 35], [60, 58], [58, 62], [60, 37], [37, 62], [37, 58], [91], [93], [40], [41], [123], [125], [46], [38], [42], [43], [45], [126], [33], [47], [37], [60], [62], [94], [124], [63], [58], [59], [61], [44], [35]]
def punctN (l : List UInt8) : Nat := match PL.find? (fun p => p.isPrefixOf l) with
  | some p => p.length
  | none => 0
def tok (l : List UInt8) : Nat × Nat := match conN l with
  | some x => x
  | none => if isLet (l.getD 0 0) then (1, wordN (l.drop 1) + 1)
    else if isDig (l.getD 0 0) || (decide (l.getD 0 0 = 46) && isDig (l.getD 1 0)) then (2, numN (l.getD 0 0) (l.drop 1) + 1)
    else if 0 < punctN l then (5, punctN l) else (6, 1)
def badN (k : Nat) (c : UInt8) : Bool := decide (k = 6) && (decide (c.toNat = 34) || decide (c.toNat = 39))
def remN : List UInt8 → Nat
  | [] => 0
  | c :: r => if c = 10 then 0 else remN r + 1
def comN : List UInt8 → Option Nat
  | [] => none
  | c :: r => if c = 42 ∧ r.getD 0 0 = 47 then some 2 else (comN r).map (· + 1)
def begN (l : List UInt8) : Nat :=
  if l.getD 0 0 = 10 then 2 else if isWhi (l.getD 0 0) then 3
  else if l.getD 0 0 = 47 ∧ l.getD 1 0 = 47 then 4 else if l.getD 0 0 = 47 ∧ l.getD 1 0 = 42 then 5 else 1
inductive It where
  | nl | gap (n : Nat) | opn | tk (k n : Nat)
def item (l : List UInt8) : It :=
  if begN l = 2 then .nl else if begN l = 3 then .gap 1 else if begN l = 4 then .gap (remN l)
  else if begN l = 5 then (match comN (l.drop 2) with
    | some n => .gap (n + 2)
    | none => .opn) else .tk (tok l).1 (tok l).2

theorem getD_drop (l : List UInt8) (i k : Nat) : (l.drop i).getD k 0 = l.getD (i + k) 0 := by
  simp [List.getD, List.getElem?_drop]
theorem drop_cons {l : List UInt8} {i : Nat} (h : i < l.length) : l.drop i = l.getD i 0 :: l.drop (i + 1) := by
  rw [List.drop_eq_getElem_cons h]
  simp [List.getD, List.getElem?_eq_getElem h]
theorem getD_lt {l : List UInt8} {i : Nat} (h : l.getD i 0 ≠ 0) : i < l.length := by
  rcases Nat.lt_or_ge i l.length with h1 | h1
  · exact h1
  · exact absurd (by simp [List.getD, List.getElem?_eq_none h1]) h

theorem isWord_ne {c : UInt8} (h : isWord c = true) : c ≠ 10 ∧ c ≠ 34 ∧ c ≠ 39 ∧ c ≠ 47 ∧ c ≠ 0 ∧ isWhi c = false ∧ c ≠ 92 ∧ c ≠ 63 := by
  have e : ∀ n : Nat, n < 256 → c.toNat ≠ n → c ≠ UInt8.ofNat n := by
    intro n hn h1 h2
    apply h1
    rw [h2]
    simp
    omega
  have hc : (97 ≤ c.toNat ∧ c.toNat ≤ 122) ∨ (65 ≤ c.toNat ∧ c.toNat ≤ 90) ∨ c.toNat = 95 ∨ (48 ≤ c.toNat ∧ c.toNat ≤ 57) := by
    unfold isWord isLet isDig at h
    simp only [Bool.or_eq_true, Bool.and_eq_true, decide_eq_true_eq] at h
    omega
  refine ⟨e 10 (by omega) (by omega), e 34 (by omega) (by omega), e 39 (by omega) (by omega), e 47 (by omega) (by omega), e 0 (by omega) (by omega), ?_, e 92 (by omega) (by omega), e 63 (by omega) (by omega)⟩
  unfold isWhi
  simp
  omega

theorem wordN_le : ∀ l : List UInt8, wordN l ≤ l.length
  | [] => Nat.le_refl _
  | c :: r => by
    unfold wordN
    split
    · have := wordN_le r
      simp
      omega
    · simp
theorem wordN_in : ∀ (l : List UInt8) (j : Nat), j < wordN l → isWord (l.getD j 0) = true
  | [], j, h => by simp [wordN] at h
  | c :: r, 0, h => by
    unfold wordN at h
    split at h
    · assumption
    · omega
  | c :: r, j + 1, h => by
    unfold wordN at h
    split at h
    · simpa using wordN_in r j (by omega)
    · omega

theorem numC_ne {p c : UInt8} (h : numC p c = true) : c ≠ 10 ∧ c ≠ 34 ∧ c ≠ 39 := by
  unfold numC at h
  simp only [Bool.or_eq_true, Bool.and_eq_true, decide_eq_true_eq] at h
  rcases h with (h | h) | h
  · have := isWord_ne h
    exact ⟨this.1, this.2.1, this.2.2.1⟩
  · refine ⟨?_, ?_, ?_⟩ <;> (intro e; rw [e] at h; revert h; decide)
  · obtain ⟨-, h⟩ := h
    unfold isSign at h
    simp only [Bool.or_eq_true, decide_eq_true_eq] at h
    refine ⟨?_, ?_, ?_⟩ <;> (intro e; rw [e] at h; revert h; decide)
theorem numN_le : ∀ (p : UInt8) (l : List UInt8), numN p l ≤ l.length
  | _, [] => Nat.le_refl _
  | p, c :: r => by
    unfold numN
    split
    · have := numN_le c r
      simp
      omega
    · simp
theorem numN_in : ∀ (p : UInt8) (l : List UInt8) (j : Nat), j < numN p l → l.getD j 0 ≠ 10
  | _, [], j, h => by simp [numN] at h
  | p, c :: r, 0, h => by
    unfold numN at h
    split at h
    · rename_i h1
      simpa using (numC_ne h1).1
    · omega
  | p, c :: r, j + 1, h => by
    unfold numN at h
    split at h
    · simpa using numN_in c r j (by omega)
    · omega

theorem qN_in (q : UInt8) : ∀ (t : Bool) (l : List UInt8) (n : Nat), q ≠ 10 → qN q t l = some n → 0 < n ∧ n ≤ l.length ∧ ∀ j, j < n → l.getD j 0 ≠ 10
  | _, [], _, _, h => by cases h
  | t, c :: r, n, hq, h => by
    unfold qN at h
    split at h
    · cases h
    · rename_i h10
      have go : ∀ t', (qN q t' r).map (· + 1) = some n → 0 < n ∧ n ≤ (c :: r).length ∧ ∀ j, j < n → (c :: r).getD j 0 ≠ 10 := by
        intro t' h1
        rw [Option.map_eq_some_iff] at h1
        obtain ⟨m, hm, rfl⟩ := h1
        have := qN_in q t' r m hq hm
        refine ⟨by omega, by simp; omega, fun j hj => ?_⟩
        cases j with
        | zero => simpa using h10
        | succ j => simpa using this.2.2 j (by omega)
      repeat' (split at h)
      · exact go _ h
      · exact go _ h
      · cases h
        refine ⟨by omega, by simp, fun j hj => ?_⟩
        obtain rfl : j = 0 := by omega
        simpa using h10
      · exact go _ h

theorem lettN_is (l : List UInt8) : (lettN l = 0 ∨ (lettN l = 1 ∧ isWord (l.getD 0 0) = true ∧ (l.getD 1 0 = 34 ∨ l.getD 1 0 = 39)) ∨ (lettN l = 2 ∧ isWord (l.getD 0 0) = true ∧ isWord (l.getD 1 0) = true ∧ l.getD 2 0 = 34)) := by
  unfold lettN
  split
  · rename_i h
    exact .inr (.inr ⟨rfl, by rw [h.1]; decide, by rw [h.2.1]; decide, h.2.2⟩)
  · split
    · rename_i h
      refine .inr (.inl ⟨rfl, ?_, h.2⟩)
      rcases h.1 with h1 | h1 | h1 <;> (rw [h1]; decide)
    · exact .inl rfl

theorem lettN_in (l : List UInt8) (j : Nat) (h : j < lettN l) : isWord (l.getD j 0) = true := by
  rcases lettN_is l with h1 | h1 | h1
  · omega
  · obtain rfl : j = 0 := by omega
    exact h1.2.1
  · have : j = 0 ∨ j = 1 := by omega
    rcases this with rfl | rfl
    · exact h1.2.1
    · exact h1.2.2.1

theorem conN_in {l : List UInt8} {x : Nat × Nat} (h : conN l = some x) : 0 < x.2 ∧ x.2 ≤ l.length ∧ (x.1 = 3 ∨ x.1 = 4) ∧ ∀ j, j < x.2 → l.getD j 0 ≠ 10 := by
  have go : ∀ (q : UInt8) (n : Nat), q ≠ 10 → q ≠ 0 → l.getD (lettN l) 0 = q → qN q false (l.drop (lettN l + 1)) = some n → 0 < lettN l + 1 + n ∧ lettN l + 1 + n ≤ l.length ∧ ∀ j, j < lettN l + 1 + n → l.getD j 0 ≠ 10 := by
    intro q n hq h0 hl hn
    have h1 := qN_in q _ _ n hq hn
    rw [List.length_drop] at h1
    have h2 : lettN l < l.length := getD_lt (by rw [hl]; exact h0)
    refine ⟨by omega, by omega, fun j hj => ?_⟩
    by_cases hj1 : j < lettN l
    · exact (isWord_ne (lettN_in l j hj1)).1
    · by_cases hj2 : j = lettN l
      · rw [hj2, hl]
        exact hq
      · have := h1.2.2 (j - (lettN l + 1)) (by omega)
        rw [getD_drop, show lettN l + 1 + (j - (lettN l + 1)) = j from by omega] at this
        exact this
  unfold conN at h
  split at h
  · rename_i hq
    rw [Option.map_eq_some_iff] at h
    obtain ⟨n, hn, rfl⟩ := h
    have := go 34 n (by decide) (by decide) hq hn
    exact ⟨this.1, this.2.1, .inr rfl, this.2.2⟩
  · split at h
    · rename_i hq
      rw [Option.map_eq_some_iff] at h
      obtain ⟨n, hn, rfl⟩ := h
      have := go 39 n (by decide) (by decide) hq hn
      exact ⟨this.1, this.2.1, .inl rfl, this.2.2⟩
    · cases h

theorem punctN_is {l : List UInt8} (h : 0 < punctN l) : ∃ p ∈ PL, p <+: l ∧ p.length = punctN l := by
  unfold punctN at h ⊢
  split
  · rename_i p hp
    have h2 : p.isPrefixOf l = true := List.find?_some (p := fun p : List UInt8 => p.isPrefixOf l) hp
    exact ⟨p, List.mem_of_find?_eq_some hp, List.isPrefixOf_iff_prefix.1 h2, rfl⟩
  · rename_i hp
    rw [hp] at h
    simp at h

theorem PL_len : ∀ p ∈ PL, 1 ≤ p.length ∧ p.length ≤ 4 := by decide
theorem PL_no : ∀ p ∈ PL, ∀ c ∈ p, c ≠ 10 ∧ c ≠ 34 ∧ c ≠ 39 ∧ isWord c = false ∧ c ≠ 32 ∧ c ≠ 92 := by decide

theorem prefix_get {p l : List UInt8} (h : p <+: l) {j : Nat} (hj : j < p.length) : l.getD j 0 = p.getD j 0 := by
  obtain ⟨r, rfl⟩ := h
  simp [List.getD, List.getElem?_append_left hj]

theorem get_mem {p : List UInt8} {j : Nat} (hj : j < p.length) : p.getD j 0 ∈ p := by
  simp [List.getD, List.getElem?_eq_getElem hj]

/-- A token has a length, and no byte 10 in it. -/
theorem tok_in {l : List UInt8} (h0 : 0 < l.length) (h10 : l.getD 0 0 ≠ 10) : 0 < (tok l).2 ∧ (tok l).2 ≤ l.length ∧ ∀ j, j < (tok l).2 → l.getD j 0 ≠ 10 := by
  unfold tok
  split
  · rename_i x h
    have := conN_in h
    exact ⟨this.1, this.2.1, this.2.2.2⟩
  · split
    · have h1 := wordN_le (l.drop 1)
      rw [List.length_drop] at h1
      refine ⟨by simp, by simp only; omega, fun j hj => ?_⟩
      cases j with
      | zero => exact h10
      | succ j =>
        have := wordN_in (l.drop 1) j (by simp only at hj; omega)
        rw [getD_drop] at this
        rw [Nat.add_comm j 1]
        exact (isWord_ne this).1
    · split
      · have h1 := numN_le (l.getD 0 0) (l.drop 1)
        rw [List.length_drop] at h1
        refine ⟨by simp, by simp only; omega, fun j hj => ?_⟩
        cases j with
        | zero => exact h10
        | succ j =>
          have := numN_in (l.getD 0 0) (l.drop 1) j (by simp only at hj; omega)
          rw [getD_drop] at this
          rw [Nat.add_comm j 1]
          exact this
      · split
        · rename_i hp
          obtain ⟨p, hm, hpre, hlen⟩ := punctN_is hp
          refine ⟨hp, by rw [← hlen]; exact hpre.length_le, fun j hj => ?_⟩
          rw [← hlen] at hj
          rw [prefix_get hpre hj]
          exact (PL_no p hm _ (get_mem hj)).1
        · refine ⟨by simp, by simp only; omega, fun j hj => ?_⟩
          simp at hj
          rw [hj]
          exact h10

theorem remN_in : ∀ (l : List UInt8), remN l ≤ l.length ∧ ∀ j, j < remN l → l.getD j 0 ≠ 10
  | [] => by simp [remN]
  | c :: r => by
    have h := remN_in r
    unfold remN
    split
    · simp
    · rename_i hc
      refine ⟨by simp; omega, fun j hj => ?_⟩
      cases j with
      | zero => simpa using hc
      | succ j => simpa using h.2 j (by omega)

theorem comN_in : ∀ (l : List UInt8) (n : Nat), comN l = some n → 2 ≤ n ∧ n ≤ l.length ∧ l.getD (n - 1) 0 = 47
  | [], _, h => by cases h
  | c :: r, n, h => by
    unfold comN at h
    split at h
    · rename_i h1
      cases h
      have h2 : 0 < r.length := getD_lt (by rw [h1.2]; decide)
      refine ⟨Nat.le_refl _, by simp; omega, ?_⟩
      simpa using h1.2
    · rw [Option.map_eq_some_iff] at h
      obtain ⟨m, hm, rfl⟩ := h
      have := comN_in r m hm
      refine ⟨by omega, by simp; omega, ?_⟩
      obtain ⟨m', rfl⟩ : ∃ m', m = m' + 1 := ⟨m - 1, by omega⟩
      simpa using this.2.2

theorem begN_five (l : List UInt8) : begN l = 1 ∨ begN l = 2 ∨ begN l = 3 ∨ begN l = 4 ∨ begN l = 5 := by
  unfold begN
  repeat' split
  all_goals simp

theorem begN_two {l : List UInt8} (h : begN l = 2) : l.getD 0 0 = 10 := by
  unfold begN at h
  repeat' (split at h)
  all_goals (first | assumption | omega)
theorem begN_two' {l : List UInt8} (h : l.getD 0 0 = 10) : begN l = 2 := by
  unfold begN
  rw [if_pos h]
theorem begN_four {l : List UInt8} (h : begN l = 4) : l.getD 0 0 = 47 ∧ l.getD 1 0 = 47 := by
  unfold begN at h
  repeat' (split at h)
  all_goals (first | assumption | omega)
theorem begN_fiveC {l : List UInt8} (h : begN l = 5) : l.getD 0 0 = 47 ∧ l.getD 1 0 = 42 := by
  unfold begN at h
  repeat' (split at h)
  all_goals (first | assumption | omega)

/-- How long an item is, that is not open: it lies within the list, and its last byte is a 10 only of nl. -/
def It.len : It → Nat
  | .nl => 1
  | .gap n => n
  | .opn => 0
  | .tk _ n => n

theorem item_nl {l : List UInt8} (h : begN l = 2) : item l = .nl := by unfold item; rw [if_pos h]
theorem item_sp {l : List UInt8} (h : begN l = 3) : item l = .gap 1 := by unfold item; rw [if_neg (by omega), if_pos h]
theorem item_rem {l : List UInt8} (h : begN l = 4) : item l = .gap (remN l) := by unfold item; rw [if_neg (by omega), if_neg (by omega), if_pos h]
theorem item_com {l : List UInt8} {n : Nat} (h : begN l = 5) (hn : comN (l.drop 2) = some n) : item l = .gap (n + 2) := by
  unfold item
  rw [if_neg (by omega), if_neg (by omega), if_neg (by omega), if_pos h, hn]
theorem item_opn {l : List UInt8} (h : begN l = 5) (hn : comN (l.drop 2) = none) : item l = .opn := by
  unfold item
  rw [if_neg (by omega), if_neg (by omega), if_neg (by omega), if_pos h, hn]
theorem item_tk {l : List UInt8} (h : begN l = 1) : item l = .tk (tok l).1 (tok l).2 := by
  unfold item
  rw [if_neg (by omega), if_neg (by omega), if_neg (by omega), if_neg (by omega)]

theorem remN_pos {l : List UInt8} (h0 : 0 < l.length) (h : l.getD 0 0 ≠ 10) : 0 < remN l := by
  cases l with
  | nil => simp at h0
  | cons c r =>
    unfold remN
    rw [if_neg (by simpa using h)]
    omega

theorem item_in {l : List UInt8} (h0 : 0 < l.length) (ho : item l ≠ .opn) : 0 < (item l).len ∧ (item l).len ≤ l.length ∧ (item l ≠ .nl → l.getD ((item l).len - 1) 0 ≠ 10) := by
  by_cases h2 : begN l = 2
  · rw [item_nl h2]
    exact ⟨by simp [It.len], by simp [It.len]; omega, fun h => absurd rfl h⟩
  · have h10 : l.getD 0 0 ≠ 10 := fun h => h2 (begN_two' h)
    rcases begN_five l with h | h | h | h | h
    · rw [item_tk h]
      have ht := tok_in h0 h10
      exact ⟨ht.1, ht.2.1, fun _ => ht.2.2 _ (by simp only [It.len]; omega)⟩
    · exact absurd h h2
    · rw [item_sp h]
      exact ⟨by simp [It.len], by simp [It.len]; omega, fun _ => by simpa [It.len] using h10⟩
    · rw [item_rem h]
      have hr := remN_in l
      have h1 := remN_pos h0 h10
      exact ⟨h1, hr.1, fun _ => hr.2 _ (by simp only [It.len]; omega)⟩
    · cases hc : comN (l.drop 2) with
      | none => exact absurd (item_opn h hc) ho
      | some n =>
        rw [item_com h hc]
        have h1 := comN_in _ n hc
        rw [List.length_drop, getD_drop] at h1
        refine ⟨by simp [It.len], by simp only [It.len]; omega, fun _ => ?_⟩
        simp only [It.len]
        rw [show n + 2 - 1 = 2 + (n - 1) from by omega, h1.2.2]
        decide

end Go.Proofs.YtlnlpahmfpjjdaaDoor
