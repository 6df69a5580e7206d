/-
  Texts of the proof, put together: Row, GrL, GrBuildL, GrOrderL.
-/
import Derived.Test.YtkmlnccdldmmpaaDoorRows
import Derived.WalkKit
import Derived.LoopTactic
import Derived.Lib.Hide
import Derived.Lib.Builder
import Derived.Deep.QuietTactic
import Derived.BigQuiet
import Derived.Laws.AppendOwnNone
import Derived.OwnWalk

/-
  Rows of memory that a call owns, of any length and of elements of any size: read, appended to.
-/
namespace Go.Proofs.YtkmlnccdldmmpaaDoor
open Go.RowKit

theorem row_lt {w : World} {b : Nat} {o : Obj} (h : w.heap[b]? = some o) : b < w.heap.size := by
  rcases Nat.lt_or_ge b w.heap.size with h1 | h1
  · exact h1
  · rw [Array.getElem?_eq_none h1] at h
    cases h

theorem Below.of_drews (w : World) (n : Nat) : Below w.heap.size w (w.drewN n) := ⟨rfl, rfl, rfl, Nat.le_refl _, fun _ _ => rfl⟩

theorem row_form {B : Nat} {w : World} {v : Value} {e : TypeId} {size n : Nat} {xs : List Value} (h : w.ownsRow B e size v n xs) : ∃ a cap, v = .slice a n cap ∧ n ≤ cap ∧ cap ≤ maxLen ∧ ∀ j u, xs[j]? = some u → ∃ g, a = some ⟨g, 0, none⟩ ∧ g < w.heap.size ∧ w.cell? ⟨g, j, none⟩ = some u := by
  obtain ⟨h1, ⟨rfl, rfl⟩ | ⟨g, cap, cur, rfl, hg, hh, hc, hm, hs, ht⟩⟩ := h
  · exact ⟨none, 0, rfl, Nat.le_refl _, Nat.zero_le _, fun j u hj => by
      have : xs = [] := List.eq_nil_of_length_eq_zero (by omega)
      rw [this] at hj
      simp at hj⟩
  · refine ⟨_, cap, rfl, hc, hm, fun j u hj => ⟨g, rfl, row_lt hh, ?_⟩⟩
    rw [Lib.cell_of_heap hh, ← Array.getElem?_toList]
    have hjl : j < n * size := by
      rcases Nat.lt_or_ge j xs.length with h | h
      · omega
      · rw [List.getElem?_eq_none h] at hj; cases hj
    have e : (cur.toList.take (n * size))[j]? = xs[j]? := by rw [ht]
    rw [List.getElem?_take_of_lt hjl] at e
    rw [e, hj]

/-- A slice as a source: what its cells hold. -/
def Src (w : World) (sv : Value) (m size : Nat) (news : List Value) : Prop :=
  (sv = .slice none 0 0 ∧ m = 0 ∧ news = []) ∨ ∃ ad c, sv = .slice (some ad) m c ∧ news.length = m * size ∧ ∀ j u, news[j]? = some u → w.cell? (ad.add j) = some u

theorem add_block2 (a : Addr) (i : Nat) : (a.add i).block = a.block := by unfold Addr.add; split <;> rfl

theorem addr_add (g j : Nat) : (⟨g, 0, none⟩ : Addr).add j = ⟨g, j, none⟩ := by
  simp [Addr.add]
  intro h
  exact h.symm

theorem row_src {B : Nat} {w : World} {v : Value} {e : TypeId} {size n : Nat} {xs : List Value} (h : w.ownsRow B e size v n xs) : Src w v n size xs := by
  have h0 := h
  obtain ⟨h1, ⟨rfl, rfl⟩ | ⟨g, cap, cur, rfl, -⟩⟩ := h
  · exact .inl ⟨rfl, rfl, List.eq_nil_of_length_eq_zero (by omega)⟩
  · obtain ⟨a, cap', hv, -, -, hc⟩ := row_form h0
    refine .inr ⟨_, cap, rfl, h1, fun j u hj => ?_⟩
    obtain ⟨g', hg, -, hcell⟩ := hc j u hj
    simp only [Value.slice.injEq] at hv
    rw [hg] at hv
    simp only [Option.some.injEq, Addr.mk.injEq, and_true] at hv
    rw [addr_add, hv.1]
    exact hcell

theorem run_app {t ty e : TypeId} {i0 : TypeInfo} {z : Value} {size bytes : Nat} {B n m : Nat} {v sv : Value} {xs news : List Value} {w : World}
    (ht : Tryd.prog.underlying t = some (.slice e)) (hi : Tryd.prog.info? e = some i0) (hz : i0.zero = some z) (hsz : i0.size = size) (hby : i0.bytes = bytes) (hzs : z.cells.size = size) (hpos : 0 < size) (hbb : bytes ≤ 100)
    (hd : w.ownsRow B e size v n xs) (hs : Src w sv m size news) (h1 : ∀ u ∈ news, u.oneCell' = true) (hn : n + m ≤ 1000000) (hB : B ≤ w.heap.size) :
    ∃ v' w', (Builtin.append_ #[t, t] ty #[v, sv]).run Tryd.prog w = .ok v' w' ∧ (w'.ownsRow B e size v' (n + m) (xs ++ news) ∧ w.grownBy w' v.ownBlock) := by
  have hbytes : (n + m) * bytes ≤ 140737488355328 := by
    have := Nat.mul_le_mul hn hbb
    omega
  rcases hs with ⟨rfl, rfl, rfl⟩ | ⟨ad, c, rfl, hl, hc⟩
  · rw [List.append_nil]
    exact ⟨v, w, run_append_owned_none (P := Tryd.prog) (w := w) B t ty e i0 size ht hi v n xs hd, hd, World.grownBy.refl w _⟩
  · obtain ⟨v', w', hr, h2, h3, -⟩ := run_append_own (P := Tryd.prog) w B t ty e i0 z size bytes ht hi hz hsz hby hzs hpos v n xs hd ad m c news hl hc h1 (by unfold maxLen; omega) hbytes hB
    exact ⟨v', w', hr, h2, h3⟩

/-- An append of which it is known that it goes through. -/
theorem wpList_append_ex {ops : Array Oper} {rest : List Oper} {o : Oper} {a : Act} {w : World} {Q : Exit → Act → World → Prop} (hg : o.guard = none) (s x : Operand) (t : TypeId)
    (ho : o.op = .call { callee := .builtin .append, args := #[s, x], argTypes := #[t, t] }) (R : Value → World → Prop)
    (h : ∃ v' w', (Builtin.append_ #[t, t] o.type #[a.eval s, a.eval x]).run Tryd.prog w = .ok v' w' ∧ R v' w') (hK : ∀ v' w', R v' w' → wpList Tryd.prog ops Q rest (a.put o.dst v') w') : wpList Tryd.prog ops Q (o :: rest) a w := by
  obtain ⟨v', w', hr, hR⟩ := h
  refine wpList_plain hg fun K' hK' => ?_
  unfold Oper.wp
  simp only [execOp, ho, resolve, invoke, builtin, Sem.run_bind, Sem.run_pure, Result.andThen_ok, List.map_toArray, List.map_cons, List.map_nil, hr]
  exact hK' _ _ (hK v' w' hR)

theorem row_empty {B : Nat} {w : World} (e : TypeId) (size : Nat) (hB : B ≤ w.heap.size) : (w.alloc (.cells #[] e)).ownsRow B e size (.slice (some ⟨w.heap.size, 0, none⟩) 0 0) 0 [] :=
  World.ownsRow_made w #[] 0 hB (Nat.zero_le _) (by simp)

/-- A source of one element, just laid. -/
theorem src_one (w : World) (u : Value) (e : TypeId) : Src (w.alloc (.cells #[u] e)) (.slice (some ⟨w.heap.size, 0, none⟩) 1 1) 1 1 [u] :=
  .inr ⟨_, 1, rfl, rfl, fun j x hj => by
    match j, hj with
    | 0, hj => simp at hj; subst hj; simp [Addr.add]⟩

theorem Src.below {w w' : World} {sv : Value} {m size : Nat} {news : List Value} (h : Src w sv m size news) (hlt : ∀ ad m c, sv = .slice (some ad) m c → ad.block < w.heap.size) (b : Below w.heap.size w w') : Src w' sv m size news := by
  rcases h with h | ⟨ad, c, rfl, hl, hc⟩
  · exact .inl h
  · refine .inr ⟨ad, c, rfl, hl, fun j u hj => ?_⟩
    rw [b.cell (by rw [add_block2]; exact hlt ad m c rfl)]
    exact hc j u hj

/-- A row of the call's own, above W. -/
def Up (W : World) (e : TypeId) (size : Nat) (v : Value) (n : Nat) (xs : List Value) (w : World) : Prop :=
  w.ownsRow W.heap.size e size v n xs ∧ Below W.heap.size W w

theorem app_up {t ty e : TypeId} {i0 : TypeInfo} {z : Value} {size bytes : Nat} {n m : Nat} {v sv : Value} {xs news : List Value} {W w : World}
    (ht : Tryd.prog.underlying t = some (.slice e)) (hi : Tryd.prog.info? e = some i0) (hz : i0.zero = some z) (hsz : i0.size = size) (hby : i0.bytes = bytes) (hzs : z.cells.size = size) (hpos : 0 < size) (hbb : bytes ≤ 100)
    (hd : Up W e size v n xs w) (hs : Src w sv m size news) (h1 : ∀ u ∈ news, u.oneCell' = true) (hn : n + m ≤ 1000000) :
    ∃ v' w', (Builtin.append_ #[t, t] ty #[v, sv]).run Tryd.prog w = .ok v' w' ∧ Up W e size v' (n + m) (xs ++ news) w' := by
  obtain ⟨v', w', hr, h2, h3⟩ := run_app (ty := ty) ht hi hz hsz hby hzs hpos hbb hd.1 hs h1 hn hd.2.size
  exact ⟨v', w', hr, h2, hd.2.grown h3 hd.2.size fun k hk => (World.ownsRow.lt hd.1 k hk).1⟩

theorem up_empty (w : World) (e : TypeId) (size : Nat) : Up w e size (.slice (some ⟨w.heap.size, 0, none⟩) 0 0) 0 [] (w.alloc (.cells #[] e)) :=
  ⟨row_empty e size (Nat.le_refl _), (Below.refl _ _).alloc (Nat.le_refl _) _⟩

theorem up_nil (w : World) (e : TypeId) (size : Nat) : Up w e size (.slice none 0 0) 0 [] w := ⟨⟨by simp, .inl ⟨rfl, rfl⟩⟩, Below.refl _ _⟩

theorem Up.alloc {W w : World} {e : TypeId} {size : Nat} {v : Value} {n : Nat} {xs : List Value} (h : Up W e size v n xs w) (o : Obj) : Up W e size v n xs (w.alloc o) :=
  ⟨World.ownsRow.alloc h.1 o, h.2.alloc h.2.size o⟩

/-- A row that was there is a source in any world above. -/
theorem row_src_up {B : Nat} {W w : World} {v : Value} {e : TypeId} {size n : Nat} {xs : List Value} (h : W.ownsRow B e size v n xs) (b : Below W.heap.size W w) : Src w v n size xs :=
  (row_src h).below (fun ad m c e => (World.ownsRow.lt h ad.block (by rw [e]; simp [Value.ownBlock])).2) b

theorem row_low {w : World} {base base' : Nat} {e : TypeId} {size : Nat} {v : Value} {n : Nat} {xs : List Value} (h : w.ownsRow base e size v n xs) (hb : base' ≤ base) : w.ownsRow base' e size v n xs := by
  obtain ⟨h1, h2 | ⟨g, cap, cur, rfl, hg, h3⟩⟩ := h
  · exact ⟨h1, .inl h2⟩
  · exact ⟨h1, .inr ⟨g, cap, cur, rfl, Nat.le_trans hb hg, h3⟩⟩

theorem src_nil (w : World) (size : Nat) : Src w (.slice none 0 0) 0 size [] := .inl ⟨rfl, rfl, rfl⟩

end Go.Proofs.YtkmlnccdldmmpaaDoor

/-
  Items within items, over lists: which lines they have, and how deep they stand.
-/
namespace Go.Proofs.YtkmlnccdldmmpaaDoor

/-- An item: its kind, its line, its arms. -/
inductive Itm where
  | mk (k line : Int) (arms : List (Int × List Itm))
def Itm.k : Itm → Int | .mk k _ _ => k
def Itm.line : Itm → Int | .mk _ l _ => l
def Itm.arms : Itm → List (Int × List Itm) | .mk _ _ a => a

/-- No deeper than that. -/
def Fits : Nat → List Itm → Prop
  | 0, l => ∀ it ∈ l, it.arms = []
  | d + 1, l => ∀ it ∈ l, ∀ a ∈ it.arms, Fits d a.2

/-- The lines, in order. -/
def flatI (F : List Itm → List Int) (it : Itm) : List Int := if it.arms = [] then [it.line] else it.arms.flatMap fun a => a.1 :: F a.2
def flatF : Nat → List Itm → List Int
  | 0, l => l.map Itm.line
  | d + 1, l => l.flatMap (flatI (flatF d))
/-- How deep. -/
def deepI (D : List Itm → Nat) (n : Nat) (it : Itm) : Nat := it.arms.foldl (fun n a => max n (1 + D a.2)) n
def deepF : Nat → List Itm → Nat
  | 0, _ => 0
  | d + 1, l => l.foldl (deepI (deepF d)) 0

theorem flat_zero {l : List Itm} (h : ∀ it ∈ l, it.arms = []) (F : List Itm → List Int) : l.flatMap (flatI F) = l.map Itm.line := by
  induction l with
  | nil => rfl
  | cons a r ih =>
    rw [List.flatMap_cons, List.map_cons, ih fun it hit => h it (List.mem_cons_of_mem _ hit)]
    unfold flatI
    rw [if_pos (h a List.mem_cons_self)]
    rfl

theorem flatMap_same {α β : Type} {f g : α → List β} : ∀ {l : List α}, (∀ a ∈ l, f a = g a) → l.flatMap f = l.flatMap g
  | [], _ => rfl
  | a :: r, h => by rw [List.flatMap_cons, List.flatMap_cons, h a List.mem_cons_self, flatMap_same fun b hb => h b (List.mem_cons_of_mem _ hb)]
theorem foldl_same {α : Type} {f g : Nat → α → Nat} : ∀ {l : List α} {n : Nat}, (∀ n, ∀ a ∈ l, f n a = g n a) → l.foldl f n = l.foldl g n
  | [], _, _ => rfl
  | a :: r, n, h => by rw [List.foldl_cons, List.foldl_cons, h n a List.mem_cons_self, foldl_same fun n b hb => h n b (List.mem_cons_of_mem _ hb)]

/-- More fuel changes nothing. -/
theorem flat_more : ∀ (d : Nat) (l : List Itm), Fits d l → flatF (d + 1) l = flatF d l
  | 0, l, h => flat_zero h _
  | d + 1, l, h => by
    show l.flatMap (flatI (flatF (d + 1))) = l.flatMap (flatI (flatF d))
    refine flatMap_same fun it hit => ?_
    unfold flatI
    split
    · rfl
    · exact flatMap_same fun a ha => by rw [flat_more d a.2 (h it hit a ha)]
theorem deep_zero {l : List Itm} (h : ∀ it ∈ l, it.arms = []) (D : List Itm → Nat) : ∀ n, l.foldl (deepI D) n = n := by
  induction l with
  | nil => intro n; rfl
  | cons a r ih =>
    intro n
    rw [List.foldl_cons, ih fun it hit => h it (List.mem_cons_of_mem _ hit)]
    unfold deepI
    rw [h a List.mem_cons_self]
    rfl
theorem deep_more : ∀ (d : Nat) (l : List Itm), Fits d l → deepF (d + 1) l = deepF d l
  | 0, l, h => deep_zero h _ 0
  | d + 1, l, h => by
    show l.foldl (deepI (deepF (d + 1))) 0 = l.foldl (deepI (deepF d)) 0
    refine foldl_same fun n it hit => ?_
    exact foldl_same fun m a ha => by rw [deep_more d a.2 (h it hit a ha)]

theorem fits_more : ∀ (d : Nat) (l : List Itm), Fits d l → Fits (d + 1) l
  | 0, l, h => fun it hit a ha => by rw [h it hit] at ha; cases ha
  | d + 1, l, h => fun it hit a ha => fits_more d a.2 (h it hit a ha)

end Go.Proofs.YtkmlnccdldmmpaaDoor

/-
  Conditions within conditions, over lists: what a run over the lines builds.
-/
namespace Go.Proofs.YtkmlnccdldmmpaaDoor

mutual
def Itm.flatT : Itm → List Int
  | .mk _ line [] => [line]
  | .mk _ _ (a :: r) => flatArm a ++ flatArms r
def flatArm : Int × List Itm → List Int
  | (l, its) => l :: flatIts its
def flatArms : List (Int × List Itm) → List Int
  | [] => []
  | a :: r => flatArm a ++ flatArms r
def flatIts : List Itm → List Int
  | [] => []
  | it :: r => it.flatT ++ flatIts r
end

theorem flatArms_app : ∀ (a b : List (Int × List Itm)), flatArms (a ++ b) = flatArms a ++ flatArms b
  | [], b => by simp [flatArms]
  | x :: a, b => by rw [List.cons_append, flatArms, flatArms, flatArms_app a b, List.append_assoc]
theorem flatIts_app : ∀ (a b : List Itm), flatIts (a ++ b) = flatIts a ++ flatIts b
  | [], b => by simp [flatIts]
  | x :: a, b => by rw [List.cons_append, flatIts, flatIts, flatIts_app a b, List.append_assoc]
theorem flatT_arms {k l : Int} {qs : List (Int × List Itm)} (h : qs ≠ []) : (Itm.mk k l qs).flatT = flatArms qs := by
  cases qs with
  | nil => exact absurd rfl h
  | cons a r => rw [Itm.flatT, flatArms]

/-- A condition that is open: its line, its arms that are done, the line of the arm under way, what is in it, was there an else. -/
structure Fr where
  ln : Nat
  dn : List (Int × List Itm)
  la : Nat
  cu : List Itm
  en : Bool
/-- What is built: outside of all conditions; the open ones, the innermost first; the lines out of place. -/
structure Bs where
  ba : List Itm
  st : List Fr
  bad : List Nat
def bs0 : Bs := ⟨[], [], []⟩
def frItem (f : Fr) : Itm := .mk 2 (f.ln : Int) (f.dn ++ [((f.la : Int), f.cu)])
def putB (s : Bs) (it : Itm) : Bs := match s.st with
  | [] => { s with ba := s.ba ++ [it] }
  | f :: r => { s with st := { f with cu := f.cu ++ [it] } :: r }
def closeB (s : Bs) : Bs := match s.st with
  | [] => s
  | f :: r => putB { s with st := r } (frItem f)
def armB (s : Bs) (i k : Nat) : Bs := match s.st with
  | [] => s
  | f :: r => { s with st := ⟨f.ln, f.dn ++ [((f.la : Int), f.cu)], i, [], k == 6⟩ :: r }
def endedB (s : Bs) : Bool := match s.st with
  | [] => false
  | f :: _ => f.en
/-- One line: its place, its kind, has it tokens. -/
def stepB (s : Bs) (i k : Nat) (ne : Bool) : Bs :=
  if 2 ≤ k ∧ k ≤ 4 then { s with st := ⟨i, [], i, [], false⟩ :: s.st }
  else if 5 ≤ k ∧ k ≤ 7 ∧ s.st = [] then { s with bad := s.bad ++ [i] }
  else if (k = 5 ∨ k = 6) ∧ endedB s = true then { s with bad := s.bad ++ [i] }
  else if k = 5 ∨ k = 6 then armB s i k
  else if k = 7 then closeB s
  else if k ≠ 0 ∨ ne = true then putB s (.mk (k : Int) (i : Int) [])
  else s
def runB : Bs → Nat → List (Nat × Bool) → Bs
  | s, _, [] => s
  | s, i, (k, ne) :: r => runB (stepB s i k ne) (i + 1) r
def shutB : Nat → Bs → Bs
  | 0, s => s
  | n + 1, s => shutB n (closeB s)
/-- All of it: the items, the lines out of place, the lines of the conditions that do not end, the outermost first. -/
def buildL (ks : List (Nat × Bool)) : List Itm × List Nat × List Nat :=
  let s := runB bs0 0 ks
  ((shutB s.st.length s).ba, s.bad, (s.st.map Fr.ln).reverse)

def frFlat (f : Fr) : List Int := flatArms f.dn ++ (f.la : Int) :: flatIts f.cu
def stFlat : List Fr → List Int
  | [] => []
  | f :: r => stFlat r ++ frFlat f
def flatS (s : Bs) : List Int := flatIts s.ba ++ stFlat s.st

theorem flat_frItem (f : Fr) : (frItem f).flatT = frFlat f := by
  unfold frItem frFlat
  rw [flatT_arms (by simp), flatArms_app]
  simp [flatArms, flatArm]
theorem flat_put (s : Bs) (it : Itm) : flatS (putB s it) = flatS s ++ it.flatT := by
  unfold putB flatS
  cases h : s.st with
  | nil => simp [stFlat, flatIts_app, flatIts]
  | cons f r => simp [stFlat, frFlat, flatIts_app, flatIts]
theorem flat_close (s : Bs) : flatS (closeB s) = flatS s := by
  unfold closeB
  cases h : s.st with
  | nil => rfl
  | cons f r =>
    rw [flat_put, flat_frItem]
    unfold flatS
    rw [h]
    simp [stFlat]
theorem st_close (s : Bs) : (closeB s).st.length = s.st.length - 1 := by
  unfold closeB putB
  cases h : s.st with
  | nil => simp [h]
  | cons f r =>
    cases r with
    | nil => rfl
    | cons g r => rfl
theorem flat_shut : ∀ (n : Nat) (s : Bs), s.st.length ≤ n → flatIts (shutB n s).ba = flatS s
  | 0, s, h => by
    have : s.st = [] := List.eq_nil_of_length_eq_zero (by omega)
    unfold flatS shutB
    rw [this]
    simp [stFlat]
  | n + 1, s, h => by
    rw [shutB, flat_shut n (closeB s) (by rw [st_close]; omega), flat_close]

/-- Does a line stand in what is built? -/
def keptB (s : Bs) (k : Nat) (ne : Bool) : Bool :=
  if 2 ≤ k ∧ k ≤ 4 then true
  else if 5 ≤ k ∧ k ≤ 7 ∧ s.st = [] then false
  else if (k = 5 ∨ k = 6) ∧ endedB s = true then false
  else if k = 5 ∨ k = 6 then true
  else if k = 7 then false
  else decide (k ≠ 0) || ne

theorem flat_step (s : Bs) (i k : Nat) (ne : Bool) : flatS (stepB s i k ne) = flatS s ++ if keptB s k ne then [(i : Int)] else [] := by
  unfold stepB keptB
  by_cases h1 : 2 ≤ k ∧ k ≤ 4
  · rw [if_pos h1, if_pos h1]
    simp [flatS, stFlat, frFlat, flatArms, flatIts]
  · rw [if_neg h1, if_neg h1]
    by_cases h2 : 5 ≤ k ∧ k ≤ 7 ∧ s.st = []
    · rw [if_pos h2, if_pos h2]
      simp [flatS]
    · rw [if_neg h2, if_neg h2]
      by_cases h3 : (k = 5 ∨ k = 6) ∧ endedB s = true
      · rw [if_pos h3, if_pos h3]
        simp [flatS]
      · rw [if_neg h3, if_neg h3]
        by_cases h4 : k = 5 ∨ k = 6
        · rw [if_pos h4, if_pos h4]
          have hne : s.st ≠ [] := fun e => h2 ⟨by omega, by omega, e⟩
          unfold armB
          cases hs : s.st with
          | nil => exact absurd hs hne
          | cons f r =>
            unfold flatS
            rw [hs]
            simp [stFlat, frFlat, flatArms_app, flatArms, flatArm, flatIts]
        · rw [if_neg h4, if_neg h4]
          by_cases h5 : k = 7
          · rw [if_pos h5, if_pos h5, flat_close]
            simp
          · rw [if_neg h5, if_neg h5]
            by_cases h6 : k ≠ 0 ∨ ne = true
            · rw [if_pos h6, flat_put]
              have : (decide (k ≠ 0) || ne) = true := by simpa using h6
              rw [if_pos this]
              simp [Itm.flatT]
            · rw [if_neg h6]
              have : ¬ (decide (k ≠ 0) || ne) = true := by simpa using h6
              rw [if_neg this]
              simp

end Go.Proofs.YtkmlnccdldmmpaaDoor

/-
  Each line that is left in stands once, and in order; what is out of place is told: over lists.
-/
namespace Go.Proofs.YtkmlnccdldmmpaaDoor

/-- The flat list with fuel is the one without. -/
theorem flatF_is : ∀ (d : Nat) (l : List Itm), Fits d l → flatF d l = flatIts l
  | 0, [], _ => rfl
  | 0, it :: r, h => by
    have h1 : it.arms = [] := h it List.mem_cons_self
    have h2 := flatF_is 0 r fun it hit => h it (List.mem_cons_of_mem _ hit)
    cases it with
    | mk k line qs =>
      have hq : qs = [] := h1
      subst hq
      show line :: r.map Itm.line = _
      rw [show r.map Itm.line = flatF 0 r from rfl, h2]
      rfl
  | d + 1, [], _ => rfl
  | d + 1, it :: r, h => by
    have h2 := flatF_is (d + 1) r fun it hit => h it (List.mem_cons_of_mem _ hit)
    have h3 : flatI (flatF d) it = it.flatT := by
      have ha := h it List.mem_cons_self
      cases it with
      | mk k line qs =>
        unfold flatI
        by_cases hq : qs = []
        · subst hq
          rfl
        · rw [if_neg (show ¬ (Itm.mk k line qs).arms = [] from hq), flatT_arms hq]
          show qs.flatMap (fun a => a.1 :: flatF d a.2) = flatArms qs
          have key : ∀ qs : List (Int × List Itm), (∀ a ∈ qs, Fits d a.2) → qs.flatMap (fun a => a.1 :: flatF d a.2) = flatArms qs := by
            intro qs
            induction qs with
            | nil => intro _; rfl
            | cons a r ih =>
              intro hf
              rw [List.flatMap_cons, ih fun b hb => hf b (List.mem_cons_of_mem _ hb), flatF_is d a.2 (hf a List.mem_cons_self)]
              cases a with
              | mk l its => rfl
          exact key qs ha
    show flatI (flatF d) it ++ r.flatMap (flatI (flatF d)) = it.flatT ++ flatIts r
    rw [h3, ← h2]
    rfl

/-- The places that are left in. -/
def keptL : Bs → Nat → List (Nat × Bool) → List Int
  | _, _, [] => []
  | s, i, (k, ne) :: r => (if keptB s k ne then [(i : Int)] else []) ++ keptL (stepB s i k ne) (i + 1) r
theorem flat_run : ∀ (ks : List (Nat × Bool)) (s : Bs) (i : Nat), flatS (runB s i ks) = flatS s ++ keptL s i ks
  | [], s, i => by simp [runB, keptL]
  | (k, ne) :: r, s, i => by
    rw [runB, flat_run r, flat_step, keptL, List.append_assoc]
theorem flat_build (ks : List (Nat × Bool)) : flatIts (buildL ks).1 = keptL bs0 0 ks := by
  unfold buildL
  rw [flat_shut _ _ (Nat.le_refl _), flat_run]
  rfl
theorem kept_ge : ∀ (ks : List (Nat × Bool)) (s : Bs) (i : Nat), ∀ x ∈ keptL s i ks, (i : Int) ≤ x
  | [], _, _, x, h => by cases h
  | (k, ne) :: r, s, i, x, h => by
    rw [keptL, List.mem_append] at h
    rcases h with h | h
    · split at h
      · simp only [List.mem_cons, List.not_mem_nil, or_false] at h
        omega
      · cases h
    · have := kept_ge r _ (i + 1) x h
      omega

/-- How many lines of elif and else are left out, how many endifs there are. -/
def oddN : Bs → Nat → List (Nat × Bool) → Nat
  | _, _, [] => 0
  | s, i, (k, ne) :: r => (if keptB s k ne = false ∧ (k = 5 ∨ k = 6) then 1 else 0) + oddN (stepB s i k ne) (i + 1) r
def endN : List (Nat × Bool) → Nat
  | [] => 0
  | (k, _) :: r => (if k = 7 then 1 else 0) + endN r

theorem bad_close (s : Bs) : (closeB s).bad = s.bad := by
  unfold closeB putB
  cases h : s.st with
  | nil => rfl
  | cons f r => cases r <;> rfl
theorem bad_put (s : Bs) (it : Itm) : (putB s it).bad = s.bad := by
  unfold putB
  cases h : s.st <;> rfl
theorem bad_arm (s : Bs) (i k : Nat) : (armB s i k).bad = s.bad := by
  unfold armB
  cases h : s.st <;> rfl
theorem bad_step (s : Bs) (i k : Nat) (ne : Bool) : ∃ b, (stepB s i k ne).bad.length = s.bad.length + b ∧ (if keptB s k ne = false ∧ (k = 5 ∨ k = 6) then 1 else 0) ≤ b ∧ b ≤ (if keptB s k ne = false ∧ (k = 5 ∨ k = 6) then 1 else 0) + (if k = 7 then 1 else 0) := by
  unfold stepB keptB
  by_cases h1 : 2 ≤ k ∧ k ≤ 4
  · rw [if_pos h1, if_pos h1, if_neg (by simp), if_neg (by omega)]
    exact ⟨0, rfl, Nat.le_refl _, Nat.le_refl _⟩
  · rw [if_neg h1, if_neg h1]
    by_cases h2 : 5 ≤ k ∧ k ≤ 7 ∧ s.st = []
    · rw [if_pos h2, if_pos h2]
      refine ⟨1, by simp, ?_, ?_⟩
      · split <;> omega
      · by_cases h7 : k = 7
        · rw [if_pos h7]
          omega
        · rw [if_pos ⟨rfl, by omega⟩]
          omega
    · rw [if_neg h2, if_neg h2]
      by_cases h3 : (k = 5 ∨ k = 6) ∧ endedB s = true
      · rw [if_pos h3, if_pos h3, if_pos ⟨rfl, h3.1⟩]
        exact ⟨1, by simp, Nat.le_refl _, by omega⟩
      · rw [if_neg h3, if_neg h3]
        by_cases h4 : k = 5 ∨ k = 6
        · rw [if_pos h4, if_pos h4, if_neg (by simp)]
          exact ⟨0, by rw [bad_arm]; rfl, Nat.le_refl _, by omega⟩
        · have e0 : ∀ b : Bool, (if b = false ∧ (k = 5 ∨ k = 6) then (1 : Nat) else 0) = 0 := fun b => if_neg fun h => h4 h.2
          rw [e0, if_neg h4]
          refine ⟨0, ?_, Nat.le_refl _, Nat.zero_le _⟩
          by_cases h5 : k = 7
          · rw [if_pos h5, bad_close]
            rfl
          · rw [if_neg h5]
            split
            · rw [bad_put]
              rfl
            · rfl
theorem bad_run : ∀ (ks : List (Nat × Bool)) (s : Bs) (i : Nat), ∃ b, (runB s i ks).bad.length = s.bad.length + b ∧ oddN s i ks ≤ b ∧ b ≤ oddN s i ks + endN ks
  | [], s, i => ⟨0, rfl, Nat.le_refl _, Nat.le_refl _⟩
  | (k, ne) :: r, s, i => by
    obtain ⟨b1, h1, h2, h3⟩ := bad_step s i k ne
    obtain ⟨b2, h4, h5, h6⟩ := bad_run r (stepB s i k ne) (i + 1)
    refine ⟨b1 + b2, by rw [runB, h4, h1]; omega, ?_, ?_⟩
    · rw [oddN]
      omega
    · rw [oddN, endN]
      omega
/-- What is not left in is empty text, an endif, or an elif or else. -/
theorem kept_not {s : Bs} {k : Nat} {ne : Bool} (h : keptB s k ne = false) : (k = 0 ∧ ne = false) ∨ k = 5 ∨ k = 6 ∨ k = 7 := by
  unfold keptB at h
  split at h
  · cases h
  · split at h
    · omega
    · split at h
      · omega
      · split at h
        · cases h
        · split at h
          · omega
          · simp only [Bool.or_eq_false_iff, decide_eq_false_iff_not, Decidable.not_not] at h
            exact .inl h

end Go.Proofs.YtkmlnccdldmmpaaDoor
