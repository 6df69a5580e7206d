/-
  Texts of the proof, put together: GcCol.
-/
import Derived.Test.YtlnlpahmfpjjdaaDoorG16

/-
  Blocks told apart by colours: rows that a call owns, items that hang on them, and what a change of one colour's blocks leaves.
-/
namespace Go.Proofs.YtlnlpahmfpjjdaaDoor
open Go.RowKit

abbrev Col := Nat → Nat

/-- All blocks but those of colour k are as they were; the old ones keep their colours. -/
structure Chg (k : Nat) (c c' : Col) (w w' : World) : Prop where
  size : w.heap.size ≤ w'.heap.size
  col : ∀ g, g < w.heap.size → c' g = c g
  block : ∀ g, g < w.heap.size → c g ≠ k → w'.heap[g]? = w.heap[g]?

theorem Chg.refl (k : Nat) (c : Col) (w : World) : Chg k c c w w := ⟨Nat.le_refl _, fun _ _ => rfl, fun _ _ _ => rfl⟩
theorem Chg.trans {k : Nat} {c c' c'' : Col} {w w' w'' : World} (h : Chg k c c' w w') (h' : Chg k c' c'' w' w'') : Chg k c c'' w w'' :=
  ⟨Nat.le_trans h.size h'.size, fun g hg => (h'.col g (Nat.lt_of_lt_of_le hg h.size)).trans (h.col g hg), fun g hg hk => (h'.block g (Nat.lt_of_lt_of_le hg h.size) (by rw [h.col g hg]; exact hk)).trans (h.block g hg hk)⟩
theorem Chg.below (k : Nat) (c : Col) {w w' : World} (b : Below w.heap.size w w') : Chg k c c w w' := ⟨b.size, fun _ _ => rfl, fun g hg _ => b.block g hg⟩
theorem Chg.set (c : Col) (w : World) (a : Addr) (u : Value) : Chg (c a.block) c c w (w.setCell a u) :=
  ⟨by simp [World.setCell], fun _ _ => rfl, fun g _ hk => heap_setCell_other w a g u fun e => hk (by rw [e])⟩

/-- The same colours, but nothing for what is to come. -/
def freshC (c : Col) (w : World) : Col := fun g => if g < w.heap.size then c g else 0
theorem freshC_new (c : Col) {w : World} {g : Nat} (h : w.heap.size ≤ g) : freshC c w g = 0 := if_neg (by omega)
theorem Chg.fresh (k : Nat) (c : Col) (w : World) : Chg k c (freshC c w) w w := ⟨Nat.le_refl _, fun _ hg => if_pos hg, fun _ _ _ => rfl⟩

/-- What lies in P lies in Q, as it was. -/
def Turn (P Q : Nat → Prop) (w w' : World) : Prop := w.heap.size ≤ w'.heap.size ∧ ∀ g, P g → g < w.heap.size → Q g ∧ w'.heap[g]? = w.heap[g]?
theorem Chg.turn {k j : Nat} {c c' : Col} {w w' : World} (h : Chg j c c' w w') (hk : k ≠ j) : Turn (fun g => c g = k) (fun g => c' g = k) w w' :=
  ⟨h.size, fun g hp hg => ⟨(h.col g hg).trans hp, h.block g hg (by rw [hp]; exact hk)⟩⟩
theorem turn_in {P Q : Nat → Prop} {w : World} (h : ∀ g, P g → Q g) : Turn P Q w w := ⟨Nat.le_refl _, fun g hp _ => ⟨h g hp, rfl⟩⟩
theorem turn_cell {P Q : Nat → Prop} {w w' : World} (h : Turn P Q w w') {g o : Nat} {v : Value} (hp : P g) (hg : g < w.heap.size) (hc : w.cell? ⟨g, o, none⟩ = some v) : w'.cell? ⟨g, o, none⟩ = some v := (World.cell?_of_block (h.2 g hp hg).2).trans hc

theorem ArmsP.turn {P Q : Nat → Prop} {R S : RelI} {w w' : World} (hR : ∀ l v, R l v w → S l v w') {qs : List (Int × List Itm)} {v : Value} (h : ArmsP P R qs v w) (s : Turn P Q w w') : ArmsP Q S qs v w' := by
  obtain ⟨a, cap, hv, h1, h2, h3⟩ := h
  refine ⟨a, cap, hv, h1, h2, fun j x hx => ?_⟩
  obtain ⟨g, o, ha, hp, hg, iv, ⟨c0, c1⟩, hr⟩ := h3 j x hx
  exact ⟨g, o, ha, (s.2 g hp hg).1, Nat.lt_of_lt_of_le hg s.1, iv, ⟨turn_cell s hp hg c0, turn_cell s hp hg c1⟩, hR _ _ hr⟩
theorem ItsPf.turn {P Q : Nat → Prop} {R S : RelI} {w w' : World} (hR : ∀ l v, R l v w → S l v w') {l : List Itm} {v : Value} (h : ItsPf P R l v w) (s : Turn P Q w w') : ItsPf Q S l v w' := by
  obtain ⟨a, cap, hv, h1, h2, h3⟩ := h
  refine ⟨a, cap, hv, h1, h2, fun j x hx => ?_⟩
  obtain ⟨g, o, ha, hp, hg, iv, ⟨c0, c1, c2⟩, hr⟩ := h3 j x hx
  exact ⟨g, o, ha, (s.2 g hp hg).1, Nat.lt_of_lt_of_le hg s.1, iv, ⟨turn_cell s hp hg c0, turn_cell s hp hg c1, turn_cell s hp hg c2⟩, hr.turn hR s⟩
theorem itsP_turn {P Q : Nat → Prop} {w w' : World} (s : Turn P Q w w') : ∀ d l v, ItsP P d l v w → ItsP Q d l v w'
  | 0, _, _, h => h.turn (fun _ _ h => h.elim) s
  | d + 1, _, _, h => h.turn (fun l v h => itsP_turn s d l v h) s
theorem itsP_more {P : Nat → Prop} {w : World} : ∀ d l v, ItsP P d l v w → ItsP P (d + 1) l v w
  | 0, _, _, h => h.turn (fun _ _ h => h.elim) (turn_in fun _ h => h)
  | d + 1, _, _, h => h.turn (fun l v h => itsP_more d l v h) (turn_in fun _ h => h)

theorem own_of_block {B : Nat} {e : TypeId} {size n : Nat} {v : Value} {xs : List Value} {w w' : World} (h : w.ownsRow B e size v n xs) (hb : ∀ g, v.ownBlock = some g → w'.heap[g]? = w.heap[g]?) : w'.ownsRow B e size v n xs := by
  refine ⟨h.1, ?_⟩
  rcases h.2 with hn | ⟨g, cap, cur, rfl, h1, h2, rest⟩
  · exact .inl hn
  · exact .inr ⟨g, cap, cur, rfl, h1, (hb g rfl).trans h2, rest⟩

/-- A row of one colour. -/
def RowC (c : Col) (k B : Nat) (e : TypeId) (size : Nat) (v : Value) (n : Nat) (xs : List Value) (w : World) : Prop := w.ownsRow B e size v n xs ∧ ∀ g, v.ownBlock = some g → c g = k
theorem RowC.chg {c c' : Col} {k j B : Nat} {e : TypeId} {size n : Nat} {v : Value} {xs : List Value} {w w' : World} (h : RowC c k B e size v n xs w) (s : Chg j c c' w w') (hk : k ≠ j) : RowC c' k B e size v n xs w' :=
  ⟨own_of_block h.1 fun g hg => s.block g (World.ownsRow.lt h.1 g hg).2 (by rw [h.2 g hg]; exact hk), fun g hg => (s.col g (World.ownsRow.lt h.1 g hg).2).trans (h.2 g hg)⟩

/-- What is in the arm under way: its row, and what hangs on it. -/
structure LevAt (c : Col) (B : Nat) (TI : TypeId) (k d : Nat) (v : Value) (P : List (Itm × Value)) (w : World) : Prop where
  row : RowC c (k + 1) B TI 3 v P.length (icells P) w
  its : ∀ p ∈ P, ArmsP (fun g => c g = k + 2) (ItsP (fun g => c g = k + 2) d) p.1.arms p.2 w
/-- The arms: those that are done, and the one under way, whose items are u. -/
structure ArmAt (c : Col) (B : Nat) (TA : TypeId) (k d : Nat) (A : List ((Int × List Itm) × Value)) (la : Int) (u : Value) (ab ac : Nat) (w : World) : Prop where
  row : RowC c k B TA 2 (.slice (some ⟨ab, 0, none⟩) (A.length + 1) ac) (A.length + 1) (acells A ++ [.int .i64 la, u]) w
  its : ∀ q ∈ A, ItsP (fun g => c g = k + 2) (d + 1) q.1.2 q.2 w

theorem LevAt.chg {c c' : Col} {B : Nat} {TI : TypeId} {k d m : Nat} {v : Value} {P : List (Itm × Value)} {w w' : World} (h : LevAt c B TI k d v P w) (s : Chg m c c' w w') (h1 : k + 1 ≠ m) (h2 : k + 2 ≠ m) : LevAt c' B TI k d v P w' :=
  ⟨h.row.chg s h1, fun p hp => (h.its p hp).turn (fun l v h => itsP_turn (s.turn h2) d l v h) (s.turn h2)⟩
theorem ArmAt.chg {c c' : Col} {B : Nat} {TA : TypeId} {k d m : Nat} {A : List ((Int × List Itm) × Value)} {la : Int} {u : Value} {ab ac : Nat} {w w' : World} (h : ArmAt c B TA k d A la u ab ac w) (s : Chg m c c' w w') (h1 : k ≠ m) (h2 : k + 2 ≠ m) : ArmAt c' B TA k d A la u ab ac w' :=
  ⟨h.row.chg s h1, fun q hq => itsP_turn (s.turn h2) _ _ _ (h.its q hq)⟩
theorem LevAt.more {c : Col} {B : Nat} {TI : TypeId} {k d : Nat} {v : Value} {P : List (Itm × Value)} {w : World} (h : LevAt c B TI k d v P w) : LevAt c B TI k (d + 1) v P w :=
  ⟨h.row, fun p hp => (h.its p hp).turn (fun l v h => itsP_more d l v h) (turn_in fun _ h => h)⟩
theorem ArmAt.more {c : Col} {B : Nat} {TA : TypeId} {k d : Nat} {A : List ((Int × List Itm) × Value)} {la : Int} {u : Value} {ab ac : Nat} {w : World} (h : ArmAt c B TA k d A la u ab ac w) : ArmAt c B TA k (d + 1) A la u ab ac w :=
  ⟨h.row, fun q hq => itsP_more _ _ _ (h.its q hq)⟩

theorem lev_nil (c : Col) (B : Nat) (TI : TypeId) (k d : Nat) (w : World) : LevAt c B TI k d (.slice none 0 0) [] w :=
  ⟨⟨⟨by simp [icells], .inl ⟨rfl, rfl⟩⟩, fun g hg => by cases hg⟩, fun p hp => by cases hp⟩

/-- An item more. -/
theorem LevAt.push {c : Col} {B : Nat} {tI TI ty : TypeId} {i0 : TypeInfo} (ht : Tryd.prog.underlying tI = some (.slice TI)) (hin : Tryd.prog.info? TI = some i0) (hz : i0.zero = some (.agg #[.int .i64 0, .int .i64 0, .slice none 0 0])) (hsz : i0.size = 3) (hby : i0.bytes = 40)
    {k d : Nat} {a : Option Addr} {n cap : Nat} {P : List (Itm × Value)} {w : World} (h : LevAt c B TI k d (.slice a n cap) P w) {x : Itm} {v sv : Value} (hq : ArmsP (fun g => c g = k + 2) (ItsP (fun g => c g = k + 2) d) x.arms v w) (hs : Src w sv 1 3 (icell (x, v))) (hn : P.length ≤ 500000) (h0 : B ≤ w.heap.size) :
    ∃ b n' cap' w', (Builtin.append_ #[tI, tI] ty #[.slice a n cap, sv]).run Tryd.prog w = .ok (.slice (some ⟨b, 0, none⟩) n' cap') w' ∧ ∃ c', LevAt c' B TI k d (.slice (some ⟨b, 0, none⟩) n' cap') (P ++ [(x, v)]) w' ∧ Chg (k + 1) c c' w w' ∧ Below B w w' := by
  obtain ⟨⟨ho, hc⟩, hi⟩ := h
  obtain ⟨fa, fm, fc, hv, -⟩ := (hq.forget (S := fun _ _ _ => True) fun _ _ _ _ => trivial).form
  obtain ⟨a0, cp0, hv0, -⟩ := row_form ho
  simp only [Value.slice.injEq] at hv0
  obtain ⟨-, rfl, -⟩ := hv0
  obtain ⟨b, cap', w', hr, h2, h3, h4⟩ := own_app (ty := ty) ht hin hz hsz hby rfl (by decide) (by decide) ho hs (by
    intro u hu
    simp only [icell, List.mem_cons, List.not_mem_nil, or_false] at hu
    rcases hu with rfl | rfl | rfl
    · rfl
    · rfl
    · rw [hv]; rfl) (by omega) (by omega) h0
  have hchg : Chg (k + 1) c (fun g => if g = b then k + 1 else c g) w w' := by
    refine ⟨h3.size, fun g hg => ?_, fun g hg hk => h3.block g hg fun e => hk (hc g e.symm)⟩
    show (if g = b then k + 1 else c g) = c g
    split
    · rename_i e
      subst e
      rcases h4 with h4 | h4
      · exact (hc g h4).symm
      · omega
    · rfl
  refine ⟨b, _, cap', w', hr, _, ⟨⟨by rw [icells_snoc, List.length_append]; exact h2, fun g hg => ?_⟩, fun p hp => ?_⟩, hchg, (Below.refl B w).grown h3 h0 fun k hk => (World.ownsRow.lt ho k hk).1⟩
  · simp only [Value.ownBlock, Option.some.injEq] at hg
    subst hg
    show (if b = b then k + 1 else c b) = k + 1
    rw [if_pos rfl]
  · have ht := hchg.turn (k := k + 2) (by omega)
    rcases List.mem_append.1 hp with hp | hp
    · exact (hi p hp).turn (fun l v h => itsP_turn ht d l v h) ht
    · simp only [List.mem_cons, List.not_mem_nil, or_false] at hp
      subst hp
      exact hq.turn (fun l v h => itsP_turn ht d l v h) ht

/-- An arm more: the one that was under way is done. -/
theorem ArmAt.push {c : Col} {B : Nat} {tA TA ty : TypeId} {i0 : TypeInfo} (ht : Tryd.prog.underlying tA = some (.slice TA)) (hin : Tryd.prog.info? TA = some i0) (hz : i0.zero = some (.agg #[.int .i64 0, .slice none 0 0])) (hsz : i0.size = 2) (hby : i0.bytes = 32)
    {k d : Nat} {A : List ((Int × List Itm) × Value)} {la lb : Int} {its : List Itm} {u sv : Value} {ab ac : Nat} {w : World} (h : ArmAt c B TA k d A la u ab ac w) (hq : ItsP (fun g => c g = k + 2) (d + 1) its u w) (hs : Src w sv 1 2 [.int .i64 lb, .slice none 0 0]) (hn : A.length ≤ 400000) (h0 : B ≤ w.heap.size) :
    ∃ b n' cap' w', (Builtin.append_ #[tA, tA] ty #[.slice (some ⟨ab, 0, none⟩) (A.length + 1) ac, sv]).run Tryd.prog w = .ok (.slice (some ⟨b, 0, none⟩) n' cap') w' ∧ ∃ c', n' = A.length + 1 + 1 ∧ ArmAt c' B TA k d (A ++ [((la, its), u)]) lb (.slice none 0 0) b cap' w' ∧ Chg k c c' w w' ∧ Below B w w' := by
  obtain ⟨⟨ho, hc⟩, hi⟩ := h
  obtain ⟨b, cap', w', hr, h2, h3, h4⟩ := own_app (ty := ty) ht hin hz hsz hby rfl (by decide) (by decide) ho hs (by
    intro x hx
    simp only [List.mem_cons, List.not_mem_nil, or_false] at hx
    rcases hx with rfl | rfl <;> rfl) (by omega) (by omega) h0
  have hchg : Chg k c (fun g => if g = b then k else c g) w w' := by
    refine ⟨h3.size, fun g hg => ?_, fun g hg hk => h3.block g hg fun e => hk (hc g e.symm)⟩
    show (if g = b then k else c g) = c g
    split
    · rename_i e
      subst e
      rcases h4 with h4 | h4
      · exact (hc g h4).symm
      · omega
    · rfl
  refine ⟨b, _, cap', w', hr, _, rfl, ⟨⟨?_, fun g hg => ?_⟩, fun q hq' => ?_⟩, hchg, (Below.refl B w).grown h3 h0 fun k hk => (World.ownsRow.lt ho k hk).1⟩
  · rw [acells_snoc, List.length_append]
    exact h2
  · simp only [Value.ownBlock, Option.some.injEq] at hg
    subst hg
    show (if b = b then k else c b) = k
    rw [if_pos rfl]
  · have ht := hchg.turn (k := k + 2) (by omega)
    rcases List.mem_append.1 hq' with hq' | hq'
    · exact itsP_turn ht _ _ _ (hi q hq')
    · simp only [List.mem_cons, List.not_mem_nil, or_false] at hq'
      subst hq'
      exact itsP_turn ht _ _ _ hq

/-- An append's answer as a value. -/
theorem as_value {x : Result Value} {R : Nat → Nat → Nat → World → Prop} (h : ∃ b n cap w', x = .ok (.slice (some ⟨b, 0, none⟩) n cap) w' ∧ R b n cap w') : ∃ v' w', x = .ok v' w' ∧ ∃ b n cap, v' = .slice (some ⟨b, 0, none⟩) n cap ∧ R b n cap w' := by
  obtain ⟨b, n, cap, w', h1, h2⟩ := h
  exact ⟨_, w', h1, b, n, cap, rfl, h2⟩

/-- What is read off: items, arms. -/
theorem LevAt.done {c : Col} {B : Nat} {TI : TypeId} {k d : Nat} {v : Value} {P : List (Itm × Value)} {w : World} (h : LevAt c B TI k d v P w) {Pk : Nat → Prop} (h1 : ∀ g, c g = k + 1 → Pk g) (h2 : ∀ g, c g = k + 2 → Pk g) : ItsP Pk (d + 1) (P.map Prod.fst) v w := by
  obtain ⟨⟨ho, hc⟩, hi⟩ := h
  obtain ⟨a, cap, hv, r1, r2, r3⟩ := row_form ho
  subst hv
  refine ⟨a, cap, by rw [List.length_map], by rw [List.length_map]; exact r1, r2, fun m x hx => ?_⟩
  rw [List.getElem?_map, Option.map_eq_some_iff] at hx
  obtain ⟨q, hq, rfl⟩ := hx
  have hg := fun j (hj : j < 3) => flat_get (f := icell) (n := 3) (fun _ => rfl) P m q hq j hj
  obtain ⟨g, hga, hlt, c0⟩ := r3 (m * 3 + 0) _ ((hg 0 (by omega)).trans rfl)
  obtain ⟨g', hga', -, c1⟩ := r3 (m * 3 + 1) _ ((hg 1 (by omega)).trans rfl)
  obtain ⟨g'', hga'', -, c2⟩ := r3 (m * 3 + 2) _ ((hg 2 (by omega)).trans rfl)
  rw [hga] at hga' hga''
  simp only [Option.some.injEq, Addr.mk.injEq, and_true] at hga' hga''
  subst hga' hga''
  have ht : Turn (fun g => c g = k + 2) Pk w w := turn_in h2
  refine ⟨g, 0, hga, h1 g (hc g (by rw [hga]; rfl)), hlt, q.2, ?_, (hi q (List.mem_of_getElem? hq)).turn (fun l v h => itsP_turn ht d l v h) ht⟩
  rw [Nat.zero_add]
  exact ⟨c0, c1, c2⟩
theorem acells_len (A : List ((Int × List Itm) × Value)) : (acells A).length = A.length * 2 := by
  unfold acells
  exact flat_len (n := 2) (fun _ => rfl) A
theorem icells_len (P : List (Itm × Value)) : (icells P).length = P.length * 3 := by
  unfold icells
  exact flat_len (n := 3) (fun _ => rfl) P
theorem ArmAt.done {c : Col} {B : Nat} {TA : TypeId} {k d : Nat} {A : List ((Int × List Itm) × Value)} {la : Int} {u : Value} {ab ac : Nat} {w : World} (h : ArmAt c B TA k d A la u ab ac w) {Pk : Nat → Prop} {its : List Itm} (h1 : ∀ g, c g = k → Pk g) (h2 : ∀ g, c g = k + 2 → Pk g) (hu : ItsP Pk (d + 1) its u w) :
    ArmsP Pk (ItsP Pk (d + 1)) (A.map Prod.fst ++ [(la, its)]) (.slice (some ⟨ab, 0, none⟩) (A.length + 1) ac) w := by
  obtain ⟨⟨ho, hc⟩, hi⟩ := h
  obtain ⟨a, cap, hv, r1, r2, r3⟩ := row_form ho
  simp only [Value.slice.injEq, true_and] at hv
  obtain ⟨rfl, rfl⟩ := hv
  have ht : Turn (fun g => c g = k + 2) Pk w w := turn_in h2
  refine ⟨_, ac, by rw [List.length_append, List.length_map]; rfl, by rw [List.length_append, List.length_map]; exact r1, r2, fun m x hx => ?_⟩
  have key : acells A ++ [.int .i64 la, u] = acells (A ++ [((la, its), u)]) := by rw [acells_snoc]; rfl
  have hx' : ∃ q, (A ++ [((la, its), u)])[m]? = some q ∧ q.1 = x := by
    have e : A.map Prod.fst ++ [(la, its)] = (A ++ [((la, its), u)]).map Prod.fst := by rw [List.map_append]; rfl
    rw [e, List.getElem?_map, Option.map_eq_some_iff] at hx
    exact hx
  obtain ⟨q, hq, rfl⟩ := hx'
  rw [key] at r3
  have hg := fun j (hj : j < 2) => flat_get (f := acell) (n := 2) (fun _ => rfl) _ m q hq j hj
  obtain ⟨g, hga, hlt, c0⟩ := r3 (m * 2 + 0) _ ((hg 0 (by omega)).trans rfl)
  obtain ⟨g', hga', -, c1⟩ := r3 (m * 2 + 1) _ ((hg 1 (by omega)).trans rfl)
  simp only [Option.some.injEq, Addr.mk.injEq, and_true] at hga hga'
  subst hga hga'
  have hit : ItsP Pk (d + 1) q.1.2 q.2 w := by
    rcases List.mem_append.1 (List.mem_of_getElem? hq) with hm | hm
    · exact itsP_turn ht _ _ _ (hi q hm)
    · simp only [List.mem_cons, List.not_mem_nil, or_false] at hm
      subst hm
      exact hu
  refine ⟨ab, 0, rfl, h1 ab (hc ab rfl), hlt, q.2, ?_, hit⟩
  rw [Nat.zero_add]
  exact ⟨c0, c1⟩

/-- Colours turned. -/
theorem RowC.recol {c c' : Col} {k k' B : Nat} {e : TypeId} {size n : Nat} {v : Value} {xs : List Value} {w : World} (h : RowC c k B e size v n xs w) (hk : ∀ g, c g = k → c' g = k') : RowC c' k' B e size v n xs w := ⟨h.1, fun g hg => hk g (h.2 g hg)⟩
theorem LevAt.recol {c c' : Col} {B : Nat} {TI : TypeId} {k d : Nat} {v : Value} {P : List (Itm × Value)} {w : World} (h : LevAt c B TI k d v P w) (h1 : ∀ g, c g = k + 1 → c' g = k + 1) (h2 : ∀ g, c g = k + 2 → c' g = k + 2) : LevAt c' B TI k d v P w :=
  ⟨h.row.recol h1, fun p hp => (h.its p hp).turn (fun l v h => itsP_turn (turn_in h2) d l v h) (turn_in h2)⟩
theorem ArmAt.recol {c c' : Col} {B : Nat} {TA : TypeId} {k d : Nat} {A : List ((Int × List Itm) × Value)} {la : Int} {u : Value} {ab ac : Nat} {w : World} (h : ArmAt c B TA k d A la u ab ac w) (h1 : ∀ g, c g = k → c' g = k) (h2 : ∀ g, c g = k + 2 → c' g = k + 2) : ArmAt c' B TA k d A la u ab ac w :=
  ⟨h.row.recol h1, fun q hq => itsP_turn (turn_in h2) _ _ _ (h.its q hq)⟩

/-- The last arm's items are others. -/
theorem ArmAt.put {c : Col} {B : Nat} {TA : TypeId} {k d : Nat} {A : List ((Int × List Itm) × Value)} {la : Int} {u : Value} {ab ac : Nat} {w : World} (h : ArmAt c B TA k d A la u ab ac w) (h2 : c ab ≠ k + 2) (u' : Value) : ArmAt c B TA k d A la u' ab ac (w.setCell ⟨ab, A.length * 2 + 1, none⟩ u') := by
  refine ⟨⟨?_, h.row.2⟩, fun q hq => itsP_turn ((Chg.set c w ⟨ab, A.length * 2 + 1, none⟩ u').turn fun e => h2 e.symm) _ _ _ (h.its q hq)⟩
  have := own_setX h.row.1 (A.length * 2 + 1) u'
  rw [List.set_append_right _ _ (by rw [acells_len]; omega), acells_len, show A.length * 2 + 1 - A.length * 2 = 1 from by omega] at this
  exact this

end Go.Proofs.YtlnlpahmfpjjdaaDoor
