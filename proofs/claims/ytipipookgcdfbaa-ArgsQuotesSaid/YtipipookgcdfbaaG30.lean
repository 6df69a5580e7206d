/-
  Texts of the proof, put together: AgMem.
-/
import Derived.Test.YtipipookgcdfbaaG27
import Derived.Test.YtipipookgcdfbaaG18
import Derived.Test.YtipipookgcdfbaaG29

/-
  What hangs on some blocks alone; rows of rows of tokens.
-/
namespace Go.Proofs.Ytipipookgcdfbaa
open Go.RowKit

/-- The blocks P are as they were. -/
def StillB (P : Nat → Prop) (w w' : World) : Prop := w.heap.size ≤ w'.heap.size ∧ ∀ g, P g → g < w.heap.size → w'.heap[g]? = w.heap[g]?
theorem StillB.refl (P : Nat → Prop) (w : World) : StillB P w w := ⟨Nat.le_refl _, fun _ _ _ => rfl⟩
theorem StillB.of_below {P : Nat → Prop} {w w' : World} (b : Below w.heap.size w w') : StillB P w w' := ⟨b.size, fun g _ hg => b.block g hg⟩
theorem StillB.of_grown {P : Nat → Prop} {w w' : World} {o : Option Nat} (b : w.grownBy w' o) (h : ∀ g, P g → some g ≠ o) : StillB P w w' := ⟨b.size, fun g hp hg => b.block g hg (h g hp)⟩
/-- .. and it hangs on those alone. -/
def HeldIn (P : Nat → Prop) (w : World) (R : World → Prop) : Prop := ∀ w', StillB P w w' → R w'
theorem HeldIn.now {P : Nat → Prop} {w : World} {R : World → Prop} (h : HeldIn P w R) : R w := h w (StillB.refl P w)
theorem HeldIn.mono {P Q : Nat → Prop} {w : World} {R : World → Prop} (h : HeldIn P w R) (hPQ : ∀ g, P g → g < w.heap.size → Q g) : HeldIn Q w R := fun w' s => h w' ⟨s.1, fun g hp hg => s.2 g (hPQ g hp hg) hg⟩
theorem HeldIn.over {P : Nat → Prop} {w w' : World} {R : World → Prop} (h : HeldIn P w R) (s : StillB P w w') : HeldIn P w' R :=
  fun w'' t => h w'' ⟨Nat.le_trans s.1 t.1, fun g hp hg => (t.2 g hp (Nat.lt_of_lt_of_le hg s.1)).trans (s.2 g hp hg)⟩
theorem HeldIn.imp {P : Nat → Prop} {w : World} {R S : World → Prop} (h : HeldIn P w R) (f : ∀ w, R w → S w) : HeldIn P w S := fun w' s => f w' (h w' s)

theorem SitsA.held {S : List Xs} {v : Value} {w : World} {P : Nat → Prop} (h : SitsA S v w) (ho : ∀ g, g < w.heap.size → ¬ P g → OffG g v) : HeldIn P w (SitsA S v) := by
  intro w' s
  obtain ⟨a, cap, hv, h1, h2, h3⟩ := h
  refine ⟨a, cap, hv, h1, h2, fun k x hx => ?_⟩
  obtain ⟨g, o, ha, hg, c0, c1, c2, c3, c4⟩ := h3 k x hx
  have hp : P g := by
    apply Classical.byContradiction
    intro hn
    exact ho g hg hn ⟨g, o, none⟩ S.length cap (by rw [hv, ha]) (by have := (List.getElem?_eq_some_iff.1 hx).1; omega) rfl
  have e : ∀ j v, w.cell? ⟨g, j, none⟩ = some v → w'.cell? ⟨g, j, none⟩ = some v := fun j v hc => (World.cell?_of_block (s.2 g hp hg)).trans hc
  exact ⟨g, o, ha, Nat.lt_of_lt_of_le hg s.1, e _ _ c0, e _ _ c1, e _ _ c2, e _ _ c3, e _ _ c4⟩
theorem SitsA.same {S : List Xs} {v : Value} {w w' : World} (h : SitsA S v w) (s : StillB (fun _ => True) w w') : SitsA S v w' := h.held (fun _ _ hn => (hn trivial).elim) w' s
theorem ToksX.same {T : List Xt} {v : Value} {w w' : World} (h : ToksX T v w) (s : StillB (fun _ => True) w w') : ToksX T v w' := by
  obtain ⟨a, cap, hv, h1, h2, h3⟩ := h
  refine ⟨a, cap, hv, h1, h2, fun k t ht => ?_⟩
  obtain ⟨g, o, ha, hg, sv, ⟨c0, c1, c2, c3, c4, c5, c6, c7⟩, hs⟩ := h3 k t ht
  have e : ∀ j v, w.cell? ⟨g, j, none⟩ = some v → w'.cell? ⟨g, j, none⟩ = some v := fun j v hc => (World.cell?_of_block (s.2 g trivial hg)).trans hc
  exact ⟨g, o, ha, Nat.lt_of_lt_of_le hg s.1, sv, ⟨e _ _ c0, e _ _ c1, e _ _ c2, e _ _ c3, e _ _ c4, e _ _ c5, e _ _ c6, e _ _ c7⟩, hs.same s⟩
theorem ToksX.held {T : List Xt} {v : Value} {w : World} (h : ToksX T v w) : HeldIn (fun _ => True) w (ToksX T v) := fun _ s => h.same s
/-- What was there ahead of all. -/
theorem HeldIn.old {W w : World} {R : World → Prop} (h : HeldIn (fun _ => True) W R) (b : Below W.heap.size W w) : HeldIn (fun g => g < W.heap.size) w R :=
  fun w' s => h w' ⟨Nat.le_trans b.size s.1, fun g _ hg => (s.2 g hg (Nat.lt_of_lt_of_le hg b.size)).trans (b.block g hg)⟩

theorem own_same {B : Nat} {e : TypeId} {size n : Nat} {v : Value} {xs : List Value} {w w' : World} (h : w.ownsRow B e size v n xs) (hb : ∀ g, v.ownBlock = some g → w'.heap[g]? = w.heap[g]?) : w'.ownsRow B e size v n xs := by
  refine ⟨h.1, ?_⟩
  rcases h.2 with hn | ⟨g, cap, cur, rfl, h1, h2, rest⟩
  · exact .inl hn
  · exact .inr ⟨g, cap, cur, rfl, h1, (hb g rfl).trans h2, rest⟩
/-- Rows of different elements lie in different blocks. -/
theorem own_apart2 {B B' : Nat} {e e' : TypeId} {size size' n n' : Nat} {v v' : Value} {xs xs' : List Value} {w : World} (h : w.ownsRow B e size v n xs) (h' : w.ownsRow B' e' size' v' n' xs') (he : e ≠ e') : ∀ g, v.ownBlock = some g → v'.ownBlock ≠ some g := by
  intro g hg hg'
  obtain ⟨-, ⟨rfl, -⟩ | ⟨k, cap, cur, rfl, -, hh, -⟩⟩ := h
  · cases hg
  · obtain ⟨-, ⟨rfl, -⟩ | ⟨k', cap', cur', rfl, -, hh', -⟩⟩ := h'
    · cases hg'
    · simp only [Value.ownBlock, Option.some.injEq] at hg hg'
      subst hg
      subst hg'
      rw [hh] at hh'
      simp only [Option.some.injEq, Obj.cells.injEq] at hh'
      exact he hh'.2.1
theorem own_addr {a : Option Addr} {n c k : Nat} (h : (Value.slice a n c).ownBlock = some k) {B : Nat} {w : World} {e : TypeId} {size : Nat} {xs : List Value} (ho : w.ownsRow B e size (.slice a n c) n xs) : a = some ⟨k, 0, none⟩ := by
  obtain ⟨-, ⟨hv, -⟩ | ⟨g, c', cur, hv, -⟩⟩ := ho
  · simp only [Value.slice.injEq] at hv
    rw [hv.1] at h
    cases h
  · simp only [Value.slice.injEq, true_and] at hv
    obtain ⟨rfl, -⟩ := hv
    simp only [Value.ownBlock, Option.some.injEq] at h
    rw [h]

/-- Tokens in a row of their own, as they are read. -/
theorem toks_row {B : Nat} {a : Option Addr} {n c : Nat} {P : List (Xt × Value)} {w : World} (ho : w.ownsRow B 50 8 (.slice a n c) n (xcells P)) (hs : ∀ p ∈ P, SitsA p.1.ss p.2 w) : n = P.length ∧ ToksX (P.map Prod.fst) (.slice a n c) w := by
  have hl : n * 8 = P.length * 8 := by
    have := ho.1
    unfold xcells at this
    rw [flat_len (n := 8) (fun _ => rfl)] at this
    exact this.symm
  have hT : (P.map Prod.fst).length = P.length := List.length_map _
  obtain ⟨a', cap, hv, h1, h2, h3⟩ := row_form ho
  simp only [Value.slice.injEq, true_and] at hv
  obtain ⟨rfl, rfl⟩ := hv
  refine ⟨by omega, a, c, by rw [show n = (P.map Prod.fst).length from by omega], by omega, h2, fun k t ht => ?_⟩
  rw [List.getElem?_map, Option.map_eq_some_iff] at ht
  obtain ⟨p, hp, rfl⟩ := ht
  have hg := fun j (hj : j < 8) => flat_get (f := xcell) (n := 8) (fun _ => rfl) P k p hp j hj
  obtain ⟨g, hga, hlt, -⟩ := h3 (k * 8 + 0) _ ((hg 0 (by omega)).trans rfl)
  have hc : ∀ j u, j < 8 → (xcell p)[j]? = some u → w.cell? ⟨g, k * 8 + j, none⟩ = some u := by
    intro j u hj hu
    obtain ⟨g', hga', -, e⟩ := h3 (k * 8 + j) u ((hg j hj).trans hu)
    rw [hga] at hga'
    simp only [Option.some.injEq, Addr.mk.injEq, and_true] at hga'
    rw [hga']
    exact e
  refine ⟨g, 0, hga, hlt, p.2, ?_, hs p (List.mem_of_getElem? hp)⟩
  rw [Nat.zero_add]
  exact ⟨hc 0 _ (by omega) rfl, hc 1 _ (by omega) rfl, hc 2 _ (by omega) rfl, hc 3 _ (by omega) rfl, hc 4 _ (by omega) rfl, hc 5 _ (by omega) rfl, hc 6 _ (by omega) rfl, hc 7 _ (by omega) rfl⟩
/-- .. and what they hang on: their own block, and what their sites hang on. -/
theorem row_held {B : Nat} {a : Option Addr} {n c : Nat} {P : List (Xt × Value)} {w : World} {Q : Nat → Prop} (ho : w.ownsRow B 50 8 (.slice a n c) n (xcells P)) (hs : ∀ p ∈ P, HeldIn Q w (SitsA p.1.ss p.2)) (hq : ∀ g, (Value.slice a n c).ownBlock = some g → Q g) : HeldIn Q w (ToksX (P.map Prod.fst) (.slice a n c)) :=
  fun w' s => (toks_row (own_same ho fun g hg => s.2 g (hq g hg) (World.ownsRow.lt ho g hg).2) (fun p hp => hs p hp w' s)).2

/-- Tokens as they are read, with their sites' slices. -/
def ToksPv (P : List (Xt × Value)) (v : Value) (w : World) : Prop :=
  ∃ a cap, v = .slice a P.length cap ∧ P.length ≤ cap ∧ cap ≤ maxLen ∧ (a = none → cap = 0) ∧ ∀ k p, P[k]? = some p → ∃ g o, a = some ⟨g, o, none⟩ ∧ g < w.heap.size ∧ TokX p.1 p.2 g (o + k * 8) w ∧ SitsA p.1.ss p.2 w
theorem ToksX.pv {T : List Xt} {a : Option Addr} {n cap : Nat} {w : World} (h : ToksX T (.slice a n cap) w) (hz : a = none → cap = 0) : ∃ P, P.map Prod.fst = T ∧ ToksPv P (.slice a n cap) w := by
  obtain ⟨hn, h1, h2⟩ := h.len
  obtain ⟨P, hm, hs, hp⟩ := h.pairs
  have hl : P.length = T.length := by rw [← hm, List.length_map]
  refine ⟨P, hm, a, cap, by rw [hn, hl], by omega, h2, hz, fun k p hk => ?_⟩
  obtain ⟨g, o, ha, hg, hx⟩ := hp k p hk
  exact ⟨g, o, ha, hg, hx, hs p (List.mem_of_getElem? hk)⟩
theorem ToksPv.x {P : List (Xt × Value)} {v : Value} {w : World} (h : ToksPv P v w) : ToksX (P.map Prod.fst) v w := by
  obtain ⟨a, cap, hv, h1, h2, hz, h3⟩ := h
  have hl : (P.map Prod.fst).length = P.length := List.length_map _
  refine ⟨a, cap, by rw [hl]; exact hv, by omega, h2, fun k t ht => ?_⟩
  rw [List.getElem?_map, Option.map_eq_some_iff] at ht
  obtain ⟨p, hp, rfl⟩ := ht
  obtain ⟨g, o, ha, hg, hx, hs⟩ := h3 k p hp
  exact ⟨g, o, ha, hg, p.2, hx, hs⟩
theorem ToksPv.same {P : List (Xt × Value)} {v : Value} {w w' : World} (h : ToksPv P v w) (s : StillB (fun _ => True) w w') : ToksPv P v w' := by
  obtain ⟨a, cap, hv, h1, h2, hz, h3⟩ := h
  refine ⟨a, cap, hv, h1, h2, hz, fun k t ht => ?_⟩
  obtain ⟨g, o, ha, hg, ⟨c0, c1, c2, c3, c4, c5, c6, c7⟩, hs⟩ := h3 k t ht
  have e : ∀ j v, w.cell? ⟨g, j, none⟩ = some v → w'.cell? ⟨g, j, none⟩ = some v := fun j v hc => (World.cell?_of_block (s.2 g trivial hg)).trans hc
  exact ⟨g, o, ha, Nat.lt_of_lt_of_le hg s.1, ⟨e _ _ c0, e _ _ c1, e _ _ c2, e _ _ c3, e _ _ c4, e _ _ c5, e _ _ c6, e _ _ c7⟩, hs.same s⟩
theorem ToksPv.over {P : List (Xt × Value)} {v : Value} {w w' : World} (h : ToksPv P v w) (b : Below w.heap.size w w') : ToksPv P v w' := h.same (StillB.of_below b)
theorem ToksPv.sits {P : List (Xt × Value)} {v : Value} {w : World} (h : ToksPv P v w) : ∀ p ∈ P, SitsA p.1.ss p.2 w := by
  obtain ⟨a, cap, hv, h1, h2, hz, h3⟩ := h
  intro p hp
  obtain ⟨k, hk⟩ := List.mem_iff_getElem?.1 hp
  obtain ⟨g, o, ha, hg, hx, hs⟩ := h3 k p hk
  exact hs
theorem ToksPv.len {P : List (Xt × Value)} {a : Option Addr} {n cap : Nat} {w : World} (h : ToksPv P (.slice a n cap) w) : n = P.length ∧ n ≤ cap ∧ cap ≤ maxLen ∧ (a = none → cap = 0) := by
  obtain ⟨a', cap', hv, h1, h2, h3, -⟩ := h
  simp only [Value.slice.injEq] at hv
  obtain ⟨e0, e1, e2⟩ := hv
  subst e0 e1 e2
  exact ⟨rfl, h1, h2, h3⟩
theorem ToksPv.get {P : List (Xt × Value)} {a : Option Addr} {n cap : Nat} {w : World} (h : ToksPv P (.slice a n cap) w) {k : Nat} {p : Xt × Value} (hp : P[k]? = some p) : ∃ g o, a = some ⟨g, o, none⟩ ∧ g < w.heap.size ∧ TokX p.1 p.2 g (o + k * 8) w ∧ SitsA p.1.ss p.2 w := by
  obtain ⟨a', cap', hv, h1, h2, h3, h4⟩ := h
  simp only [Value.slice.injEq] at hv
  obtain ⟨rfl, -, -⟩ := hv
  exact h4 k p hp
/-- .. as a source. -/
theorem ToksPv.src {P : List (Xt × Value)} {a : Option Addr} {n cap : Nat} {w : World} (h : ToksPv P (.slice a n cap) w) : Src w (.slice a n cap) n 8 (xcells P) := by
  obtain ⟨hn, h1, h2, hz⟩ := h.len
  have hl : (xcells P).length = n * 8 := by unfold xcells; rw [flat_len (n := 8) (fun _ => rfl), hn]
  cases a with
  | none =>
    have hc := hz rfl
    subst hc
    have h0 : n = 0 := by omega
    subst h0
    exact .inl ⟨rfl, rfl, List.eq_nil_of_length_eq_zero (by omega)⟩
  | some ad =>
    refine .inr ⟨ad, cap, rfl, hl, fun j u hj => ?_⟩
    obtain ⟨p, hpk, hu⟩ := flat_split (n := 8) (by omega) (fun _ => rfl) hj
    obtain ⟨g, o, hg, hlt, hc, -⟩ := h.get hpk
    obtain rfl := Option.some.inj hg
    rw [addr_off]
    have := xcell_at hc (j % 8) u hu
    rw [Nat.add_assoc, Nat.div_add_mod'] at this
    exact this
theorem pv_row {B : Nat} {a : Option Addr} {n c : Nat} {P : List (Xt × Value)} {w : World} (ho : w.ownsRow B 50 8 (.slice a n c) n (xcells P)) (hs : ∀ p ∈ P, SitsA p.1.ss p.2 w) : ToksPv P (.slice a n c) w := by
  obtain ⟨hn, hx⟩ := toks_row ho hs
  have hz : a = none → c = 0 := by
    intro e
    obtain ⟨-, ⟨hv, -⟩ | ⟨g, cap, cur, hv, -⟩⟩ := ho
    · simp only [Value.slice.injEq] at hv
      exact hv.2.2
    · simp only [Value.slice.injEq] at hv
      rw [e] at hv
      cases hv.1
  obtain ⟨a', cap, hv, h1, h2, h3⟩ := row_form ho
  simp only [Value.slice.injEq, true_and] at hv
  obtain ⟨rfl, rfl⟩ := hv
  refine ⟨a, c, by rw [hn], by omega, h2, hz, fun k p hp => ?_⟩
  have hg := fun j (hj : j < 8) => flat_get (f := xcell) (n := 8) (fun _ => rfl) P k p hp j hj
  obtain ⟨g, hga, hlt, -⟩ := h3 (k * 8 + 0) _ ((hg 0 (by omega)).trans rfl)
  have hc : ∀ j u, j < 8 → (xcell p)[j]? = some u → w.cell? ⟨g, k * 8 + j, none⟩ = some u := by
    intro j u hj hu
    obtain ⟨g', hga', -, e⟩ := h3 (k * 8 + j) u ((hg j hj).trans hu)
    rw [hga] at hga'
    simp only [Option.some.injEq, Addr.mk.injEq, and_true] at hga'
    rw [hga']
    exact e
  refine ⟨g, 0, hga, hlt, ?_, hs p (List.mem_of_getElem? hp)⟩
  rw [Nat.zero_add]
  exact ⟨hc 0 _ (by omega) rfl, hc 1 _ (by omega) rfl, hc 2 _ (by omega) rfl, hc 3 _ (by omega) rfl, hc 4 _ (by omega) rfl, hc 5 _ (by omega) rfl, hc 6 _ (by omega) rfl, hc 7 _ (by omega) rfl⟩
theorem pv_held {B : Nat} {a : Option Addr} {n c : Nat} {P : List (Xt × Value)} {w : World} {Q : Nat → Prop} (ho : w.ownsRow B 50 8 (.slice a n c) n (xcells P)) (hs : ∀ p ∈ P, HeldIn Q w (SitsA p.1.ss p.2)) (hq : ∀ g, (Value.slice a n c).ownBlock = some g → Q g) : HeldIn Q w (ToksPv P (.slice a n c)) :=
  fun w' s => pv_row (own_same ho fun g hg => s.2 g (hq g hg) (World.ownsRow.lt ho g hg).2) (fun p hp => hs p hp w' s)
theorem HeldIn.sitsP {P : List (Xt × Value)} {v : Value} {w : World} {Q : Nat → Prop} (h : HeldIn Q w (ToksPv P v)) : ∀ p ∈ P, HeldIn Q w (SitsA p.1.ss p.2) := fun p hp => h.imp fun _ h => h.sits p hp
theorem HeldIn.xP {P : List (Xt × Value)} {v : Value} {w : World} {Q : Nat → Prop} (h : HeldIn Q w (ToksPv P v)) : HeldIn Q w (ToksX (P.map Prod.fst) v) := h.imp fun _ h => h.x
theorem pv_nil (w : World) : ToksPv [] (.slice none 0 0) w := ⟨none, 0, rfl, Nat.le_refl _, Nat.zero_le _, fun _ => rfl, fun k s h => by simp at h⟩
theorem pv_nil_held (Q : Nat → Prop) (w : World) : HeldIn Q w (ToksPv [] (.slice none 0 0)) := fun _ _ => pv_nil _
theorem own_nil {B : Nat} {e : TypeId} {size n c : Nat} {a : Option Addr} {xs : List Value} {w : World} (ho : w.ownsRow B e size (.slice a n c) n xs) : a = none → c = 0 := by
  intro e
  obtain ⟨-, ⟨hv, -⟩ | ⟨g, cap, cur, hv, -⟩⟩ := ho
  · simp only [Value.slice.injEq] at hv
    exact hv.2.2
  · simp only [Value.slice.injEq] at hv
    rw [e] at hv
    cases hv.1

/-- A clone hangs on what was made. -/
def ToksHeld (W : World) (T : List Xt) (e : Ending) (w' : World) : Prop := ∃ a n c, e = .returned (.slice a n c) ∧ n = T.length ∧ (a = none → c = 0) ∧ HeldIn (fun g => W.heap.size ≤ g) w' (ToksX T (.slice a n c)) ∧ Below W.heap.size W w'
theorem tclone_held {T : List Xt} {a : Option Addr} {n c : Nat} {w : World} (h : ToksX T (.slice a n c) w) (hT : T.length ≤ 500000) (hS : ∀ t ∈ T, t.ss.length ≤ 500000) :
    Calls Try.prog 29 #[.slice a n c] w (ToksHeld w T) := by
  refine (tclone_own h hT hS).mono fun e w' ⟨a3, n3, c3, P, he, hn, hC, hO⟩ => ⟨a3, n3, c3, he, hn, own_nil hC.up.1, ?_, hC.up.2⟩
  rw [← hC.map]
  exact row_held hC.up.1 (fun p hp => (hC.sits p hp).held fun g _ hg => hO p hp g (by omega)) fun g hg => (World.ownsRow.lt hC.up.1 g hg).1

/-- A row of rows of tokens, as it is read. -/
def RowsX (A : List (List Xt)) (v : Value) (w : World) : Prop :=
  ∃ a cap, v = .slice a A.length cap ∧ A.length ≤ cap ∧ cap ≤ maxLen ∧ (a = none → cap = 0) ∧ ∀ k T, A[k]? = some T → ∃ g o, a = some ⟨g, o, none⟩ ∧ g < w.heap.size ∧ ∃ b n c, w.cell? ⟨g, o + k, none⟩ = some (.slice b n c) ∧ (b = none → c = 0) ∧ ToksX T (.slice b n c) w
theorem RowsX.form {A : List (List Xt)} {v : Value} {w : World} (h : RowsX A v w) : ∃ a n cap, v = .slice a n cap := by
  obtain ⟨a, cap, hv, -⟩ := h
  exact ⟨a, _, cap, hv⟩
theorem RowsX.len {A : List (List Xt)} {a : Option Addr} {n cap : Nat} {w : World} (h : RowsX A (.slice a n cap) w) : n = A.length ∧ n ≤ cap ∧ cap ≤ maxLen ∧ (a = none → cap = 0) := by
  obtain ⟨a', cap', hv, h1, h2, h3, -⟩ := h
  simp only [Value.slice.injEq] at hv
  obtain ⟨e0, e1, e2⟩ := hv
  subst e0 e1 e2
  exact ⟨rfl, h1, h2, h3⟩
theorem RowsX.get {A : List (List Xt)} {a : Option Addr} {n cap : Nat} {w : World} (h : RowsX A (.slice a n cap) w) {k : Nat} {T : List Xt} (hT : A[k]? = some T) : ∃ g o b m c, a = some ⟨g, o, none⟩ ∧ g < w.heap.size ∧ w.cell? ⟨g, o + k, none⟩ = some (.slice b m c) ∧ (b = none → c = 0) ∧ ToksX T (.slice b m c) w := by
  obtain ⟨a', cap', hv, h1, h2, -, h3⟩ := h
  simp only [Value.slice.injEq] at hv
  obtain ⟨rfl, -, -⟩ := hv
  obtain ⟨g, o, ha, hg, b, m, c, hc, hz, hx⟩ := h3 k T hT
  exact ⟨g, o, b, m, c, ha, hg, hc, hz, hx⟩
theorem RowsX.over {A : List (List Xt)} {v : Value} {w w' : World} (h : RowsX A v w) (b : Below w.heap.size w w') : RowsX A v w' := by
  obtain ⟨a, cap, hv, h1, h2, hz, h3⟩ := h
  refine ⟨a, cap, hv, h1, h2, hz, fun k T hT => ?_⟩
  obtain ⟨g, o, ha, hg, p, n, c, hc, hq, hx⟩ := h3 k T hT
  exact ⟨g, o, ha, Nat.lt_of_lt_of_le hg b.size, p, n, c, bcell b hc hg, hq, hx.over b⟩
theorem rowsX_nil (w : World) : RowsX [] (.slice none 0 0) w := ⟨none, 0, rfl, Nat.le_refl _, Nat.zero_le _, fun _ => rfl, fun k s h => by simp at h⟩

end Go.Proofs.Ytipipookgcdfbaa
