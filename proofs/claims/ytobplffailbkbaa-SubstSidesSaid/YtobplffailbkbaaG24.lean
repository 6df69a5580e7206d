/-
  Texts of the proof, put together: AgMem, AgCR, AgStep, SuL.
-/
import Derived.Test.YtobplffailbkbaaG23
import Derived.Test.YtobplffailbkbaaG13
import Derived.Deep.RegionHeld3
import Derived.OwnWalk
import Derived.Test.YtobplffailbkbaaG14
import Derived.Test.YtobplffailbkbaaG09

/-
  What hangs on some blocks alone; rows of rows of tokens.
-/
namespace Go.Proofs.Ytobplffailbkbaa
open Go.RowKit

/-- The blocks P are as they were. -/
def StillB (P : Nat → Prop) (w w' : World) : Prop := w.heap.size ≤ w'.heap.size ∧ ∀ g, P g → g < w.heap.size → w'.heap[g]? = w.heap[g]?
theorem StillB.refl (P : Nat → Prop) (w : World) : StillB P w w := ⟨Nat.le_refl _, fun _ _ _ => rfl⟩
theorem StillB.of_below {P : Nat → Prop} {w w' : World} (b : Below w.heap.size w w') : StillB P w w' := ⟨b.size, fun g _ hg => b.block g hg⟩
theorem StillB.of_grown {P : Nat → Prop} {w w' : World} {o : Option Nat} (b : w.grownBy w' o) (h : ∀ g, P g → some g ≠ o) : StillB P w w' := ⟨b.size, fun g hp hg => b.block g hg (h g hp)⟩
/-- .. and it hangs on those alone. -/
def HeldIn (P : Nat → Prop) (w : World) (R : World → Prop) : Prop := ∀ w', StillB P w w' → R w'
theorem HeldIn.now {P : Nat → Prop} {w : World} {R : World → Prop} (h : HeldIn P w R) : R w := h w (StillB.refl P w)
theorem HeldIn.mono {P Q : Nat → Prop} {w : World} {R : World → Prop} (h : HeldIn P w R) (hPQ : ∀ g, P g → g < w.heap.size → Q g) : HeldIn Q w R := fun w' s => h w' ⟨s.1, fun g hp hg => s.2 g (hPQ g hp hg) hg⟩
theorem HeldIn.over {P : Nat → Prop} {w w' : World} {R : World → Prop} (h : HeldIn P w R) (s : StillB P w w') : HeldIn P w' R :=
  fun w'' t => h w'' ⟨Nat.le_trans s.1 t.1, fun g hp hg => (t.2 g hp (Nat.lt_of_lt_of_le hg s.1)).trans (s.2 g hp hg)⟩
theorem HeldIn.imp {P : Nat → Prop} {w : World} {R S : World → Prop} (h : HeldIn P w R) (f : ∀ w, R w → S w) : HeldIn P w S := fun w' s => f w' (h w' s)

theorem SitsA.held {S : List Xs} {v : Value} {w : World} {P : Nat → Prop} (h : SitsA S v w) (ho : ∀ g, g < w.heap.size → ¬ P g → OffG g v) : HeldIn P w (SitsA S v) := by
  intro w' s
  obtain ⟨a, cap, hv, h1, h2, h3⟩ := h
  refine ⟨a, cap, hv, h1, h2, fun k x hx => ?_⟩
  obtain ⟨g, o, ha, hg, c0, c1, c2, c3, c4⟩ := h3 k x hx
  have hp : P g := by
    apply Classical.byContradiction
    intro hn
    exact ho g hg hn ⟨g, o, none⟩ S.length cap (by rw [hv, ha]) (by have := (List.getElem?_eq_some_iff.1 hx).1; omega) rfl
  have e : ∀ j v, w.cell? ⟨g, j, none⟩ = some v → w'.cell? ⟨g, j, none⟩ = some v := fun j v hc => (World.cell?_of_block (s.2 g hp hg)).trans hc
  exact ⟨g, o, ha, Nat.lt_of_lt_of_le hg s.1, e _ _ c0, e _ _ c1, e _ _ c2, e _ _ c3, e _ _ c4⟩
theorem SitsA.same {S : List Xs} {v : Value} {w w' : World} (h : SitsA S v w) (s : StillB (fun _ => True) w w') : SitsA S v w' := h.held (fun _ _ hn => (hn trivial).elim) w' s
theorem ToksX.same {T : List Xt} {v : Value} {w w' : World} (h : ToksX T v w) (s : StillB (fun _ => True) w w') : ToksX T v w' := by
  obtain ⟨a, cap, hv, h1, h2, h3⟩ := h
  refine ⟨a, cap, hv, h1, h2, fun k t ht => ?_⟩
  obtain ⟨g, o, ha, hg, sv, ⟨c0, c1, c2, c3, c4, c5, c6, c7⟩, hs⟩ := h3 k t ht
  have e : ∀ j v, w.cell? ⟨g, j, none⟩ = some v → w'.cell? ⟨g, j, none⟩ = some v := fun j v hc => (World.cell?_of_block (s.2 g trivial hg)).trans hc
  exact ⟨g, o, ha, Nat.lt_of_lt_of_le hg s.1, sv, ⟨e _ _ c0, e _ _ c1, e _ _ c2, e _ _ c3, e _ _ c4, e _ _ c5, e _ _ c6, e _ _ c7⟩, hs.same s⟩
theorem ToksX.held {T : List Xt} {v : Value} {w : World} (h : ToksX T v w) : HeldIn (fun _ => True) w (ToksX T v) := fun _ s => h.same s
/-- What was there ahead of all. -/
theorem HeldIn.old {W w : World} {R : World → Prop} (h : HeldIn (fun _ => True) W R) (b : Below W.heap.size W w) : HeldIn (fun g => g < W.heap.size) w R :=
  fun w' s => h w' ⟨Nat.le_trans b.size s.1, fun g _ hg => (s.2 g hg (Nat.lt_of_lt_of_le hg b.size)).trans (b.block g hg)⟩

theorem own_same {B : Nat} {e : TypeId} {size n : Nat} {v : Value} {xs : List Value} {w w' : World} (h : w.ownsRow B e size v n xs) (hb : ∀ g, v.ownBlock = some g → w'.heap[g]? = w.heap[g]?) : w'.ownsRow B e size v n xs := by
  refine ⟨h.1, ?_⟩
  rcases h.2 with hn | ⟨g, cap, cur, rfl, h1, h2, rest⟩
  · exact .inl hn
  · exact .inr ⟨g, cap, cur, rfl, h1, (hb g rfl).trans h2, rest⟩
/-- Rows of different elements lie in different blocks. -/
theorem own_apart2 {B B' : Nat} {e e' : TypeId} {size size' n n' : Nat} {v v' : Value} {xs xs' : List Value} {w : World} (h : w.ownsRow B e size v n xs) (h' : w.ownsRow B' e' size' v' n' xs') (he : e ≠ e') : ∀ g, v.ownBlock = some g → v'.ownBlock ≠ some g := by
  intro g hg hg'
  obtain ⟨-, ⟨rfl, -⟩ | ⟨k, cap, cur, rfl, -, hh, -⟩⟩ := h
  · cases hg
  · obtain ⟨-, ⟨rfl, -⟩ | ⟨k', cap', cur', rfl, -, hh', -⟩⟩ := h'
    · cases hg'
    · simp only [Value.ownBlock, Option.some.injEq] at hg hg'
      subst hg
      subst hg'
      rw [hh] at hh'
      simp only [Option.some.injEq, Obj.cells.injEq] at hh'
      exact he hh'.2.1
theorem own_addr {a : Option Addr} {n c k : Nat} (h : (Value.slice a n c).ownBlock = some k) {B : Nat} {w : World} {e : TypeId} {size : Nat} {xs : List Value} (ho : w.ownsRow B e size (.slice a n c) n xs) : a = some ⟨k, 0, none⟩ := by
  obtain ⟨-, ⟨hv, -⟩ | ⟨g, c', cur, hv, -⟩⟩ := ho
  · simp only [Value.slice.injEq] at hv
    rw [hv.1] at h
    cases h
  · simp only [Value.slice.injEq, true_and] at hv
    obtain ⟨rfl, -⟩ := hv
    simp only [Value.ownBlock, Option.some.injEq] at h
    rw [h]

/-- Tokens in a row of their own, as they are read. -/
theorem toks_row {B : Nat} {a : Option Addr} {n c : Nat} {P : List (Xt × Value)} {w : World} (ho : w.ownsRow B 26 8 (.slice a n c) n (xcells P)) (hs : ∀ p ∈ P, SitsA p.1.ss p.2 w) : n = P.length ∧ ToksX (P.map Prod.fst) (.slice a n c) w := by
  have hl : n * 8 = P.length * 8 := by
    have := ho.1
    unfold xcells at this
    rw [flat_len (n := 8) (fun _ => rfl)] at this
    exact this.symm
  have hT : (P.map Prod.fst).length = P.length := List.length_map _
  obtain ⟨a', cap, hv, h1, h2, h3⟩ := row_form ho
  simp only [Value.slice.injEq, true_and] at hv
  obtain ⟨rfl, rfl⟩ := hv
  refine ⟨by omega, a, c, by rw [show n = (P.map Prod.fst).length from by omega], by omega, h2, fun k t ht => ?_⟩
  rw [List.getElem?_map, Option.map_eq_some_iff] at ht
  obtain ⟨p, hp, rfl⟩ := ht
  have hg := fun j (hj : j < 8) => flat_get (f := xcell) (n := 8) (fun _ => rfl) P k p hp j hj
  obtain ⟨g, hga, hlt, -⟩ := h3 (k * 8 + 0) _ ((hg 0 (by omega)).trans rfl)
  have hc : ∀ j u, j < 8 → (xcell p)[j]? = some u → w.cell? ⟨g, k * 8 + j, none⟩ = some u := by
    intro j u hj hu
    obtain ⟨g', hga', -, e⟩ := h3 (k * 8 + j) u ((hg j hj).trans hu)
    rw [hga] at hga'
    simp only [Option.some.injEq, Addr.mk.injEq, and_true] at hga'
    rw [hga']
    exact e
  refine ⟨g, 0, hga, hlt, p.2, ?_, hs p (List.mem_of_getElem? hp)⟩
  rw [Nat.zero_add]
  exact ⟨hc 0 _ (by omega) rfl, hc 1 _ (by omega) rfl, hc 2 _ (by omega) rfl, hc 3 _ (by omega) rfl, hc 4 _ (by omega) rfl, hc 5 _ (by omega) rfl, hc 6 _ (by omega) rfl, hc 7 _ (by omega) rfl⟩
/-- .. and what they hang on: their own block, and what their sites hang on. -/
theorem row_held {B : Nat} {a : Option Addr} {n c : Nat} {P : List (Xt × Value)} {w : World} {Q : Nat → Prop} (ho : w.ownsRow B 26 8 (.slice a n c) n (xcells P)) (hs : ∀ p ∈ P, HeldIn Q w (SitsA p.1.ss p.2)) (hq : ∀ g, (Value.slice a n c).ownBlock = some g → Q g) : HeldIn Q w (ToksX (P.map Prod.fst) (.slice a n c)) :=
  fun w' s => (toks_row (own_same ho fun g hg => s.2 g (hq g hg) (World.ownsRow.lt ho g hg).2) (fun p hp => hs p hp w' s)).2

/-- Tokens as they are read, with their sites' slices. -/
def ToksPv (P : List (Xt × Value)) (v : Value) (w : World) : Prop :=
  ∃ a cap, v = .slice a P.length cap ∧ P.length ≤ cap ∧ cap ≤ maxLen ∧ (a = none → cap = 0) ∧ ∀ k p, P[k]? = some p → ∃ g o, a = some ⟨g, o, none⟩ ∧ g < w.heap.size ∧ TokX p.1 p.2 g (o + k * 8) w ∧ SitsA p.1.ss p.2 w
theorem ToksX.pv {T : List Xt} {a : Option Addr} {n cap : Nat} {w : World} (h : ToksX T (.slice a n cap) w) (hz : a = none → cap = 0) : ∃ P, P.map Prod.fst = T ∧ ToksPv P (.slice a n cap) w := by
  obtain ⟨hn, h1, h2⟩ := h.len
  obtain ⟨P, hm, hs, hp⟩ := h.pairs
  have hl : P.length = T.length := by rw [← hm, List.length_map]
  refine ⟨P, hm, a, cap, by rw [hn, hl], by omega, h2, hz, fun k p hk => ?_⟩
  obtain ⟨g, o, ha, hg, hx⟩ := hp k p hk
  exact ⟨g, o, ha, hg, hx, hs p (List.mem_of_getElem? hk)⟩
theorem ToksPv.x {P : List (Xt × Value)} {v : Value} {w : World} (h : ToksPv P v w) : ToksX (P.map Prod.fst) v w := by
  obtain ⟨a, cap, hv, h1, h2, hz, h3⟩ := h
  have hl : (P.map Prod.fst).length = P.length := List.length_map _
  refine ⟨a, cap, by rw [hl]; exact hv, by omega, h2, fun k t ht => ?_⟩
  rw [List.getElem?_map, Option.map_eq_some_iff] at ht
  obtain ⟨p, hp, rfl⟩ := ht
  obtain ⟨g, o, ha, hg, hx, hs⟩ := h3 k p hp
  exact ⟨g, o, ha, hg, p.2, hx, hs⟩
theorem ToksPv.same {P : List (Xt × Value)} {v : Value} {w w' : World} (h : ToksPv P v w) (s : StillB (fun _ => True) w w') : ToksPv P v w' := by
  obtain ⟨a, cap, hv, h1, h2, hz, h3⟩ := h
  refine ⟨a, cap, hv, h1, h2, hz, fun k t ht => ?_⟩
  obtain ⟨g, o, ha, hg, ⟨c0, c1, c2, c3, c4, c5, c6, c7⟩, hs⟩ := h3 k t ht
  have e : ∀ j v, w.cell? ⟨g, j, none⟩ = some v → w'.cell? ⟨g, j, none⟩ = some v := fun j v hc => (World.cell?_of_block (s.2 g trivial hg)).trans hc
  exact ⟨g, o, ha, Nat.lt_of_lt_of_le hg s.1, ⟨e _ _ c0, e _ _ c1, e _ _ c2, e _ _ c3, e _ _ c4, e _ _ c5, e _ _ c6, e _ _ c7⟩, hs.same s⟩
theorem ToksPv.over {P : List (Xt × Value)} {v : Value} {w w' : World} (h : ToksPv P v w) (b : Below w.heap.size w w') : ToksPv P v w' := h.same (StillB.of_below b)
theorem ToksPv.sits {P : List (Xt × Value)} {v : Value} {w : World} (h : ToksPv P v w) : ∀ p ∈ P, SitsA p.1.ss p.2 w := by
  obtain ⟨a, cap, hv, h1, h2, hz, h3⟩ := h
  intro p hp
  obtain ⟨k, hk⟩ := List.mem_iff_getElem?.1 hp
  obtain ⟨g, o, ha, hg, hx, hs⟩ := h3 k p hk
  exact hs
theorem ToksPv.len {P : List (Xt × Value)} {a : Option Addr} {n cap : Nat} {w : World} (h : ToksPv P (.slice a n cap) w) : n = P.length ∧ n ≤ cap ∧ cap ≤ maxLen ∧ (a = none → cap = 0) := by
  obtain ⟨a', cap', hv, h1, h2, h3, -⟩ := h
  simp only [Value.slice.injEq] at hv
  obtain ⟨e0, e1, e2⟩ := hv
  subst e0 e1 e2
  exact ⟨rfl, h1, h2, h3⟩
theorem ToksPv.get {P : List (Xt × Value)} {a : Option Addr} {n cap : Nat} {w : World} (h : ToksPv P (.slice a n cap) w) {k : Nat} {p : Xt × Value} (hp : P[k]? = some p) : ∃ g o, a = some ⟨g, o, none⟩ ∧ g < w.heap.size ∧ TokX p.1 p.2 g (o + k * 8) w ∧ SitsA p.1.ss p.2 w := by
  obtain ⟨a', cap', hv, h1, h2, h3, h4⟩ := h
  simp only [Value.slice.injEq] at hv
  obtain ⟨rfl, -, -⟩ := hv
  exact h4 k p hp
/-- .. as a source. -/
theorem ToksPv.src {P : List (Xt × Value)} {a : Option Addr} {n cap : Nat} {w : World} (h : ToksPv P (.slice a n cap) w) : Src w (.slice a n cap) n 8 (xcells P) := by
  obtain ⟨hn, h1, h2, hz⟩ := h.len
  have hl : (xcells P).length = n * 8 := by unfold xcells; rw [flat_len (n := 8) (fun _ => rfl), hn]
  cases a with
  | none =>
    have hc := hz rfl
    subst hc
    have h0 : n = 0 := by omega
    subst h0
    exact .inl ⟨rfl, rfl, List.eq_nil_of_length_eq_zero (by omega)⟩
  | some ad =>
    refine .inr ⟨ad, cap, rfl, hl, fun j u hj => ?_⟩
    obtain ⟨p, hpk, hu⟩ := flat_split (n := 8) (by omega) (fun _ => rfl) hj
    obtain ⟨g, o, hg, hlt, hc, -⟩ := h.get hpk
    obtain rfl := Option.some.inj hg
    rw [addr_off]
    have := xcell_at hc (j % 8) u hu
    rw [Nat.add_assoc, Nat.div_add_mod'] at this
    exact this
theorem pv_row {B : Nat} {a : Option Addr} {n c : Nat} {P : List (Xt × Value)} {w : World} (ho : w.ownsRow B 26 8 (.slice a n c) n (xcells P)) (hs : ∀ p ∈ P, SitsA p.1.ss p.2 w) : ToksPv P (.slice a n c) w := by
  obtain ⟨hn, hx⟩ := toks_row ho hs
  have hz : a = none → c = 0 := by
    intro e
    obtain ⟨-, ⟨hv, -⟩ | ⟨g, cap, cur, hv, -⟩⟩ := ho
    · simp only [Value.slice.injEq] at hv
      exact hv.2.2
    · simp only [Value.slice.injEq] at hv
      rw [e] at hv
      cases hv.1
  obtain ⟨a', cap, hv, h1, h2, h3⟩ := row_form ho
  simp only [Value.slice.injEq, true_and] at hv
  obtain ⟨rfl, rfl⟩ := hv
  refine ⟨a, c, by rw [hn], by omega, h2, hz, fun k p hp => ?_⟩
  have hg := fun j (hj : j < 8) => flat_get (f := xcell) (n := 8) (fun _ => rfl) P k p hp j hj
  obtain ⟨g, hga, hlt, -⟩ := h3 (k * 8 + 0) _ ((hg 0 (by omega)).trans rfl)
  have hc : ∀ j u, j < 8 → (xcell p)[j]? = some u → w.cell? ⟨g, k * 8 + j, none⟩ = some u := by
    intro j u hj hu
    obtain ⟨g', hga', -, e⟩ := h3 (k * 8 + j) u ((hg j hj).trans hu)
    rw [hga] at hga'
    simp only [Option.some.injEq, Addr.mk.injEq, and_true] at hga'
    rw [hga']
    exact e
  refine ⟨g, 0, hga, hlt, ?_, hs p (List.mem_of_getElem? hp)⟩
  rw [Nat.zero_add]
  exact ⟨hc 0 _ (by omega) rfl, hc 1 _ (by omega) rfl, hc 2 _ (by omega) rfl, hc 3 _ (by omega) rfl, hc 4 _ (by omega) rfl, hc 5 _ (by omega) rfl, hc 6 _ (by omega) rfl, hc 7 _ (by omega) rfl⟩
theorem pv_held {B : Nat} {a : Option Addr} {n c : Nat} {P : List (Xt × Value)} {w : World} {Q : Nat → Prop} (ho : w.ownsRow B 26 8 (.slice a n c) n (xcells P)) (hs : ∀ p ∈ P, HeldIn Q w (SitsA p.1.ss p.2)) (hq : ∀ g, (Value.slice a n c).ownBlock = some g → Q g) : HeldIn Q w (ToksPv P (.slice a n c)) :=
  fun w' s => pv_row (own_same ho fun g hg => s.2 g (hq g hg) (World.ownsRow.lt ho g hg).2) (fun p hp => hs p hp w' s)
theorem HeldIn.sitsP {P : List (Xt × Value)} {v : Value} {w : World} {Q : Nat → Prop} (h : HeldIn Q w (ToksPv P v)) : ∀ p ∈ P, HeldIn Q w (SitsA p.1.ss p.2) := fun p hp => h.imp fun _ h => h.sits p hp
theorem HeldIn.xP {P : List (Xt × Value)} {v : Value} {w : World} {Q : Nat → Prop} (h : HeldIn Q w (ToksPv P v)) : HeldIn Q w (ToksX (P.map Prod.fst) v) := h.imp fun _ h => h.x
theorem pv_nil (w : World) : ToksPv [] (.slice none 0 0) w := ⟨none, 0, rfl, Nat.le_refl _, Nat.zero_le _, fun _ => rfl, fun k s h => by simp at h⟩
theorem pv_nil_held (Q : Nat → Prop) (w : World) : HeldIn Q w (ToksPv [] (.slice none 0 0)) := fun _ _ => pv_nil _
theorem own_nil {B : Nat} {e : TypeId} {size n c : Nat} {a : Option Addr} {xs : List Value} {w : World} (ho : w.ownsRow B e size (.slice a n c) n xs) : a = none → c = 0 := by
  intro e
  obtain ⟨-, ⟨hv, -⟩ | ⟨g, cap, cur, hv, -⟩⟩ := ho
  · simp only [Value.slice.injEq] at hv
    exact hv.2.2
  · simp only [Value.slice.injEq] at hv
    rw [e] at hv
    cases hv.1

/-- A clone hangs on what was made. -/
def ToksHeld (W : World) (T : List Xt) (e : Ending) (w' : World) : Prop := ∃ a n c, e = .returned (.slice a n c) ∧ n = T.length ∧ (a = none → c = 0) ∧ HeldIn (fun g => W.heap.size ≤ g) w' (ToksX T (.slice a n c)) ∧ Below W.heap.size W w'
theorem tclone_held {T : List Xt} {a : Option Addr} {n c : Nat} {w : World} (h : ToksX T (.slice a n c) w) (hT : T.length ≤ 500000) (hS : ∀ t ∈ T, t.ss.length ≤ 500000) :
    Calls Try.prog 56 #[.slice a n c] w (ToksHeld w T) := by
  refine (tclone_own h hT hS).mono fun e w' ⟨a3, n3, c3, P, he, hn, hC, hO⟩ => ⟨a3, n3, c3, he, hn, own_nil hC.up.1, ?_, hC.up.2⟩
  rw [← hC.map]
  exact row_held hC.up.1 (fun p hp => (hC.sits p hp).held fun g _ hg => hO p hp g (by omega)) fun g hg => (World.ownsRow.lt hC.up.1 g hg).1

/-- A row of rows of tokens, as it is read. -/
def RowsX (A : List (List Xt)) (v : Value) (w : World) : Prop :=
  ∃ a cap, v = .slice a A.length cap ∧ A.length ≤ cap ∧ cap ≤ maxLen ∧ (a = none → cap = 0) ∧ ∀ k T, A[k]? = some T → ∃ g o, a = some ⟨g, o, none⟩ ∧ g < w.heap.size ∧ ∃ b n c, w.cell? ⟨g, o + k, none⟩ = some (.slice b n c) ∧ (b = none → c = 0) ∧ ToksX T (.slice b n c) w
theorem RowsX.form {A : List (List Xt)} {v : Value} {w : World} (h : RowsX A v w) : ∃ a n cap, v = .slice a n cap := by
  obtain ⟨a, cap, hv, -⟩ := h
  exact ⟨a, _, cap, hv⟩
theorem RowsX.len {A : List (List Xt)} {a : Option Addr} {n cap : Nat} {w : World} (h : RowsX A (.slice a n cap) w) : n = A.length ∧ n ≤ cap ∧ cap ≤ maxLen ∧ (a = none → cap = 0) := by
  obtain ⟨a', cap', hv, h1, h2, h3, -⟩ := h
  simp only [Value.slice.injEq] at hv
  obtain ⟨e0, e1, e2⟩ := hv
  subst e0 e1 e2
  exact ⟨rfl, h1, h2, h3⟩
theorem RowsX.get {A : List (List Xt)} {a : Option Addr} {n cap : Nat} {w : World} (h : RowsX A (.slice a n cap) w) {k : Nat} {T : List Xt} (hT : A[k]? = some T) : ∃ g o b m c, a = some ⟨g, o, none⟩ ∧ g < w.heap.size ∧ w.cell? ⟨g, o + k, none⟩ = some (.slice b m c) ∧ (b = none → c = 0) ∧ ToksX T (.slice b m c) w := by
  obtain ⟨a', cap', hv, h1, h2, -, h3⟩ := h
  simp only [Value.slice.injEq] at hv
  obtain ⟨rfl, -, -⟩ := hv
  obtain ⟨g, o, ha, hg, b, m, c, hc, hz, hx⟩ := h3 k T hT
  exact ⟨g, o, b, m, c, ha, hg, hc, hz, hx⟩
theorem RowsX.over {A : List (List Xt)} {v : Value} {w w' : World} (h : RowsX A v w) (b : Below w.heap.size w w') : RowsX A v w' := by
  obtain ⟨a, cap, hv, h1, h2, hz, h3⟩ := h
  refine ⟨a, cap, hv, h1, h2, hz, fun k T hT => ?_⟩
  obtain ⟨g, o, ha, hg, p, n, c, hc, hq, hx⟩ := h3 k T hT
  exact ⟨g, o, ha, Nat.lt_of_lt_of_le hg b.size, p, n, c, bcell b hc hg, hq, hx.over b⟩
theorem rowsX_nil (w : World) : RowsX [] (.slice none 0 0) w := ⟨none, 0, rfl, Nat.le_refl _, Nat.zero_le _, fun _ => rfl, fun k s h => by simp at h⟩

end Go.Proofs.Ytobplffailbkbaa

/-
  Rows of tokens, and tokens, that a call puts together side by side.
-/
namespace Go.Proofs.Ytobplffailbkbaa
open Go.RowKit

theorem Try.infoRowT : (Try.prog.info? 28).map (fun i => (i.zero, i.size, i.bytes)) = some (some (.slice none 0 0), 1, 24) := by kernel_rfl

/-- None of the two rows lies there. -/
def NotHot (al ac : Option Addr) (g : Nat) : Prop := al ≠ some ⟨g, 0, none⟩ ∧ ac ≠ some ⟨g, 0, none⟩
structure CR (W : World) (ls : List (List Xt)) (cs : List Xt) (al : Option Addr) (nl cl : Nat) (ac : Option Addr) (nc cc : Nat) (w : World) : Prop where
  list : ∃ V : List (List Xt × Value), V.map Prod.fst = ls ∧ w.ownsRow W.heap.size 28 1 (.slice al nl cl) nl (V.map Prod.snd) ∧ ∀ p ∈ V, (∀ n c, p.2 = .slice none n c → c = 0) ∧ HeldIn (NotHot al ac) w (ToksX p.1 p.2)
  coms : ∃ P : List (Xt × Value), P.map Prod.fst = cs ∧ w.ownsRow W.heap.size 26 8 (.slice ac nc cc) nc (xcells P) ∧ ∀ p ∈ P, HeldIn (NotHot al ac) w (SitsA p.1.ss p.2)
  bel : Below W.heap.size W w
theorem CR.nil (W : World) : CR W [] [] none 0 0 none 0 0 W := ⟨⟨[], rfl, (up_nil W _ 1).1, fun _ h => by cases h⟩, ⟨[], rfl, (up_nil W _ 8).1, fun _ h => by cases h⟩, Below.refl _ _⟩
theorem CR.over {W : World} {ls : List (List Xt)} {cs : List Xt} {al : Option Addr} {nl cl : Nat} {ac : Option Addr} {nc cc : Nat} {w w' : World} (h : CR W ls cs al nl cl ac nc cc w) (b : Below w.heap.size w w') : CR W ls cs al nl cl ac nc cc w' := by
  obtain ⟨⟨V, hV, ho, hv⟩, ⟨P, hP, hq, hp⟩, hb⟩ := h
  exact ⟨⟨V, hV, own_same ho fun g hg => b.block g (World.ownsRow.lt ho g hg).2, fun p hp => ⟨(hv p hp).1, (hv p hp).2.over (StillB.of_below b)⟩⟩, ⟨P, hP, own_same hq fun g hg => b.block g (World.ownsRow.lt hq g hg).2, fun p hp' => (hp p hp').over (StillB.of_below b)⟩, below_up hb b⟩
/-- What was there ahead of all hangs on neither. -/
theorem CR.old {W : World} {ls : List (List Xt)} {cs : List Xt} {al : Option Addr} {nl cl : Nat} {ac : Option Addr} {nc cc : Nat} {w : World} (h : CR W ls cs al nl cl ac nc cc w) {R : World → Prop} (hR : HeldIn (fun _ => True) W R) : HeldIn (NotHot al ac) w R := by
  obtain ⟨⟨V, hV, ho, hv⟩, ⟨P, hP, hq, hp⟩, hb⟩ := h
  refine (hR.old hb).mono fun g hg _ => ⟨fun e => ?_, fun e => ?_⟩
  · have := (World.ownsRow.lt ho g (by rw [e]; rfl)).1
    omega
  · have := (World.ownsRow.lt hq g (by rw [e]; rfl)).1
    omega
/-- What was made behind them hangs on neither. -/
theorem CR.young {W : World} {ls : List (List Xt)} {cs : List Xt} {al : Option Addr} {nl cl : Nat} {ac : Option Addr} {nc cc : Nat} {w w' : World} (h : CR W ls cs al nl cl ac nc cc w) {R : World → Prop} (hR : HeldIn (fun g => w.heap.size ≤ g) w' R) : HeldIn (NotHot al ac) w' R := by
  obtain ⟨⟨V, hV, ho, hv⟩, ⟨P, hP, hq, hp⟩, hb⟩ := h
  refine hR.mono fun g hg _ => ⟨fun e => ?_, fun e => ?_⟩
  · have := (World.ownsRow.lt ho g (by rw [e]; rfl)).2
    omega
  · have := (World.ownsRow.lt hq g (by rw [e]; rfl)).2
    omega

theorem hot_grown {B : Nat} {w w' : World} {e : TypeId} {size n c : Nat} {a : Option Addr} {xs : List Value} (ho : w.ownsRow B e size (.slice a n c) n xs) (hg : w.grownBy w' (Value.slice a n c).ownBlock) {b : Nat} (hb : (Value.slice a n c).ownBlock = some b ∨ w.heap.size ≤ b) {Q : Nat → Prop} {R : World → Prop} (h : HeldIn (fun g => a ≠ some ⟨g, 0, none⟩ ∧ Q g) w R) :
    HeldIn (fun g => (some ⟨b, 0, none⟩ : Option Addr) ≠ some ⟨g, 0, none⟩ ∧ Q g) w' R := by
  have h1 : HeldIn (fun g => (a ≠ some ⟨g, 0, none⟩ ∧ Q g) ∧ g < w.heap.size) w R := h.mono fun g hg hl => ⟨hg, hl⟩
  have h2 := h1.over (StillB.of_grown hg fun g hgq e => hgq.1.1 (own_addr e.symm ho))
  refine h2.mono fun g hgq _ => ⟨fun e => ?_, hgq.1.2⟩
  simp only [Option.some.injEq, Addr.mk.injEq, and_true] at e
  subst e
  rcases hb with hb | hb
  · exact hgq.1.1 (own_addr hb ho)
  · have := hgq.2
    omega

/-- A row more. -/
theorem CR.pushL {W : World} {ls : List (List Xt)} {cs : List Xt} {al : Option Addr} {nl cl : Nat} {ac : Option Addr} {nc cc : Nat} {w : World} {ty : TypeId} (h : CR W ls cs al nl cl ac nc cc w) {T : List Xt} {b0 : Option Addr} {n0 c0 : Nat} {sv : Value} (hv : HeldIn (NotHot al ac) w (ToksX T (.slice b0 n0 c0))) (hz : b0 = none → c0 = 0) (hs : Src w sv 1 1 [.slice b0 n0 c0]) (hn : nl ≤ 999999) :
    ∃ b n' cap w', (Builtin.append_ #[34, 34] ty #[.slice al nl cl, sv]).run Try.prog w = .ok (.slice (some ⟨b, 0, none⟩) n' cap) w' ∧ n' = nl + 1 ∧ CR W (ls ++ [T]) cs (some ⟨b, 0, none⟩) n' cap ac nc cc w' ∧ ∀ R, HeldIn (NotHot al ac) w R → HeldIn (NotHot (some ⟨b, 0, none⟩) ac) w' R := by
  obtain ⟨⟨V, hV, ho, hvs⟩, ⟨P, hP, hq, hp⟩, hb⟩ := h
  obtain ⟨i0, hi, hz0, hz1, hz2⟩ := info_parts Try.infoRowT
  obtain ⟨b, cap, w', hr, h2, hg, h4⟩ := own_app (ty := ty) Try.underlying34 hi hz0 hz1 hz2 rfl (by decide) (by decide) ho hs (by intro u hu; simp only [List.mem_cons, List.not_mem_nil, or_false] at hu; rw [hu]; rfl) (by omega) (by omega) hb.size
  have tr : ∀ R, HeldIn (NotHot al ac) w R → HeldIn (NotHot (some ⟨b, 0, none⟩) ac) w' R := fun R hR => hot_grown ho hg h4 hR
  refine ⟨b, _, cap, w', hr, rfl, ⟨⟨V ++ [(T, .slice b0 n0 c0)], by rw [List.map_append, hV]; rfl, by rw [List.map_append]; exact h2, fun p hp' => ?_⟩, ⟨P, hP, own_same hq fun g hg' => hg.block g (World.ownsRow.lt hq g hg').2 fun e => own_apart2 ho hq (by decide) g e.symm hg', fun p hp' => tr _ (hp p hp')⟩, hb.grown hg hb.size fun k hk => (World.ownsRow.lt ho k hk).1⟩, tr⟩
  rcases List.mem_append.1 hp' with hp' | hp'
  · exact ⟨(hvs p hp').1, tr _ (hvs p hp').2⟩
  · simp only [List.mem_cons, List.not_mem_nil, or_false] at hp'
    subst hp'
    exact ⟨fun n c e => by simp only [Value.slice.injEq] at e; rw [← e.2.2]; exact hz e.1, tr _ hv⟩

/-- A token more. -/
theorem CR.pushC {W : World} {ls : List (List Xt)} {cs : List Xt} {al : Option Addr} {nl cl : Nat} {ac : Option Addr} {nc cc : Nat} {w : World} {ty : TypeId} (h : CR W ls cs al nl cl ac nc cc w) {t : Xt} {b0 : Option Addr} {n0 c0 : Nat} {sv : Value} (hv : HeldIn (NotHot al ac) w (SitsA t.ss (.slice b0 n0 c0))) (hs : Src w sv 1 8 (xcell (t, .slice b0 n0 c0))) (hn : nc ≤ 999999) :
    ∃ b n' cap w', (Builtin.append_ #[28, 28] ty #[.slice ac nc cc, sv]).run Try.prog w = .ok (.slice (some ⟨b, 0, none⟩) n' cap) w' ∧ n' = nc + 1 ∧ CR W ls (cs ++ [t]) al nl cl (some ⟨b, 0, none⟩) n' cap w' ∧ ∀ R, HeldIn (NotHot al ac) w R → HeldIn (NotHot al (some ⟨b, 0, none⟩)) w' R := by
  obtain ⟨⟨V, hV, ho, hvs⟩, ⟨P, hP, hq, hp⟩, hb⟩ := h
  obtain ⟨i0, hi, hz0, hz1, hz2⟩ := info_parts Try.infoTokC
  obtain ⟨b, cap, w', hr, h2, hg, h4⟩ := own_app (ty := ty) Try.underlying28 hi hz0 hz1 hz2 rfl (by decide) (by decide) hq hs (by
    intro u hu
    simp only [xcell, List.mem_cons, List.not_mem_nil, or_false] at hu
    rcases hu with rfl | rfl | rfl | rfl | rfl | rfl | rfl | rfl <;> rfl) (by omega) (by omega) hb.size
  have sw : ∀ (a c : Option Addr) (x : World) R, HeldIn (NotHot a c) x R → HeldIn (fun g => c ≠ some ⟨g, 0, none⟩ ∧ a ≠ some ⟨g, 0, none⟩) x R := fun a c x R hR => hR.mono fun g hg _ => ⟨hg.2, hg.1⟩
  have tr : ∀ R, HeldIn (NotHot al ac) w R → HeldIn (NotHot al (some ⟨b, 0, none⟩)) w' R := fun R hR => (hot_grown hq hg h4 (Q := fun g => al ≠ some ⟨g, 0, none⟩) (sw _ _ _ _ hR)).mono fun g hg _ => ⟨hg.2, hg.1⟩
  refine ⟨b, _, cap, w', hr, rfl, ⟨⟨V, hV, own_same ho fun g hg' => hg.block g (World.ownsRow.lt ho g hg').2 fun e => own_apart2 hq ho (by decide) g e.symm hg', fun p hp' => ⟨(hvs p hp').1, tr _ (hvs p hp').2⟩⟩, ⟨P ++ [(t, .slice b0 n0 c0)], by rw [List.map_append, hP]; rfl, by rw [show xcells (P ++ [(t, .slice b0 n0 c0)]) = xcells P ++ xcell (t, .slice b0 n0 c0) from by simp [xcells]]; exact h2, fun p hp' => ?_⟩, hb.grown hg hb.size fun k hk => (World.ownsRow.lt hq k hk).1⟩, tr⟩
  rcases List.mem_append.1 hp' with hp' | hp'
  · exact tr _ (hp p hp')
  · simp only [List.mem_cons, List.not_mem_nil, or_false] at hp'
    subst hp'
    exact tr _ hv

/-- As they are read. -/
theorem rows_row {B : Nat} {a : Option Addr} {n c : Nat} {V : List (List Xt × Value)} {w : World} (ho : w.ownsRow B 28 1 (.slice a n c) n (V.map Prod.snd)) (hs : ∀ p ∈ V, (∀ n c, p.2 = .slice none n c → c = 0) ∧ ToksX p.1 p.2 w) : n = V.length ∧ RowsX (V.map Prod.fst) (.slice a n c) w := by
  have hl : n = V.length := by
    have := ho.1
    rw [List.length_map] at this
    omega
  have hT : (V.map Prod.fst).length = V.length := List.length_map _
  have hz := own_nil ho
  obtain ⟨a', cap, hv, h1, h2, h3⟩ := row_form ho
  simp only [Value.slice.injEq, true_and] at hv
  obtain ⟨rfl, rfl⟩ := hv
  refine ⟨hl, a, c, by rw [show n = (V.map Prod.fst).length from by omega], by omega, h2, hz, fun k T ht => ?_⟩
  rw [List.getElem?_map, Option.map_eq_some_iff] at ht
  obtain ⟨p, hp, rfl⟩ := ht
  obtain ⟨g, hga, hlt, hc⟩ := h3 k p.2 (by rw [List.getElem?_map, hp]; rfl)
  obtain ⟨hn0, hx⟩ := hs p (List.mem_of_getElem? hp)
  obtain ⟨b, m, q, hf⟩ := hx.form
  rw [hf] at hx hc
  exact ⟨g, 0, hga, hlt, b, m, q, by rw [Nat.zero_add]; exact hc, (fun e => hn0 m q (by rw [hf, e])), hx⟩
theorem CR.done {W : World} {ls : List (List Xt)} {cs : List Xt} {al : Option Addr} {nl cl : Nat} {ac : Option Addr} {nc cc : Nat} {w : World} (h : CR W ls cs al nl cl ac nc cc w) : nl = ls.length ∧ RowsX ls (.slice al nl cl) w ∧ nc = cs.length ∧ ToksX cs (.slice ac nc cc) w := by
  obtain ⟨⟨V, hV, ho, hvs⟩, ⟨P, hP, hq, hp⟩, hb⟩ := h
  obtain ⟨g1, g2⟩ := rows_row ho fun p hp => ⟨(hvs p hp).1, (hvs p hp).2.now⟩
  obtain ⟨g3, g4⟩ := toks_row hq fun p hp' => (hp p hp').now
  rw [hV] at g2
  rw [hP] at g4
  exact ⟨by rw [g1, ← hV, List.length_map], g2, by rw [g3, ← hP, List.length_map], g4⟩

end Go.Proofs.Ytobplffailbkbaa

/-
  A row of tokens copied, and a token more behind it: at the steps of a region that draws.
-/
namespace Go.Proofs.Ytobplffailbkbaa
open Go.RowKit

theorem Up.drewA {W w : World} {e : TypeId} {size : Nat} {v : Value} {n : Nat} {xs : List Value} (h : Up W e size v n xs w) : Up W e size v n xs w.drew := Up.over h (Below.refl _ _).drew
theorem Up.low {W W' w : World} {e : TypeId} {size : Nat} {v : Value} {n : Nat} {xs : List Value} (h : Up W' e size v n xs w) (b : Below W.heap.size W W') : Up W e size v n xs w := ⟨row_low h.1 b.size, below_up b h.2⟩
/-- An empty row behind another alloc. -/
theorem up_empty2 (w : World) (o : Obj) (e : TypeId) (size : Nat) : Up w e size (.slice (some ⟨w.heap.size + 1, 0, none⟩) 0 0) 0 [] ((w.alloc o).alloc (.cells #[] e)) := by
  have h := (up_empty (w.alloc o) e size).low ((Below.refl w.heap.size w).alloc (Nat.le_refl _) o)
  rw [show (w.alloc o).heap.size = w.heap.size + 1 from by simp] at h
  exact h
theorem blk_new (w : World) (o : Obj) : (w.alloc o).heap[w.heap.size]? = some o := heap_alloc_new w o
theorem blk_new1 (w : World) (o o' : Obj) : ((w.alloc o).alloc o').heap[w.heap.size]? = some o := (Below.heap_alloc _ _ _ (by simp)).trans (heap_alloc_new w o)
theorem blk_new2 (w : World) (o o' : Obj) : ((w.alloc o).alloc o').heap[w.heap.size + 1]? = some o' := by
  have h := heap_alloc_new (w.alloc o) o'
  rw [show (w.alloc o).heap.size = w.heap.size + 1 from by simp] at h
  exact h

/-- A token's array of one. -/
def tokObj (p : Xt × Value) : Obj := .cells #[.int .i64 p.1.k, .string p.1.x, .bool p.1.sp, .string p.1.g, .int .i64 p.1.f, .int .i64 p.1.t, .bool p.1.d, p.2] 26
theorem src_tok {w : World} {g : Nat} {p : Xt × Value} (h : w.heap[g]? = some (tokObj p)) : Src w (.slice (some ⟨g, 0, none⟩) 1 1) 1 8 (xcell p) := by
  unfold tokObj at h
  refine .inr ⟨_, 1, rfl, rfl, fun j u hj => ?_⟩
  rw [addr_add, Lib.cell_of_heap h]
  unfold xcell at hj
  match j, hj with
  | 0, hj => exact hj
  | 1, hj => exact hj
  | 2, hj => exact hj
  | 3, hj => exact hj
  | 4, hj => exact hj
  | 5, hj => exact hj
  | 6, hj => exact hj
  | 7, hj => exact hj
  | j + 8, hj => simp at hj
theorem xcell_one {p : Xt × Value} {a : Option Addr} {n c : Nat} (h : p.2 = .slice a n c) : ∀ u ∈ xcell p, u.oneCell' = true := by
  intro u hu
  simp only [xcell, List.mem_cons, List.not_mem_nil, or_false] at hu
  rcases hu with rfl | rfl | rfl | rfl | rfl | rfl | rfl | rfl
  all_goals first | rfl | (rw [h]; rfl)
theorem xcells_oneP {P : List (Xt × Value)} {v : Value} {w : World} (h : ToksPv P v w) : ∀ u ∈ xcells P, u.oneCell' = true := xcells_one (w := w) h.sits
theorem xcells_snoc (P : List (Xt × Value)) (p : Xt × Value) : xcells (P ++ [p]) = xcells P ++ xcell p := by simp [xcells]
theorem xcells_cat (P Q : List (Xt × Value)) : xcells (P ++ Q) = xcells P ++ xcells Q := by simp [xcells]

theorem step_tok {ops : Array Oper} {o : Oper} {a : Act} {w : World} {K : Act → World → Prop} {Q : Exit → Act → World → Prop} {E : Prop} (hgd : o.guard = none) (s x : Operand)
    (ho : o.op = .call { callee := .builtin .append, args := #[s, x], argTypes := #[28, 28] })
    (W : World) (d v : Value) (n m : Nat) (xs news : List Value) (hs : a.eval s = d) (hx : a.eval x = v) (hd : Up W 26 8 d n xs w) (hv : Below W.heap.size W w → Src w v m 8 news) (h1 : ∀ u ∈ news, u.oneCell' = true) (hn : n + m ≤ 1000000)
    (h : ∀ v' w', Up W 26 8 v' (n + m) (xs ++ news) w' → w.grownBy w' d.ownBlock → K (a.put o.dst v') w') :
    if Region.wanted o (yielded ops a.tmps) = true then Oper.wp Try.prog o a w K Q else E := by
  have hw : Region.wanted o (yielded ops a.tmps) = true := by simp [Region.wanted, hgd]
  rw [if_pos hw]
  obtain ⟨i0, hi, hz0, hz1, hz2⟩ := info_parts Try.infoTokC
  obtain ⟨v', w', hr, h2, h3⟩ := run_app (ty := o.type) Try.underlying28 hi hz0 hz1 hz2 rfl (by decide) (by decide) hd.1 (hv hd.2) h1 hn hd.2.size
  unfold Oper.wp execOp
  simp only [ho, resolve, invoke, builtin, Sem.run_bind, Sem.run_pure, Result.andThen_ok, List.map_toArray, List.map_cons, List.map_nil, hs, hx, hr]
  exact h v' w' ⟨h2, hd.2.grown h3 hd.2.size fun k hk => (World.ownsRow.lt hd.1 k hk).1⟩ h3

theorem blk_drew {w : World} {g : Nat} {o : Option Obj} (h : w.heap[g]? = o) : w.drew.heap[g]? = o := h

/-- An append that ends in a row somewhere. -/
theorem wpList_append_sl {ops : Array Oper} {rest : List Oper} {o : Oper} {a : Act} {w : World} {Q : Exit → Act → World → Prop} (hg : o.guard = none) (s x : Operand) (t : TypeId)
    (ho : o.op = .call { callee := .builtin .append, args := #[s, x], argTypes := #[t, t] }) (R : Nat → Nat → Nat → World → Prop)
    (h : ∃ b n c w', (Builtin.append_ #[t, t] o.type #[a.eval s, a.eval x]).run Try.prog w = .ok (.slice (some ⟨b, 0, none⟩) n c) w' ∧ R b n c w') (hK : ∀ b n c w', R b n c w' → wpList Try.prog ops Q rest (a.put o.dst (.slice (some ⟨b, 0, none⟩) n c)) w') : wpList Try.prog ops Q (o :: rest) a w := by
  obtain ⟨b, n, c, w', hr, hR⟩ := h
  exact wpList_append_ex hg s x t ho (fun v' w' => v' = .slice (some ⟨b, 0, none⟩) n c ∧ R b n c w') ⟨_, w', hr, rfl, hR⟩ fun v' w' hv => by
    rw [hv.1]
    exact hK b n c w' hv.2

end Go.Proofs.Ytobplffailbkbaa

/-
  One replacement, over lists: what the things of a body become, and the row that the pastes make of them.
-/
namespace Go.Proofs.Ytobplffailbkbaa

/-- The parameter that stands at a place of the body; -1: none does. -/
def parI (m : Xm) (i : Nat) : Int := match m.bd[i]? with
  | none => -1
  | some t => if t.k = 1 ∧ m.fn = true then idxI t.x m.ps 0 else -1
/-- A hash that makes a string stands there. -/
def hashI (m : Xm) (i : Nat) : Bool := match m.bd[i]? with
  | none => false
  | some t => hashX t && decide (0 ≤ parI m (i + 1))
/-- A paste stands there. -/
def pasI (m : Xm) (i : Nat) : Bool := match m.bd[i]? with
  | none => false
  | some t => pasteX t
/-- What stands there stands raw. -/
def rawI (m : Xm) (i : Nat) : Bool := (decide (0 < i) && hashI m (i - 1)) || (decide (0 < i) && pasI m (i - 1)) || pasI m (i + 1)

/-- The argument at a place; none, if there is none. -/
def ofL (A : List (List Xt)) (k : Int) : List Xt := (A[k.toNat]?).getD []
/-- A row of tokens, the first one's space changed. -/
def spcL (b : Bool) : List Xt → List Xt
  | [] => []
  | t :: r => { t with sp := b } :: r

/-- A paste, or what a thing became. -/
structure Pt where
  p : Bool
  g : ByteArray
  f : Int
  t : Int
  T : List Xt
  o : Int
def pasteP (t : Xt) : Pt := ⟨true, t.g, t.f, t.t, [], 0⟩
def ownP (t : Xt) (d : Bool) (S : List Xs) : Pt := ⟨false, ⟨#[]⟩, 0, 0, [{ t with d := d, ss := S }], -1⟩
def textP (A : List (List Xt)) (t : Xt) (k : Int) (S : List Xs) : Pt := ownP { t with k := 4, x := ⟨(stringL (ofL A k)).toArray⟩ } true S
def argP (A : List (List Xt)) (t : Xt) (k : Int) : Pt := ⟨false, ⟨#[]⟩, 0, 0, spcL t.sp (ofL A k), k⟩

/-- The parts, from a place of the body on. -/
def partF (m : Xm) (A B : List (List Xt)) (S : List Xs) : Nat → Nat → List Pt
  | 0, _ => []
  | n + 1, i => match m.bd[i]? with
    | none => []
    | some t =>
      if pasteX t then pasteP t :: partF m A B S n (i + 1)
      else if hashI m i then textP A t (parI m (i + 1)) S :: partF m A B S n (i + 2)
      else if 0 ≤ parI m i then argP (if rawI m i then A else B) t (parI m i) :: partF m A B S n (i + 1)
      else ownP t false S :: partF m A B S n (i + 1)
def partL (m : Xm) (A B : List (List Xt)) (S : List Xs) : List Pt := partF m A B S m.bd.length 0

theorem partF_fuel (m : Xm) (A B : List (List Xt)) (S : List Xs) : ∀ (n n' i : Nat), m.bd.length ≤ n + i → m.bd.length ≤ n' + i → partF m A B S n i = partF m A B S n' i
  | 0, 0, i, _, _ => rfl
  | 0, n' + 1, i, h, _ => by
    have : m.bd[i]? = none := List.getElem?_eq_none (by omega)
    simp only [partF, this]
  | n + 1, 0, i, _, h => by
    have : m.bd[i]? = none := List.getElem?_eq_none (by omega)
    simp only [partF, this]
  | n + 1, n' + 1, i, h, h' => by
    simp only [partF]
    rw [partF_fuel m A B S n n' (i + 1) (by omega) (by omega), partF_fuel m A B S n n' (i + 2) (by omega) (by omega)]
/-- The parts, from a place on, whatever the fuel. -/
def partA (m : Xm) (A B : List (List Xt)) (S : List Xs) (i : Nat) : List Pt := partF m A B S (m.bd.length - i) i
theorem partA_zero (m : Xm) (A B : List (List Xt)) (S : List Xs) : partA m A B S 0 = partL m A B S := rfl
theorem partA_end (m : Xm) (A B : List (List Xt)) (S : List Xs) {i : Nat} (h : m.bd.length ≤ i) : partA m A B S i = [] := by
  unfold partA
  rw [show m.bd.length - i = 0 from by omega]
  rfl
theorem partA_step (m : Xm) (A B : List (List Xt)) (S : List Xs) {i : Nat} {t : Xt} (h : m.bd[i]? = some t) : partA m A B S i =
    if pasteX t then pasteP t :: partA m A B S (i + 1)
      else if hashI m i then textP A t (parI m (i + 1)) S :: partA m A B S (i + 2)
      else if 0 ≤ parI m i then argP (if rawI m i then A else B) t (parI m i) :: partA m A B S (i + 1)
      else ownP t false S :: partA m A B S (i + 1) := by
  have hl := (List.getElem?_eq_some_iff.1 h).1
  unfold partA
  obtain ⟨n, hn⟩ : ∃ n, m.bd.length - i = n + 1 := ⟨m.bd.length - i - 1, by omega⟩
  rw [hn]
  simp only [partF, h]
  rw [partF_fuel m A B S n (m.bd.length - (i + 1)) (i + 1) (by omega) (by omega), partF_fuel m A B S n (m.bd.length - (i + 2)) (i + 2) (by omega) (by omega)]

/-- Bytes go on with a token of a kind. -/
def growL (k : Int) : UInt8 → List UInt8 → Bool
  | _, [] => true
  | a, c :: r => goOn k a c && growL k c r
/-- Two tokens as one. -/
def joinL (a b : Xt) : Option Xt := (oneL (a.x ++ b.x).data.toList).map fun k => ⟨(k : Int), a.x ++ b.x, a.sp, a.g, a.f, a.t, true, a.ss⟩

/-- The row so far. -/
structure Rw where
  T : List Xt
  F : List Int
  D : List Ill
  a : Nat
  p : Bool
  g : ByteArray
  f : Int
  t : Int
  x : List UInt8
def rw0 : Rw := ⟨[], [], [], 0, false, ⟨#[]⟩, 0, 0, []⟩

def lastX (T : List Xt) (f : Xt → Xt) : List Xt := match T[T.length - 1]? with
  | none => T
  | some t => T.set (T.length - 1) (f t)
theorem lastX_len (T : List Xt) (f : Xt → Xt) : (lastX T f).length = T.length := by
  unfold lastX
  split <;> simp
theorem lastX_at {T : List Xt} {t : Xt} (f : Xt → Xt) (h : T[T.length - 1]? = some t) : lastX T f = T.set (T.length - 1) (f t) := by
  unfold lastX
  rw [h]
/-- The last token gets its text. -/
def setL (r : Rw) : Rw := if r.x = [] then r else { r with T := lastX r.T fun t => { t with x := ⟨r.x.toArray⟩ }, x := [] }
def pushL (o : Int) (r : Rw) (t : Xt) : Rw := { setL r with T := (setL r).T ++ [t], F := r.F ++ [o] }
def addL (o : Int) (T : List Xt) (r : Rw) : Rw := T.foldl (pushL o) r
/-- The last one and the next one. -/
def growR (r : Rw) (t : Xt) : Bool × Rw := match r.T[r.T.length - 1]? with
  | none => (false, setL r)
  | some l =>
    if r.x ≠ [] ∧ growL l.k (r.x.getLast?.getD 0) t.x.data.toList = true then (true, { r with x := r.x ++ t.x.data.toList })
    else match joinL (if r.x = [] then l else { l with x := ⟨r.x.toArray⟩ }) t with
      | none => (false, setL r)
      | some u => (true, { setL r with T := lastX (setL r).T fun _ => u, F := r.F.set (r.F.length - 1) (-1), x := u.x.data.toList })
def putL (r : Rw) (q : Pt) : Rw :=
  if q.p then { r with p := true, g := q.g, f := q.f, t := q.t }
  else if r.p = false then addL q.o q.T { r with a := r.T.length, p := false }
  else match q.T with
    | [] => { r with p := false }
    | t :: s =>
      if r.a < r.T.length then
        (if (growR r t).1 then addL q.o s { (growR r t).2 with p := false }
         else addL q.o (t :: s) { (growR r t).2 with D := r.D ++ [⟨10, r.g, r.f, r.t⟩], p := false })
      else addL q.o (t :: s) { r with p := false }
def endL (r : Rw) : List Xt × List Int × List Ill := ((setL r).T, (setL r).F, (setL r).D)
/-- What a body becomes. -/
def bodyL (m : Xm) (A B : List (List Xt)) (S : List Xs) : List Xt × List Int × List Ill := endL ((partL m A B S).foldl putL rw0)

end Go.Proofs.Ytobplffailbkbaa
