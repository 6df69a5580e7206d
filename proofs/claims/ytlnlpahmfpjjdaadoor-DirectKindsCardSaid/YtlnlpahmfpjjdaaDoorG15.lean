/-
  Texts of the proof, put together: DkCloneT.
-/
import Derived.Test.YtlnlpahmfpjjdaaDoorG14

/-
  The tokens' clone, their sites too.
-/
namespace Go.Proofs.YtlnlpahmfpjjdaaDoor
open Go.RowKit

theorem own_freeX {B : Nat} {w : World} {e : TypeId} {size n cap : Nat} {g : Nat} {xs : List Value} (h : w.ownsRow B e size (.slice (some ⟨g, 0, none⟩) n cap) n xs) (k : Nat) : w.frozen? ⟨g, k, none⟩ = false := by
  obtain ⟨h1, ⟨e1, -⟩ | ⟨g2, cap2, cur, e1, hg, hh, hr⟩⟩ := h
  · cases e1
  · simp only [Value.slice.injEq, Option.some.injEq, Addr.mk.injEq, and_true, true_and] at e1
    rw [← e1.1] at hh
    exact frozen_of_row w g k _ _ hh
theorem own_setX {B : Nat} {w : World} {e : TypeId} {size n cap g : Nat} {xs : List Value} (h : w.ownsRow B e size (.slice (some ⟨g, 0, none⟩) n cap) n xs) (j : Nat) (u : Value) : (w.setCell ⟨g, j, none⟩ u).ownsRow B e size (.slice (some ⟨g, 0, none⟩) n cap) n (xs.set j u) := by
  obtain ⟨h1, ⟨hv, -⟩ | ⟨g', cap', cur, hv, hg, hh, hc, hm, hs, ht⟩⟩ := h
  · cases hv
  · simp only [Value.slice.injEq, Option.some.injEq, Addr.mk.injEq, and_true, true_and] at hv
    obtain ⟨rfl, rfl⟩ := hv
    refine ⟨by rw [List.length_set]; exact h1, .inr ⟨g, cap, cur.setIfInBounds j u, rfl, hg, heap_setCell_same w g j _ _ _ hh, hc, hm, by rw [Array.size_setIfInBounds]; exact hs, ?_⟩⟩
    rw [Array.toList_setIfInBounds, List.take_set, ht]
theorem up_setX {W w : World} {e : TypeId} {size n cap g : Nat} {xs : List Value} (h : Up W e size (.slice (some ⟨g, 0, none⟩) n cap) n xs w) (j : Nat) (u : Value) : Up W e size (.slice (some ⟨g, 0, none⟩) n cap) n (xs.set j u) (w.setCell ⟨g, j, none⟩ u) :=
  ⟨own_setX h.1 j u, h.2.setCell (World.ownsRow.lt h.1 g rfl).1 _⟩

theorem xcells_set (t : Xt) (nv : Value) : ∀ (P : List (Xt × Value)) (k : Nat) (sv : Value), P[k]? = some (t, sv) → (xcells P).set (k * 8 + 7) nv = xcells (P.set k (t, nv))
  | [], k, sv, h => by simp at h
  | p :: P, 0, sv, h => by
    simp only [List.getElem?_cons_zero, Option.some.injEq] at h
    subst h
    rfl
  | p :: P, k + 1, sv, h => by
    have ih := xcells_set t nv P k sv (by simpa using h)
    have e : xcells (p :: P) = xcell p ++ xcells P := rfl
    rw [e, List.set_append_right _ _ (by simp [xcell]; omega)]
    rw [show (k + 1) * 8 + 7 - (xcell p).length = k * 8 + 7 from by simp [xcell]; omega, ih]
    rfl
theorem map_set_fst {P : List (Xt × Value)} {k : Nat} {t : Xt} {sv nv : Value} (h : P[k]? = some (t, sv)) : (P.set k (t, nv)).map Prod.fst = P.map Prod.fst := by
  rw [List.map_set]
  apply List.ext_getElem?
  intro j
  rw [List.getElem?_set]
  split
  · rename_i e
    subst e
    rw [List.getElem?_map, h]
    simp
    exact (List.getElem?_eq_some_iff.1 h).1
  · rfl

/-- Tokens on their way: the row that was cloned, its sites here and there. -/
structure ClT (W : World) (T : List Xt) (a : Option Addr) (n c : Nat) (P : List (Xt × Value)) (w : World) : Prop where
  map : P.map Prod.fst = T
  up : Up W 36 8 (.slice a n c) n (xcells P) w
  sits : ∀ p ∈ P, SitsA p.1.ss p.2 w
  off : ∀ p ∈ P, ∀ g, a = some ⟨g, 0, none⟩ → OffG g p.2

theorem ClT.over {W : World} {T : List Xt} {a : Option Addr} {n c : Nat} {P : List (Xt × Value)} {w w' : World} (h : ClT W T a n c P w) (b : Below w.heap.size w w') : ClT W T a n c P w' :=
  ⟨h.map, Up.over h.up b, fun p hp => (h.sits p hp).over b, h.off⟩
theorem ClT.put {W : World} {T : List Xt} {n c g k : Nat} {P : List (Xt × Value)} {w : World} {t : Xt} {sv nv : Value} (h : ClT W T (some ⟨g, 0, none⟩) n c P w) (hk : P[k]? = some (t, sv)) (hs : SitsA t.ss nv w) (ho : OffG g nv) :
    ClT W T (some ⟨g, 0, none⟩) n c (P.set k (t, nv)) (w.setCell ⟨g, k * 8 + 7, none⟩ nv) := by
  refine ⟨(map_set_fst hk).trans h.map, ?_, fun p hp => ?_, fun p hp g' hg' => ?_⟩
  · rw [← xcells_set t nv P k sv hk]
    exact up_setX h.up _ _
  · rcases List.mem_or_eq_of_mem_set hp with hp | rfl
    · exact (h.sits p hp).set (h.off p hp g rfl) _ _
    · exact hs.set ho _ _
  · rcases List.mem_or_eq_of_mem_set hp with hp | rfl
    · exact h.off p hp g' hg'
    · obtain rfl : g = g' := by simpa using hg'
      exact ho
theorem ClT.toks {W : World} {T : List Xt} {a : Option Addr} {n c : Nat} {P : List (Xt × Value)} {w : World} (h : ClT W T a n c P w) : ToksX T (.slice a n c) w := by
  have hl : n * 8 = P.length * 8 := by
    have := h.up.1.1
    unfold xcells at this
    rw [flat_len (n := 8) (fun _ => rfl)] at this
    exact this.symm
  have hT : T.length = P.length := by rw [← h.map, List.length_map]
  obtain ⟨a', cap, hv, h1, h2, h3⟩ := row_form h.up.1
  simp only [Value.slice.injEq, true_and] at hv
  obtain ⟨rfl, rfl⟩ := hv
  refine ⟨a, c, by rw [show n = T.length from by omega], by omega, h2, fun k t ht => ?_⟩
  rw [← h.map, List.getElem?_map, Option.map_eq_some_iff] at ht
  obtain ⟨p, hp, rfl⟩ := ht
  have hg := fun j (hj : j < 8) => flat_get (f := xcell) (n := 8) (fun _ => rfl) P k p hp j hj
  obtain ⟨g, hga, hlt, -⟩ := h3 (k * 8 + 0) _ ((hg 0 (by omega)).trans rfl)
  have hc : ∀ j u, j < 8 → (xcell p)[j]? = some u → w.cell? ⟨g, k * 8 + j, none⟩ = some u := by
    intro j u hj hu
    obtain ⟨g', hga', -, e⟩ := h3 (k * 8 + j) u ((hg j hj).trans hu)
    rw [hga] at hga'
    simp only [Option.some.injEq, Addr.mk.injEq, and_true] at hga'
    rw [hga']
    exact e
  refine ⟨g, 0, hga, hlt, p.2, ?_, h.sits p (List.mem_of_getElem? hp)⟩
  rw [Nat.zero_add]
  exact ⟨hc 0 _ (by omega) rfl, hc 1 _ (by omega) rfl, hc 2 _ (by omega) rfl, hc 3 _ (by omega) rfl, hc 4 _ (by omega) rfl, hc 5 _ (by omega) rfl, hc 6 _ (by omega) rfl, hc 7 _ (by omega) rfl⟩

/-- The tokens of a slice, with their sites' slices. -/
theorem ToksX.pairs {T : List Xt} {a : Option Addr} {n cap : Nat} {w : World} (h : ToksX T (.slice a n cap) w) : ∃ P : List (Xt × Value), P.map Prod.fst = T ∧ (∀ p ∈ P, SitsA p.1.ss p.2 w) ∧ ∀ k p, P[k]? = some p → ∃ g o, a = some ⟨g, o, none⟩ ∧ g < w.heap.size ∧ TokX p.1 p.2 g (o + k * 8) w := by
  obtain ⟨P, hPl, hP⟩ := pick_list (fun k (p : Xt × Value) => T[k]? = some p.1 ∧ SitsA p.1.ss p.2 w ∧ ∃ g o, a = some ⟨g, o, none⟩ ∧ g < w.heap.size ∧ TokX p.1 p.2 g (o + k * 8) w) T.length (fun k hk => by
    obtain ⟨g, o, sa, sn, sc, ha, hg, -, ht, hs⟩ := h.get (List.getElem?_eq_getElem hk)
    exact ⟨(T[k], .slice sa sn sc), List.getElem?_eq_getElem hk, hs, g, o, ha, hg, ht⟩)
  refine ⟨P, ?_, fun p hp => ?_, fun k p hp => (hP k p hp).2.2⟩
  · apply List.ext_getElem?
    intro k
    rw [List.getElem?_map]
    rcases Nat.lt_or_ge k P.length with hk | hk
    · rw [List.getElem?_eq_getElem hk, Option.map_some]
      exact ((hP k _ (List.getElem?_eq_getElem hk)).1).symm
    · rw [List.getElem?_eq_none hk, List.getElem?_eq_none (by omega)]
      rfl
  · obtain ⟨k, hk, rfl⟩ := List.getElem_of_mem hp
    exact (hP k _ (List.getElem?_eq_getElem hk)).2.1
theorem xcells_one {P : List (Xt × Value)} {w : World} (h : ∀ p ∈ P, SitsA p.1.ss p.2 w) : ∀ u ∈ xcells P, u.oneCell' = true := by
  intro u hu
  unfold xcells at hu
  rw [List.mem_flatMap] at hu
  obtain ⟨p, hp, hd⟩ := hu
  obtain ⟨sa, sn, sc, hv, -⟩ := (h p hp).form
  simp only [xcell, List.mem_cons, List.not_mem_nil, or_false] at hd
  rcases hd with rfl | rfl | rfl | rfl | rfl | rfl | rfl | rfl
  all_goals first | rfl | (rw [hv]; rfl)

/-- Tokens that are new, behind what a call made. -/
def ToksNew (W : World) (T : List Xt) (end_ : Ending) (w' : World) : Prop := ∃ a n cap, end_ = .returned (.slice a n cap) ∧ n = T.length ∧ ToksX T (.slice a n cap) w' ∧ Below W.heap.size W w'

/-- The row, cloned. -/
theorem cloneToks_any {T : List Xt} {a : Option Addr} {n c : Nat} {w : World} (h : ToksX T (.slice a n c) w) (hT : T.length ≤ 500000) :
    Calls Tryd.prog 60 #[.slice a n c] w (fun e w' => ∃ a' c' P, e = .returned (.slice a' n c') ∧ ClT w T a' n c' P w') := by
  have hn := h.len.1
  obtain ⟨P, hm, hs, hp⟩ := h.pairs
  have hPl : P.length = T.length := by rw [← hm, List.length_map]
  have hl : (xcells P).length = n * 8 := by unfold xcells; rw [flat_len (n := 8) (fun _ => rfl), hn, hPl]
  have hin : ∀ ad, a = some ad → ∀ j u, (xcells P)[j]? = some u → w.cell? (ad.add j) = some u ∧ ad.block < w.heap.size := by
    intro ad ha j u hj
    obtain ⟨p, hpk, hu⟩ := flat_split (n := 8) (by omega) (fun _ => rfl) hj
    obtain ⟨g, o, hg, hlt, hc⟩ := hp _ _ hpk
    rw [ha] at hg
    obtain rfl := Option.some.inj hg
    refine ⟨?_, hlt⟩
    rw [addr_off]
    have := xcell_at hc (j % 8) u hu
    rw [Nat.add_assoc, Nat.div_add_mod'] at this
    exact this
  refine (cloneX_any (fun e => ?_) hl (fun ad ha j u hj => (hin ad ha j u hj).1) (fun ad ha h0 => ?_) (xcells_one hs) (by omega)).mono ?_
  · have hP0 : P = [] := by
      cases P with
      | nil => rfl
      | cons p r =>
        obtain ⟨g, o, hg, -⟩ := hp 0 p rfl
        rw [e] at hg
        cases hg
    subst hP0
    exact ⟨by simp at hPl; omega, rfl⟩
  · obtain ⟨u, hu⟩ : ∃ u, (xcells P)[0]? = some u := ⟨_, List.getElem?_eq_getElem (by rw [hl]; omega)⟩
    exact (hin ad ha 0 u hu).2
  · rintro e w' ⟨a', cap', rfl, hu⟩
    refine ⟨a', cap', P, rfl, hm, hu, fun p hp' => (hs p hp').over hu.2, fun p hp' g hg ad k c' he h0 hb => ?_⟩
    have hlo := (World.ownsRow.lt hu.1 g (by rw [hg]; rfl)).1
    obtain ⟨sa, sn, sc, hv, hsn, -⟩ := (hs p hp').form
    rw [he] at hv
    simp only [Value.slice.injEq] at hv
    obtain ⟨rfl, rfl, rfl⟩ := hv
    have hsit := hs p hp'
    rw [he] at hsit
    obtain ⟨g', o', hg', hlt', -⟩ := hsit.get (k := 0) (s := p.1.ss[0]'(by omega)) (List.getElem?_eq_getElem _)
    obtain rfl := Option.some.inj hg'
    simp only at hb
    omega

end Go.Proofs.YtlnlpahmfpjjdaaDoor
