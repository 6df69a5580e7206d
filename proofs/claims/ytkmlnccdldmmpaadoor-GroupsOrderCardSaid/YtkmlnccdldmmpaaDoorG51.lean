/-
  Texts of the proof, put together: GrLaw, GdTell.
-/
import Derived.Test.YtkmlnccdldmmpaaDoorG38
import Derived.Test.YtkmlnccdldmmpaaDoorG42
import Derived.Test.YtkmlnccdldmmpaaDoorG43
import Derived.Test.YtkmlnccdldmmpaaDoorG50
import Derived.Test.YtkmlnccdldmmpaaDoorG48
import Derived.Test.YtkmlnccdldmmpaaDoorG37

/-
  Bounds that the laws of the groups need, over lists.
-/
namespace Go.Proofs.YtkmlnccdldmmpaaDoor

theorem flat_mem {α β : Type} {f : α → List β} : ∀ {l : List α} {a : α}, a ∈ l → (f a).length ≤ (l.flatMap f).length
  | [], _, h => by cases h
  | b :: r, a, h => by
    rw [List.flatMap_cons, List.length_append]
    rcases List.mem_cons.1 h with rfl | h
    · omega
    · have := flat_mem (f := f) h
      omega
theorem flat_ge {α β : Type} {f : α → List β} : ∀ (l : List α), (∀ a ∈ l, 1 ≤ (f a).length) → l.length ≤ (l.flatMap f).length
  | [], _ => Nat.zero_le _
  | b :: r, h => by
    rw [List.flatMap_cons, List.length_append, List.length_cons]
    have h1 := flat_ge r fun a ha => h a (List.mem_cons_of_mem _ ha)
    have h2 := h b List.mem_cons_self
    omega
theorem small_flat : ∀ (d : Nat) (l : List Itm), (flatF d l).length ≤ 500000 → SmallF d l
  | 0, l, h => by
    rw [show flatF 0 l = l.map Itm.line from rfl, List.length_map] at h
    exact h
  | d + 1, l, h => by
    have h' : (l.flatMap (flatI (flatF d))).length ≤ 500000 := h
    have hne : ∀ it ∈ l, 1 ≤ (flatI (flatF d) it).length := fun it _ => by
      unfold flatI
      split
      · exact Nat.le_refl _
      · rename_i hne
        obtain ⟨a, r, ha⟩ := List.exists_cons_of_ne_nil hne
        rw [ha, List.flatMap_cons, List.length_append, List.length_cons]
        omega
    refine ⟨Nat.le_trans (flat_ge l hne) h', fun it hit => ?_⟩
    have h1 := flat_mem (f := flatI (flatF d)) hit
    by_cases ha : it.arms = []
    · rw [ha]
      exact ⟨Nat.zero_le _, fun x hx => by cases hx⟩
    · have h2 : flatI (flatF d) it = it.arms.flatMap fun a => a.1 :: flatF d a.2 := if_neg ha
      rw [h2] at h1
      refine ⟨Nat.le_trans (Nat.le_trans (flat_ge it.arms fun a _ => by simp) h1) h', fun x hx => small_flat d x.2 ?_⟩
      have h3 := flat_mem (f := fun a : Int × List Itm => a.1 :: flatF d a.2) hx
      rw [List.length_cons] at h3
      omega
theorem kept_few : ∀ (ks : List (Nat × Bool)) (s : Bs) (i : Nat), (keptL s i ks).length ≤ ks.length
  | [], _, _ => Nat.le_refl _
  | (k, ne) :: r, s, i => by
    have := kept_few r (stepB s i k ne) (i + 1)
    rw [keptL, List.length_append, List.length_cons]
    split
    · rw [List.length_singleton]; omega
    · rw [List.length_nil]; omega
theorem built_few (lines : List Ln) : (flatIts (buildL (ksOf lines)).1).length ≤ lines.length := by
  rw [flat_build]
  have := kept_few (ksOf lines) bs0 0
  unfold ksOf at this ⊢
  rw [List.length_map] at this
  exact this
theorem lines_few (s : ByteArray) {n : Nat} (hs : s.size ≤ n) : (linesA (charsL s.data.toList) s.size).lines.length ≤ n + 1 := by
  obtain ⟨m, hm, hm2⟩ := charsL_few s.data.toList
  rw [len_byte] at hm2
  have := run_few (charsL s.data.toList) s.size (charsL s.data.toList).length 0 acc0
  unfold linesA
  have e : acc0.lines.length = 0 := rfl
  omega
theorem its_flat {d : Nat} {l : List Itm} {v : Value} {w : World} (h : ItsAt d l v w) : flatF d l = flatIts l := flatF_is d l (its_fits d l v w h)
theorem its_small {d : Nat} {l : List Itm} {v : Value} {w : World} (h : ItsAt d l v w) (hf : (flatIts l).length ≤ 500000) : SmallF d l := small_flat d l (by rw [its_flat h]; exact hf)

end Go.Proofs.YtkmlnccdldmmpaaDoor

/-
  What the document's Build tells, over lists: the same.
-/
namespace Go.Proofs.YtkmlnccdldmmpaaDoor

def lnD (lines : List Ln) (i : Nat) : Ln := (lines[i]?).getD ⟨[], 0, 0, false⟩
def tellB (z : Int) (xs : List Nat) (lines : List Ln) (i : Nat) : List Dg := (xs.filter (· == i)).map fun _ => dgOf z (lnD lines i)
def docD (bad opn : List Nat) (lines : List Ln) (n : Nat) : List Dg := (List.range n).flatMap fun i => tellB 12 bad lines i ++ tellB 13 opn lines i

theorem filter_one {i : Nat} : ∀ {l : List Nat}, l.Nodup → l.filter (· == i) = if i ∈ l then [i] else []
  | [], _ => rfl
  | a :: r, h => by
    rw [List.nodup_cons] at h
    have ih := filter_one (i := i) h.2
    by_cases e : a = i
    · subst e
      rw [List.filter_cons, if_pos (by simp), ih, if_neg h.1, if_pos List.mem_cons_self]
    · rw [List.filter_cons, if_neg (by simpa using e), ih]
      have : (i ∈ a :: r) ↔ i ∈ r := by
        rw [List.mem_cons]
        exact ⟨fun h => h.resolve_left fun h => e h.symm, .inr⟩
      simp only [this]
theorem flat_same {α : Type} {f g : Nat → List α} : ∀ (l : List Nat), (∀ i ∈ l, f i = g i) → l.flatMap f = l.flatMap g
  | [], _ => rfl
  | a :: r, h => by rw [List.flatMap_cons, List.flatMap_cons, h a List.mem_cons_self, flat_same r fun i hi => h i (List.mem_cons_of_mem _ hi)]

theorem zip_range (g : Nat → Int) (lines : List Ln) : ((List.range lines.length).map g).zip lines = (List.range lines.length).map fun i => (g i, lnD lines i) := by
  apply List.ext_getElem?
  intro i
  rw [List.getElem?_map]
  rcases Nat.lt_or_ge i lines.length with hi | hi
  · rw [List.getElem?_range hi]
    have hz : (((List.range lines.length).map g).zip lines)[i]? = some (g i, lnD lines i) := List.getElem?_zip_eq_some.2 ⟨by rw [List.getElem?_map, List.getElem?_range hi]; rfl, by unfold lnD; rw [List.getElem?_eq_getElem hi]; rfl⟩
    rw [hz]
    rfl
  · rw [List.getElem?_eq_none (by simp; omega), List.getElem?_eq_none (by simp; omega)]
    rfl

theorem doc_tells (lines : List Ln) : docD (runB bs0 0 (ksOf lines)).bad ((runB bs0 0 (ksOf lines)).st.map Fr.ln).reverse lines lines.length = tells lines := by
  have hf := fine_run (ksOf lines) bs0 0 fine_zero
  unfold tells diagsL codesOf docD
  generalize runB bs0 0 (ksOf lines) = s at hf
  rw [zip_range, List.flatMap_map]
  refine flat_same _ fun i _ => ?_
  have hn : (s.st.map Fr.ln).reverse.Nodup := (List.reverse_perm _).nodup_iff.2 hf.nod
  unfold tellB dgAt
  rw [filter_one hf.badn, filter_one hn]
  simp only [List.mem_reverse]
  unfold codeAt
  by_cases hb : i ∈ s.bad
  · rw [if_pos hb, if_pos hb, if_neg (hf.apart i hb), if_neg (by omega)]
    rfl
  · rw [if_neg hb, if_neg hb]
    by_cases ho : i ∈ s.st.map Fr.ln
    · rw [if_pos ho, if_pos ho, if_neg (by omega)]
      rfl
    · rw [if_neg ho, if_neg ho, if_pos rfl]
      rfl

theorem tell_few (z : Int) (xs : List Nat) (lines : List Ln) (i : Nat) : (tellB z xs lines i).length ≤ xs.length := by
  unfold tellB
  rw [List.length_map]
  exact List.length_filter_le _ _
/-- One more looked at. -/
theorem tell_take {z : Int} {xs : List Nat} {lines : List Ln} {i k b : Nat} (hb : xs[k]? = some b) : tellB z (xs.take (k + 1)) lines i = tellB z (xs.take k) lines i ++ if b = i then [dgOf z (lnD lines i)] else [] := by
  unfold tellB
  rw [List.take_add_one, hb, List.filter_append, List.map_append]
  by_cases e : b = i
  · rw [if_pos e]
    simp [e]
  · rw [if_neg e]
    simp [e]
theorem doc_snoc (bad opn : List Nat) (lines : List Ln) (k : Nat) : docD bad opn lines (k + 1) = docD bad opn lines k ++ (tellB 12 bad lines k ++ tellB 13 opn lines k) := by
  unfold docD
  rw [List.range_succ, List.flatMap_append]
  simp
/-- Few in all. -/
theorem doc_few {bad opn : List Nat} (lines : List Ln) (hb : bad.Nodup) (ho : opn.Nodup) (k : Nat) : (docD bad opn lines k).length ≤ 2 * k := by
  induction k with
  | zero => exact Nat.le_refl _
  | succ k ih =>
    rw [doc_snoc, List.length_append, List.length_append]
    have h1 : (tellB 12 bad lines k).length ≤ 1 := by unfold tellB; rw [filter_one hb, List.length_map]; split <;> simp
    have h2 : (tellB 13 opn lines k).length ≤ 1 := by unfold tellB; rw [filter_one ho, List.length_map]; split <;> simp
    omega
theorem nodup_sub {l : List Nat} (h : l.Nodup) (k : Nat) : (l.take k).Nodup := h.sublist (List.take_sublist k l)

end Go.Proofs.YtkmlnccdldmmpaaDoor
