/-
  What follows, of texts alone: a path's parts, once joined, are its parts; clean of clean; up and down again.
-/
import Derived.Test.YtfjdfdpelilelaaDoorPathL
namespace Go.Proofs.YtfjdfdpelilelaaDoor

theorem partsAux_cut (acc l r : List UInt8) : partsAux acc (l ++ 47 :: r) = partsAux acc l ++ partsL r := by
  induction l generalizing acc with
  | nil => simp [partsAux, partsL]
  | cons c t ih =>
    simp only [List.cons_append, partsAux]
    split
    · rw [ih]; rfl
    · exact ih _

theorem partsL_cut (l r : List UInt8) : partsL (l ++ 47 :: r) = partsL l ++ partsL r := partsAux_cut [] l r

theorem partsAux_whole (acc l : List UInt8) (h : (47 : UInt8) ∉ l) : partsAux acc l = [acc ++ l] := by
  induction l generalizing acc with
  | nil => simp [partsAux]
  | cons c t ih =>
    rw [List.mem_cons, not_or] at h
    rw [partsAux, if_neg (Ne.symm h.1), ih _ h.2]
    simp

theorem partsL_whole (l : List UInt8) (h : (47 : UInt8) ∉ l) : partsL l = [l] := by
  have := partsAux_whole [] l h
  rw [List.nil_append] at this
  exact this

theorem partsAux_free (acc l : List UInt8) (h : (47 : UInt8) ∉ acc) : ∀ x ∈ partsAux acc l, (47 : UInt8) ∉ x := by
  induction l generalizing acc with
  | nil => intro x hx; simp [partsAux] at hx; subst hx; exact h
  | cons c t ih =>
    intro x hx
    rw [partsAux] at hx
    split at hx
    · rcases List.mem_cons.1 hx with rfl | hx
      · exact h
      · exact ih [] (by simp) x hx
    · refine ih (acc ++ [c]) ?_ x hx
      rename_i hc
      simp only [List.mem_append, List.mem_singleton, not_or]
      exact ⟨h, fun e => hc e.symm⟩

theorem partsL_free (l : List UInt8) : ∀ x ∈ partsL l, (47 : UInt8) ∉ x := partsAux_free [] l (by simp)

theorem partsAux_ne (acc l : List UInt8) : partsAux acc l ≠ [] := by
  induction l generalizing acc with
  | nil => simp [partsAux]
  | cons c t ih =>
    rw [partsAux]
    split
    · simp
    · exact ih _

theorem partsL_ne (l : List UInt8) : partsL l ≠ [] := partsAux_ne [] l

theorem partsL_joinAux (s : List UInt8) (l : List (List UInt8)) (h : ∀ x ∈ l, (47 : UInt8) ∉ x) : partsL (joinAux s l) = partsL s ++ l := by
  induction l generalizing s with
  | nil => simp [joinAux]
  | cons a r ih =>
    rw [joinAux, ih _ (fun x hx => h x (by simp [hx])), partsL_cut, partsL_whole a (h a (by simp))]
    simp

theorem partsL_joinL {l : List (List UInt8)} (hn : l ≠ []) (h : ∀ x ∈ l, (47 : UInt8) ∉ x) : partsL (joinL l) = l := by
  cases l with
  | nil => exact absurd rfl hn
  | cons a r =>
    rw [joinL, partsL_joinAux _ _ (fun x hx => h x (by simp [hx])), partsL_whole a (h a (by simp))]
    rfl

theorem joinAux_app (s : List UInt8) (a b : List (List UInt8)) : joinAux s (a ++ b) = joinAux (joinAux s a) b := by
  induction a generalizing s with
  | nil => rfl
  | cons x r ih => simp only [List.cons_append, joinAux]; exact ih _

theorem joinAux_pre (s t : List UInt8) (l : List (List UInt8)) : joinAux (s ++ t) l = s ++ joinAux t l := by
  induction l generalizing t with
  | nil => rfl
  | cons a r ih =>
    simp only [joinAux]
    rw [List.append_assoc]
    exact ih _

theorem joinL_app {a b : List (List UInt8)} (ha : a ≠ []) (hb : b ≠ []) : joinL (a ++ b) = joinL a ++ 47 :: joinL b := by
  cases a with
  | nil => exact absurd rfl ha
  | cons x r =>
    cases b with
    | nil => exact absurd rfl hb
    | cons y t =>
      simp only [List.cons_append, joinL]
      rw [joinAux_app]
      simp only [joinAux]
      rw [show joinAux x r ++ 47 :: y = (joinAux x r ++ [47]) ++ y from by simp, joinAux_pre]
      simp

theorem joinL_parts (l : List UInt8) : joinL (partsL l) = l := by
  have h : ∀ (acc l : List UInt8), joinL (partsAux acc l) = acc ++ l := by
    intro acc l
    induction l generalizing acc with
    | nil => simp [partsAux, joinL, joinAux]
    | cons c t ih =>
      rw [partsAux]
      split
      · rename_i hc
        subst hc
        have e := joinL_app (a := [acc]) (b := partsAux [] t) (by simp) (partsAux_ne _ _)
        rw [List.singleton_append] at e
        rw [e, ih]
        simp [joinL, joinAux]
      · rw [ih]; simp
  exact h [] l

theorem cleanGo_app (out a b : List (List UInt8)) : cleanGo out (a ++ b) = (cleanGo out a).bind fun o => cleanGo o b := by
  induction a generalizing out with
  | nil => simp [cleanGo]
  | cons x r ih =>
    simp only [List.cons_append, cleanGo]
    split
    · exact ih _
    · split
      · split
        · rfl
        · exact ih _
      · exact ih _

/-- A part that may be is neither empty nor one of dots. -/
theorem partB_ne {x : List UInt8} (h : partB x = true) : ¬ (x = [] ∨ x = [46]) ∧ x ≠ [46, 46] := by
  refine ⟨?_, ?_⟩
  · rintro (rfl | rfl) <;> exact absurd h (by decide)
  · rintro rfl
    exact absurd h (by decide)

theorem partB_free {x : List UInt8} (h : partB x = true) : (47 : UInt8) ∉ x := by
  intro hm
  simp only [partB, Bool.and_eq_true, List.all_eq_true] at h
  exact absurd (h.1.1.1.1 47 hm) (by decide)

theorem cleanGo_parts (out l : List (List UInt8)) (h : l.all partB = true) : cleanGo out l = some (out ++ l) := by
  induction l generalizing out with
  | nil => simp [cleanGo]
  | cons x r ih =>
    rw [List.all_cons, Bool.and_eq_true] at h
    have hx := partB_ne h.1
    rw [cleanGo, if_neg hx.1, if_neg hx.2, ih _ h.2]
    simp

theorem cleanGo_mem {P : List UInt8 → Prop} {out l o : List (List UInt8)} (h : cleanGo out l = some o) (h1 : ∀ x ∈ out, P x) (h2 : ∀ x ∈ l, P x) : ∀ x ∈ o, P x := by
  induction l generalizing out with
  | nil => simp [cleanGo] at h; subst h; exact h1
  | cons x r ih =>
    rw [cleanGo] at h
    split at h
    · exact ih h h1 (fun y hy => h2 y (by simp [hy]))
    · split at h
      · split at h
        · cases h
        · exact ih h (fun y hy => h1 y (List.dropLast_subset _ hy)) (fun y hy => h2 y (by simp [hy]))
      · refine ih h (fun y hy => ?_) (fun y hy => h2 y (by simp [hy]))
        rcases List.mem_append.1 hy with hy | hy
        · exact h1 y hy
        · simp at hy; subst hy; exact h2 _ (by simp)

theorem cleanGo_ups (D r : List (List UInt8)) : cleanGo D (List.replicate D.length [46, 46] ++ r) = cleanGo [] r := by
  suffices h : ∀ (n : Nat) (D : List (List UInt8)), D.length = n → cleanGo D (List.replicate n [46, 46] ++ r) = cleanGo [] r from h _ D rfl
  intro n
  induction n with
  | zero => intro D hD; rw [List.eq_nil_of_length_eq_zero hD]; rfl
  | succ n ih =>
    intro D hD
    rw [List.replicate_succ, List.cons_append, cleanGo, if_neg (by decide), if_pos rfl, if_neg (by intro e; rw [e] at hD; cases hD)]
    exact ih _ (by rw [List.length_dropLast]; omega)

/-- So many up, of more. -/
theorem cleanGo_some_ups (D : List (List UInt8)) (n : Nat) : cleanGo D (List.replicate n [46, 46]) = if n ≤ D.length then some (D.take (D.length - n)) else none := by
  induction n generalizing D with
  | zero => simp [cleanGo]
  | succ n ih =>
    rw [List.replicate_succ, cleanGo, if_neg (by decide), if_pos rfl]
    by_cases h : D = []
    · subst h
      simp
    · rw [if_neg h, ih, List.length_dropLast]
      have hp : 0 < D.length := List.length_pos_iff.2 h
      by_cases hn : n + 1 ≤ D.length
      · rw [if_pos (by omega), if_pos hn, List.dropLast_eq_take, List.take_take]
        congr 2
        omega
      · rw [if_neg (by omega), if_neg hn]

theorem validB_parts {l : List UInt8} (h : validB l = true) : (partsL l).all partB = true := by
  unfold validB at h
  rw [Bool.and_eq_true] at h
  exact h.2

theorem validB_len {l : List UInt8} (h : validB l = true) : l.length ≤ 80 := by
  unfold validB at h
  rw [Bool.and_eq_true] at h
  exact of_decide_eq_true h.1

theorem validB_of {l : List UInt8} (h1 : l.length ≤ 80) (h2 : (partsL l).all partB = true) : validB l = true := by
  unfold validB
  rw [Bool.and_eq_true]
  exact ⟨decide_eq_true h1, h2⟩

theorem validB_ne {l : List UInt8} (h : validB l = true) : l ≠ [] := by
  rintro rfl
  exact absurd h (by decide)

/-- P2.2. -/
theorem cleanL_valid {l : List UInt8} (h : validB l = true) : cleanL l = some l := by
  unfold cleanL
  rw [cleanGo_parts _ _ (validB_parts h), List.nil_append]
  simp only [joinL_parts, h, if_true]

theorem cleanL_some {l a : List UInt8} (h : cleanL l = some a) : validB a = true ∧ ∃ out, cleanGo [] (partsL l) = some out ∧ partsL a = out ∧ a = joinL out := by
  unfold cleanL at h
  split at h
  · cases h
  · rename_i out ho
    split at h
    · rename_i hv
      injection h with h
      subst h
      have hf := cleanGo_mem (P := fun x => (47 : UInt8) ∉ x) ho (by simp) (partsL_free l)
      have hne : out ≠ [] := by
        rintro rfl
        exact absurd hv (by decide)
      exact ⟨hv, out, ho, partsL_joinL hne hf, rfl⟩
    · cases h

theorem cleanL_of_go {l a : List UInt8} (hv : validB a = true) (h : cleanGo [] (partsL l) = some (partsL a)) : cleanL l = some a := by
  unfold cleanL
  rw [h]
  simp only [joinL_parts, hv, if_true]

theorem cleanL_none_valid {l : List UInt8} (h : cleanL l = none) : validB l = false := by
  cases hv : validB l with
  | false => rfl
  | true => rw [cleanL_valid hv] at h; cases h

/-- './' ahead, '/.' behind. -/
theorem cleanL_dots {p a : List UInt8} (h : cleanL p = some a) : cleanL ([46, 47] ++ p ++ [47, 46]) = some a := by
  obtain ⟨hv, out, ho, hp, -⟩ := cleanL_some h
  refine cleanL_of_go hv ?_
  have e : partsL ([46, 47] ++ p ++ [47, 46]) = [[46]] ++ (partsL p ++ [[46]]) := by
    rw [show [46, 47] ++ p ++ [47, 46] = [46] ++ 47 :: (p ++ 47 :: [46]) from by simp, partsL_cut, partsL_cut]
    rfl
  rw [e, List.singleton_append, cleanGo, if_pos (by simp), cleanGo_app, ho]
  simp [cleanGo, hp]

theorem valid_head {a : List UInt8} (h : validB a = true) : a[0]? ≠ some 47 := by
  intro e
  cases a with
  | nil => cases e
  | cons c r =>
    simp at e
    subst e
    have := validB_parts h
    rw [partsL, partsAux, if_pos rfl] at this
    simp only [List.all_cons, Bool.and_eq_true] at this
    exact absurd this.1 (by decide)

theorem joinPath_valid {d a : List UInt8} (hd : validB d = true) (ha : validB a = true) : joinPath d a = if d.length + 1 + a.length ≤ 80 then some (d ++ 47 :: a) else none := by
  unfold joinPath
  rw [if_neg (valid_head ha)]
  have hp : (partsL (d ++ 47 :: a)).all partB = true := by
    rw [partsL_cut, List.all_append, validB_parts hd, validB_parts ha]
    rfl
  by_cases h : d.length + 1 + a.length ≤ 80
  · rw [if_pos h]
    exact cleanL_valid (validB_of (by simp; omega) hp)
  · rw [if_neg h]
    unfold cleanL
    rw [cleanGo_parts _ _ hp, List.nil_append]
    have hv : validB (joinL (partsL (d ++ 47 :: a))) = false := by
      rw [joinL_parts]
      unfold validB
      rw [decide_eq_false (by simp; omega)]
      rfl
    simp only [hv]
    rfl

def upsL : Nat → List UInt8
  | 0 => []
  | n + 1 => upsL n ++ [46, 46, 47]

theorem upsL_front (n : Nat) : upsL (n + 1) = [46, 46, 47] ++ upsL n := by
  induction n with
  | zero => rfl
  | succ n ih =>
    show upsL (n + 1) ++ [46, 46, 47] = [46, 46, 47] ++ (upsL n ++ [46, 46, 47])
    rw [ih, List.append_assoc]

theorem partsL_ups (n : Nat) (a : List UInt8) : partsL (upsL n ++ a) = List.replicate n [46, 46] ++ partsL a := by
  induction n with
  | zero => rfl
  | succ n ih =>
    rw [upsL_front, show [46, 46, 47] ++ upsL n ++ a = [46, 46] ++ 47 :: (upsL n ++ a) from by simp, partsL_cut, ih]
    rfl

theorem joinPath_back {d a : List UInt8} (hd : validB d = true) (ha : validB a = true) : joinPath d (upsL (partsL d).length ++ a) = some a := by
  unfold joinPath
  have hn : (upsL (partsL d).length ++ a)[0]? ≠ some 47 := by
    have hne := partsL_ne d
    cases hk : partsL d with
    | nil => exact absurd hk hne
    | cons x r =>
      rw [List.length_cons, upsL_front]
      simp
  rw [if_neg hn]
  refine cleanL_of_go ha ?_
  rw [partsL_cut, partsL_ups, cleanGo_app, cleanGo_parts _ _ (validB_parts hd), List.nil_append]
  show cleanGo (partsL d) _ = _
  rw [cleanGo_ups, cleanGo_parts _ _ (validB_parts ha), List.nil_append]

/-! Parts joined. -/

theorem joinL_valid {l : List (List UInt8)} (hn : l ≠ []) (h : l.all partB = true) (hl : (joinL l).length ≤ 80) : validB (joinL l) = true := by
  refine validB_of hl ?_
  rw [partsL_joinL hn (fun x hx => partB_free (List.all_eq_true.1 h x hx))]
  exact h

def ups2L : Nat → List UInt8
  | 0 => []
  | n + 1 => ups2L n ++ [47, 46, 46]

theorem partsL_ups2 (p : List UInt8) (n : Nat) : partsL (p ++ ups2L n) = partsL p ++ List.replicate n [46, 46] := by
  induction n with
  | zero => simp [ups2L]
  | succ n ih =>
    rw [ups2L, ← List.append_assoc, show p ++ ups2L n ++ [47, 46, 46] = (p ++ ups2L n) ++ 47 :: [46, 46] from rfl, partsL_cut, ih, List.replicate_succ', List.append_assoc]
    rfl

theorem cleanL_ups {l : List (List UInt8)} (hn : l ≠ []) (h : l.all partB = true) (hl : (joinL l).length ≤ 80) (n : Nat) :
    cleanL (joinL l ++ ups2L n) = if n < l.length then some (joinL (l.take (l.length - n))) else none := by
  have hf : ∀ x ∈ l, (47 : UInt8) ∉ x := fun x hx => partB_free (List.all_eq_true.1 h x hx)
  have hg : cleanGo [] (partsL (joinL l ++ ups2L n)) = if n ≤ l.length then some (l.take (l.length - n)) else none := by
    rw [partsL_ups2, partsL_joinL hn hf, cleanGo_app, cleanGo_parts _ _ h, List.nil_append]
    exact cleanGo_some_ups l n
  unfold cleanL
  rw [hg]
  by_cases h1 : n < l.length
  · rw [if_pos (by omega), if_pos h1]
    have hne : l.take (l.length - n) ≠ [] := by
      intro e
      have := congrArg List.length e
      rw [List.length_take, List.length_nil] at this
      omega
    have hall : (l.take (l.length - n)).all partB = true := List.all_eq_true.2 fun x hx => List.all_eq_true.1 h x (List.mem_of_mem_take hx)
    have hlen : (joinL (l.take (l.length - n))).length ≤ (joinL l).length := by
      by_cases h2 : l.drop (l.length - n) = []
      · have e := List.take_append_drop (l.length - n) l
        rw [h2, List.append_nil] at e
        rw [e]
        exact Nat.le_refl _
      · have e := joinL_app hne h2
        rw [List.take_append_drop] at e
        rw [e, List.length_append]
        omega
    have hv := joinL_valid hne hall (by omega)
    simp only [hv, if_true]
  · rw [if_neg h1]
    by_cases h2 : n ≤ l.length
    · rw [if_pos h2, show l.length - n = 0 from by omega]
      rfl
    · rw [if_neg h2]

theorem cleanL_slashes {p : List UInt8} (h : validB p = true) : cleanL ([47, 47] ++ p ++ [47, 47, 46]) = some p := by
  refine cleanL_of_go h ?_
  have e : partsL ([47, 47] ++ p ++ [47, 47, 46]) = [[], []] ++ (partsL p ++ [[], [46]]) := by
    rw [show [47, 47] ++ p ++ [47, 47, 46] = [] ++ 47 :: ([] ++ 47 :: (p ++ 47 :: ([] ++ 47 :: [46]))) from by simp, partsL_cut, partsL_cut, partsL_cut, partsL_cut]
    simp [partsL, partsAux]
  rw [e, cleanGo_app, show cleanGo [] [[], []] = some [] from rfl]
  show cleanGo [] _ = _
  rw [cleanGo_app, cleanGo_parts _ _ (validB_parts h), List.nil_append]
  simp [cleanGo]

theorem dirGo_behind {l r : List UInt8} (h : (47 : UInt8) ∉ r) (k : Nat) (hk : k ≤ r.length) : dirGo (l ++ 47 :: r) (l.length + 1 + k) = l := by
  induction k with
  | zero =>
    rw [Nat.add_zero, dirGo, if_pos (by simp)]
    simp
  | succ k ih =>
    rw [show l.length + 1 + (k + 1) = (l.length + 1 + k) + 1 from by omega, dirGo, if_neg, ih (by omega)]
    rw [List.getElem?_append_right (by omega), show l.length + 1 + k - l.length = k + 1 from by omega, List.getElem?_cons_succ]
    intro e
    exact h (List.mem_of_getElem? e)

theorem dirL_behind {l r : List UInt8} (h : (47 : UInt8) ∉ r) : dirL (l ++ 47 :: r) = l := by
  unfold dirL
  have := dirGo_behind (l := l) h r.length (Nat.le_refl _)
  rw [show (l ++ 47 :: r).length = l.length + 1 + r.length from by simp; omega]
  exact this

theorem dirL_none {l : List UInt8} (h : (47 : UInt8) ∉ l) : dirL l = [] := by
  unfold dirL
  have : ∀ k, dirGo l k = [] := by
    intro k
    induction k with
    | zero => rfl
    | succ k ih =>
      rw [dirGo, if_neg, ih]
      intro e
      exact h (List.mem_of_getElem? e)
  exact this _

end Go.Proofs.YtfjdfdpelilelaaDoor
