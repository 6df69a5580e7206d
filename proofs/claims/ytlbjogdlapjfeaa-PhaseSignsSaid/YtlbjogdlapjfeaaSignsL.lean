/-
  Nine signs, and lines that are spliced as often as one likes; over lists.
-/
import Derived.Test.YtlbjogdlapjfeaaOrderL
import Derived.Test.YtlbjogdlapjfeaaRTri
namespace Go.Proofs.Ytlbjogdlapjfeaa

theorem tk_std {l : List UInt8} {i : Nat} (h1 : triAt l i = none) (h2 : ¬ (i + 1 < l.length ∧ l.getD (i + 1) 0 = 10)) : tk l i = (⟨l.getD i 0, i, i + 1⟩, true) := by
  have h : one l i = ⟨l.getD i 0, i, i + 1⟩ := by
    unfold one
    rw [h1]
  unfold tk
  rw [h, if_neg]
  intro hs
  have := spl_true hs
  exact h2 ⟨this.2.1, this.2.2⟩

def signText (c : UInt8) : List UInt8 := [120, 63, 63, c, 121]

theorem signs_tri {c : UInt8} (h : isTri c = true) : charsL (signText c) = [⟨120, 0, 1⟩, ⟨triB c, 1, 4⟩, ⟨121, 4, 5⟩, ⟨10, 5, 5⟩] := by
  have h1 : ∃ k, k < 9 ∧ signL.getD k 0 = c := by
    by_cases h2 : ∃ k, k < 9 ∧ signL.getD k 0 = c
    · exact h2
    · have := tri_none (c := c) fun j hj e => h2 ⟨j, hj, e⟩
      unfold isTri at h
      rw [this] at h
      cases h
  obtain ⟨k, hk, rfl⟩ := h1
  obtain rfl | rfl | rfl | rfl | rfl | rfl | rfl | rfl | rfl : k = 0 ∨ k = 1 ∨ k = 2 ∨ k = 3 ∨ k = 4 ∨ k = 5 ∨ k = 6 ∨ k = 7 ∨ k = 8 := by omega
  all_goals rfl

theorem signs_none {c : UInt8} (h : isTri c = false) : ∃ L, charsL (signText c) = L ∧ L.length = 6 ∧ L[1]? = some ⟨63, 1, 2⟩ := by
  have hn : tri c = none := by
    unfold isTri at h
    cases ht : tri c with
    | none => rfl
    | some d => rw [ht] at h; cases h
  have t0 : tk (signText c) 0 = (⟨120, 0, 1⟩, true) := tk_byte (l := signText c) (i := 0) (triAt_not (l := signText c) (i := 0) (show (120 : UInt8) ≠ 63 by decide)) (show (120 : UInt8) ≠ 92 by decide)
  have t1 : tk (signText c) 1 = (⟨63, 1, 2⟩, true) := tk_byte (l := signText c) (i := 1) (by
    unfold triAt
    rw [if_pos ⟨by simp [signText], rfl, rfl⟩]
    exact hn) (show (63 : UInt8) ≠ 92 by decide)
  have t2 : tk (signText c) 2 = (⟨63, 2, 3⟩, true) := tk_byte (l := signText c) (i := 2) (by
    unfold triAt
    split
    · rfl
    · rfl) (show (63 : UInt8) ≠ 92 by decide)
  have t3 : tk (signText c) 3 = (⟨c, 3, 4⟩, true) := tk_std (l := signText c) (i := 3) (by
    unfold triAt
    rw [if_neg]
    rintro ⟨h1, -⟩
    simp [signText] at h1) (by rintro ⟨-, h2⟩; exact absurd (show (121 : UInt8) = 10 from h2) (by decide))
  have t4 : tk (signText c) 4 = (⟨121, 4, 5⟩, true) := tk_byte (triAt_not (show (121 : UInt8) ≠ 63 by decide)) (show (121 : UInt8) ≠ 92 by decide)
  have hl : (signText c).length = 5 := rfl
  have e : chs (signText c) 0 = [⟨120, 0, 1⟩, ⟨63, 1, 2⟩, ⟨63, 2, 3⟩, ⟨c, 3, 4⟩, ⟨121, 4, 5⟩] := by
    rw [chs_step (by rw [hl]; omega), t0]
    rw [chs_step (by rw [hl]; show 1 < 5; omega), t1]
    rw [chs_step (by rw [hl]; show 2 < 5; omega), t2]
    rw [chs_step (by rw [hl]; show 3 < 5; omega), t3]
    rw [chs_step (by rw [hl]; show 4 < 5; omega), t4]
    rw [chs_end (by rw [hl]; exact Nat.le_refl _)]
    rfl
  refine ⟨_, rfl, ?_⟩
  unfold charsL withNl
  rw [if_neg (by simp [signText]), e]
  exact ⟨rfl, rfl⟩

def nineB (c : UInt8) (k : Nat) : Bool := (signL.take k).any fun x => decide (x = c)
theorem nine_all (c : UInt8) : nineB c 9 = isTri c := by
  by_cases h : ∃ k, k < 9 ∧ signL.getD k 0 = c
  · obtain ⟨k, hk, rfl⟩ := h
    obtain rfl | rfl | rfl | rfl | rfl | rfl | rfl | rfl | rfl : k = 0 ∨ k = 1 ∨ k = 2 ∨ k = 3 ∨ k = 4 ∨ k = 5 ∨ k = 6 ∨ k = 7 ∨ k = 8 := by omega
    all_goals rfl
  · have hn : ∀ j < 9, signL.getD j 0 ≠ c := fun j hj e => h ⟨j, hj, e⟩
    have := tri_none hn
    unfold isTri nineB
    rw [this]
    show List.any signL _ = false
    rw [List.any_eq_false]
    intro x hx
    obtain ⟨i, hi, rfl⟩ := List.mem_iff_getElem.1 hx
    have := hn i hi
    simp only [decide_eq_true_eq]
    simpa [List.getD, List.getElem?_eq_getElem hi] using this
theorem nine_step (c : UInt8) {k : Nat} (hk : k < 9) : nineB c (k + 1) = (nineB c k || decide (signL.getD k 0 = c)) := by
  have hk2 : k < signL.length := hk
  unfold nineB
  rw [List.take_succ_eq_append_getElem hk2, List.any_append]
  simp [List.getD, List.getElem?_eq_getElem hk2]

/-- What is spliced, so often. -/
def marks (m : List UInt8) : Nat → List UInt8
  | 0 => []
  | n + 1 => marks m n ++ m
theorem marks_len (m : List UInt8) : ∀ n, (marks m n).length = n * m.length
  | 0 => by simp [marks]
  | n + 1 => by rw [marks, List.length_append, marks_len m n, Nat.succ_mul]
theorem marks_front (m : List UInt8) : ∀ n, marks m (n + 1) = m ++ marks m n
  | 0 => by simp [marks]
  | n + 1 => by rw [marks, marks_front m n, List.append_assoc, show marks m n ++ m = marks m (n + 1) from rfl, marks_front m n]

def Splices (m : List UInt8) : Prop := ∀ r, tk (m ++ r) 0 = (⟨92, 0, m.length⟩, false)
theorem splices_back : Splices [92, 10] := by
  intro r
  unfold tk one
  rw [triAt_not (l := [92, 10] ++ r) (i := 0) (by simp)]
  rw [if_pos]
  · rfl
  · unfold spl
    simp
theorem splices_tri : Splices [63, 63, 47, 10] := by
  intro r
  have h : triAt ([63, 63, 47, 10] ++ r) 0 = some 92 := by
    unfold triAt
    rw [if_pos ⟨by simp, rfl, rfl⟩]
    rfl
  unfold tk one
  rw [h]
  rw [if_pos]
  · rfl
  · unfold spl
    simp

theorem chs_marks {m : List UInt8} (hm : Splices m) (h0 : 0 < m.length) (r : List UInt8) : ∀ n, chs (marks m n ++ r) 0 = (chs r 0).map (sh (n * m.length))
  | 0 => by
    show chs r 0 = _
    rw [show sh (0 * m.length) = id from by funext x; simp [sh]]
    simp
  | n + 1 => by
    rw [marks_front, List.append_assoc, chs_step (by rw [List.length_append]; omega), hm]
    show chs (m ++ (marks m n ++ r)) m.length = _
    have h := chs_right m (marks m n ++ r) _ 0 (Nat.le_refl _)
    rw [Nat.add_zero] at h
    rw [h, chs_marks hm h0 r n, List.map_map]
    apply List.map_congr_left
    intro x _
    simp only [Function.comp, sh]
    rw [Nat.succ_mul]
    congr 1 <;> omega

theorem chars_marks {m : List UInt8} (hm : Splices m) (h0 : 0 < m.length) (n : Nat) : charsL ((97 :: marks m n) ++ [98]) = [⟨97, 0, 1⟩, ⟨98, n * m.length + 1, n * m.length + 2⟩, ⟨10, n * m.length + 2, n * m.length + 2⟩] := by
  have hl : ((97 :: marks m n) ++ [98]).length = n * m.length + 2 := by simp [marks_len]
  have t0 : tk ((97 :: marks m n) ++ [98]) 0 = (⟨97, 0, 1⟩, true) := tk_byte (triAt_not (show (97 : UInt8) ≠ 63 by decide)) (show (97 : UInt8) ≠ 92 by decide)
  have e : chs ((97 :: marks m n) ++ [98]) 0 = [⟨97, 0, 1⟩, ⟨98, n * m.length + 1, n * m.length + 2⟩] := by
    rw [chs_step (by rw [hl]; omega), t0]
    have hr := chs_right [97] (marks m n ++ [98]) _ 0 (Nat.le_refl _)
    show _ ++ chs ([97] ++ (marks m n ++ [98])) ([97].length + 0) = _
    refine (congrArg (fun x => _ ++ x) hr).trans ?_
    rw [chs_marks hm h0]
    have : chs [98] 0 = [⟨98, 0, 1⟩] := rfl
    rw [this]
    simp [sh]
    omega
  unfold charsL withNl
  rw [if_neg (by simp), e, hl]
  rfl

end Go.Proofs.Ytlbjogdlapjfeaa
