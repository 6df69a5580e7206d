/-
  Two pieces of a text, over lists: what stands in them is what stands in the whole, unless it was cut within what belongs together.
-/
import Derived.Test.YtpnboieppkjfnaaChL
namespace Go.Proofs.Ytpnboieppkjfnaa

/-- The first piece ends with nothing that may begin a trigraph or a splice. -/
def Whole (a : List UInt8) : Prop :=
  (0 < a.length → a.getD (a.length - 1) 0 ≠ 63 ∧ a.getD (a.length - 1) 0 ≠ 92) ∧ (2 < a.length → ¬ (a.getD (a.length - 3) 0 = 63 ∧ a.getD (a.length - 2) 0 = 63 ∧ a.getD (a.length - 1) 0 = 47))

theorem get_left {a b : List UInt8} {i : Nat} (h : i < a.length) : (a ++ b).getD i 0 = a.getD i 0 := by
  simp only [List.getD]
  rw [List.getElem?_append_left h]
theorem get_right (a b : List UInt8) (j : Nat) : (a ++ b).getD (a.length + j) 0 = b.getD j 0 := by
  simp only [List.getD]
  rw [List.getElem?_append_right (by omega)]
  congr 2
  omega

theorem triAt_left {a b : List UInt8} (hw : Whole a) {i : Nat} (hi : i < a.length) : triAt (a ++ b) i = triAt a i := by
  by_cases h2 : i + 2 < a.length
  · unfold triAt
    rw [get_left hi, get_left (i := i + 1) (by omega), get_left (i := i + 2) (by omega), List.length_append]
    by_cases h : a.getD i 0 = 63 ∧ a.getD (i + 1) 0 = 63
    · rw [if_pos ⟨by omega, h⟩, if_pos ⟨h2, h⟩]
    · rw [if_neg fun h1 => h h1.2, if_neg fun h1 => h h1.2]
  · have e1 : triAt a i = none := by
      unfold triAt
      rw [if_neg fun h1 => h2 h1.1]
    rw [e1]
    have hl := (hw.1 (by omega)).1
    by_cases h1 : i + 1 < a.length
    · apply triAt_not2
      rw [get_left h1, show i + 1 = a.length - 1 from by omega]
      exact hl
    · apply triAt_not
      rw [get_left hi, show i = a.length - 1 from by omega]
      exact hl

theorem one_left {a b : List UInt8} (hw : Whole a) {i : Nat} (hi : i < a.length) : one (a ++ b) i = one a i := by
  unfold one
  rw [triAt_left hw hi, get_left hi]

theorem spl_left {a b : List UInt8} (hw : Whole a) {i : Nat} (hi : i < a.length) : spl (a ++ b) (one a i) = spl a (one a i) := by
  have ht := one_t a i
  by_cases h : (one a i).t < a.length
  · unfold spl
    rw [get_left h, List.length_append]
    rw [decide_eq_true h, decide_eq_true (show (one a i).t < a.length + b.length from by omega)]
  · have hc : (one a i).c ≠ 92 := by
      cases htr : triAt a i with
      | none =>
        have e : one a i = ⟨a.getD i 0, i, i + 1⟩ := by unfold one; rw [htr]
        rw [e] at h ⊢
        simp only at h
        have := (hw.1 (by omega)).2
        rw [show a.length - 1 = i from by omega] at this
        exact this
      | some d =>
        have e : one a i = ⟨d, i, i + 3⟩ := by unfold one; rw [htr]
        have hs := triAt_some htr
        rw [e] at h ⊢
        simp only at h
        have h3 := hw.2 (by omega)
        rw [show a.length - 3 = i from by omega, show a.length - 2 = i + 1 from by omega, show a.length - 1 = i + 2 from by omega] at h3
        intro hd
        have hd' : d = 92 := hd
        apply h3
        refine ⟨hs.2.1, hs.2.2.1, ?_⟩
        have h4 := hs.2.2.2
        rw [hd'] at h4
        generalize a.getD (i + 2) 0 = x at h4
        unfold tri at h4
        repeat' (split at h4)
        all_goals (first | assumption | (exact absurd h4 (by decide)) | cases h4)
    unfold spl
    rw [decide_eq_false hc]
    rfl

theorem tk_left {a b : List UInt8} (hw : Whole a) {i : Nat} (hi : i < a.length) : tk (a ++ b) i = tk a i := by
  unfold tk
  rw [one_left hw hi, spl_left hw hi]

theorem chs_left {a b : List UInt8} (hw : Whole a) : ∀ (n i : Nat), a.length - i ≤ n → i ≤ a.length → chs (a ++ b) i = chs a i ++ chs (a ++ b) a.length
  | 0, i, h, hi => by
    have e : i = a.length := by omega
    rw [e, chs_end (l := a) (Nat.le_refl _)]
    rfl
  | n + 1, i, h, hi => by
    by_cases hlt : i < a.length
    · have ht := tk_t a i
      rw [chs_step (l := a ++ b) (by rw [List.length_append]; omega), chs_step hlt, tk_left hw hlt, chs_left hw n (tk a i).1.t (by omega) (ht.2.2 hlt), List.append_assoc]
    · have e : i = a.length := by omega
      rw [e, chs_end (l := a) (Nat.le_refl _)]
      rfl

def sh (n : Nat) (r : Rn) : Rn := ⟨r.c, n + r.f, n + r.t⟩

theorem triAt_right (a b : List UInt8) (j : Nat) : triAt (a ++ b) (a.length + j) = triAt b j := by
  unfold triAt
  rw [get_right, Nat.add_assoc, Nat.add_assoc, get_right, get_right, List.length_append]
  by_cases h : j + 2 < b.length ∧ b.getD j 0 = 63 ∧ b.getD (j + 1) 0 = 63
  · rw [if_pos h, if_pos ⟨by omega, h.2⟩]
  · rw [if_neg h, if_neg]
    rintro ⟨h1, h2⟩
    exact h ⟨by omega, h2⟩

theorem one_right (a b : List UInt8) (j : Nat) : one (a ++ b) (a.length + j) = sh a.length (one b j) := by
  unfold one
  rw [triAt_right, get_right]
  split <;> rfl

theorem spl_right (a b : List UInt8) (r : Rn) : spl (a ++ b) (sh a.length r) = spl b r := by
  unfold spl sh
  simp only
  rw [get_right, List.length_append]
  congr 2
  simp

theorem tk_right (a b : List UInt8) (j : Nat) : tk (a ++ b) (a.length + j) = (sh a.length (tk b j).1, (tk b j).2) := by
  unfold tk
  rw [one_right, spl_right]
  split <;> rfl

theorem chs_right (a b : List UInt8) : ∀ (n j : Nat), b.length - j ≤ n → chs (a ++ b) (a.length + j) = (chs b j).map (sh a.length)
  | 0, j, h => by
    rw [chs_end (l := b) (by omega), chs_end (by rw [List.length_append]; omega)]
    rfl
  | n + 1, j, h => by
    by_cases hlt : j < b.length
    · have ht := tk_t b j
      rw [chs_step (by rw [List.length_append]; omega), chs_step hlt, tk_right, List.map_append]
      show _ ++ chs (a ++ b) (a.length + (tk b j).1.t) = _
      rw [chs_right a b n (tk b j).1.t (by omega)]
      split <;> rfl
    · rw [chs_end (l := b) (by omega), chs_end (by rw [List.length_append]; omega)]
      rfl

theorem chs_append {a b : List UInt8} (hw : Whole a) : chs (a ++ b) 0 = chs a 0 ++ (chs b 0).map (sh a.length) := by
  rw [chs_left hw a.length 0 (by omega) (by omega)]
  have := chs_right a b b.length 0 (by omega)
  rw [Nat.add_zero] at this
  rw [this]

theorem filter_all {L : List Rn} {p : Rn → Bool} (h : ∀ r ∈ L, p r = true) : L.filter p = L := List.filter_eq_self.2 h
theorem filter_none {L : List Rn} {p : Rn → Bool} (h : ∀ r ∈ L, p r = false) : L.filter p = [] := List.filter_eq_nil_iff.2 fun r hr => by rw [h r hr]; simp

theorem backL_whole (l : List UInt8) (b : Int) (hb : (l.length : Int) ≤ b) : backL l 0 b = (chs l 0).map Rn.c := by
  unfold backL bk
  rw [filter_all]
  intro r hr
  have := chs_mem l _ 0 (Nat.le_refl _) r hr
  unfold within
  simp
  omega

theorem map_sh (n : Nat) (L : List Rn) : (L.map (sh n)).map Rn.c = L.map Rn.c := by
  rw [List.map_map]
  rfl

theorem back_parts {a b : List UInt8} (hw : Whole a) : backL (a ++ b) 0 ((a.length : Int) + b.length) = backL a 0 a.length ++ backL b 0 b.length := by
  rw [backL_whole (a ++ b) ((a.length : Int) + b.length) (by rw [List.length_append]; omega), backL_whole a a.length (Int.le_refl _), backL_whole b b.length (Int.le_refl _), chs_append hw, List.map_append, map_sh]

theorem back_halves {a b : List UInt8} (hw : Whole a) : backL (a ++ b) 0 a.length ++ backL (a ++ b) a.length ((a.length : Int) + b.length) = backL (a ++ b) 0 ((a.length : Int) + b.length) := by
  rw [backL_whole (a ++ b) ((a.length : Int) + b.length) (by rw [List.length_append]; omega)]
  unfold backL bk
  rw [chs_append hw, List.filter_append, List.filter_append, List.map_append, List.map_append, List.map_append, map_sh]
  have h1 : (chs a 0).filter (within 0 a.length) = chs a 0 := filter_all fun r hr => by
    have := chs_mem a _ 0 (Nat.le_refl _) r hr
    unfold within
    simp
    omega
  have h2 : ((chs b 0).map (sh a.length)).filter (within 0 a.length) = [] := filter_none fun r hr => by
    obtain ⟨q, hq, rfl⟩ := List.mem_map.1 hr
    have := chs_mem b _ 0 (Nat.le_refl _) q hq
    unfold within sh
    simp
    omega
  have h3 : (chs a 0).filter (within a.length ((a.length : Int) + b.length)) = [] := filter_none fun r hr => by
    have := chs_mem a _ 0 (Nat.le_refl _) r hr
    unfold within
    simp
    omega
  have h4 : ((chs b 0).map (sh a.length)).filter (within a.length ((a.length : Int) + b.length)) = (chs b 0).map (sh a.length) := filter_all fun r hr => by
    obtain ⟨q, hq, rfl⟩ := List.mem_map.1 hr
    have := chs_mem b _ 0 (Nat.le_refl _) q hq
    unfold within sh
    simp
    omega
  rw [h1, h2, h3, h4, map_sh]
  simp

end Go.Proofs.Ytpnboieppkjfnaa
