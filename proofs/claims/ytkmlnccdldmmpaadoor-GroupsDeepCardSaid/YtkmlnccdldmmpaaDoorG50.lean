/-
  Texts of the proof, put together: EdA.
-/
import Derived.Test.YtkmlnccdldmmpaaDoorG08
import Derived.Test.YtkmlnccdldmmpaaDoorG13

/-
  What begins somewhere hangs on the line alone: lists of bytes that end with a byte 10, and whatever stands behind.
-/
namespace Go.Proofs.YtkmlnccdldmmpaaDoor

def E10 (x : List UInt8) : Prop := 0 < x.length ∧ x.getD (x.length - 1) 0 = 10

theorem E10.drop {x : List UInt8} (h : E10 x) {i : Nat} (hi : i < x.length) : E10 (x.drop i) := by
  refine ⟨by rw [List.length_drop]; omega, ?_⟩
  rw [List.length_drop, getD_drop, show i + (x.length - i - 1) = x.length - 1 from by omega]
  exact h.2
theorem E10.cons {c : UInt8} {r : List UInt8} (h : E10 (c :: r)) (hr : r ≠ []) : E10 r := by
  have := h.drop (i := 1) (by cases r with | nil => exact absurd rfl hr | cons a b => simp)
  simpa using this
theorem E10.tail {c : UInt8} {r : List UInt8} (h : E10 (c :: r)) (hc : c ≠ 10) : E10 r := by
  refine h.cons ?_
  rintro rfl
  exact hc (by simpa using h.2)
theorem E10.app {x y : List UInt8} (hy : E10 y) : E10 (x ++ y) := by
  have h0 := hy.1
  refine ⟨by rw [List.length_append]; omega, ?_⟩
  rw [List.length_append, show x.length + y.length - 1 = x.length + (y.length - 1) from by omega, get_right]
  exact hy.2
theorem E10.next {x : List UInt8} (h : E10 x) {i : Nat} (hi : i < x.length) (hc : x.getD i 0 ≠ 10) : i + 1 < x.length := by
  rcases Nat.lt_or_ge (i + 1) x.length with h1 | h1
  · exact h1
  · exfalso
    apply hc
    rw [show i = x.length - 1 from by omega]
    exact h.2

theorem wordN_app : ∀ (x y : List UInt8), E10 x → wordN (x ++ y) = wordN x
  | [], _, h => absurd h.1 (by simp)
  | c :: r, y, h => by
    show (if isWord c then wordN (r ++ y) + 1 else 0) = (if isWord c then wordN r + 1 else 0)
    by_cases hc : isWord c = true
    · rw [if_pos hc, if_pos hc, wordN_app r y (h.tail (isWord_ne hc).1)]
    · rw [if_neg hc, if_neg hc]
theorem numN_app : ∀ (p : UInt8) (x y : List UInt8), E10 x → numN p (x ++ y) = numN p x
  | _, [], _, h => absurd h.1 (by simp)
  | p, c :: r, y, h => by
    show (if numC p c then numN c (r ++ y) + 1 else 0) = (if numC p c then numN c r + 1 else 0)
    by_cases hc : numC p c = true
    · rw [if_pos hc, if_pos hc, numN_app c r y (h.tail (numC_ne hc).1)]
    · rw [if_neg hc, if_neg hc]
theorem qN_app (q : UInt8) : ∀ (t : Bool) (x y : List UInt8), E10 x → qN q t (x ++ y) = qN q t x
  | _, [], _, h => absurd h.1 (by simp)
  | t, c :: r, y, h => by
    rw [List.cons_append, qN, qN]
    by_cases hc : c = 10
    · rw [if_pos hc, if_pos hc]
    · rw [if_neg hc, if_neg hc, qN_app q false r y (h.tail hc), qN_app q true r y (h.tail hc)]
theorem remN_app : ∀ (x y : List UInt8), E10 x → remN (x ++ y) = remN x
  | [], _, h => absurd h.1 (by simp)
  | c :: r, y, h => by
    rw [List.cons_append, remN, remN]
    by_cases hc : c = 10
    · rw [if_pos hc, if_pos hc]
    · rw [if_neg hc, if_neg hc, remN_app r y (h.tail hc)]
theorem comN_some : ∀ (x y : List UInt8) (n : Nat), comN x = some n → comN (x ++ y) = some n
  | [], _, _, h => by cases h
  | c :: r, y, n, h => by
    rw [comN] at h
    rw [List.cons_append, comN]
    by_cases hc : c = 42 ∧ r.getD 0 0 = 47
    · rw [if_pos hc] at h
      have hr : 0 < r.length := getD_lt (by rw [hc.2]; decide)
      rw [if_pos ⟨hc.1, by rw [get_left hr]; exact hc.2⟩]
      exact h
    · rw [if_neg hc] at h
      rw [Option.map_eq_some_iff] at h
      obtain ⟨m, hm, rfl⟩ := h
      have hr : 0 < r.length := by
        cases r with
        | nil => cases hm
        | cons a b => simp
      rw [if_neg (by rw [get_left hr]; exact hc), comN_some r y m hm]
      rfl
theorem comN_none : ∀ (x y : List UInt8), E10 x → comN x = none → comN (x ++ y) = (comN y).map (· + x.length)
  | [], _, h, _ => absurd h.1 (by simp)
  | c :: r, y, h, hn => by
    rw [comN] at hn
    rw [List.cons_append, comN]
    by_cases hc : c = 42 ∧ r.getD 0 0 = 47
    · rw [if_pos hc] at hn
      cases hn
    · rw [if_neg hc] at hn
      rw [Option.map_eq_none_iff] at hn
      cases r with
      | nil =>
        have h10 : c = 10 := by simpa using h.2
        rw [if_neg (by rw [h10]; rintro ⟨h1, -⟩; exact absurd h1 (by decide))]
        rfl
      | cons a b =>
        rw [if_neg (by rw [get_left (by simp)]; exact hc), comN_none (a :: b) y (h.cons (by simp)) hn, Option.map_map]
        rfl

theorem lett_app {x : List UInt8} (h : E10 x) (y : List UInt8) : lettN (x ++ y) = lettN x := by
  have g0 : (x ++ y).getD 0 0 = x.getD 0 0 := get_left h.1
  by_cases h0 : x.getD 0 0 = 10
  · unfold lettN
    rw [g0, h0]
    simp
  · have h1 := h.next h.1 h0
    have g1 : (x ++ y).getD 1 0 = x.getD 1 0 := get_left h1
    by_cases h10 : x.getD 1 0 = 10
    · unfold lettN
      rw [g0, g1, h10]
      simp
    · have h2 := h.next h1 h10
      have g2 : (x ++ y).getD 2 0 = x.getD 2 0 := get_left h2
      unfold lettN
      rw [g0, g1, g2]
theorem lett_in10 {x : List UInt8} (h : E10 x) : lettN x < x.length := by
  rcases lettN_is x with h1 | ⟨h1, h2, -⟩ | ⟨h1, h2, h3, -⟩
  · rw [h1]; exact h.1
  · rw [h1]; exact h.next h.1 (isWord_ne h2).1
  · rw [h1]; exact h.next (h.next h.1 (isWord_ne h2).1) (isWord_ne h3).1
theorem conN_app {x : List UInt8} (h : E10 x) (y : List UInt8) : conN (x ++ y) = conN x := by
  have hl := lett_in10 h
  have hg : (x ++ y).getD (lettN x) 0 = x.getD (lettN x) 0 := get_left hl
  have go : ∀ q : UInt8, q ≠ 10 → x.getD (lettN x) 0 = q → qN q false ((x ++ y).drop (lettN x + 1)) = qN q false (x.drop (lettN x + 1)) := by
    intro q hq he
    have h1 := h.next hl (by rw [he]; exact hq)
    rw [List.drop_append_of_le_length (by omega), qN_app q false _ y (h.drop h1)]
  unfold conN
  rw [lett_app h, hg]
  by_cases h1 : x.getD (lettN x) 0 = 34
  · rw [if_pos h1, if_pos h1, go 34 (by decide) h1]
  · rw [if_neg h1, if_neg h1]
    by_cases h2 : x.getD (lettN x) 0 = 39
    · rw [if_pos h2, if_pos h2, go 39 (by decide) h2]
    · rw [if_neg h2, if_neg h2]
theorem find_eqs {α : Type} {f g : α → Bool} : ∀ {l : List α}, (∀ x ∈ l, f x = g x) → l.find? f = l.find? g
  | [], _ => rfl
  | a :: r, h => by
    rw [List.find?_cons, List.find?_cons, h a (List.mem_cons_self), find_eqs fun x hx => h x (List.mem_cons_of_mem _ hx)]
theorem punct_app {x : List UInt8} (h : E10 x) (y : List UInt8) : punctN (x ++ y) = punctN x := by
  have : PL.find? (fun p => p.isPrefixOf (x ++ y)) = PL.find? (fun p => p.isPrefixOf x) := by
    apply find_eqs
    intro p hp
    rw [Bool.eq_iff_iff, List.isPrefixOf_iff_prefix, List.isPrefixOf_iff_prefix]
    constructor
    · intro hpre
      by_cases hl : p.length ≤ x.length
      · exact List.prefix_of_prefix_length_le hpre (List.prefix_append x y) hl
      · exfalso
        have hx : x <+: p := List.prefix_of_prefix_length_le (List.prefix_append x y) hpre (by omega)
        have h1 := prefix_get hx (j := x.length - 1) (by have := h.1; omega)
        rw [h.2] at h1
        have hm := get_mem (p := p) (j := x.length - 1) (by omega)
        rw [h1] at hm
        exact (PL_no p hp 10 hm).1 rfl
    · intro hpre
      exact hpre.trans (List.prefix_append x y)
  unfold punctN
  rw [this]
theorem tok_app {x : List UInt8} (h : E10 x) (h0 : x.getD 0 0 ≠ 10) (y : List UInt8) : tok (x ++ y) = tok x := by
  have h1 := h.next h.1 h0
  have hd := h.drop h1
  unfold tok
  rw [conN_app h, get_left h.1, get_left h1, List.drop_append_of_le_length (by omega), wordN_app _ _ hd, numN_app _ _ _ hd, punct_app h]
theorem begN_app {x : List UInt8} (h : E10 x) (y : List UInt8) : begN (x ++ y) = begN x := by
  unfold begN
  rw [get_left h.1]
  by_cases h0 : x.getD 0 0 = 10
  · rw [if_pos h0, if_pos h0]
  · rw [if_neg h0, if_neg h0, get_left (h.next h.1 h0)]
theorem item_app {x : List UInt8} (h : E10 x) (ho : item x ≠ .opn) (y : List UInt8) : item (x ++ y) = item x := by
  have hb := begN_app h y
  rcases begN_five x with h1 | h1 | h1 | h1 | h1
  · rw [item_tk h1, item_tk (by rw [hb]; exact h1), tok_app h (fun e => by rw [begN_two' e] at h1; cases h1)]
  · rw [item_nl h1, item_nl (by rw [hb]; exact h1)]
  · rw [item_sp h1, item_sp (by rw [hb]; exact h1)]
  · rw [item_rem h1, item_rem (by rw [hb]; exact h1), remN_app x y h]
  · have h5 := begN_fiveC h1
    have hl1 := h.next h.1 (by rw [h5.1]; decide)
    cases hc : comN (x.drop 2) with
    | none => exact absurd (item_opn h1 hc) ho
    | some n =>
      rw [item_com h1 hc, item_com (n := n) (by rw [hb]; exact h1) ?_]
      rw [List.drop_append_of_le_length (by omega)]
      exact comN_some _ y n hc
/-- A comment that does not end in the first piece ends behind it, or not at all. -/
theorem item_opn_app {x : List UInt8} (h : E10 x) (ho : item x = .opn) (y : List UInt8) : (item (x ++ y) = .opn ∧ comN y = none) ∨ ∃ n, comN y = some n ∧ item (x ++ y) = .gap (x.length + n) := by
  have hb := begN_app h y
  rcases begN_five x with h1 | h1 | h1 | h1 | h1
  · rw [item_tk h1] at ho; cases ho
  · rw [item_nl h1] at ho; cases ho
  · rw [item_sp h1] at ho; cases ho
  · rw [item_rem h1] at ho; cases ho
  · have h5 := begN_fiveC h1
    have hl1 := h.next h.1 (by rw [h5.1]; decide)
    have hl2 := h.next hl1 (by rw [h5.2]; decide)
    cases hc : comN (x.drop 2) with
    | some n => rw [item_com h1 hc] at ho; cases ho
    | none =>
      have hd := comN_none _ y (h.drop hl2) hc
      rw [← List.drop_append_of_le_length (by omega)] at hd
      cases hy : comN y with
      | none =>
        rw [hy] at hd
        exact .inl ⟨item_opn (by rw [hb]; exact h1) hd, rfl⟩
      | some n =>
        rw [hy] at hd
        refine .inr ⟨n, rfl, ?_⟩
        rw [item_com (by rw [hb]; exact h1) hd, List.length_drop]
        show It.gap (n + (x.length - (0 + 1 + 1)) + 2) = _
        congr 1
        omega

end Go.Proofs.YtkmlnccdldmmpaaDoor
