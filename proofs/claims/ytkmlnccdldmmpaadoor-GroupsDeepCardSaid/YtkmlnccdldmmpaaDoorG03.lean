/-
  Texts of the proof, put together: GcSl, DkL.
-/
import Derived.Test.YtkmlnccdldmmpaaDoorG02
import Derived.Test.YtkmlnccdldmmpaaDoorG01

/-
  The builder's stack and what it tells of lines, over lists.
-/
namespace Go.Proofs.YtkmlnccdldmmpaaDoor

def baseFr (l : List Itm) : Fr := ⟨0, [], 0, l, false⟩
/-- The stack, from the outermost on; the first one stands for none. -/
def stackOf (s : Bs) : List Fr := baseFr s.ba :: s.st.reverse
theorem stack_none {s : Bs} (h : s.st = []) : stackOf s = [] ++ [baseFr s.ba] := by unfold stackOf; rw [h]; rfl
theorem stack_some {s : Bs} {f : Fr} {r : List Fr} (h : s.st = f :: r) : stackOf s = (baseFr s.ba :: r.reverse) ++ [f] := by unfold stackOf; rw [h]; simp
theorem stack_ends (s : Bs) : ∃ L a, stackOf s = L ++ [a] := by
  cases h : s.st with
  | nil => exact ⟨_, _, stack_none h⟩
  | cons f r => exact ⟨_, _, stack_some h⟩
theorem stack_put {s : Bs} {L : List Fr} {a : Fr} (h : stackOf s = L ++ [a]) (it : Itm) : stackOf (putB s it) = L ++ [{ a with cu := a.cu ++ [it] }] := by
  cases hs : s.st with
  | nil =>
    rw [stack_none hs] at h
    obtain ⟨h1, h2⟩ := List.append_inj' h rfl
    simp only [List.cons.injEq, and_true] at h2
    subst h1 h2
    have : (putB s it) = { s with ba := s.ba ++ [it] } := by unfold putB; rw [hs]
    rw [this]
    exact stack_none hs
  | cons f r =>
    rw [stack_some hs] at h
    obtain ⟨h1, h2⟩ := List.append_inj' h rfl
    simp only [List.cons.injEq, and_true] at h2
    subst h1 h2
    have : (putB s it) = { s with st := { f with cu := f.cu ++ [it] } :: r } := by unfold putB; rw [hs]
    rw [this]
    exact stack_some rfl

/-- What is told of a line. -/
def codeAt (s : Bs) (i : Nat) : Int := if i ∈ s.bad then 12 else if i ∈ s.st.map Fr.ln then 13 else 0
def CodesOk (codes : List Int) (s : Bs) : Prop := ∀ i z, codes[i]? = some z → z = codeAt s i
/-- The lines so far: those that are told, each once. -/
structure Fine (s : Bs) (i : Nat) : Prop where
  bad : ∀ b ∈ s.bad, b < i
  st : ∀ f ∈ s.st, f.ln < i
  nod : (s.st.map Fr.ln).Nodup
  apart : ∀ b ∈ s.bad, b ∉ s.st.map Fr.ln
  badn : s.bad.Nodup

theorem put_st (s : Bs) (it : Itm) : (putB s it).st.map Fr.ln = s.st.map Fr.ln := by
  unfold putB
  cases h : s.st <;> rfl
theorem close_st (s : Bs) : (closeB s).st.map Fr.ln = (s.st.map Fr.ln).tail := by
  unfold closeB
  cases h : s.st with
  | nil => simp [h]
  | cons f r => rw [put_st]; rfl
theorem arm_st (s : Bs) (i k : Nat) : (armB s i k).st.map Fr.ln = s.st.map Fr.ln := by
  unfold armB
  cases h : s.st with
  | nil => simp [h]
  | cons f r => rfl

theorem fine_zero : Fine bs0 0 := ⟨fun _ h => (by cases h), fun _ h => (by cases h), List.nodup_nil, fun _ h => (by cases h), List.nodup_nil⟩
theorem codeAt_same {s s' : Bs} (hb : s'.bad = s.bad) (hs : s'.st.map Fr.ln = s.st.map Fr.ln) (i : Nat) : codeAt s' i = codeAt s i := by unfold codeAt; rw [hb, hs]
theorem Fine.same {s s' : Bs} {i : Nat} (h : Fine s i) (hb : s'.bad = s.bad) (hs : s'.st.map Fr.ln = s.st.map Fr.ln) : Fine s' (i + 1) := by
  refine ⟨fun b hbb => by rw [hb] at hbb; have := h.bad b hbb; omega, fun f hf => ?_, by rw [hs]; exact h.nod, by rw [hb, hs]; exact h.apart, by rw [hb]; exact h.badn⟩
  have hm : f.ln ∈ s.st.map Fr.ln := by rw [← hs]; exact List.mem_map_of_mem hf
  obtain ⟨f', hf', he⟩ := List.mem_map.1 hm
  have := h.st f' hf'
  omega

/-- Does a line's place count as out of place? -/
def outB (s : Bs) (k : Nat) : Prop := (5 ≤ k ∧ k ≤ 7 ∧ s.st = []) ∨ ((k = 5 ∨ k = 6) ∧ endedB s = true)
theorem fine_step {s : Bs} {i : Nat} (h : Fine s i) (k : Nat) (ne : Bool) : Fine (stepB s i k ne) (i + 1) := by
  have hout : Fine { s with bad := s.bad ++ [i] } (i + 1) := by
    refine ⟨fun b hb => ?_, fun f hf => by have := h.st f hf; omega, h.nod, fun b hb => ?_, ?_⟩
    · rcases List.mem_append.1 hb with hb | hb
      · have := h.bad b hb; omega
      · simp at hb; omega
    · rcases List.mem_append.1 hb with hb | hb
      · exact h.apart b hb
      · simp at hb
        subst hb
        intro hm
        obtain ⟨f, hf, he⟩ := List.mem_map.1 hm
        have := h.st f hf
        omega
    · rw [List.nodup_append]
      refine ⟨h.badn, by simp, fun a ha b hb => ?_⟩
      simp at hb
      have := h.bad a ha
      omega
  unfold stepB
  by_cases h1 : 2 ≤ k ∧ k ≤ 4
  · rw [if_pos h1]
    refine ⟨fun b hb => by have := h.bad b hb; omega, fun f hf => ?_, ?_, fun b hb => ?_, h.badn⟩
    · rcases List.mem_cons.1 hf with rfl | hf
      · show i < i + 1; omega
      · have := h.st f hf; omega
    · show (i :: s.st.map Fr.ln).Nodup
      rw [List.nodup_cons]
      refine ⟨fun hm => ?_, h.nod⟩
      obtain ⟨f, hf, he⟩ := List.mem_map.1 hm
      have := h.st f hf
      omega
    · show b ∉ i :: s.st.map Fr.ln
      rw [List.mem_cons]
      rintro (rfl | hm)
      · have := h.bad b hb; omega
      · exact h.apart b hb hm
  · rw [if_neg h1]
    by_cases h2 : 5 ≤ k ∧ k ≤ 7 ∧ s.st = []
    · rw [if_pos h2]; exact hout
    · rw [if_neg h2]
      by_cases h3 : (k = 5 ∨ k = 6) ∧ endedB s = true
      · rw [if_pos h3]; exact hout
      · rw [if_neg h3]
        by_cases h4 : k = 5 ∨ k = 6
        · rw [if_pos h4]; exact h.same (bad_arm s i k) (arm_st s i k)
        · rw [if_neg h4]
          by_cases h5 : k = 7
          · rw [if_pos h5]
            refine ⟨fun b hb => by rw [bad_close] at hb; have := h.bad b hb; omega, fun f hf => ?_, ?_, fun b hb => ?_, by rw [bad_close]; exact h.badn⟩
            · have hm : f.ln ∈ (s.st.map Fr.ln).tail := by rw [← close_st]; exact List.mem_map_of_mem hf
              obtain ⟨f', hf', he⟩ := List.mem_map.1 (List.mem_of_mem_tail hm)
              have := h.st f' hf'
              omega
            · rw [close_st]; exact h.nod.tail
            · rw [bad_close] at hb
              rw [close_st]
              exact fun hm => h.apart b hb (List.mem_of_mem_tail hm)
          · rw [if_neg h5]
            split
            · exact h.same (bad_put s _) (put_st s _)
            · exact h.same rfl rfl

theorem codes_bad {codes : List Int} {s : Bs} {i : Nat} (h : CodesOk codes s) : CodesOk (codes.set i 12) { s with bad := s.bad ++ [i] } := by
  intro j z hj
  rw [List.getElem?_set] at hj
  unfold codeAt
  split at hj
  · rename_i e
    subst e
    split at hj
    · simp only [Option.some.injEq] at hj
      rw [if_pos (by simp)]
      exact hj.symm
    · cases hj
  · rename_i e
    rw [h j z hj]
    unfold codeAt
    have : (j ∈ s.bad ++ [i]) ↔ j ∈ s.bad := by simp; omega
    simp only [this]
theorem codes_open {codes : List Int} {s : Bs} {i : Nat} (h : CodesOk codes s) (hf : Fine s i) (f : Fr) (hfi : f.ln = i) : CodesOk (codes.set i 13) { s with st := f :: s.st } := by
  intro j z hj
  rw [List.getElem?_set] at hj
  unfold codeAt
  split at hj
  · rename_i e
    subst e
    split at hj
    · simp only [Option.some.injEq] at hj
      rw [if_neg (fun hb => by have := hf.bad _ hb; omega), if_pos (by simp [hfi])]
      exact hj.symm
    · cases hj
  · rename_i e
    rw [h j z hj]
    unfold codeAt
    have : (j ∈ (f :: s.st).map Fr.ln) ↔ j ∈ s.st.map Fr.ln := by
      rw [List.map_cons, List.mem_cons, hfi]
      constructor
      · rintro (rfl | h)
        · exact absurd rfl e
        · exact h
      · exact .inr
    simp only [this]
theorem codes_shut {codes : List Int} {s : Bs} {i : Nat} (h : CodesOk codes s) (hf : Fine s i) {f : Fr} {r : List Fr} (hs : s.st = f :: r) : CodesOk (codes.set f.ln 0) (closeB s) := by
  have hm : (closeB s).st.map Fr.ln = r.map Fr.ln := by rw [close_st, hs]; rfl
  have hn := hf.nod
  rw [hs, List.map_cons, List.nodup_cons] at hn
  intro j z hj
  rw [List.getElem?_set] at hj
  unfold codeAt
  rw [bad_close, hm]
  split at hj
  · rename_i e
    subst e
    split at hj
    · simp only [Option.some.injEq] at hj
      rw [if_neg (fun hb => hf.apart _ hb (by rw [hs]; simp)), if_neg hn.1]
      exact hj.symm
    · cases hj
  · rename_i e
    rw [h j z hj]
    unfold codeAt
    have : (j ∈ s.st.map Fr.ln) ↔ j ∈ r.map Fr.ln := by
      rw [hs, List.map_cons, List.mem_cons]
      constructor
      · rintro (rfl | h)
        · exact absurd rfl e
        · exact h
      · exact .inr
    simp only [this]
theorem codes_same {codes : List Int} {s s' : Bs} (h : CodesOk codes s) (hb : s'.bad = s.bad) (hs : s'.st.map Fr.ln = s.st.map Fr.ln) : CodesOk codes s' := fun i z hz => by rw [codeAt_same hb hs]; exact h i z hz

theorem map_snoc_inv {α β : Type} {F : List (α × β)} {L : List α} {a : α} (h : F.map Prod.fst = L ++ [a]) : ∃ F0 x, F = F0 ++ [(a, x)] ∧ F0.map Prod.fst = L := by
  obtain ⟨F0, F1, rfl, h1, h2⟩ := List.map_eq_append_iff.1 h
  match F1, h2 with
  | [p], h2 =>
    simp only [List.map_cons, List.map_nil, List.cons.injEq, and_true] at h2
    subst h2
    exact ⟨F0, p.2, rfl, h1⟩

end Go.Proofs.YtkmlnccdldmmpaaDoor

/-
  Directives, over lists: any tokens, which kind a line of them is of, and what stands behind its word.
-/
namespace Go.Proofs.YtkmlnccdldmmpaaDoor

/-- A site. -/
structure Xs where
  m : ByteArray
  g : ByteArray
  f : Int
  t : Int
  d : Bool
/-- A token, any. -/
structure Xt where
  k : Int
  x : ByteArray
  sp : Bool
  g : ByteArray
  f : Int
  t : Int
  d : Bool
  ss : List Xs

/-- The words by their kinds. -/
def wB : Nat → ByteArray
  | 2 => ⟨#[105, 102]⟩
  | 3 => ⟨#[105, 102, 100, 101, 102]⟩
  | 4 => ⟨#[105, 102, 110, 100, 101, 102]⟩
  | 5 => ⟨#[101, 108, 105, 102]⟩
  | 6 => ⟨#[101, 108, 115, 101]⟩
  | 7 => ⟨#[101, 110, 100, 105, 102]⟩
  | 8 => ⟨#[105, 110, 99, 108, 117, 100, 101]⟩
  | 9 => ⟨#[100, 101, 102, 105, 110, 101]⟩
  | 10 => ⟨#[117, 110, 100, 101, 102]⟩
  | 11 => ⟨#[108, 105, 110, 101]⟩
  | 12 => ⟨#[101, 114, 114, 111, 114]⟩
  | 13 => ⟨#[112, 114, 97, 103, 109, 97]⟩
  | _ => ⟨#[]⟩

def wFrom (x : ByteArray) : Nat → Nat → Nat
  | 0, _ => 14
  | n + 1, i => if x = wB i then i else wFrom x n (i + 1)
/-- A word's kind. -/
def wKind (x : ByteArray) : Nat := wFrom x 12 2

theorem wFrom_yes {x : ByteArray} {k : Nat} (h : x = wB k) (hk : k < 14) : wFrom x (14 - k) k = k := by
  obtain ⟨n, hn⟩ : ∃ n, 14 - k = n + 1 := ⟨13 - k, by omega⟩
  rw [hn]
  show (if x = wB k then k else _) = k
  rw [if_pos h]
theorem wFrom_no {x : ByteArray} {k : Nat} (h : x ≠ wB k) (hk : k < 14) : wFrom x (14 - k) k = wFrom x (14 - (k + 1)) (k + 1) := by
  obtain ⟨n, hn⟩ : ∃ n, 14 - k = n + 1 := ⟨13 - k, by omega⟩
  rw [hn, show 14 - (k + 1) = n from by omega]
  show (if x = wB k then k else wFrom x n (k + 1)) = _
  rw [if_neg h]
theorem wFrom_is {x : ByteArray} : ∀ (n i : Nat), i + n = 14 → 2 ≤ i → (wFrom x n i = 14 ∨ (i ≤ wFrom x n i ∧ wFrom x n i < 14 ∧ x = wB (wFrom x n i)))
  | 0, i, _, _ => .inl rfl
  | n + 1, i, h, h2 => by
    show (if x = wB i then i else wFrom x n (i + 1)) = 14 ∨ (i ≤ (if x = wB i then i else wFrom x n (i + 1)) ∧ (if x = wB i then i else wFrom x n (i + 1)) < 14 ∧ x = wB (if x = wB i then i else wFrom x n (i + 1)))
    by_cases hx : x = wB i
    · rw [if_pos hx]
      exact .inr ⟨Nat.le_refl _, by omega, hx⟩
    · rw [if_neg hx]
      rcases wFrom_is n (i + 1) (by omega) (by omega) with h1 | ⟨h1, h3, h4⟩
      · exact .inl h1
      · exact .inr ⟨by omega, h3, h4⟩
theorem wKind_is (x : ByteArray) : wKind x = 14 ∨ (2 ≤ wKind x ∧ wKind x < 14 ∧ x = wB (wKind x)) := wFrom_is 12 2 rfl (by omega)
theorem wKind_word : ∀ k, 2 ≤ k → k < 14 → wKind (wB k) = k := by
  intro k h1 h2
  have : k = 2 ∨ k = 3 ∨ k = 4 ∨ k = 5 ∨ k = 6 ∨ k = 7 ∨ k = 8 ∨ k = 9 ∨ k = 10 ∨ k = 11 ∨ k = 12 ∨ k = 13 := by omega
  rcases this with rfl | rfl | rfl | rfl | rfl | rfl | rfl | rfl | rfl | rfl | rfl | rfl <;> decide

def bH : ByteArray := ⟨#[35]⟩
def bD : ByteArray := ⟨#[37, 58]⟩
/-- Is a token a hash? -/
def hashX (t : Xt) : Bool := decide (t.k = 5) && (t.x.toList == [35] || t.x.toList == [37, 58])

/-- A line's kind. -/
def kindL : List Xt → Nat
  | [] => 0
  | h :: r => if hashX h then (match r with
    | [] => 1
    | s :: _ => if s.k = 1 then wKind s.x else 14) else 0
/-- What stands behind its word. -/
def restL (T : List Xt) : List Xt := if kindL T < 2 then [] else T.drop 2

theorem kindL_le (T : List Xt) : kindL T ≤ 14 := by
  unfold kindL
  split
  · omega
  · split
    · split
      · omega
      · split
        · rename_i s _ _
          rcases wKind_is s.x with h | h <;> omega
        · omega
    · omega
theorem kindL_len {T : List Xt} (h : 2 ≤ kindL T) : 2 ≤ T.length := by
  match T with
  | [] => simp [kindL] at h
  | [a] =>
    rw [show kindL [a] = if hashX a then 1 else 0 from rfl] at h
    split at h <;> omega
  | a :: b :: r => simp
theorem kindL_word {T : List Xt} (h : 2 ≤ kindL T) : kindL T = 14 ∨ (kindL T < 14 ∧ ∃ t, T[1]? = some t ∧ t.x = wB (kindL T)) := by
  match T with
  | [] => simp [kindL] at h
  | [a] =>
    rw [show kindL [a] = if hashX a then 1 else 0 from rfl] at h
    split at h <;> omega
  | a :: b :: r =>
    have e : kindL (a :: b :: r) = if hashX a then (if b.k = 1 then wKind b.x else 14) else 0 := rfl
    rw [e] at h ⊢
    split at h
    · rename_i ha
      rw [if_pos ha]
      split
      · rename_i hb
        rcases wKind_is b.x with h1 | h1
        · exact .inl h1
        · exact .inr ⟨h1.2.1, b, rfl, h1.2.2⟩
      · exact .inl rfl
    · omega

end Go.Proofs.YtkmlnccdldmmpaaDoor
