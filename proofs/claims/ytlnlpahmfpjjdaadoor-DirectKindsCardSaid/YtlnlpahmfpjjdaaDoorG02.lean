/-
  Texts of the proof, put together: GrL, GrBuildL, GrOrderL, GcSl, DkL.
-/
import Derived.Test.YtlnlpahmfpjjdaaDoorG01

/-
  Items within items, over lists: which lines they have, and how deep they stand.
-/
namespace Go.Proofs.YtlnlpahmfpjjdaaDoor

/-- An item: its kind, its line, its arms. -/
inductive Itm where
  | mk (k line : Int) (arms : List (Int × List Itm))
def Itm.k : Itm → Int | .mk k _ _ => k
def Itm.line : Itm → Int | .mk _ l _ => l
def Itm.arms : Itm → List (Int × List Itm) | .mk _ _ a => a

/-- No deeper than that. -/
def Fits : Nat → List Itm → Prop
  | 0, l => ∀ it ∈ l, it.arms = []
  | d + 1, l => ∀ it ∈ l, ∀ a ∈ it.arms, Fits d a.2

/-- The lines, in order. -/
def flatI (F : List Itm → List Int) (it : Itm) : List Int := if it.arms = [] then [it.line] else it.arms.flatMap fun a => a.1 :: F a.2
def flatF : Nat → List Itm → List Int
  | 0, l => l.map Itm.line
  | d + 1, l => l.flatMap (flatI (flatF d))
/-- How deep. -/
def deepI (D : List Itm → Nat) (n : Nat) (it : Itm) : Nat := it.arms.foldl (fun n a => max n (1 + D a.2)) n
def deepF : Nat → List Itm → Nat
  | 0, _ => 0
  | d + 1, l => l.foldl (deepI (deepF d)) 0

theorem flat_zero {l : List Itm} (h : ∀ it ∈ l, it.arms = []) (F : List Itm → List Int) : l.flatMap (flatI F) = l.map Itm.line := by
  induction l with
  | nil => rfl
  | cons a r ih =>
    rw [List.flatMap_cons, List.map_cons, ih fun it hit => h it (List.mem_cons_of_mem _ hit)]
    unfold flatI
    rw [if_pos (h a List.mem_cons_self)]
    rfl

theorem flatMap_same {α β : Type} {f g : α → List β} : ∀ {l : List α}, (∀ a ∈ l, f a = g a) → l.flatMap f = l.flatMap g
  | [], _ => rfl
  | a :: r, h => by rw [List.flatMap_cons, List.flatMap_cons, h a List.mem_cons_self, flatMap_same fun b hb => h b (List.mem_cons_of_mem _ hb)]
theorem foldl_same {α : Type} {f g : Nat → α → Nat} : ∀ {l : List α} {n : Nat}, (∀ n, ∀ a ∈ l, f n a = g n a) → l.foldl f n = l.foldl g n
  | [], _, _ => rfl
  | a :: r, n, h => by rw [List.foldl_cons, List.foldl_cons, h n a List.mem_cons_self, foldl_same fun n b hb => h n b (List.mem_cons_of_mem _ hb)]

/-- More fuel changes nothing. -/
theorem flat_more : ∀ (d : Nat) (l : List Itm), Fits d l → flatF (d + 1) l = flatF d l
  | 0, l, h => flat_zero h _
  | d + 1, l, h => by
    show l.flatMap (flatI (flatF (d + 1))) = l.flatMap (flatI (flatF d))
    refine flatMap_same fun it hit => ?_
    unfold flatI
    split
    · rfl
    · exact flatMap_same fun a ha => by rw [flat_more d a.2 (h it hit a ha)]
theorem deep_zero {l : List Itm} (h : ∀ it ∈ l, it.arms = []) (D : List Itm → Nat) : ∀ n, l.foldl (deepI D) n = n := by
  induction l with
  | nil => intro n; rfl
  | cons a r ih =>
    intro n
    rw [List.foldl_cons, ih fun it hit => h it (List.mem_cons_of_mem _ hit)]
    unfold deepI
    rw [h a List.mem_cons_self]
    rfl
theorem deep_more : ∀ (d : Nat) (l : List Itm), Fits d l → deepF (d + 1) l = deepF d l
  | 0, l, h => deep_zero h _ 0
  | d + 1, l, h => by
    show l.foldl (deepI (deepF (d + 1))) 0 = l.foldl (deepI (deepF d)) 0
    refine foldl_same fun n it hit => ?_
    exact foldl_same fun m a ha => by rw [deep_more d a.2 (h it hit a ha)]

theorem fits_more : ∀ (d : Nat) (l : List Itm), Fits d l → Fits (d + 1) l
  | 0, l, h => fun it hit a ha => by rw [h it hit] at ha; cases ha
  | d + 1, l, h => fun it hit a ha => fits_more d a.2 (h it hit a ha)

end Go.Proofs.YtlnlpahmfpjjdaaDoor

/-
  Conditions within conditions, over lists: what a run over the lines builds.
-/
namespace Go.Proofs.YtlnlpahmfpjjdaaDoor

mutual
def Itm.flatT : Itm → List Int
  | .mk _ line [] => [line]
  | .mk _ _ (a :: r) => flatArm a ++ flatArms r
def flatArm : Int × List Itm → List Int
  | (l, its) => l :: flatIts its
def flatArms : List (Int × List Itm) → List Int
  | [] => []
  | a :: r => flatArm a ++ flatArms r
def flatIts : List Itm → List Int
  | [] => []
  | it :: r => it.flatT ++ flatIts r
end

theorem flatArms_app : ∀ (a b : List (Int × List Itm)), flatArms (a ++ b) = flatArms a ++ flatArms b
  | [], b => by simp [flatArms]
  | x :: a, b => by rw [List.cons_append, flatArms, flatArms, flatArms_app a b, List.append_assoc]
theorem flatIts_app : ∀ (a b : List Itm), flatIts (a ++ b) = flatIts a ++ flatIts b
  | [], b => by simp [flatIts]
  | x :: a, b => by rw [List.cons_append, flatIts, flatIts, flatIts_app a b, List.append_assoc]
theorem flatT_arms {k l : Int} {qs : List (Int × List Itm)} (h : qs ≠ []) : (Itm.mk k l qs).flatT = flatArms qs := by
  cases qs with
  | nil => exact absurd rfl h
  | cons a r => rw [Itm.flatT, flatArms]

/-- A condition that is open: its line, its arms that are done, the line of the arm under way, what is in it, was there an else. -/
structure Fr where
  ln : Nat
  dn : List (Int × List Itm)
  la : Nat
  cu : List Itm
  en : Bool
/-- What is built: outside of all conditions; the open ones, the innermost first; the lines out of place. -/
structure Bs where
  ba : List Itm
  st : List Fr
  bad : List Nat
def bs0 : Bs := ⟨[], [], []⟩
def frItem (f : Fr) : Itm := .mk 2 (f.ln : Int) (f.dn ++ [((f.la : Int), f.cu)])
def putB (s : Bs) (it : Itm) : Bs := match s.st with
  | [] => { s with ba := s.ba ++ [it] }
  | f :: r => { s with st := { f with cu := f.cu ++ [it] } :: r }
def closeB (s : Bs) : Bs := match s.st with
  | [] => s
  | f :: r => putB { s with st := r } (frItem f)
def armB (s : Bs) (i k : Nat) : Bs := match s.st with
  | [] => s
  | f :: r => { s with st := ⟨f.ln, f.dn ++ [((f.la : Int), f.cu)], i, [], k == 6⟩ :: r }
def endedB (s : Bs) : Bool := match s.st with
  | [] => false
  | f :: _ => f.en
/-- One line: its place, its kind, has it tokens. -/
def stepB (s : Bs) (i k : Nat) (ne : Bool) : Bs :=
  if 2 ≤ k ∧ k ≤ 4 then { s with st := ⟨i, [], i, [], false⟩ :: s.st }
  else if 5 ≤ k ∧ k ≤ 7 ∧ s.st = [] then { s with bad := s.bad ++ [i] }
  else if (k = 5 ∨ k = 6) ∧ endedB s = true then { s with bad := s.bad ++ [i] }
  else if k = 5 ∨ k = 6 then armB s i k
  else if k = 7 then closeB s
  else if k ≠ 0 ∨ ne = true then putB s (.mk (k : Int) (i : Int) [])
  else s
def runB : Bs → Nat → List (Nat × Bool) → Bs
  | s, _, [] => s
  | s, i, (k, ne) :: r => runB (stepB s i k ne) (i + 1) r
def shutB : Nat → Bs → Bs
  | 0, s => s
  | n + 1, s => shutB n (closeB s)
/-- All of it: the items, the lines out of place, the lines of the conditions that do not end, the outermost first. -/
def buildL (ks : List (Nat × Bool)) : List Itm × List Nat × List Nat :=
  let s := runB bs0 0 ks
  ((shutB s.st.length s).ba, s.bad, (s.st.map Fr.ln).reverse)

def frFlat (f : Fr) : List Int := flatArms f.dn ++ (f.la : Int) :: flatIts f.cu
def stFlat : List Fr → List Int
  | [] => []
  | f :: r => stFlat r ++ frFlat f
def flatS (s : Bs) : List Int := flatIts s.ba ++ stFlat s.st

theorem flat_frItem (f : Fr) : (frItem f).flatT = frFlat f := by
  unfold frItem frFlat
  rw [flatT_arms (by simp), flatArms_app]
  simp [flatArms, flatArm]
theorem flat_put (s : Bs) (it : Itm) : flatS (putB s it) = flatS s ++ it.flatT := by
  unfold putB flatS
  cases h : s.st with
  | nil => simp [stFlat, flatIts_app, flatIts]
  | cons f r => simp [stFlat, frFlat, flatIts_app, flatIts]
theorem flat_close (s : Bs) : flatS (closeB s) = flatS s := by
  unfold closeB
  cases h : s.st with
  | nil => rfl
  | cons f r =>
    rw [flat_put, flat_frItem]
    unfold flatS
    rw [h]
    simp [stFlat]
theorem st_close (s : Bs) : (closeB s).st.length = s.st.length - 1 := by
  unfold closeB putB
  cases h : s.st with
  | nil => simp [h]
  | cons f r =>
    cases r with
    | nil => rfl
    | cons g r => rfl
theorem flat_shut : ∀ (n : Nat) (s : Bs), s.st.length ≤ n → flatIts (shutB n s).ba = flatS s
  | 0, s, h => by
    have : s.st = [] := List.eq_nil_of_length_eq_zero (by omega)
    unfold flatS shutB
    rw [this]
    simp [stFlat]
  | n + 1, s, h => by
    rw [shutB, flat_shut n (closeB s) (by rw [st_close]; omega), flat_close]

/-- Does a line stand in what is built? -/
def keptB (s : Bs) (k : Nat) (ne : Bool) : Bool :=
  if 2 ≤ k ∧ k ≤ 4 then true
  else if 5 ≤ k ∧ k ≤ 7 ∧ s.st = [] then false
  else if (k = 5 ∨ k = 6) ∧ endedB s = true then false
  else if k = 5 ∨ k = 6 then true
  else if k = 7 then false
  else decide (k ≠ 0) || ne

theorem flat_step (s : Bs) (i k : Nat) (ne : Bool) : flatS (stepB s i k ne) = flatS s ++ if keptB s k ne then [(i : Int)] else [] := by
  unfold stepB keptB
  by_cases h1 : 2 ≤ k ∧ k ≤ 4
  · rw [if_pos h1, if_pos h1]
    simp [flatS, stFlat, frFlat, flatArms, flatIts]
  · rw [if_neg h1, if_neg h1]
    by_cases h2 : 5 ≤ k ∧ k ≤ 7 ∧ s.st = []
    · rw [if_pos h2, if_pos h2]
      simp [flatS]
    · rw [if_neg h2, if_neg h2]
      by_cases h3 : (k = 5 ∨ k = 6) ∧ endedB s = true
      · rw [if_pos h3, if_pos h3]
        simp [flatS]
      · rw [if_neg h3, if_neg h3]
        by_cases h4 : k = 5 ∨ k = 6
        · rw [if_pos h4, if_pos h4]
          have hne : s.st ≠ [] := fun e => h2 ⟨by omega, by omega, e⟩
          unfold armB
          cases hs : s.st with
          | nil => exact absurd hs hne
          | cons f r =>
            unfold flatS
            rw [hs]
            simp [stFlat, frFlat, flatArms_app, flatArms, flatArm, flatIts]
        · rw [if_neg h4, if_neg h4]
          by_cases h5 : k = 7
          · rw [if_pos h5, if_pos h5, flat_close]
            simp
          · rw [if_neg h5, if_neg h5]
            by_cases h6 : k ≠ 0 ∨ ne = true
            · rw [if_pos h6, flat_put]
              have : (decide (k ≠ 0) || ne) = true := by simpa using h6
              rw [if_pos this]
              simp [Itm.flatT]
            · rw [if_neg h6]
              have : ¬ (decide (k ≠ 0) || ne) = true := by simpa using h6
              rw [if_neg this]
              simp

end Go.Proofs.YtlnlpahmfpjjdaaDoor

/-
  Each line that is left in stands once, and in order; what is out of place is told: over lists.
-/
namespace Go.Proofs.YtlnlpahmfpjjdaaDoor

/-- The flat list with fuel is the one without. -/
theorem flatF_is : ∀ (d : Nat) (l : List Itm), Fits d l → flatF d l = flatIts l
  | 0, [], _ => rfl
  | 0, it :: r, h => by
    have h1 : it.arms = [] := h it List.mem_cons_self
    have h2 := flatF_is 0 r fun it hit => h it (List.mem_cons_of_mem _ hit)
    cases it with
    | mk k line qs =>
      have hq : qs = [] := h1
      subst hq
      show line :: r.map Itm.line = _
      rw [show r.map Itm.line = flatF 0 r from rfl, h2]
      rfl
  | d + 1, [], _ => rfl
  | d + 1, it :: r, h => by
    have h2 := flatF_is (d + 1) r fun it hit => h it (List.mem_cons_of_mem _ hit)
    have h3 : flatI (flatF d) it = it.flatT := by
      have ha := h it List.mem_cons_self
      cases it with
      | mk k line qs =>
        unfold flatI
        by_cases hq : qs = []
        · subst hq
          rfl
        · rw [if_neg (show ¬ (Itm.mk k line qs).arms = [] from hq), flatT_arms hq]
          show qs.flatMap (fun a => a.1 :: flatF d a.2) = flatArms qs
          have key : ∀ qs : List (Int × List Itm), (∀ a ∈ qs, Fits d a.2) → qs.flatMap (fun a => a.1 :: flatF d a.2) = flatArms qs := by
            intro qs
            induction qs with
            | nil => intro _; rfl
            | cons a r ih =>
              intro hf
              rw [List.flatMap_cons, ih fun b hb => hf b (List.mem_cons_of_mem _ hb), flatF_is d a.2 (hf a List.mem_cons_self)]
              cases a with
              | mk l its => rfl
          exact key qs ha
    show flatI (flatF d) it ++ r.flatMap (flatI (flatF d)) = it.flatT ++ flatIts r
    rw [h3, ← h2]
    rfl

/-- The places that are left in. -/
def keptL : Bs → Nat → List (Nat × Bool) → List Int
  | _, _, [] => []
  | s, i, (k, ne) :: r => (if keptB s k ne then [(i : Int)] else []) ++ keptL (stepB s i k ne) (i + 1) r
theorem flat_run : ∀ (ks : List (Nat × Bool)) (s : Bs) (i : Nat), flatS (runB s i ks) = flatS s ++ keptL s i ks
  | [], s, i => by simp [runB, keptL]
  | (k, ne) :: r, s, i => by
    rw [runB, flat_run r, flat_step, keptL, List.append_assoc]
theorem flat_build (ks : List (Nat × Bool)) : flatIts (buildL ks).1 = keptL bs0 0 ks := by
  unfold buildL
  rw [flat_shut _ _ (Nat.le_refl _), flat_run]
  rfl
theorem kept_ge : ∀ (ks : List (Nat × Bool)) (s : Bs) (i : Nat), ∀ x ∈ keptL s i ks, (i : Int) ≤ x
  | [], _, _, x, h => by cases h
  | (k, ne) :: r, s, i, x, h => by
    rw [keptL, List.mem_append] at h
    rcases h with h | h
    · split at h
      · simp only [List.mem_cons, List.not_mem_nil, or_false] at h
        omega
      · cases h
    · have := kept_ge r _ (i + 1) x h
      omega

/-- How many lines of elif and else are left out, how many endifs there are. -/
def oddN : Bs → Nat → List (Nat × Bool) → Nat
  | _, _, [] => 0
  | s, i, (k, ne) :: r => (if keptB s k ne = false ∧ (k = 5 ∨ k = 6) then 1 else 0) + oddN (stepB s i k ne) (i + 1) r
def endN : List (Nat × Bool) → Nat
  | [] => 0
  | (k, _) :: r => (if k = 7 then 1 else 0) + endN r

theorem bad_close (s : Bs) : (closeB s).bad = s.bad := by
  unfold closeB putB
  cases h : s.st with
  | nil => rfl
  | cons f r => cases r <;> rfl
theorem bad_put (s : Bs) (it : Itm) : (putB s it).bad = s.bad := by
  unfold putB
  cases h : s.st <;> rfl
theorem bad_arm (s : Bs) (i k : Nat) : (armB s i k).bad = s.bad := by
  unfold armB
  cases h : s.st <;> rfl
theorem bad_step (s : Bs) (i k : Nat) (ne : Bool) : ∃ b, (stepB s i k ne).bad.length = s.bad.length + b ∧ (if keptB s k ne = false ∧ (k = 5 ∨ k = 6) then 1 else 0) ≤ b ∧ b ≤ (if keptB s k ne = false ∧ (k = 5 ∨ k = 6) then 1 else 0) + (if k = 7 then 1 else 0) := by
  unfold stepB keptB
  by_cases h1 : 2 ≤ k ∧ k ≤ 4
  · rw [if_pos h1, if_pos h1, if_neg (by simp), if_neg (by omega)]
    exact ⟨0, rfl, Nat.le_refl _, Nat.le_refl _⟩
  · rw [if_neg h1, if_neg h1]
    by_cases h2 : 5 ≤ k ∧ k ≤ 7 ∧ s.st = []
    · rw [if_pos h2, if_pos h2]
      refine ⟨1, by simp, ?_, ?_⟩
      · split <;> omega
      · by_cases h7 : k = 7
        · rw [if_pos h7]
          omega
        · rw [if_pos ⟨rfl, by omega⟩]
          omega
    · rw [if_neg h2, if_neg h2]
      by_cases h3 : (k = 5 ∨ k = 6) ∧ endedB s = true
      · rw [if_pos h3, if_pos h3, if_pos ⟨rfl, h3.1⟩]
        exact ⟨1, by simp, Nat.le_refl _, by omega⟩
      · rw [if_neg h3, if_neg h3]
        by_cases h4 : k = 5 ∨ k = 6
        · rw [if_pos h4, if_pos h4, if_neg (by simp)]
          exact ⟨0, by rw [bad_arm]; rfl, Nat.le_refl _, by omega⟩
        · have e0 : ∀ b : Bool, (if b = false ∧ (k = 5 ∨ k = 6) then (1 : Nat) else 0) = 0 := fun b => if_neg fun h => h4 h.2
          rw [e0, if_neg h4]
          refine ⟨0, ?_, Nat.le_refl _, Nat.zero_le _⟩
          by_cases h5 : k = 7
          · rw [if_pos h5, bad_close]
            rfl
          · rw [if_neg h5]
            split
            · rw [bad_put]
              rfl
            · rfl
theorem bad_run : ∀ (ks : List (Nat × Bool)) (s : Bs) (i : Nat), ∃ b, (runB s i ks).bad.length = s.bad.length + b ∧ oddN s i ks ≤ b ∧ b ≤ oddN s i ks + endN ks
  | [], s, i => ⟨0, rfl, Nat.le_refl _, Nat.le_refl _⟩
  | (k, ne) :: r, s, i => by
    obtain ⟨b1, h1, h2, h3⟩ := bad_step s i k ne
    obtain ⟨b2, h4, h5, h6⟩ := bad_run r (stepB s i k ne) (i + 1)
    refine ⟨b1 + b2, by rw [runB, h4, h1]; omega, ?_, ?_⟩
    · rw [oddN]
      omega
    · rw [oddN, endN]
      omega
/-- What is not left in is empty text, an endif, or an elif or else. -/
theorem kept_not {s : Bs} {k : Nat} {ne : Bool} (h : keptB s k ne = false) : (k = 0 ∧ ne = false) ∨ k = 5 ∨ k = 6 ∨ k = 7 := by
  unfold keptB at h
  split at h
  · cases h
  · split at h
    · omega
    · split at h
      · omega
      · split at h
        · cases h
        · split at h
          · omega
          · simp only [Bool.or_eq_false_iff, decide_eq_false_iff_not, Decidable.not_not] at h
            exact .inl h

end Go.Proofs.YtlnlpahmfpjjdaaDoor

/-
  The builder's stack and what it tells of lines, over lists.
-/
namespace Go.Proofs.YtlnlpahmfpjjdaaDoor

def baseFr (l : List Itm) : Fr := ⟨0, [], 0, l, false⟩
/-- The stack, from the outermost on; the first one stands for none. -/
def stackOf (s : Bs) : List Fr := baseFr s.ba :: s.st.reverse
theorem stack_none {s : Bs} (h : s.st = []) : stackOf s = [] ++ [baseFr s.ba] := by unfold stackOf; rw [h]; rfl
theorem stack_some {s : Bs} {f : Fr} {r : List Fr} (h : s.st = f :: r) : stackOf s = (baseFr s.ba :: r.reverse) ++ [f] := by unfold stackOf; rw [h]; simp
theorem stack_ends (s : Bs) : ∃ L a, stackOf s = L ++ [a] := by
  cases h : s.st with
  | nil => exact ⟨_, _, stack_none h⟩
  | cons f r => exact ⟨_, _, stack_some h⟩
theorem stack_put {s : Bs} {L : List Fr} {a : Fr} (h : stackOf s = L ++ [a]) (it : Itm) : stackOf (putB s it) = L ++ [{ a with cu := a.cu ++ [it] }] := by
  cases hs : s.st with
  | nil =>
    rw [stack_none hs] at h
    obtain ⟨h1, h2⟩ := List.append_inj' h rfl
    simp only [List.cons.injEq, and_true] at h2
    subst h1 h2
    have : (putB s it) = { s with ba := s.ba ++ [it] } := by unfold putB; rw [hs]
    rw [this]
    exact stack_none hs
  | cons f r =>
    rw [stack_some hs] at h
    obtain ⟨h1, h2⟩ := List.append_inj' h rfl
    simp only [List.cons.injEq, and_true] at h2
    subst h1 h2
    have : (putB s it) = { s with st := { f with cu := f.cu ++ [it] } :: r } := by unfold putB; rw [hs]
    rw [this]
    exact stack_some rfl

/-- What is told of a line. -/
def codeAt (s : Bs) (i : Nat) : Int := if i ∈ s.bad then 12 else if i ∈ s.st.map Fr.ln then 13 else 0
def CodesOk (codes : List Int) (s : Bs) : Prop := ∀ i z, codes[i]? = some z → z = codeAt s i
/-- The lines so far: those that are told, each once. -/
structure Fine (s : Bs) (i : Nat) : Prop where
  bad : ∀ b ∈ s.bad, b < i
  st : ∀ f ∈ s.st, f.ln < i
  nod : (s.st.map Fr.ln).Nodup
  apart : ∀ b ∈ s.bad, b ∉ s.st.map Fr.ln
  badn : s.bad.Nodup

theorem put_st (s : Bs) (it : Itm) : (putB s it).st.map Fr.ln = s.st.map Fr.ln := by
  unfold putB
  cases h : s.st <;> rfl
theorem close_st (s : Bs) : (closeB s).st.map Fr.ln = (s.st.map Fr.ln).tail := by
  unfold closeB
  cases h : s.st with
  | nil => simp [h]
  | cons f r => rw [put_st]; rfl
theorem arm_st (s : Bs) (i k : Nat) : (armB s i k).st.map Fr.ln = s.st.map Fr.ln := by
  unfold armB
  cases h : s.st with
  | nil => simp [h]
  | cons f r => rfl

theorem fine_zero : Fine bs0 0 := ⟨fun _ h => (by cases h), fun _ h => (by cases h), List.nodup_nil, fun _ h => (by cases h), List.nodup_nil⟩
theorem codeAt_same {s s' : Bs} (hb : s'.bad = s.bad) (hs : s'.st.map Fr.ln = s.st.map Fr.ln) (i : Nat) : codeAt s' i = codeAt s i := by unfold codeAt; rw [hb, hs]
theorem Fine.same {s s' : Bs} {i : Nat} (h : Fine s i) (hb : s'.bad = s.bad) (hs : s'.st.map Fr.ln = s.st.map Fr.ln) : Fine s' (i + 1) := by
  refine ⟨fun b hbb => by rw [hb] at hbb; have := h.bad b hbb; omega, fun f hf => ?_, by rw [hs]; exact h.nod, by rw [hb, hs]; exact h.apart, by rw [hb]; exact h.badn⟩
  have hm : f.ln ∈ s.st.map Fr.ln := by rw [← hs]; exact List.mem_map_of_mem hf
  obtain ⟨f', hf', he⟩ := List.mem_map.1 hm
  have := h.st f' hf'
  omega

/-- Does a line's place count as out of place? -/
def outB (s : Bs) (k : Nat) : Prop := (5 ≤ k ∧ k ≤ 7 ∧ s.st = []) ∨ ((k = 5 ∨ k = 6) ∧ endedB s = true)
theorem fine_step {s : Bs} {i : Nat} (h : Fine s i) (k : Nat) (ne : Bool) : Fine (stepB s i k ne) (i + 1) := by
  have hout : Fine { s with bad := s.bad ++ [i] } (i + 1) := by
    refine ⟨fun b hb => ?_, fun f hf => by have := h.st f hf; omega, h.nod, fun b hb => ?_, ?_⟩
    · rcases List.mem_append.1 hb with hb | hb
      · have := h.bad b hb; omega
      · simp at hb; omega
    · rcases List.mem_append.1 hb with hb | hb
      · exact h.apart b hb
      · simp at hb
        subst hb
        intro hm
        obtain ⟨f, hf, he⟩ := List.mem_map.1 hm
        have := h.st f hf
        omega
    · rw [List.nodup_append]
      refine ⟨h.badn, by simp, fun a ha b hb => ?_⟩
      simp at hb
      have := h.bad a ha
      omega
  unfold stepB
  by_cases h1 : 2 ≤ k ∧ k ≤ 4
  · rw [if_pos h1]
    refine ⟨fun b hb => by have := h.bad b hb; omega, fun f hf => ?_, ?_, fun b hb => ?_, h.badn⟩
    · rcases List.mem_cons.1 hf with rfl | hf
      · show i < i + 1; omega
      · have := h.st f hf; omega
    · show (i :: s.st.map Fr.ln).Nodup
      rw [List.nodup_cons]
      refine ⟨fun hm => ?_, h.nod⟩
      obtain ⟨f, hf, he⟩ := List.mem_map.1 hm
      have := h.st f hf
      omega
    · show b ∉ i :: s.st.map Fr.ln
      rw [List.mem_cons]
      rintro (rfl | hm)
      · have := h.bad b hb; omega
      · exact h.apart b hb hm
  · rw [if_neg h1]
    by_cases h2 : 5 ≤ k ∧ k ≤ 7 ∧ s.st = []
    · rw [if_pos h2]; exact hout
    · rw [if_neg h2]
      by_cases h3 : (k = 5 ∨ k = 6) ∧ endedB s = true
      · rw [if_pos h3]; exact hout
      · rw [if_neg h3]
        by_cases h4 : k = 5 ∨ k = 6
        · rw [if_pos h4]; exact h.same (bad_arm s i k) (arm_st s i k)
        · rw [if_neg h4]
          by_cases h5 : k = 7
          · rw [if_pos h5]
            refine ⟨fun b hb => by rw [bad_close] at hb; have := h.bad b hb; omega, fun f hf => ?_, ?_, fun b hb => ?_, by rw [bad_close]; exact h.badn⟩
            · have hm : f.ln ∈ (s.st.map Fr.ln).tail := by rw [← close_st]; exact List.mem_map_of_mem hf
              obtain ⟨f', hf', he⟩ := List.mem_map.1 (List.mem_of_mem_tail hm)
              have := h.st f' hf'
              omega
            · rw [close_st]; exact h.nod.tail
            · rw [bad_close] at hb
              rw [close_st]
              exact fun hm => h.apart b hb (List.mem_of_mem_tail hm)
          · rw [if_neg h5]
            split
            · exact h.same (bad_put s _) (put_st s _)
            · exact h.same rfl rfl

theorem codes_bad {codes : List Int} {s : Bs} {i : Nat} (h : CodesOk codes s) : CodesOk (codes.set i 12) { s with bad := s.bad ++ [i] } := by
  intro j z hj
  rw [List.getElem?_set] at hj
  unfold codeAt
  split at hj
  · rename_i e
    subst e
    split at hj
    · simp only [Option.some.injEq] at hj
      rw [if_pos (by simp)]
      exact hj.symm
    · cases hj
  · rename_i e
    rw [h j z hj]
    unfold codeAt
    have : (j ∈ s.bad ++ [i]) ↔ j ∈ s.bad := by simp; omega
    simp only [this]
theorem codes_open {codes : List Int} {s : Bs} {i : Nat} (h : CodesOk codes s) (hf : Fine s i) (f : Fr) (hfi : f.ln = i) : CodesOk (codes.set i 13) { s with st := f :: s.st } := by
  intro j z hj
  rw [List.getElem?_set] at hj
  unfold codeAt
  split at hj
  · rename_i e
    subst e
    split at hj
    · simp only [Option.some.injEq] at hj
      rw [if_neg (fun hb => by have := hf.bad _ hb; omega), if_pos (by simp [hfi])]
      exact hj.symm
    · cases hj
  · rename_i e
    rw [h j z hj]
    unfold codeAt
    have : (j ∈ (f :: s.st).map Fr.ln) ↔ j ∈ s.st.map Fr.ln := by
      rw [List.map_cons, List.mem_cons, hfi]
      constructor
      · rintro (rfl | h)
        · exact absurd rfl e
        · exact h
      · exact .inr
    simp only [this]
theorem codes_shut {codes : List Int} {s : Bs} {i : Nat} (h : CodesOk codes s) (hf : Fine s i) {f : Fr} {r : List Fr} (hs : s.st = f :: r) : CodesOk (codes.set f.ln 0) (closeB s) := by
  have hm : (closeB s).st.map Fr.ln = r.map Fr.ln := by rw [close_st, hs]; rfl
  have hn := hf.nod
  rw [hs, List.map_cons, List.nodup_cons] at hn
  intro j z hj
  rw [List.getElem?_set] at hj
  unfold codeAt
  rw [bad_close, hm]
  split at hj
  · rename_i e
    subst e
    split at hj
    · simp only [Option.some.injEq] at hj
      rw [if_neg (fun hb => hf.apart _ hb (by rw [hs]; simp)), if_neg hn.1]
      exact hj.symm
    · cases hj
  · rename_i e
    rw [h j z hj]
    unfold codeAt
    have : (j ∈ s.st.map Fr.ln) ↔ j ∈ r.map Fr.ln := by
      rw [hs, List.map_cons, List.mem_cons]
      constructor
      · rintro (rfl | h)
        · exact absurd rfl e
        · exact h
      · exact .inr
    simp only [this]
theorem codes_same {codes : List Int} {s s' : Bs} (h : CodesOk codes s) (hb : s'.bad = s.bad) (hs : s'.st.map Fr.ln = s.st.map Fr.ln) : CodesOk codes s' := fun i z hz => by rw [codeAt_same hb hs]; exact h i z hz

theorem map_snoc_inv {α β : Type} {F : List (α × β)} {L : List α} {a : α} (h : F.map Prod.fst = L ++ [a]) : ∃ F0 x, F = F0 ++ [(a, x)] ∧ F0.map Prod.fst = L := by
  obtain ⟨F0, F1, rfl, h1, h2⟩ := List.map_eq_append_iff.1 h
  match F1, h2 with
  | [p], h2 =>
    simp only [List.map_cons, List.map_nil, List.cons.injEq, and_true] at h2
    subst h2
    exact ⟨F0, p.2, rfl, h1⟩

end Go.Proofs.YtlnlpahmfpjjdaaDoor

/-
  Directives, over lists: any tokens, which kind a line of them is of, and what stands behind its word.
-/
namespace Go.Proofs.YtlnlpahmfpjjdaaDoor

/-- A site. -/
structure Xs where
  m : ByteArray
  g : ByteArray
  f : Int
  t : Int
  d : Bool
/-- A token, any. -/
structure Xt where
  k : Int
  x : ByteArray
  sp : Bool
  g : ByteArray
  f : Int
  t : Int
  d : Bool
  ss : List Xs

/-- The words by their kinds. -/
def wB : Nat → ByteArray
  | 2 => ⟨#[105, 102]⟩
  | 3 => ⟨#[105, 102, 100, 101, 102]⟩
  | 4 => ⟨#[105, 102, 110, 100, 101, 102]⟩
  | 5 => ⟨#[101, 108, 105, 102]⟩
  | 6 => ⟨#[101, 108, 115, 101]⟩
  | 7 => ⟨#[101, 110, 100, 105, 102]⟩
  | 8 => ⟨#[105, 110, 99, 108, 117, 100, 101]⟩
  | 9 => ⟨#[100, 101, 102, 105, 110, 101]⟩
  | 10 => ⟨#[117, 110, 100, 101, 102]⟩
  | 11 => ⟨#[108, 105, 110, 101]⟩
  | 12 => ⟨#[101, 114, 114, 111, 114]⟩
  | 13 => ⟨#[112, 114, 97, 103, 109, 97]⟩
  | _ => ⟨#[]⟩

def wFrom (x : ByteArray) : Nat → Nat → Nat
  | 0, _ => 14
  | n + 1, i => if x = wB i then i else wFrom x n (i + 1)
/-- A word's kind. -/
def wKind (x : ByteArray) : Nat := wFrom x 12 2

theorem wFrom_yes {x : ByteArray} {k : Nat} (h : x = wB k) (hk : k < 14) : wFrom x (14 - k) k = k := by
  obtain ⟨n, hn⟩ : ∃ n, 14 - k = n + 1 := ⟨13 - k, by omega⟩
  rw [hn]
  show (if x = wB k then k else _) = k
  rw [if_pos h]
theorem wFrom_no {x : ByteArray} {k : Nat} (h : x ≠ wB k) (hk : k < 14) : wFrom x (14 - k) k = wFrom x (14 - (k + 1)) (k + 1) := by
  obtain ⟨n, hn⟩ : ∃ n, 14 - k = n + 1 := ⟨13 - k, by omega⟩
  rw [hn, show 14 - (k + 1) = n from by omega]
  show (if x = wB k then k else wFrom x n (k + 1)) = _
  rw [if_neg h]
theorem wFrom_is {x : ByteArray} : ∀ (n i : Nat), i + n = 14 → 2 ≤ i → (wFrom x n i = 14 ∨ (i ≤ wFrom x n i ∧ wFrom x n i < 14 ∧ x = wB (wFrom x n i)))
  | 0, i, _, _ => .inl rfl
  | n + 1, i, h, h2 => by
    show (if x = wB i then i else wFrom x n (i + 1)) = 14 ∨ (i ≤ (if x = wB i then i else wFrom x n (i + 1)) ∧ (if x = wB i then i else wFrom x n (i + 1)) < 14 ∧ x = wB (if x = wB i then i else wFrom x n (i + 1)))
    by_cases hx : x = wB i
    · rw [if_pos hx]
      exact .inr ⟨Nat.le_refl _, by omega, hx⟩
    · rw [if_neg hx]
      rcases wFrom_is n (i + 1) (by omega) (by omega) with h1 | ⟨h1, h3, h4⟩
      · exact .inl h1
      · exact .inr ⟨by omega, h3, h4⟩
theorem wKind_is (x : ByteArray) : wKind x = 14 ∨ (2 ≤ wKind x ∧ wKind x < 14 ∧ x = wB (wKind x)) := wFrom_is 12 2 rfl (by omega)
theorem wKind_word : ∀ k, 2 ≤ k → k < 14 → wKind (wB k) = k := by
  intro k h1 h2
  have : k = 2 ∨ k = 3 ∨ k = 4 ∨ k = 5 ∨ k = 6 ∨ k = 7 ∨ k = 8 ∨ k = 9 ∨ k = 10 ∨ k = 11 ∨ k = 12 ∨ k = 13 := by omega
  rcases this with rfl | rfl | rfl | rfl | rfl | rfl | rfl | rfl | rfl | rfl | rfl | rfl <;> decide

def bH : ByteArray := ⟨#[35]⟩
def bD : ByteArray := ⟨#[37, 58]⟩
/-- Is a token a hash? -/
def hashX (t : Xt) : Bool := decide (t.k = 5) && (t.x.toList == [35] || t.x.toList == [37, 58])

/-- A line's kind. -/
def kindL : List Xt → Nat
  | [] => 0
  | h :: r => if hashX h then (match r with
    | [] => 1
    | s :: _ => if s.k = 1 then wKind s.x else 14) else 0
/-- What stands behind its word. -/
def restL (T : List Xt) : List Xt := if kindL T < 2 then [] else T.drop 2

theorem kindL_le (T : List Xt) : kindL T ≤ 14 := by
  unfold kindL
  split
  · omega
  · split
    · split
      · omega
      · split
        · rename_i s _ _
          rcases wKind_is s.x with h | h <;> omega
        · omega
    · omega
theorem kindL_len {T : List Xt} (h : 2 ≤ kindL T) : 2 ≤ T.length := by
  match T with
  | [] => simp [kindL] at h
  | [a] =>
    rw [show kindL [a] = if hashX a then 1 else 0 from rfl] at h
    split at h <;> omega
  | a :: b :: r => simp
theorem kindL_word {T : List Xt} (h : 2 ≤ kindL T) : kindL T = 14 ∨ (kindL T < 14 ∧ ∃ t, T[1]? = some t ∧ t.x = wB (kindL T)) := by
  match T with
  | [] => simp [kindL] at h
  | [a] =>
    rw [show kindL [a] = if hashX a then 1 else 0 from rfl] at h
    split at h <;> omega
  | a :: b :: r =>
    have e : kindL (a :: b :: r) = if hashX a then (if b.k = 1 then wKind b.x else 14) else 0 := rfl
    rw [e] at h ⊢
    split at h
    · rename_i ha
      rw [if_pos ha]
      split
      · rename_i hb
        rcases wKind_is b.x with h1 | h1
        · exact .inl h1
        · exact .inr ⟨h1.2.1, b, rfl, h1.2.2⟩
      · exact .inl rfl
    · omega

end Go.Proofs.YtlnlpahmfpjjdaaDoor
