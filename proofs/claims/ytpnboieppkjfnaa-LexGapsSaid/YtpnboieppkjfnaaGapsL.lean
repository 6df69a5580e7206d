/-
  Words with gaps ahead of them, lexed: over lists.
-/
import Derived.Test.YtpnboieppkjfnaaPlL
import Derived.Test.YtpnboieppkjfnaaRLp
namespace Go.Proofs.Ytpnboieppkjfnaa
open Go.RowKit

/-- The gaps of the law. -/
def GK : List (List UInt8) := [[32], [9], [47, 42, 42, 47], [47, 42, 32, 97, 32, 10, 32, 98, 32, 42, 47], [32, 47, 42, 32, 42, 32, 47, 32, 42, 47, 32], [11, 12]]
/-- What stands behind all words. -/
def tailG : List UInt8 := [32, 47, 47, 32, 99, 32, 47, 42, 32, 100, 10]
def isLow (c : UInt8) : Bool := decide (97 ≤ c.toNat) && decide (c.toNat ≤ 122)
def LowW (w : List UInt8) : Prop := 0 < w.length ∧ ∀ c ∈ w, isLow c = true

theorem low_let {c : UInt8} (h : isLow c = true) : isLet c = true := by
  unfold isLow at h
  unfold isLet
  rw [h]
  rfl
theorem low_ne {c : UInt8} (h : isLow c = true) : c ≠ 10 ∧ c ≠ 34 ∧ c ≠ 39 ∧ c ≠ 47 ∧ isWhi c = false ∧ c ≠ 92 ∧ c ≠ 63 ∧ c ≠ 76 ∧ c ≠ 85 ∧ c ≠ 56 := by
  have hw : isWord c = true := by unfold isWord; rw [low_let h]; rfl
  obtain ⟨h1, h2, h3, h4, -, h5, h6, h7⟩ := isWord_ne hw
  refine ⟨h1, h2, h3, h4, h5, h6, h7, ?_, ?_, ?_⟩ <;> (rintro rfl; revert h; decide)

theorem item_white {c : UInt8} {r : List UInt8} (h10 : c ≠ 10) (h : isWhi c = true) : item (c :: r) = .gap 1 := item_sp (by
  unfold begN
  rw [show (c :: r).getD 0 0 = c from rfl, if_neg h10, if_pos h])
theorem item_comment {r : List UInt8} {n : Nat} (h : comN r = some n) : item (47 :: 42 :: r) = .gap (n + 2) := item_com rfl h

/-- A gap, whatever follows. -/
theorem item_k3 (r : List UInt8) : item (47 :: 42 :: 42 :: 47 :: r) = .gap 4 := item_comment rfl
theorem item_k4 (r : List UInt8) : item (47 :: 42 :: 32 :: 97 :: 32 :: 10 :: 32 :: 98 :: 32 :: 42 :: 47 :: r) = .gap 11 := item_comment rfl
theorem item_k5 (r : List UInt8) : item (47 :: 42 :: 32 :: 42 :: 32 :: 47 :: 32 :: 42 :: 47 :: r) = .gap 9 := item_comment rfl

theorem wordN_low : ∀ (w r : List UInt8), (∀ c ∈ w, isLow c = true) → isWord (r.getD 0 0) = false → wordN (w ++ r) = w.length
  | [], r, _, h => by
    cases r with
    | nil => rfl
    | cons c r =>
      show wordN (c :: r) = 0
      unfold wordN
      rw [show isWord c = false from h]
      rfl
  | c :: w, r, hw, h => by
    show wordN (c :: (w ++ r)) = _
    unfold wordN
    have : isWord c = true := by unfold isWord; rw [low_let (hw c List.mem_cons_self)]; rfl
    rw [if_pos this, wordN_low w r (fun d hd => hw d (List.mem_cons_of_mem _ hd)) h]
    rfl

/-- A word, if none of it follows, and no quote. -/
theorem item_word {w r : List UInt8} (h : LowW w) (hr : isWord (r.getD 0 0) = false) (h34 : r.getD 0 0 ≠ 34) (h39 : r.getD 0 0 ≠ 39) : item (w ++ r) = .tk 1 w.length := by
  obtain ⟨h0, hw⟩ := h
  cases w with
  | nil => simp at h0
  | cons c w =>
    have hc := hw c List.mem_cons_self
    obtain ⟨n10, n34, n39, n47, nw, n92, n63, n76, n85, n56⟩ := low_ne hc
    have e0 : ((c :: w) ++ r).getD 0 0 = c := rfl
    have h1 : ((c :: w) ++ r).getD 1 0 ≠ 34 ∧ ((c :: w) ++ r).getD 1 0 ≠ 39 ∧ ((c :: w) ++ r).getD 1 0 ≠ 56 := by
      cases w with
      | nil =>
        refine ⟨h34, h39, fun e => ?_⟩
        rw [show ([c] ++ r).getD 1 0 = r.getD 0 0 from rfl] at e
        rw [e] at hr
        revert hr
        decide
      | cons d w =>
        have := low_ne (hw d (by simp))
        exact ⟨this.2.1, this.2.2.1, this.2.2.2.2.2.2.2.2.2⟩
    have hb : begN ((c :: w) ++ r) = 1 := begN_no (by rw [e0]; exact n10) (by rw [e0]; exact nw) (by rw [e0]; exact fun h => n47 h.1) (by rw [e0]; exact fun h => n47 h.1)
    have hl : lettN ((c :: w) ++ r) = 0 := lettN_zero (fun h => h1.2.2 h.2.1) (fun h => by
      rcases h.2 with e | e
      · exact h1.1 e
      · exact h1.2.1 e)
    have hcn : conN ((c :: w) ++ r) = none := by
      unfold conN
      rw [hl, e0, if_neg n34, if_neg n39]
    have ht : tok ((c :: w) ++ r) = (1, (c :: w).length) := by
      unfold tok
      rw [hcn]
      show (if _ then _ else _) = _
      rw [e0, if_pos (low_let hc)]
      have := wordN_low w r (fun d hd => hw d (List.mem_cons_of_mem _ hd)) hr
      rw [show ((c :: w) ++ r).drop 1 = w ++ r from rfl, this]
      rfl
    rw [item_tk hb, ht]

/-- The law's text. -/
def gText : List (List UInt8 × List UInt8) → List UInt8
  | [] => tailG
  | p :: r => p.1 ++ (p.2 ++ gText r)

theorem drop_app {B g x : List UInt8} {i : Nat} (h : B.drop i = g ++ x) : B.drop (i + g.length) = x := by
  rw [← List.drop_drop, h, List.drop_left]
theorem drop_lt {B x : List UInt8} {c : UInt8} {i : Nat} (h : B.drop i = c :: x) : i < B.length := by
  rcases Nat.lt_or_ge i B.length with h1 | h1
  · exact h1
  · rw [List.drop_eq_nil_of_le h1] at h
    cases h

section
variable {B : List UInt8} {sz : Nat}
theorem step_gap {i n : Nat} {a : Acc} {c : UInt8} {x : List UInt8} (h : B.drop i = c :: x) (hit : item (c :: x) = .gap n) : fromA (plRow B 0) sz i a = fromA (plRow B 0) sz (i + n) { a with sp := true } := by
  have hi := drop_lt h
  rw [fromA_step (by rw [plRow_len]; exact hi), plRow_bytes, h, hit]
  rfl
theorem skip_gap {g x : List UInt8} (hg : g ∈ GK) {i : Nat} {a : Acc} (h : B.drop i = g ++ x) : fromA (plRow B 0) sz i a = fromA (plRow B 0) sz (i + g.length) { a with sp := true } := by
  simp only [GK, List.mem_cons, List.not_mem_nil, or_false] at hg
  rcases hg with rfl | rfl | rfl | rfl | rfl | rfl
  · exact step_gap h (item_white (by decide) rfl)
  · exact step_gap h (item_white (by decide) rfl)
  · exact step_gap h (item_k3 x)
  · exact step_gap h (item_k4 x)
  · rw [step_gap h (item_white (by decide) rfl)]
    have h1 := drop_app (g := [32]) (x := [47, 42, 32, 42, 32, 47, 32, 42, 47] ++ ([32] ++ x)) h
    rw [step_gap (i := i + 1) h1 (item_k5 _)]
    have h2 := drop_app (i := i + 1) (g := [47, 42, 32, 42, 32, 47, 32, 42, 47]) (x := [32] ++ x) h1
    rw [step_gap (i := i + 1 + 9) h2 (item_white (by decide) rfl)]
    rfl
  · rw [step_gap h (item_white (by decide) rfl)]
    have h1 := drop_app (g := [11]) (x := [12] ++ x) h
    rw [step_gap (i := i + 1) h1 (item_white (by decide) rfl)]
    rfl

theorem gk_head : ∀ g ∈ GK, ∀ x : List UInt8, isWord ((g ++ x).getD 0 0) = false ∧ (g ++ x).getD 0 0 ≠ 34 ∧ (g ++ x).getD 0 0 ≠ 39 := by
  intro g hg x
  simp only [GK, List.mem_cons, List.not_mem_nil, or_false] at hg
  rcases hg with rfl | rfl | rfl | rfl | rfl | rfl <;> exact ⟨rfl, (by simp), (by simp)⟩

theorem gText_head {P : List (List UInt8 × List UInt8)} (h : ∀ p ∈ P, p.1 ∈ GK) : isWord ((gText P).getD 0 0) = false ∧ (gText P).getD 0 0 ≠ 34 ∧ (gText P).getD 0 0 ≠ 39 := by
  cases P with
  | nil => exact ⟨rfl, by decide, by decide⟩
  | cons p r => exact gk_head _ (h p List.mem_cons_self) _

/-- Each word a token with space ahead of it. -/
def GapT : List (List UInt8 × List UInt8) → List Tk → Prop
  | [], T => T = []
  | p :: r, T => ∃ t T', T = t :: T' ∧ t.k = 1 ∧ t.sp = true ∧ t.x = p.2 ∧ GapT r T'

theorem gaps_from : ∀ (P : List (List UInt8 × List UInt8)) (i : Nat) (a : Acc), (∀ p ∈ P, p.1 ∈ GK ∧ LowW p.2) → B.drop i = gText P → B.length = sz → a.lines = [] → a.diags = [] → a.fr = 0 →
    ∃ T, GapT P T ∧ (fromA (plRow B 0) sz i a).lines = [⟨a.toks ++ T, 0, sz, false⟩] ∧ (fromA (plRow B 0) sz i a).diags = []
  | [], i, a, _, hd, hsz, h1, h2, h3 => by
    refine ⟨[], rfl, ?_⟩
    have d0 : B.drop i = [32] ++ ([47, 47, 32, 99, 32, 47, 42, 32, 100] ++ [10]) := hd
    have e1 := drop_app d0
    have e2 := drop_app e1
    have hl : B.length = i + 11 := by
      have := congrArg List.length hd
      rw [List.length_drop] at this
      have h11 : (gText []).length = 11 := rfl
      rw [h11] at this
      have := drop_lt d0
      omega
    rw [step_gap d0 (item_white (by decide) rfl), step_gap (i := i + 1) e1 (n := 9) rfl]
    rw [fromA_step (by rw [plRow_len]; omega), plRow_bytes, show B.drop (i + 1 + 9) = [10] from e2]
    rw [show item [10] = .nl from rfl]
    simp only [lenA, stepA]
    rw [fromA_end (by rw [plRow_len]; omega)]
    simp only [endA, h1, h3, toA]
    rw [if_neg (by rw [plRow_len]; omega), List.append_nil]
    exact ⟨rfl, h2⟩
  | p :: r, i, a, hP, hd, hsz, h1, h2, h3 => by
    obtain ⟨hg, hw⟩ := hP p List.mem_cons_self
    have hr : ∀ q ∈ r, q.1 ∈ GK ∧ LowW q.2 := fun q hq => hP q (List.mem_cons_of_mem _ hq)
    have d0 : B.drop i = p.1 ++ (p.2 ++ gText r) := hd
    have e1 := drop_app d0
    have e2 := drop_app e1
    obtain ⟨k1, k2, k3⟩ := gText_head fun q hq => (hr q hq).1
    have hit := item_word hw k1 k2 k3
    have hlt : i + p.1.length < B.length := by
      obtain ⟨h0, -⟩ := hw
      cases hp : p.2 with
      | nil => rw [hp] at h0; simp at h0
      | cons c w => rw [hp] at e1; exact drop_lt e1
    rw [skip_gap hg d0, fromA_step (by rw [plRow_len]; exact hlt), plRow_bytes, e1, hit]
    simp only [lenA, stepA]
    have hbad : badN 1 (B.getD (i + p.1.length) 0) = false := rfl
    have hx : (B.drop (i + p.1.length)).take p.2.length = p.2 := by rw [e1, List.take_left]
    have he : takeA (plRow B 0) { a with sp := true } 1 (i + p.1.length) p.2.length = { a with sp := false, toks := a.toks ++ [⟨1, p.2, true, rnF (plRow B 0) (i + p.1.length), rnT (plRow B 0) (i + p.1.length + p.2.length - 1)⟩] } := by
      unfold takeA pushA
      rw [plRow_bytes, hbad]
      simp only [Bool.false_eq_true, if_false]
      rw [hx]
    rw [he]
    obtain ⟨T, hT, hl, hdg⟩ := gaps_from r (i + p.1.length + p.2.length) { a with sp := false, toks := a.toks ++ [⟨1, p.2, true, rnF (plRow B 0) (i + p.1.length), rnT (plRow B 0) (i + p.1.length + p.2.length - 1)⟩] } hr e2 hsz h1 h2 h3
    refine ⟨⟨1, p.2, true, rnF (plRow B 0) (i + p.1.length), rnT (plRow B 0) (i + p.1.length + p.2.length - 1)⟩ :: T, ⟨_, T, rfl, rfl, rfl, rfl, hT⟩, ?_, hdg⟩
    rw [hl, List.append_assoc]
    rfl
end

theorem gText_mem {P : List (List UInt8 × List UInt8)} (h : ∀ p ∈ P, p.1 ∈ GK ∧ LowW p.2) : ∀ c ∈ gText P, c ≠ 92 ∧ c ≠ 63 := by
  induction P with
  | nil => decide
  | cons p r ih =>
    intro c hc
    obtain ⟨hg, hw⟩ := h p List.mem_cons_self
    have hc2 : c ∈ p.1 ∨ c ∈ p.2 ∨ c ∈ gText r := by
      rcases List.mem_append.1 hc with h1 | h1
      · exact .inl h1
      · exact .inr (List.mem_append.1 h1)
    rcases hc2 with h1 | h1 | h1
    · have : ∀ g ∈ GK, ∀ c ∈ g, c ≠ 92 ∧ c ≠ 63 := by decide
      exact this _ hg c h1
    · have := low_ne (hw.2 c h1)
      exact ⟨this.2.2.2.2.2.1, this.2.2.2.2.2.2.1⟩
    · exact ih (fun q hq => h q (List.mem_cons_of_mem _ hq)) c h1
theorem gText_last (P : List (List UInt8 × List UInt8)) : 0 < (gText P).length ∧ (gText P).getD ((gText P).length - 1) 0 = 10 := by
  have key : ∃ x, gText P = x ++ [10] := by
    induction P with
    | nil => exact ⟨[32, 47, 47, 32, 99, 32, 47, 42, 32, 100], rfl⟩
    | cons p r ih =>
      obtain ⟨x, hx⟩ := ih
      exact ⟨p.1 ++ (p.2 ++ x), by show p.1 ++ (p.2 ++ gText r) = _; rw [hx]; simp⟩
  obtain ⟨x, hx⟩ := key
  rw [hx]
  exact ⟨by simp, by simp [List.getD]⟩

/-- The law's text, lexed. -/
theorem gaps_lines {P : List (List UInt8 × List UInt8)} (h : ∀ p ∈ P, p.1 ∈ GK ∧ LowW p.2) : ∃ T, GapT P T ∧ (linesA (charsL (gText P)) (gText P).length).lines = [⟨T, 0, (gText P).length, false⟩] ∧ (linesA (charsL (gText P)) (gText P).length).diags = [] := by
  obtain ⟨h0, h10⟩ := gText_last P
  have hpl : Pl (gText P) := fun i hi => by
    have hm : (gText P).getD i 0 ∈ gText P := by
      have : (gText P).getD i 0 = (gText P)[i] := by simp [List.getD, hi]
      rw [this]
      exact List.getElem_mem hi
    have := gText_mem h _ hm
    exact ⟨triAt_not this.2, this.1⟩
  rw [charsL_shut hpl h0 h10]
  exact gaps_from P 0 acc0 h rfl rfl rfl rfl rfl

end Go.Proofs.Ytpnboieppkjfnaa
