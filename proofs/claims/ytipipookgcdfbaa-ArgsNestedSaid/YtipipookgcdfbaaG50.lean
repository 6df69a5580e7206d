/-
  Texts of the proof, put together: MfL, MfP, AgN.
-/
import Derived.Test.YtipipookgcdfbaaG49
import Derived.Test.YtipipookgcdfbaaG27

/-
  Tokens of one line, over lists: a text that was put together, lexed; told, and lexed again.
-/
namespace Go.Proofs.Ytipipookgcdfbaa
open Go.RowKit

/-- A token's kind, text and space. -/
abbrev Kt := Nat × List UInt8 × Bool
def kxs (u : Tk) : Kt := (u.k, u.x, u.sp)

def ktF : Nat → Bool → List UInt8 → List Kt
  | 0, _, _ => []
  | m + 1, sp, l => match item l with
    | .nl => []
    | .opn => []
    | .gap n => ktF m true (l.drop n)
    | .tk k n => (k, l.take n, sp) :: ktF m false (l.drop n)
/-- A line's tokens from there. -/
def kt (sp : Bool) (l : List UInt8) : List Kt := ktF l.length sp l

/-- An item that is no line's end stops ahead of it. -/
theorem item_len {l : List UInt8} (hE : E10 l) (ho : item l ≠ .opn) (hn : item l ≠ .nl) : 0 < (item l).len ∧ (item l).len < l.length := by
  obtain ⟨h1, h2, h3⟩ := item_in hE.1 ho
  refine ⟨h1, Nat.lt_of_le_of_ne h2 fun e => ?_⟩
  have := h3 hn
  rw [e] at this
  exact this hE.2
theorem ktF_fuel : ∀ (m : Nat) (sp : Bool) (l : List UInt8), E10 l → l.length ≤ m → ktF m sp l = ktF l.length sp l
  | 0, sp, l, hE, h => by have := hE.1; omega
  | m + 1, sp, l, hE, h => by
    obtain ⟨k, hk⟩ : ∃ k, l.length = k + 1 := ⟨l.length - 1, by have := hE.1; omega⟩
    rw [hk]
    unfold ktF
    cases hit : item l with
    | nl => rfl
    | opn => rfl
    | gap n =>
      obtain ⟨h1, h2⟩ := item_len hE (by rw [hit]; simp) (by rw [hit]; simp)
      rw [hit] at h1 h2
      simp only [It.len] at h1 h2
      have hd := hE.drop h2
      have hl : (l.drop n).length = l.length - n := List.length_drop
      simp only
      rw [ktF_fuel m true _ hd (by omega), ktF_fuel k true _ hd (by omega)]
    | tk q n =>
      obtain ⟨h1, h2⟩ := item_len hE (by rw [hit]; simp) (by rw [hit]; simp)
      rw [hit] at h1 h2
      simp only [It.len] at h1 h2
      have hd := hE.drop h2
      have hl : (l.drop n).length = l.length - n := List.length_drop
      simp only
      rw [ktF_fuel m false _ hd (by omega), ktF_fuel k false _ hd (by omega)]
termination_by m => m
theorem kt_nl {l : List UInt8} {sp : Bool} (hE : E10 l) (h : item l = .nl) : kt sp l = [] := by
  unfold kt
  obtain ⟨k, hk⟩ : ∃ k, l.length = k + 1 := ⟨l.length - 1, by have := hE.1; omega⟩
  rw [hk]
  unfold ktF
  rw [h]
theorem kt_opn {l : List UInt8} {sp : Bool} (hE : E10 l) (h : item l = .opn) : kt sp l = [] := by
  unfold kt
  obtain ⟨k, hk⟩ : ∃ k, l.length = k + 1 := ⟨l.length - 1, by have := hE.1; omega⟩
  rw [hk]
  unfold ktF
  rw [h]
theorem kt_gap {l : List UInt8} {sp : Bool} {n : Nat} (hE : E10 l) (h : item l = .gap n) : kt sp l = kt true (l.drop n) := by
  obtain ⟨h1, h2⟩ := item_len hE (by rw [h]; simp) (by rw [h]; simp)
  rw [h] at h1 h2
  simp only [It.len] at h1 h2
  unfold kt
  obtain ⟨k, hk⟩ : ∃ k, l.length = k + 1 := ⟨l.length - 1, by have := hE.1; omega⟩
  rw [hk]
  show (match item l with | .nl => [] | .opn => [] | .gap n => ktF k true (l.drop n) | .tk q n => (q, l.take n, sp) :: ktF k false (l.drop n)) = _
  rw [h]
  exact ktF_fuel k true _ (hE.drop h2) (by rw [List.length_drop]; omega)
theorem kt_tk {l : List UInt8} {sp : Bool} {q n : Nat} (hE : E10 l) (h : item l = .tk q n) : kt sp l = (q, l.take n, sp) :: kt false (l.drop n) := by
  obtain ⟨h1, h2⟩ := item_len hE (by rw [h]; simp) (by rw [h]; simp)
  rw [h] at h1 h2
  simp only [It.len] at h1 h2
  unfold kt
  obtain ⟨k, hk⟩ : ∃ k, l.length = k + 1 := ⟨l.length - 1, by have := hE.1; omega⟩
  rw [hk]
  show (match item l with | .nl => [] | .opn => [] | .gap n => ktF k true (l.drop n) | .tk q n => (q, l.take n, sp) :: ktF k false (l.drop n)) = _
  rw [h]
  simp only
  rw [ktF_fuel k false _ (hE.drop h2) (by rw [List.length_drop]; omega)]
/-- A token ahead. -/
theorem kt_on {x t : List UInt8} {sp : Bool} {q : Nat} (hE : E10 (x ++ t)) (h : item (x ++ t) = .tk q x.length) : kt sp (x ++ t) = (q, x, sp) :: kt false t := by
  rw [kt_tk hE h, List.take_left, List.drop_left]

theorem takeA_kxs (L : List Rn) (a : Acc) (k i n : Nat) : (takeA L a k i n).lines = a.lines ∧ (takeA L a k i n).sp = false ∧ ∃ u : Tk, (takeA L a k i n).toks = a.toks ++ [u] ∧ kxs u = (k, ((bytesOf L).drop i).take n, a.sp) := by
  unfold takeA pushA
  split
  · exact ⟨rfl, rfl, _, rfl, rfl⟩
  · exact ⟨rfl, rfl, _, rfl, rfl⟩

/-- The line that is under way, to its end. -/
theorem line_kt {L : List Rn} {sz : Nat} (hE : E10 (bytesOf L)) : ∀ (m i : Nat) (a : Acc), L.length - i ≤ m → i < L.length → a.lines = [] →
    ∃ ln r, (fromA L sz i a).lines = ln :: r ∧ ln.toks.map kxs = a.toks.map kxs ++ kt a.sp ((bytesOf L).drop i)
  | 0, i, a, hm, hi, _ => by omega
  | m + 1, i, a, hm, hi, ha => by
    have hl := lenA_in hi
    have hlb := bytesOf_len L
    have hEd : E10 ((bytesOf L).drop i) := hE.drop (by rw [hlb]; exact hi)
    rw [fromA_step hi]
    have hfin : ∀ (j : Nat) (b : Acc) (ln : Ln), b.lines = [ln] → ∃ r, (fromA L sz j b).lines = ln :: r := fun j b ln hb => by
      obtain ⟨r, hr⟩ := lines_more L sz (L.length - j) j b
      exact ⟨r, by unfold fromA; rw [hr, hb]; rfl⟩
    cases hit : item ((bytesOf L).drop i) with
    | nl =>
      obtain ⟨r, hr⟩ := hfin (i + lenA L i .nl) (stepA L sz i a .nl) ⟨a.toks, a.fr, toA L sz (i + 1), false⟩ (by simp [stepA, endA, ha])
      exact ⟨_, r, hr, by rw [kt_nl hEd hit]; simp⟩
    | opn =>
      obtain ⟨r, hr⟩ := hfin (i + lenA L i .opn) (stepA L sz i a .opn) ⟨a.toks, a.fr, sz, true⟩ (by simp [stepA, endA, tellA, ha])
      exact ⟨_, r, hr, by rw [kt_opn hEd hit]; simp⟩
    | gap n =>
      obtain ⟨h1, h2⟩ := item_len hEd (by rw [hit]; simp) (by rw [hit]; simp)
      rw [hit, List.length_drop, hlb] at h2
      rw [hit] at h1
      simp only [It.len] at h1 h2
      obtain ⟨ln, r, g1, g2⟩ := line_kt hE m (i + n) (stepA L sz i a (.gap n)) (by omega) (by omega) ha
      refine ⟨ln, r, g1, ?_⟩
      rw [g2, kt_gap hEd hit, List.drop_drop]
      rfl
    | tk k n =>
      obtain ⟨h1, h2⟩ := item_len hEd (by rw [hit]; simp) (by rw [hit]; simp)
      rw [hit, List.length_drop, hlb] at h2
      rw [hit] at h1
      simp only [It.len] at h1 h2
      obtain ⟨t1, t2, u, t3, t4⟩ := takeA_kxs L a k i n
      obtain ⟨ln, r, g1, g2⟩ := line_kt hE m (i + n) (stepA L sz i a (.tk k n)) (by omega) (by omega) (t1.trans ha)
      refine ⟨ln, r, g1, ?_⟩
      have e1 : (stepA L sz i a (.tk k n)).toks = a.toks ++ [u] := t3
      have e2 : (stepA L sz i a (.tk k n)).sp = false := t2
      rw [g2, kt_tk hEd hit, List.drop_drop, e1, e2, List.map_append]
      simp [t4]

/-- A line without its end, lexed. -/
theorem lexF_kt {l : List UInt8} (hp : PlB l) (h10 : ∀ c ∈ l, c ≠ 10) : (lexF l).map kxs = kt false (l ++ [10]) := by
  by_cases h0 : l = []
  · subst h0
    rfl
  · obtain ⟨L, hL, hF⟩ := lex_open hp h0 (last_all h0 h10)
    have hE : E10 (bytesOf L) := by rw [hL]; exact e10_snoc _
    have hl := bytesOf_len L
    rw [hL] at hl
    obtain ⟨ln, r, h1, h2⟩ := line_kt (sz := l.length) hE L.length 0 acc0 (by omega) (by simp at hl; omega) rfl
    rw [hF, first_of h1, h2, List.drop_zero, hL]
    rfl

-- what begins somewhere, of texts without quotes
theorem getD_mem {l : List UInt8} {i : Nat} {c : UInt8} (h : l.getD i 0 = c) (h0 : c ≠ 0) : c ∈ l := by
  have hi : i < l.length := getD_lt (by rw [h]; exact h0)
  have e : l.getD i 0 = l[i] := by simp [List.getD, hi]
  rw [← h, e]
  exact List.getElem_mem hi
/-- No quotes. -/
def NQ (l : List UInt8) : Prop := ∀ c ∈ l, c ≠ 34 ∧ c ≠ 39
theorem NQ.app {x y : List UInt8} (hx : NQ x) (hy : NQ y) : NQ (x ++ y) := fun c hc => by
  rcases List.mem_append.1 hc with h | h
  · exact hx c h
  · exact hy c h
theorem NQ.at {l : List UInt8} (h : NQ l) (i : Nat) : l.getD i 0 ≠ 34 ∧ l.getD i 0 ≠ 39 := ⟨fun e => (h _ (getD_mem e (by decide))).1 rfl, fun e => (h _ (getD_mem e (by decide))).2 rfl⟩
theorem conN_nq {l : List UInt8} (h : NQ l) : conN l = none :=
  conN_no (h.at 0).1 (h.at 0).2 (lettN_zero (fun e => (h.at 2).1 e.2.2) (fun e => e.2.elim (fun e => (h.at 1).1 e) (fun e => (h.at 1).2 e)))
theorem wordN_row : ∀ {x r : List UInt8}, (∀ c ∈ x, isWord c = true) → isWord (r.getD 0 0) = false → wordN (x ++ r) = x.length
  | [], [], _, _ => rfl
  | [], c :: r, _, h => by
    show (if isWord c = true then _ else 0) = 0
    rw [if_neg (by have h : isWord c = false := h; rw [h]; simp)]
  | a :: x, r, hx, h => by
    show (if isWord a = true then wordN (x ++ r) + 1 else 0) = _
    rw [if_pos (hx a List.mem_cons_self), wordN_row (fun c hc => hx c (List.mem_cons_of_mem _ hc)) h]
    rfl
theorem let_begs {c : UInt8} (h : isWord c = true) : c ≠ 10 ∧ isWhi c = false ∧ c ≠ 47 := by
  have := isWord_ne h
  exact ⟨this.1, this.2.2.2.2.2.1, this.2.2.2.1⟩
theorem beg_one {c : UInt8} {r : List UInt8} (h1 : c ≠ 10) (h2 : isWhi c = false) (h3 : c ≠ 47) : begN (c :: r) = 1 := begN_no h1 h2 (fun e => h3 e.1) (fun e => h3 e.1)
theorem item_let {c : UInt8} {r : List UInt8} (hc : isLet c = true) (hq : NQ (c :: r)) : item (c :: r) = .tk 1 (wordN r + 1) := by
  have hw : isWord c = true := by unfold isWord; rw [hc]; rfl
  obtain ⟨h1, h2, h3⟩ := let_begs hw
  rw [item_tk (beg_one h1 h2 h3)]
  unfold tok
  rw [conN_nq hq]
  simp only
  rw [show (c :: r).getD 0 0 = c from rfl, if_pos hc]
  rfl
theorem item_word {x r : List UInt8} {c : UInt8} (hc : isLet c = true) (hx : ∀ d ∈ x, isWord d = true) (hr : isWord (r.getD 0 0) = false) (hq : NQ (c :: x ++ r)) : item (c :: x ++ r) = .tk 1 (c :: x).length := by
  rw [List.cons_append] at hq ⊢
  rw [item_let hc hq, wordN_row hx hr]
  rfl
theorem item_dig {c : UInt8} {r : List UInt8} (hc : isDig c = true) (hn : isLet c = false) (hq : NQ (c :: r)) : item (c :: r) = .tk 2 (numN c r + 1) := by
  have hw : isWord c = true := by unfold isWord; rw [hc]; simp
  obtain ⟨h1, h2, h3⟩ := let_begs hw
  rw [item_tk (beg_one h1 h2 h3)]
  unfold tok
  rw [conN_nq hq]
  simp only
  rw [show (c :: r).getD 0 0 = c from rfl, if_neg (by rw [hn]; simp), if_pos (by rw [hc]; rfl)]
  rfl
theorem item_add2 (r : List UInt8) : item (43 :: 43 :: r) = .tk 5 2 := rfl
theorem item_add1 {r : List UInt8} (h1 : r.getD 0 0 ≠ 43) (h2 : r.getD 0 0 ≠ 61) (hq : NQ (43 :: r)) : item (43 :: r) = .tk 5 1 := by
  rw [item_tk (beg_one (by decide) (by decide) (by decide))]
  unfold tok
  rw [conN_nq hq]
  have hp : punctN (43 :: r) = 1 := by
    cases r with
    | nil => rfl
    | cons d r =>
      have e1 : (43 == d) = false := beq_eq_false_iff_ne.2 fun e => h1 e.symm
      have e2 : (61 == d) = false := beq_eq_false_iff_ne.2 fun e => h2 e.symm
      have f1 : ([43, 43] : List UInt8).isPrefixOf (43 :: d :: r) = false := by
        show ((43 : UInt8) == 43 && (43 == d && true)) = false
        rw [e1]
        rfl
      have f2 : ([43, 61] : List UInt8).isPrefixOf (43 :: d :: r) = false := by
        show ((43 : UInt8) == 43 && (61 == d && true)) = false
        rw [e2]
        rfl
      unfold punctN PL
      simp [List.isPrefixOf, e1, e2]
  simp only
  rw [show (43 :: r).getD 0 0 = (43 : UInt8) from rfl, if_neg (by decide), if_neg (by simp [isDig]), hp]
  rfl

/-- A byte of a body. -/
def BdC (c : UInt8) : Prop := (97 ≤ c.toNat ∧ c.toNat ≤ 122) ∨ (48 ≤ c.toNat ∧ c.toNat ≤ 57) ∨ c = 43 ∨ c = 32
theorem BdC.ne {c : UInt8} (h : BdC c) : c ≠ 10 ∧ c ≠ 34 ∧ c ≠ 39 ∧ c ≠ 61 ∧ c ≠ 35 ∧ c ≠ 95 ∧ c ≠ 37 ∧ c ≠ 92 ∧ c ≠ 63 := by
  rcases h with h | h | rfl | rfl
  · refine ⟨?_, ?_, ?_, ?_, ?_, ?_, ?_, ?_, ?_⟩ <;> (rintro rfl; revert h; decide)
  · refine ⟨?_, ?_, ?_, ?_, ?_, ?_, ?_, ?_, ?_⟩ <;> (rintro rfl; revert h; decide)
  · decide
  · decide
theorem BdC.let {c : UInt8} (h : 97 ≤ c.toNat ∧ c.toNat ≤ 122) : isLet c = true := by
  unfold isLet
  rw [decide_eq_true h.1, decide_eq_true h.2]
  rfl
theorem BdC.dig {c : UInt8} (h : 48 ≤ c.toNat ∧ c.toNat ≤ 57) : isDig c = true ∧ isLet c = false := by
  unfold isDig isLet
  refine ⟨by rw [decide_eq_true h.1, decide_eq_true h.2]; rfl, ?_⟩
  simp only [Bool.or_eq_false_iff, Bool.and_eq_false_iff, decide_eq_false_iff_not]
  omega
/-- A body's end. -/
def BdT (l : List UInt8) : Prop := ∃ b : List UInt8, (∀ c ∈ b, BdC c) ∧ l = b ++ [10]
theorem BdT.e10 {l : List UInt8} (h : BdT l) : E10 l := by
  obtain ⟨b, -, rfl⟩ := h
  exact e10_snoc b
theorem BdT.mem {l : List UInt8} (h : BdT l) {c : UInt8} (hc : c ∈ l) : BdC c ∨ c = 10 := by
  obtain ⟨b, hb, rfl⟩ := h
  rcases List.mem_append.1 hc with hc | hc
  · exact .inl (hb c hc)
  · exact .inr (by simpa using hc)
theorem BdT.nq {l : List UInt8} (h : BdT l) : NQ l := fun c hc => by
  rcases h.mem hc with h | rfl
  · exact ⟨h.ne.2.1, h.ne.2.2.1⟩
  · decide
theorem BdT.drop {l : List UInt8} (h : BdT l) {n : Nat} (hn : n < l.length) : BdT (l.drop n) := by
  obtain ⟨b, hb, rfl⟩ := h
  simp only [List.length_append, List.length_cons, List.length_nil] at hn
  exact ⟨b.drop n, fun c hc => hb c (List.mem_of_mem_drop hc), by rw [List.drop_append_of_le_length (by omega)]⟩
theorem BdT.head {l : List UInt8} (h : BdT l) : ∃ c r, l = c :: r ∧ (c = 10 ∧ r = [] ∨ BdC c ∧ BdT r) := by
  obtain ⟨b, hb, rfl⟩ := h
  cases b with
  | nil => exact ⟨10, [], rfl, .inl ⟨rfl, rfl⟩⟩
  | cons c b => exact ⟨c, b ++ [10], rfl, .inr ⟨hb c List.mem_cons_self, b, fun d hd => hb d (List.mem_cons_of_mem _ hd), rfl⟩⟩

/-- What may follow in place of what followed. -/
def Nx (t s : List UInt8) : Prop := s.getD 0 0 = t.getD 0 0 ∨ s.getD 0 0 = 10 ∨ s.getD 0 0 = 32
theorem wordN_end : ∀ r : List UInt8, isWord ((r.drop (wordN r)).getD 0 0) = false
  | [] => rfl
  | c :: r => by
    by_cases h : isWord c = true
    · rw [show wordN (c :: r) = wordN r + 1 from by show (if isWord c = true then _ else _) = _; rw [if_pos h]]
      exact wordN_end r
    · rw [show wordN (c :: r) = 0 from by show (if isWord c = true then _ else _) = _; rw [if_neg h]]
      simpa using h
theorem wordN_cut {r s : List UInt8} (h : Nx (r.drop (wordN r)) s) : wordN (r.take (wordN r) ++ s) = wordN r := by
  have hl : (r.take (wordN r)).length = wordN r := by
    rw [List.length_take]
    exact Nat.min_eq_left (wordN_le r)
  have := wordN_row (x := r.take (wordN r)) (r := s) (fun c hc => by
    obtain ⟨j, hj, rfl⟩ := List.getElem_of_mem hc
    rw [hl] at hj
    have h1 := wordN_in r j hj
    have h2 : r.getD j 0 = (r.take (wordN r))[j]'(by rw [hl]; exact hj) := by
      rw [List.getElem_take]
      simp [List.getD, show j < r.length from Nat.lt_of_lt_of_le hj (wordN_le r)]
    rw [h2] at h1
    exact h1) (by
    rcases h with h | h | h
    · rw [h]; exact wordN_end r
    · rw [h]; rfl
    · rw [h]; rfl)
  rw [this, hl]
theorem numC_no (p : UInt8) : numC p 0 = false ∧ numC p 10 = false ∧ numC p 32 = false := by
  refine ⟨?_, ?_, ?_⟩ <;> (unfold numC; simp [isWord, isLet, isDig, isSign])
theorem numN_stop {p : UInt8} {s : List UInt8} (h : numC p (s.getD 0 0) = false) : numN p s = 0 := by
  cases s with
  | nil => rfl
  | cons c s =>
    show (if numC p c = true then _ else 0) = 0
    rw [if_neg (by have h : numC p c = false := h; rw [h]; simp)]
theorem numN_cut : ∀ {p : UInt8} {r s : List UInt8}, Nx (r.drop (numN p r)) s → numN p (r.take (numN p r) ++ s) = numN p r
  | p, [], s, h => by
    show numN p s = 0
    refine numN_stop ?_
    rcases h with h | h | h
    · rw [h]; exact (numC_no p).1
    · rw [h]; exact (numC_no p).2.1
    · rw [h]; exact (numC_no p).2.2
  | p, c :: r, s, h => by
    by_cases hc : numC p c = true
    · have e : numN p (c :: r) = numN c r + 1 := by show (if numC p c = true then _ else _) = _; rw [if_pos hc]
      rw [e] at h ⊢
      show (if numC p c = true then numN c (r.take (numN c r) ++ s) + 1 else 0) = _
      rw [if_pos hc, numN_cut (r := r) h]
    · have e : numN p (c :: r) = 0 := by show (if numC p c = true then _ else _) = _; rw [if_neg hc]
      rw [e] at h ⊢
      show numN p s = 0
      refine numN_stop ?_
      rcases h with h | h | h
      · rw [h]; simpa using hc
      · rw [h]; exact (numC_no p).2.1
      · rw [h]; exact (numC_no p).2.2

/-- A body's token hangs on its own bytes and the next one. -/
theorem item_cut {l s : List UInt8} {k n : Nat} (hl : BdT l) (h : item l = .tk k n) (hs : NQ s) (hx : Nx (l.drop n) s) : item (l.take n ++ s) = .tk k n := by
  obtain ⟨c, r, rfl, ⟨rfl, rfl⟩ | ⟨hc, hr⟩⟩ := hl.head
  · cases h
  · have hq := hl.nq
    have hqs : ∀ m, NQ (c :: (r.take m ++ s)) := fun m d hd => by
      rcases List.mem_cons.1 hd with rfl | hd
      · exact hq _ List.mem_cons_self
      · rcases List.mem_append.1 hd with hd | hd
        · exact hq _ (List.mem_cons_of_mem _ (List.mem_of_mem_take hd))
        · exact hs _ hd
    rcases hc with hc | hc | rfl | rfl
    · rw [item_let (BdC.let hc) hq] at h
      obtain ⟨rfl, rfl⟩ : k = 1 ∧ n = wordN r + 1 := by cases h; exact ⟨rfl, rfl⟩
      rw [List.take_succ_cons, List.cons_append, item_let (BdC.let hc) (hqs _), wordN_cut hx]
    · obtain ⟨h1, h2⟩ := BdC.dig hc
      rw [item_dig h1 h2 hq] at h
      obtain ⟨rfl, rfl⟩ : k = 2 ∧ n = numN c r + 1 := by cases h; exact ⟨rfl, rfl⟩
      rw [List.take_succ_cons, List.cons_append, item_dig h1 h2 (hqs _), numN_cut hx]
    · obtain ⟨d, q, rfl, hd⟩ := hr.head
      by_cases h43 : d = 43
      · subst h43
        rw [item_add2] at h
        cases h
        exact item_add2 s
      · have h61 : d ≠ 61 := by
          rcases hd with ⟨rfl, -⟩ | ⟨hd, -⟩
          · decide
          · exact hd.ne.2.2.2.1
        rw [item_add1 (r := d :: q) h43 h61 hq] at h
        cases h
        refine item_add1 (r := s) ?_ ?_ (hqs 0)
        · rcases hx with h | h | h
          · rw [h]; exact h43
          · rw [h]; decide
          · rw [h]; decide
        · rcases hx with h | h | h
          · rw [h]; exact h61
          · rw [h]; decide
          · rw [h]; decide
    · cases h

/-- Tokens told, a blank ahead of each that has space. -/
def ttL : List Kt → List UInt8
  | [] => []
  | (_, x, sp) :: r => (if sp then 32 :: x else x) ++ ttL r

theorem ktF_mem : ∀ (m : Nat) (sp : Bool) (l : List UInt8), ∀ u ∈ ktF m sp l, ∀ c ∈ u.2.1, c ∈ l
  | 0, _, _, u, h => by cases h
  | m + 1, sp, l, u, h => by
    unfold ktF at h
    split at h
    · cases h
    · cases h
    · exact fun c hc => List.mem_of_mem_drop (ktF_mem m true _ u h c hc)
    · rcases List.mem_cons.1 h with rfl | h
      · exact fun c hc => List.mem_of_mem_take hc
      · exact fun c hc => List.mem_of_mem_drop (ktF_mem m false _ u h c hc)
theorem kt_mem {sp : Bool} {l : List UInt8} {u : Kt} (h : u ∈ kt sp l) : ∀ c ∈ u.2.1, c ∈ l := ktF_mem _ _ _ u h
theorem tt_mem : ∀ {T : List Kt} {c : UInt8}, c ∈ ttL T → c = 32 ∨ ∃ u ∈ T, c ∈ u.2.1
  | [], c, h => by cases h
  | (k, x, sp) :: r, c, h => by
    rcases List.mem_append.1 h with h | h
    · cases sp with
      | true =>
        rcases List.mem_cons.1 h with rfl | h
        · exact .inl rfl
        · exact .inr ⟨_, List.mem_cons_self, h⟩
      | false => exact .inr ⟨_, List.mem_cons_self, h⟩
    · rcases tt_mem h with h | ⟨u, hu, h⟩
      · exact .inl h
      · exact .inr ⟨u, List.mem_cons_of_mem _ hu, h⟩
/-- Behind space there is nothing, or a token that has it. -/
theorem ktF_true : ∀ (m : Nat) (l : List UInt8), ktF m true l = [] ∨ ∃ k x r, ktF m true l = (k, x, true) :: r
  | 0, _ => .inl rfl
  | m + 1, l => by
    unfold ktF
    split
    · exact .inl rfl
    · exact .inl rfl
    · exact ktF_true m _
    · exact .inr ⟨_, _, _, rfl⟩
theorem kt_true (l : List UInt8) : kt true l = [] ∨ ∃ k x r, kt true l = (k, x, true) :: r := ktF_true _ _

/-- What is told begins as the body does, or with a blank, or is nothing. -/
theorem tt_head {l : List UInt8} (hl : BdT l) : Nx l (ttL (kt false l) ++ [10]) := by
  obtain ⟨c, r, rfl, ⟨rfl, rfl⟩ | ⟨hc, hr⟩⟩ := hl.head
  · exact .inl rfl
  · by_cases h32 : c = 32
    · subst h32
      rw [kt_gap (n := 1) hl.e10 rfl]
      rcases kt_true r with e | ⟨k, x, q, e⟩
      · rw [show (32 :: r).drop 1 = r from rfl, e]
        exact .inr (.inl rfl)
      · rw [show (32 :: r).drop 1 = r from rfl, e]
        exact .inr (.inr rfl)
    · have hi : ∃ k n, item (c :: r) = .tk k (n + 1) := by
        rcases hc with hc | hc | rfl | rfl
        · exact ⟨_, _, item_let (BdC.let hc) hl.nq⟩
        · exact ⟨_, _, item_dig (BdC.dig hc).1 (BdC.dig hc).2 hl.nq⟩
        · obtain ⟨d, q, rfl, hd⟩ := hr.head
          by_cases h43 : d = 43
          · subst h43
            exact ⟨5, 1, item_add2 q⟩
          · have h61 : d ≠ 61 := by
              rcases hd with ⟨rfl, -⟩ | ⟨hd, -⟩
              · decide
              · exact hd.ne.2.2.2.1
            exact ⟨5, 0, item_add1 (r := d :: q) h43 h61 hl.nq⟩
        · exact absurd rfl h32
      obtain ⟨k, n, hi⟩ := hi
      rw [kt_tk hl.e10 hi]
      exact .inl rfl

/-- Told, and lexed again. -/
theorem kt_again : ∀ (m : Nat) (l : List UInt8) (sp : Bool), l.length ≤ m → BdT l → kt false (ttL (kt sp l) ++ [10]) = kt sp l
  | 0, l, sp, hm, hl => by have := hl.e10.1; omega
  | m + 1, l, sp, hm, hl => by
    have hE := hl.e10
    cases hit : item l with
    | nl => rw [kt_nl hE hit]; rfl
    | opn => rw [kt_opn hE hit]; rfl
    | gap n =>
      obtain ⟨h1, h2⟩ := item_len hE (by rw [hit]; simp) (by rw [hit]; simp)
      rw [hit] at h1 h2
      simp only [It.len] at h1 h2
      rw [kt_gap hE hit]
      exact kt_again m _ true (by rw [List.length_drop]; omega) (hl.drop h2)
    | tk k n =>
      obtain ⟨h1, h2⟩ := item_len hE (by rw [hit]; simp) (by rw [hit]; simp)
      rw [hit] at h1 h2
      simp only [It.len] at h1 h2
      have hd := hl.drop h2
      have ih := kt_again m _ false (by rw [List.length_drop]; omega) hd
      rw [kt_tk hE hit]
      obtain ⟨s, hs⟩ : ∃ s, ttL (kt false (l.drop n)) ++ [10] = s := ⟨_, rfl⟩
      have hnq : NQ s := by
        rw [← hs]
        refine NQ.app (fun c hc => ?_) (by unfold NQ; decide)
        rcases tt_mem hc with rfl | ⟨u, hu, hc⟩
        · decide
        · exact hd.nq c (kt_mem hu c hc)
      have hcut := item_cut hl hit hnq (by rw [← hs]; exact tt_head hd)
      have hlen : (l.take n).length = n := by rw [List.length_take]; omega
      have hEs : E10 s := by rw [← hs]; exact e10_snoc _
      have hEx : E10 (l.take n ++ s) := by
        rw [← hs, ← List.append_assoc]
        exact e10_snoc _
      have hx : ∀ sp', kt sp' (l.take n ++ s) = (k, l.take n, sp') :: kt false (l.drop n) := fun sp' => by
        rw [kt_on hEx (by rw [hcut, hlen]), ← hs, ih]
      have hshape : ttL ((k, l.take n, sp) :: kt false (l.drop n)) ++ [10] = (if sp then 32 :: l.take n else l.take n) ++ s := by
        rw [← hs]
        simp [ttL]
      rw [hshape]
      cases sp with
      | false => exact hx false
      | true =>
        show kt false (32 :: (l.take n ++ s)) = _
        rw [kt_gap (n := 1) (by
          rw [← hs, ← List.append_assoc]
          exact e10_snoc (32 :: (l.take n ++ ttL (kt false (l.drop n))))) rfl]
        exact hx true

end Go.Proofs.Ytipipookgcdfbaa

/-
  Definitions that were put together, read: over lists.
-/
namespace Go.Proofs.Ytipipookgcdfbaa
open Go.RowKit

def kxX (t : Xt) : Int × List UInt8 × Bool := (t.k, t.x.data.toList, t.sp)
def ki (u : Kt) : Int × List UInt8 × Bool := ((u.1 : Int), u.2.1, u.2.2)
theorem kxX_of (u : Tk) : kxX (xtOf fB u) = ki (kxs u) := rfl
def NoN (l : List UInt8) : Prop := ∀ c ∈ l, c ≠ 10
theorem lexT_kt {s : ByteArray} {l : List UInt8} (hs : s.data.toList = l) (hp : PlB l) (h10 : NoN l) : (lexT s).map kxX = (kt false (l ++ [10])).map ki := by
  have hl : s.size = l.length := by rw [← hs]; exact Array.length_toList.symm
  rw [← lexF_kt hp h10]
  unfold lexT lexF
  rw [hs, hl, List.map_map, List.map_map]
  rfl

theorem ktF_len : ∀ (m : Nat) (a b : Bool) (l : List UInt8), (ktF m a l).length = (ktF m b l).length
  | 0, _, _, _ => rfl
  | m + 1, a, b, l => by
    unfold ktF
    cases item l <;> rfl
theorem kt_len (a b : Bool) (l : List UInt8) : (kt a l).length = (kt b l).length := ktF_len _ _ _ _
theorem ktF_le : ∀ (m : Nat) (a : Bool) (l : List UInt8), (ktF m a l).length ≤ m
  | 0, _, _ => Nat.le_refl _
  | m + 1, a, l => by
    unfold ktF
    split
    · exact Nat.zero_le _
    · exact Nat.zero_le _
    · exact Nat.le_succ_of_le (ktF_le m _ _)
    · exact Nat.succ_le_succ (ktF_le m _ _)
theorem ktF_size : ∀ (m : Nat) (a : Bool) (l : List UInt8), ∀ u ∈ ktF m a l, u.2.1.length ≤ l.length
  | 0, _, _, u, h => by cases h
  | m + 1, a, l, u, h => by
    unfold ktF at h
    split at h
    · cases h
    · cases h
    · have := ktF_size m _ _ u h
      rw [List.length_drop] at this
      omega
    · rcases List.mem_cons.1 h with rfl | h
      · simp only [List.length_take]
        omega
      · have := ktF_size m _ _ u h
        rw [List.length_drop] at this
        omega
/-- Tokens that may be read as a definition. -/
theorem lexT_fit {s : ByteArray} {l : List UInt8} (hs : s.data.toList = l) (hp : PlB l) (h10 : NoN l) : (lexT s).length ≤ l.length + 1 ∧ (∀ t ∈ lexT s, t.ss = []) ∧ ∀ t ∈ lexT s, t.x.size ≤ l.length + 1 := by
  have h := lexT_kt hs hp h10
  refine ⟨?_, fun t ht => ?_, fun t ht => ?_⟩
  · have := congrArg List.length h
    rw [List.length_map, List.length_map] at this
    rw [this]
    have := ktF_le (l ++ [10]).length false (l ++ [10])
    unfold kt
    simpa using this
  · unfold lexT at ht
    obtain ⟨u, -, rfl⟩ := List.mem_map.1 ht
    rfl
  · have hm : kxX t ∈ (kt false (l ++ [10])).map ki := h ▸ List.mem_map_of_mem (f := kxX) ht
    obtain ⟨u, hu, he⟩ := List.mem_map.1 hm
    have := ktF_size _ _ _ u hu
    have h2 : u.2.1 = t.x.data.toList := congrArg (fun z => z.2.1) he
    rw [h2] at this
    simpa using this

def Wd (p : List UInt8) : Prop := p ≠ [] ∧ ∀ c ∈ p, 97 ≤ c.toNat ∧ c.toNat ≤ 122
theorem Wd.bd {p : List UInt8} (h : Wd p) : ∀ c ∈ p, BdC c := fun c hc => .inl (h.2 c hc)
theorem bd_plb {p : List UInt8} (h : ∀ c ∈ p, BdC c) : PlB p := fun c hc => ⟨(h c hc).ne.2.2.2.2.2.2.2.1, (h c hc).ne.2.2.2.2.2.2.2.2⟩
theorem bd_non {p : List UInt8} (h : ∀ c ∈ p, BdC c) : NoN p := fun c hc => (h c hc).ne.1
theorem bd_nq {p : List UInt8} (h : ∀ c ∈ p, BdC c) : NQ p := fun c hc => ⟨(h c hc).ne.2.1, (h c hc).ne.2.2.1⟩
theorem NoN.app {x y : List UInt8} (hx : NoN x) (hy : NoN y) : NoN (x ++ y) := fun c hc => by
  rcases List.mem_append.1 hc with h | h
  · exact hx c h
  · exact hy c h
theorem e10_app (x : List UInt8) {t : List UInt8} (h : E10 t) : E10 (x ++ t) := by
  obtain ⟨h1, h2⟩ := h
  refine ⟨by rw [List.length_append]; omega, ?_⟩
  rw [List.length_append, show x.length + t.length - 1 = x.length + (t.length - 1) from by omega, get_right]
  exact h2

theorem e10_cons (c : UInt8) {t : List UInt8} (h : E10 t) : E10 (c :: t) := e10_app [c] h
theorem NQ.cons {c : UInt8} {t : List UInt8} (hc : c ≠ 34 ∧ c ≠ 39) (h : NQ t) : NQ (c :: t) := fun d hd => by
  rcases List.mem_cons.1 hd with rfl | hd
  · exact hc
  · exact h d hd
theorem kt_word {p t : List UInt8} {sp : Bool} (hp : Wd p) (ht : isWord (t.getD 0 0) = false) (hq : NQ t) (hE : E10 t) : kt sp (p ++ t) = (1, p, sp) :: kt false t := by
  obtain ⟨h0, hw⟩ := hp
  cases p with
  | nil => exact absurd rfl h0
  | cons c p =>
    refine kt_on (e10_app _ hE) (item_word (BdC.let (hw c List.mem_cons_self)) (fun d hd => ?_) ht (NQ.app (bd_nq (Wd.bd ⟨h0, hw⟩)) hq))
    unfold isWord
    rw [BdC.let (hw d (List.mem_cons_of_mem _ hd))]
    rfl
theorem kt_sign {c : UInt8} {t : List UInt8} {sp : Bool} (hc : c = 40 ∨ c = 41 ∨ c = 44) (hE : E10 t) : kt sp (c :: t) = (5, [c], sp) :: kt false t := by
  refine kt_on (x := [c]) (e10_cons c hE) ?_
  rcases hc with rfl | rfl | rfl <;> rfl
theorem kt_blank {t : List UInt8} {sp : Bool} (hE : E10 t) : kt sp (32 :: t) = kt true t := kt_gap (n := 1) (e10_cons 32 hE) rfl

/-- A row of parameters: its text, its tokens. -/
def joinB : List (List UInt8) → List UInt8
  | [] => []
  | [p] => p
  | p :: q :: r => p ++ 44 :: 32 :: joinB (q :: r)
def rowK : Bool → List (List UInt8) → List Kt
  | _, [] => []
  | sp, [p] => [(1, p, sp)]
  | sp, p :: q :: r => (1, p, sp) :: (5, [44], false) :: rowK true (q :: r)
theorem joinB_snoc : ∀ (ps : List (List UInt8)) (p : List UInt8), ps ≠ [] → joinB (ps ++ [p]) = joinB ps ++ 44 :: 32 :: p
  | [], _, h => absurd rfl h
  | [a], p, _ => rfl
  | a :: b :: r, p, _ => by
    have := joinB_snoc (b :: r) p (by simp)
    show a ++ 44 :: 32 :: joinB (b :: r ++ [p]) = _
    rw [this]
    simp [joinB]
theorem joinB_mem : ∀ {ps : List (List UInt8)} {c : UInt8}, c ∈ joinB ps → c = 44 ∨ c = 32 ∨ ∃ p ∈ ps, c ∈ p
  | [], c, h => by cases h
  | [p], c, h => .inr (.inr ⟨p, List.mem_cons_self, h⟩)
  | p :: q :: r, c, h => by
    have h : c ∈ p ++ 44 :: 32 :: joinB (q :: r) := h
    rcases List.mem_append.1 h with h | h
    · exact .inr (.inr ⟨p, List.mem_cons_self, h⟩)
    · rcases List.mem_cons.1 h with h | h
      · exact .inl h
      · rcases List.mem_cons.1 h with h | h
        · exact .inr (.inl h)
        · rcases joinB_mem h with h | h | ⟨p', hp, h⟩
          · exact .inl h
          · exact .inr (.inl h)
          · exact .inr (.inr ⟨p', List.mem_cons_of_mem _ hp, h⟩)
theorem joinB_nq {ps : List (List UInt8)} (h : ∀ p ∈ ps, Wd p) : NQ (joinB ps) := fun c hc => by
  rcases joinB_mem hc with rfl | rfl | ⟨p, hp, hc⟩
  · decide
  · decide
  · exact bd_nq (h p hp).bd c hc
theorem kt_row : ∀ (ps : List (List UInt8)) (sp : Bool) (t : List UInt8), ps ≠ [] → (∀ p ∈ ps, Wd p) → isWord (t.getD 0 0) = false → NQ t → E10 t → kt sp (joinB ps ++ t) = rowK sp ps ++ kt false t
  | [], _, _, h, _, _, _, _ => absurd rfl h
  | [p], sp, t, _, hw, ht, hq, hE => kt_word (hw p List.mem_cons_self) ht hq hE
  | p :: q :: r, sp, t, _, hw, ht, hq, hE => by
    have hw' : ∀ x ∈ q :: r, Wd x := fun x hx => hw x (List.mem_cons_of_mem _ hx)
    have ih := kt_row (q :: r) true t (by simp) hw' ht hq hE
    have hE2 := e10_app (joinB (q :: r)) hE
    have hq2 := (joinB_nq hw').app hq
    show kt sp ((p ++ 44 :: 32 :: joinB (q :: r)) ++ t) = (1, p, sp) :: (5, [44], false) :: (rowK true (q :: r) ++ kt false t)
    rw [List.append_assoc, List.cons_append, List.cons_append, kt_word (hw p List.mem_cons_self) rfl (NQ.cons (by decide) (NQ.cons (by decide) hq2)) (e10_cons 44 (e10_cons 32 hE2)), kt_sign (.inr (.inr rfl)) (e10_cons 32 hE2), kt_blank hE2, ih]

/-- The head of a definition, with its bracket behind the name. -/
theorem kt_head {name t : List UInt8} {ps : List (List UInt8)} (hn : Wd name) (hw : ∀ p ∈ ps, Wd p) (hq : NQ t) (hE : E10 t) : kt false (name ++ 40 :: (joinB ps ++ 41 :: t)) = (1, name, false) :: (5, [40], false) :: (rowK false ps ++ (5, [41], false) :: kt false t) := by
  have hE1 := e10_cons 41 hE
  have hq1 : NQ (41 :: t) := NQ.cons (by decide) hq
  have hE2 := e10_app (joinB ps) hE1
  have hq2 := (joinB_nq hw).app hq1
  have hr : kt false (joinB ps ++ 41 :: t) = rowK false ps ++ (5, [41], false) :: kt false t := by
    cases ps with
    | nil => exact kt_sign (.inr (.inl rfl)) hE
    | cons p r =>
      rw [kt_row (p :: r) false (41 :: t) (by simp) hw rfl hq1 hE1, kt_sign (.inr (.inl rfl)) hE]
  rw [kt_word hn rfl (NQ.cons (by decide) hq2) (e10_cons 40 hE2), kt_sign (.inl rfl) hE2, hr]
/-- With space ahead of the bracket. -/
theorem kt_head2 {name t : List UInt8} {ps : List (List UInt8)} (hn : Wd name) (hw : ∀ p ∈ ps, Wd p) (hq : NQ t) (hE : E10 t) : kt false (name ++ 32 :: 40 :: 32 :: (joinB ps ++ 32 :: 41 :: t)) = (1, name, false) :: (5, [40], true) :: (rowK true ps ++ (5, [41], true) :: kt false t) := by
  have hE1 := e10_cons 41 hE
  have hE0 := e10_cons 32 hE1
  have hq1 : NQ (32 :: 41 :: t) := NQ.cons (by decide) (NQ.cons (by decide) hq)
  have hE2 := e10_app (joinB ps) hE0
  have hq2 := (joinB_nq hw).app hq1
  have hr : kt true (joinB ps ++ 32 :: 41 :: t) = rowK true ps ++ (5, [41], true) :: kt false t := by
    cases ps with
    | nil =>
      show kt true (32 :: 41 :: t) = _
      rw [kt_blank hE1]
      exact kt_sign (.inr (.inl rfl)) hE
    | cons p r =>
      rw [kt_row (p :: r) true (32 :: 41 :: t) (by simp) hw rfl hq1 hE0, kt_blank hE1, kt_sign (.inr (.inl rfl)) hE]
  rw [kt_word hn rfl (NQ.cons (by decide) (NQ.cons (by decide) (NQ.cons (by decide) hq2))) (e10_cons 32 (e10_cons 40 (e10_cons 32 hE2))), kt_blank (e10_cons 40 (e10_cons 32 hE2)), kt_sign (.inl rfl) (e10_cons 32 hE2), kt_blank hE2, hr]

-- reading
theorem kx_of {t : Xt} {k : Nat} {x : List UInt8} {sp : Bool} (h : kxX t = ki (k, x, sp)) : t.k = (k : Int) ∧ t.x = ⟨x.toArray⟩ ∧ t.sp = sp := by
  unfold kxX ki at h
  simp only [Prod.mk.injEq] at h
  obtain ⟨h1, h2, h3⟩ := h
  exact ⟨h1, ByteArray.ext (Array.toList_inj.1 (by rw [h2])), h3⟩
theorem bs_eq {x y : List UInt8} : ((⟨x.toArray⟩ : ByteArray) = ⟨y.toArray⟩) ↔ x = y :=
  ⟨fun h => by have := congrArg (fun z : ByteArray => z.data.toList) h; simpa using this, fun h => by rw [h]⟩
theorem isX_kx {t : Xt} {k : Nat} {x : List UInt8} {sp : Bool} (h : kxX t = ki (k, x, sp)) (s : List UInt8) : isX t ⟨s.toArray⟩ = (decide (k = 5) && decide (x = s)) := by
  obtain ⟨h1, h2, -⟩ := kx_of h
  rw [isX_eq, h1, h2]
  congr 1
  · exact decide_eq_decide.2 (by omega)
  · exact decide_eq_decide.2 bs_eq

abbrev bsOf (p : List UInt8) : ByteArray := ⟨p.toArray⟩
theorem wd_va {p : List UInt8} (h : Wd p) : bsOf p ≠ vaB := fun e => by
  have e1 : p = [95, 95, 86, 65, 95, 65, 82, 71, 83, 95, 95] := bs_eq.1 e
  have := h.2 95 (by rw [e1]; simp)
  revert this
  decide

theorem two_of {R : List Xt} {a b : Int × List UInt8 × Bool} {Q : List (Int × List UInt8 × Bool)} (h : R.map kxX = a :: b :: Q) : ∃ t u q, R = t :: u :: q ∧ kxX t = a ∧ kxX u = b ∧ q.map kxX = Q := by
  cases R with
  | nil => cases h
  | cons t R =>
    simp only [List.map_cons, List.cons.injEq] at h
    obtain ⟨h1, h2⟩ := h
    cases R with
    | nil => cases h2
    | cons u q =>
      simp only [List.map_cons, List.cons.injEq] at h2
      exact ⟨t, u, q, rfl, h1, h2.1, h2.2⟩
theorem row_parse : ∀ (ps : List (List UInt8)) (acc : List ByteArray) (sp b : Bool) (R : List Xt) (Q : List (Int × List UInt8 × Bool)), ps ≠ [] → R.map kxX = (rowK sp ps).map ki ++ ki (5, [41], b) :: Q → (∀ p ∈ ps, Wd p) → ps.Nodup → (∀ p ∈ ps, bsOf p ∉ acc) →
    ∃ q, rowL acc R = some (false, acc ++ ps.map bsOf, q) ∧ q.map kxX = Q
  | [], _, _, _, _, _, h, _, _, _, _ => absurd rfl h
  | [p], acc, sp, b, R, Q, _, hR, hw, hnd, hacc => by
    have hR : R.map kxX = ki (1, p, sp) :: ki (5, [41], b) :: Q := hR
    obtain ⟨t, u, q, rfl, ht, hu, hq⟩ := two_of hR
    · obtain ⟨t1, t2, -⟩ := kx_of ht
      refine ⟨q, ?_, hq⟩
      have hp : parB acc t = true := by
        unfold parB
        rw [t1, t2, decide_eq_true (show ((1 : Nat) : Int) = 1 from rfl), decide_eq_false (wd_va (hw p List.mem_cons_self))]
        cases hm : memB (bsOf p) acc with
        | false => rfl
        | true => exact absurd (memB_iff.1 hm) (hacc p List.mem_cons_self)
      rw [show rowL acc (t :: u :: q) = (if isX t eB then (if isX u cB then some (true, acc ++ [vaB], q) else none)
        else if parB acc t then (if isX u cB then some (false, acc ++ [t.x], q) else if isX u kB then rowL (acc ++ [t.x]) q else none)
        else none) from rfl, isX_kx ht [46, 46, 46], isX_kx hu [41], hp, t2]
      simp
  | p :: p' :: r, acc, sp, b, R, Q, _, hR, hw, hnd, hacc => by
    have hR : R.map kxX = ki (1, p, sp) :: ki (5, [44], false) :: ((rowK true (p' :: r)).map ki ++ ki (5, [41], b) :: Q) := hR
    obtain ⟨t, u, q, rfl, ht, hu, hq⟩ := two_of hR
    · obtain ⟨t1, t2, -⟩ := kx_of ht
      have hp : parB acc t = true := by
        unfold parB
        rw [t1, t2, decide_eq_true (show ((1 : Nat) : Int) = 1 from rfl), decide_eq_false (wd_va (hw p List.mem_cons_self))]
        cases hm : memB (bsOf p) acc with
        | false => rfl
        | true => exact absurd (memB_iff.1 hm) (hacc p List.mem_cons_self)
      have hnd2 := List.nodup_cons.1 hnd
      obtain ⟨q', h1, h2⟩ := row_parse (p' :: r) (acc ++ [bsOf p]) true b q Q (by simp) hq (fun x hx => hw x (List.mem_cons_of_mem _ hx)) hnd2.2 (fun x hx h => by
        rcases List.mem_append.1 h with h | h
        · exact hacc x (List.mem_cons_of_mem _ hx) h
        · have : bsOf x = bsOf p := by simpa using h
          exact hnd2.1 (bs_eq.1 this ▸ hx))
      refine ⟨q', ?_, h2⟩
      rw [show rowL acc (t :: u :: q) = (if isX t eB then (if isX u cB then some (true, acc ++ [vaB], q) else none)
        else if parB acc t then (if isX u cB then some (false, acc ++ [t.x], q) else if isX u kB then rowL (acc ++ [t.x]) q else none)
        else none) from rfl, isX_kx ht [46, 46, 46], isX_kx hu [41], isX_kx hu [44], hp, t2, h1]
      simp

theorem head_parse {name : List UInt8} {ps : List (List UInt8)} {T : List Xt} {Q : List (Int × List UInt8 × Bool)} (hw : ∀ p ∈ ps, Wd p) (hnd : ps.Nodup)
    (hT : T.map kxX = ki (1, name, false) :: ki (5, [40], false) :: ((rowK false ps).map ki ++ ki (5, [41], false) :: Q)) :
    ∃ t r q, T = t :: r ∧ t.k = 1 ∧ t.x = bsOf name ∧ headL r = some (true, false, ps.map bsOf, q) ∧ q.map kxX = Q := by
  obtain ⟨t, o, R, rfl, ht, ho, hR⟩ := two_of hT
  · obtain ⟨t1, t2, -⟩ := kx_of ht
    obtain ⟨o1, o2, o3⟩ := kx_of ho
    have hopen : o.sp = false ∧ isX o oB = true := ⟨o3, by rw [isX_kx ho [40]]; rfl⟩
    cases ps with
    | nil =>
      match R, hR with
      | u :: q, hR =>
        simp only [List.map_cons, List.map_nil, rowK, List.nil_append, List.cons.injEq] at hR
        obtain ⟨hu, hq⟩ := hR
        refine ⟨t, o :: u :: q, q, rfl, t1, t2, ?_, hq⟩
        show (if o.sp = false ∧ isX o oB = true then (if isX u cB then some (true, false, [], q) else _) else _) = _
        rw [if_pos hopen, isX_kx hu [41]]
        rfl
    | cons p r =>
      obtain ⟨q, h1, h2⟩ := row_parse (p :: r) [] false false R Q (by simp) hR hw hnd (fun x _ h => by cases h)
      match R, hR, h1 with
      | u :: R', hR, h1 =>
        have hu : isX u cB = false := by
          cases r with
          | nil =>
            simp only [List.map_cons, rowK, List.map_nil, List.cons_append, List.cons.injEq] at hR
            rw [isX_kx (k := 1) hR.1 [41]]
            rfl
          | cons p' r =>
            simp only [List.map_cons, rowK, List.cons_append, List.cons.injEq] at hR
            rw [isX_kx (k := 1) hR.1 [41]]
            rfl
        refine ⟨t, o :: u :: R', q, rfl, t1, t2, ?_, h2⟩
        show (if o.sp = false ∧ isX o oB = true then (if isX u cB then some (true, false, [], R') else (rowL [] (u :: R')).map fun x => (true, x.1, x.2.1, x.2.2)) else _) = _
        rw [if_pos hopen, hu, h1]
        rfl

/-- No paste, no hash, no name of the rest. -/
def PlX (u : Xt) : Prop := pasteX u = false ∧ hashX u = false ∧ u.x ≠ vaB
theorem plx_of {u : Xt} (h : ∀ c ∈ u.x.data.toList, c ≠ 35 ∧ c ≠ 37 ∧ c ≠ 95) : PlX u := by
  have key : ∀ (s : List UInt8) (c : UInt8), c ∈ s → c = 35 ∨ c = 37 ∨ c = 95 → u.x ≠ ⟨s.toArray⟩ := fun s c hc h3 e => by
    have := h c (by rw [e]; exact hc)
    rcases h3 with rfl | rfl | rfl
    · exact this.1 rfl
    · exact this.2.1 rfl
    · exact this.2.2 rfl
  refine ⟨?_, ?_, key [95, 95, 86, 65, 95, 65, 82, 71, 83, 95, 95] 95 (by simp) (.inr (.inr rfl))⟩
  · rw [pasteX_eq, decide_eq_false (key [35, 35] 35 (by simp) (.inl rfl)), decide_eq_false (key [37, 58, 37, 58] 37 (by simp) (.inr (.inl rfl)))]
    simp
  · rw [hashX_eq, decide_eq_false (key [35] 35 (by simp) (.inl rfl)), decide_eq_false (key [37, 58] 37 (by simp) (.inr (.inl rfl)))]
    simp
theorem bare_mem {q : List Xt} {u : Xt} (h : u ∈ bareL q) : ∃ v ∈ q, u.k = v.k ∧ u.x = v.x := by
  cases q with
  | nil => cases h
  | cons v r =>
    rcases List.mem_cons.1 h with rfl | h
    · exact ⟨v, List.mem_cons_self, rfl, rfl⟩
    · exact ⟨u, List.mem_cons_of_mem _ h, rfl, rfl⟩
theorem plx_bare {q : List Xt} (h : ∀ u ∈ q, PlX u) : ∀ u ∈ bareL q, PlX u := fun u hu => by
  obtain ⟨v, hv, h1, h2⟩ := bare_mem hu
  obtain ⟨a, b, c⟩ := h v hv
  unfold PlX
  rw [pasteX_eq, hashX_eq] at *
  rw [h1, h2]
  exact ⟨a, b, c⟩
theorem res_wd {p : List UInt8} (h : Wd p) (hd : p ≠ [100, 101, 102, 105, 110, 101, 100]) : resB (bsOf p) = false := by
  have key : ∀ s : List UInt8, 95 ∈ s → bsOf p ≠ ⟨s.toArray⟩ := fun s hs e => by
    have e1 : p = s := bs_eq.1 e
    have := h.2 95 (e1 ▸ hs)
    revert this
    decide
  unfold resB
  rw [decide_eq_false (fun e => hd (bs_eq.1 e)), decide_eq_false (key [95, 95, 70, 73, 76, 69, 95, 95] (by simp)), decide_eq_false (key [95, 95, 76, 73, 78, 69, 95, 95] (by simp)), decide_eq_false (key [95, 95, 86, 65, 95, 65, 82, 71, 83, 95, 95] (by simp))]
  rfl
theorem parse_good {t : Xt} {r q : List Xt} {fn va : Bool} {ps : List ByteArray} (hk : t.k = 1) (hr : resB t.x = false) (hh : headL r = some (fn, va, ps, q)) (hq : ∀ u ∈ q, PlX u) : parseL (t :: r) = .inl ⟨t.x, fn, va, ps, bareL q, t.g, t.f, t.t⟩ := by
  have hm : misL fn va ps (bareL q) (bareL q).length 0 = none := by
    rcases misL_is (fn := fn) (va := va) (ps := ps) (T := bareL q) (bareL q).length 0 (by omega) with ⟨h, -⟩ | ⟨j, u, -, hu, -, hi, -⟩
    · exact h
    · exfalso
      obtain ⟨a, b, c⟩ := plx_bare hq u (List.mem_of_getElem? hu)
      unfold illX at hi
      rw [a, b, decide_eq_false c] at hi
      simp at hi
  show (if t.k ≠ 1 then _ else if resB t.x then _ else match headL r with | none => _ | some (fn, va, ps, q) => _) = _
  rw [if_neg (by simp [hk]), hr, hh]
  simp only [Bool.false_eq_true, if_false, hm]
theorem parse_bad {t u : Xt} {r q : List Xt} {va : Bool} {ps : List ByteArray} (hk : t.k = 1) (hr : resB t.x = false) (hh : headL r = some (true, va, ps, u :: q)) (hu : pasteX u = true ∨ (hashX u = true ∧ isPar ps (bareL (u :: q)) 1 = false)) : ∃ i, parseL (t :: r) = .inr i ∧ i.c = 5 := by
  have hb : bareL (u :: q) = { u with sp := false } :: q := rfl
  have hi : illX true va ps (bareL (u :: q)) 0 { u with sp := false } = true := by
    unfold illX
    rcases hu with h | ⟨h, h'⟩
    · have : pasteX { u with sp := false } = true := h
      rw [this]
      simp
    · have : hashX { u with sp := false } = true := h
      rw [this, h']
      simp
  have hm : misL true va ps (bareL (u :: q)) (bareL (u :: q)).length 0 = some 0 := by
    rw [hb] at hi ⊢
    show (match ({ u with sp := false } :: q)[0]? with | none => none | some t => if illX true va ps ({ u with sp := false } :: q) 0 t then some 0 else misL true va ps ({ u with sp := false } :: q) q.length (0 + 1)) = _
    simp only [List.getElem?_cons_zero, hi, if_true]
  refine ⟨illOf 5 { u with sp := false }, ?_, rfl⟩
  show (if t.k ≠ 1 then _ else if resB t.x then _ else match headL r with | none => _ | some (fn, va, ps, q) => _) = _
  rw [if_neg (by simp [hk]), hr, hh]
  simp only [Bool.false_eq_true, if_false, hm]
  rfl

theorem alike_kx : ∀ {T U : List Xt}, T.map kxX = U.map kxX → alikeL T U = true
  | [], [], _ => rfl
  | [], _ :: _, h => by cases h
  | _ :: _, [], h => by cases h
  | t :: T, u :: U, h => by
    simp only [List.map_cons, List.cons.injEq] at h
    obtain ⟨h1, h2⟩ := h
    unfold kxX at h1
    simp only [Prod.mk.injEq] at h1
    obtain ⟨a, b, c⟩ := h1
    have hx : t.x = u.x := ByteArray.ext (Array.toList_inj.1 b)
    show (alikeX t u && alikeL T U) = true
    unfold alikeX
    rw [a, hx, c, alike_kx h2]
    simp
theorem bare_kx {T U : List Xt} (h : T.map kxX = U.map kxX) : (bareL T).map kxX = (bareL U).map kxX := by
  match T, U, h with
  | [], [], _ => rfl
  | t :: T, u :: U, h =>
    simp only [List.map_cons, List.cons.injEq] at h
    obtain ⟨h1, h2⟩ := h
    unfold kxX at h1
    simp only [Prod.mk.injEq] at h1
    obtain ⟨a, b, c⟩ := h1
    show kxX { t with sp := false } :: T.map kxX = kxX { u with sp := false } :: U.map kxX
    rw [h2]
    unfold kxX
    rw [a, b]

end Go.Proofs.Ytipipookgcdfbaa

/-
  Brackets in brackets: texts of ArgsNested, lexed and collected; over lists.
-/
namespace Go.Proofs.Ytipipookgcdfbaa
open Go.RowKit

def opB : Nat → List UInt8
  | 0 => []
  | d + 1 => 40 :: 44 :: opB d
def clB : Nat → List UInt8
  | 0 => []
  | d + 1 => 44 :: 41 :: clB d
def argB (d : Nat) : List UInt8 := opB d ++ 120 :: clB d
def rowB : List Nat → List UInt8
  | [] => []
  | [d] => argB d
  | d :: e :: r => argB d ++ 44 :: rowB (e :: r)
theorem opB_snoc : ∀ d : Nat, opB (d + 1) = opB d ++ [40, 44]
  | 0 => rfl
  | d + 1 => by
    show 40 :: 44 :: opB (d + 1) = (40 :: 44 :: opB d) ++ [40, 44]
    rw [opB_snoc d]
    rfl
theorem clB_snoc : ∀ d : Nat, clB (d + 1) = clB d ++ [44, 41]
  | 0 => rfl
  | d + 1 => by
    show 44 :: 41 :: clB (d + 1) = (44 :: 41 :: clB d) ++ [44, 41]
    rw [clB_snoc d]
    rfl
theorem rowB_snoc : ∀ (ds : List Nat) (d : Nat), ds ≠ [] → rowB (ds ++ [d]) = rowB ds ++ 44 :: argB d
  | [], _, h => absurd rfl h
  | [a], d, _ => rfl
  | a :: b :: r, d, _ => by
    have := rowB_snoc (b :: r) d (by simp)
    show argB a ++ 44 :: rowB (b :: r ++ [d]) = _
    rw [this]
    simp [rowB]
theorem argB_len (d : Nat) : (argB d).length = 1 + 4 * d := by
  have h1 : ∀ d, (opB d).length = 2 * d := fun d => by
    induction d with
    | zero => rfl
    | succ d ih => show (opB d).length + 1 + 1 = _; omega
  have h2 : ∀ d, (clB d).length = 2 * d := fun d => by
    induction d with
    | zero => rfl
    | succ d ih => show (clB d).length + 1 + 1 = _; omega
  unfold argB
  rw [List.length_append, List.length_cons, h1, h2]
  omega

/-- A byte as a token. -/
def tk1 (c : UInt8) : Kt := if c = 120 then (1, [120], false) else (5, [c], false)
theorem kt_op : ∀ (d : Nat) {t : List UInt8}, E10 t → kt false (opB d ++ t) = (opB d).map tk1 ++ kt false t
  | 0, _, _ => rfl
  | d + 1, t, hE => by
    show kt false (40 :: 44 :: (opB d ++ t)) = tk1 40 :: tk1 44 :: ((opB d).map tk1 ++ kt false t)
    have h2 := e10_app (opB d) hE
    rw [kt_sign (.inl rfl) (e10_cons 44 h2), kt_sign (.inr (.inr rfl)) h2, kt_op d hE]
    rfl
theorem kt_cl : ∀ (d : Nat) {t : List UInt8}, E10 t → kt false (clB d ++ t) = (clB d).map tk1 ++ kt false t
  | 0, _, _ => rfl
  | d + 1, t, hE => by
    show kt false (44 :: 41 :: (clB d ++ t)) = tk1 44 :: tk1 41 :: ((clB d).map tk1 ++ kt false t)
    have h2 := e10_app (clB d) hE
    rw [kt_sign (.inr (.inr rfl)) (e10_cons 41 h2), kt_sign (.inr (.inl rfl)) h2, kt_cl d hE]
    rfl
theorem clB_nq : ∀ d : Nat, NQ (clB d)
  | 0 => fun c hc => by cases hc
  | d + 1 => NQ.cons (by decide) (NQ.cons (by decide) (clB_nq d))
theorem kt_arg (d : Nat) {t : List UInt8} (ht : isWord (t.getD 0 0) = false) (hq : NQ t) (hE : E10 t) : kt false (argB d ++ t) = (argB d).map tk1 ++ kt false t := by
  unfold argB
  have h2 := e10_app (clB d) hE
  have hw : isWord ((clB d ++ t).getD 0 0) = false := by
    cases d with
    | zero => exact ht
    | succ d => rfl
  rw [List.append_assoc, List.cons_append, kt_op d (e10_cons 120 h2), List.map_append, List.map_cons]
  have hx : kt false ([120] ++ (clB d ++ t)) = (1, [120], false) :: kt false (clB d ++ t) := kt_word (p := [120]) ⟨by simp, by decide⟩ hw ((clB_nq d).app hq) h2
  rw [List.singleton_append] at hx
  rw [hx, kt_cl d hE]
  simp [tk1]
theorem argB_nq (d : Nat) : NQ (argB d) := by
  unfold argB
  have h : ∀ d, NQ (opB d) := fun d => by
    induction d with
    | zero => exact fun c hc => by cases hc
    | succ d ih => exact NQ.cons (by decide) (NQ.cons (by decide) ih)
  exact (h d).app (NQ.cons (by decide) (clB_nq d))
theorem rowB_nq : ∀ ds : List Nat, NQ (rowB ds)
  | [] => fun c hc => by cases hc
  | [d] => argB_nq d
  | d :: e :: r => (argB_nq d).app (NQ.cons (by decide) (rowB_nq (e :: r)))
theorem kt_rowB : ∀ (ds : List Nat) {t : List UInt8}, ds ≠ [] → isWord (t.getD 0 0) = false → NQ t → E10 t → kt false (rowB ds ++ t) = (rowB ds).map tk1 ++ kt false t
  | [], _, h, _, _, _ => absurd rfl h
  | [d], t, _, ht, hq, hE => kt_arg d ht hq hE
  | d :: e :: r, t, _, ht, hq, hE => by
    have h2 := e10_app (rowB (e :: r)) hE
    have hq2 := (rowB_nq (e :: r)).app hq
    show kt false ((argB d ++ 44 :: rowB (e :: r)) ++ t) = (argB d ++ 44 :: rowB (e :: r)).map tk1 ++ kt false t
    rw [List.append_assoc, List.cons_append, kt_arg d rfl (NQ.cons (by decide) hq2) (e10_cons 44 h2), kt_sign (.inr (.inr rfl)) h2, kt_rowB (e :: r) (by simp) ht hq hE, List.map_append, List.map_cons, List.append_assoc]
    rfl

-- collected
def k1 (c : UInt8) : Int × List UInt8 × Bool := ki (tk1 c)
theorem isX_sign {t : Xt} {c : UInt8} (h : kxX t = k1 c) (hc : c ≠ 120) (s : UInt8) : isX t ⟨[s].toArray⟩ = decide (c = s) := by
  have h' : kxX t = ki (5, [c], false) := by rw [h]; unfold k1 tk1; rw [if_neg hc]
  rw [isX_kx h' [s]]
  simp
theorem isX_x {t : Xt} (h : kxX t = k1 120) (s : UInt8) : isX t ⟨[s].toArray⟩ = false := by
  have h' : kxX t = ki (1, [120], false) := by rw [h]; rfl
  rw [isX_kx h' [s]]
  rfl
theorem cons_of {R : List Xt} {a : Int × List UInt8 × Bool} {Q : List (Int × List UInt8 × Bool)} (h : R.map kxX = a :: Q) : ∃ t q, R = t :: q ∧ kxX t = a ∧ q.map kxX = Q := by
  cases R with
  | nil => cases h
  | cons t q =>
    simp only [List.map_cons, List.cons.injEq] at h
    exact ⟨t, q, rfl, h.1, h.2⟩
theorem col_open {t : Xt} (h : kxX t = k1 40) (d : Nat) (r now : List Xt) (ls : List (List Xt)) (cs : List Xt) (n : Nat) : colL d (t :: r) now ls cs n = colL (d + 1) r (now ++ [t]) ls cs (n + 1) := by
  show (if decide (d = 0) && isX t cB then _ else if decide (d = 0) && isX t kB then _ else colL (if isX t oB then d + 1 else if isX t cB then d - 1 else d) r (now ++ [t]) ls cs (n + 1)) = _
  rw [isX_sign h (by decide) 41, isX_sign h (by decide) 44, isX_sign h (by decide) 40]
  simp
theorem col_shut {t : Xt} (h : kxX t = k1 41) (d : Nat) (r now : List Xt) (ls : List (List Xt)) (cs : List Xt) (n : Nat) : colL (d + 1) (t :: r) now ls cs n = colL d r (now ++ [t]) ls cs (n + 1) := by
  show (if decide (d + 1 = 0) && isX t cB then _ else if decide (d + 1 = 0) && isX t kB then _ else colL (if isX t oB then d + 1 + 1 else if isX t cB then d + 1 - 1 else d + 1) r (now ++ [t]) ls cs (n + 1)) = _
  rw [isX_sign h (by decide) 41, isX_sign h (by decide) 44, isX_sign h (by decide) 40]
  simp
theorem col_comma {t : Xt} (h : kxX t = k1 44) (d : Nat) (r now : List Xt) (ls : List (List Xt)) (cs : List Xt) (n : Nat) : colL (d + 1) (t :: r) now ls cs n = colL (d + 1) r (now ++ [t]) ls cs (n + 1) := by
  show (if decide (d + 1 = 0) && isX t cB then _ else if decide (d + 1 = 0) && isX t kB then _ else colL (if isX t oB then d + 1 + 1 else if isX t cB then d + 1 - 1 else d + 1) r (now ++ [t]) ls cs (n + 1)) = _
  rw [isX_sign h (by decide) 41, isX_sign h (by decide) 44, isX_sign h (by decide) 40]
  simp
theorem col_x {t : Xt} (h : kxX t = k1 120) (d : Nat) (r now : List Xt) (ls : List (List Xt)) (cs : List Xt) (n : Nat) : colL d (t :: r) now ls cs n = colL d r (now ++ [t]) ls cs (n + 1) := by
  show (if decide (d = 0) && isX t cB then _ else if decide (d = 0) && isX t kB then _ else colL (if isX t oB then d + 1 else if isX t cB then d - 1 else d) r (now ++ [t]) ls cs (n + 1)) = _
  rw [isX_x h 41, isX_x h 44, isX_x h 40]
  simp
theorem col_op : ∀ (d e : Nat) (A R now : List Xt) (ls : List (List Xt)) (cs : List Xt) (n : Nat), A.map kxX = (opB d).map k1 → colL e (A ++ R) now ls cs n = colL (e + d) R (now ++ A) ls cs (n + A.length)
  | 0, e, A, R, now, ls, cs, n, h => by
    have : A = [] := by simpa [opB] using h
    subst this
    simp
  | d + 1, e, A, R, now, ls, cs, n, h => by
    obtain ⟨t, u, q, rfl, ht, hu, hq⟩ := two_of (h : A.map kxX = k1 40 :: k1 44 :: (opB d).map k1)
    show colL e (t :: (u :: (q ++ R))) now ls cs n = _
    rw [col_open ht, col_comma hu, col_op d (e + 1) q R _ ls cs _ hq]
    simp only [List.append_assoc, List.singleton_append, List.length_cons]
    rw [show e + 1 + d = e + (d + 1) from by omega, show n + 1 + 1 + q.length = n + (q.length + 1 + 1) from by omega]
    rfl
theorem col_cl : ∀ (d e : Nat) (A R now : List Xt) (ls : List (List Xt)) (cs : List Xt) (n : Nat), A.map kxX = (clB d).map k1 → colL (e + d) (A ++ R) now ls cs n = colL e R (now ++ A) ls cs (n + A.length)
  | 0, e, A, R, now, ls, cs, n, h => by
    have : A = [] := by simpa [clB] using h
    subst this
    simp
  | d + 1, e, A, R, now, ls, cs, n, h => by
    obtain ⟨t, u, q, rfl, ht, hu, hq⟩ := two_of (h : A.map kxX = k1 44 :: k1 41 :: (clB d).map k1)
    show colL (e + d + 1) (t :: (u :: (q ++ R))) now ls cs n = _
    rw [col_comma ht, col_shut hu, col_cl d e q R _ ls cs _ hq]
    simp only [List.append_assoc, List.singleton_append, List.length_cons]
    rw [show n + 1 + 1 + q.length = n + (q.length + 1 + 1) from by omega]
    rfl
/-- One argument, however deep. -/
theorem col_arg (d : Nat) (A R now : List Xt) (ls : List (List Xt)) (cs : List Xt) (n : Nat) (h : A.map kxX = (argB d).map k1) : colL 0 (A ++ R) now ls cs n = colL 0 R (now ++ A) ls cs (n + A.length) := by
  unfold argB at h
  rw [List.map_append, List.map_cons] at h
  obtain ⟨O, Q, rfl, hO, hQ⟩ := List.map_eq_append_iff.1 h
  obtain ⟨x, C, rfl, hx, hC⟩ := cons_of hQ
  have h1 := col_op d 0 O ((x :: C) ++ R) now ls cs n hO
  rw [List.append_assoc, h1, Nat.zero_add]
  show colL d (x :: (C ++ R)) _ ls cs _ = _
  have h2 := col_cl d 0 C R (now ++ O ++ [x]) ls cs (n + O.length + 1) hC
  rw [Nat.zero_add] at h2
  rw [col_x hx, h2]
  simp only [List.append_assoc, List.singleton_append, List.length_append, List.length_cons]
  rw [show n + O.length + 1 + C.length = n + (O.length + (C.length + 1)) from by omega]
/-- The rows: arguments, as many as there are, each so long. -/
theorem col_row : ∀ (ds : List Nat) (A R : List Xt) (ls : List (List Xt)) (cs : List Xt) (n : Nat), ds ≠ [] → A.map kxX = (rowB ds).map k1 → ls.length = cs.length →
    ∃ ls' cs' now, colL 0 (A ++ R) [] ls cs n = colL 0 R now (ls ++ ls') (cs ++ cs') (n + A.length) ∧ ls'.length = cs'.length ∧ (ls' ++ [now]).map List.length = ds.map fun d => 1 + 4 * d
  | [], _, _, _, _, _, h, _, _ => absurd rfl h
  | [d], A, R, ls, cs, n, _, h, _ => by
    refine ⟨[], [], A, ?_, rfl, ?_⟩
    · rw [col_arg d A R [] ls cs n h]
      simp
    · have := congrArg List.length h
      rw [List.length_map, List.length_map, show rowB [d] = argB d from rfl, argB_len] at this
      simp [this]
  | d :: e :: r, A, R, ls, cs, n, _, h, hl => by
    have h : A.map kxX = (argB d ++ 44 :: rowB (e :: r)).map k1 := h
    rw [List.map_append, List.map_cons] at h
    obtain ⟨A1, Q, rfl, hA1, hQ⟩ := List.map_eq_append_iff.1 h
    obtain ⟨c, A2, rfl, hc, hA2⟩ := cons_of hQ
    obtain ⟨ls', cs', now, g1, g2, g3⟩ := col_row (e :: r) A2 R (ls ++ [A1]) (cs ++ [c]) (n + A1.length + 1) (by simp) hA2 (by simp [hl])
    refine ⟨A1 :: ls', c :: cs', now, ?_, by simp [g2], ?_⟩
    · rw [List.append_assoc, col_arg d A1 _ [] ls cs n hA1]
      show colL 0 (c :: (A2 ++ R)) ([] ++ A1) ls cs _ = _
      have hk : colL 0 (c :: (A2 ++ R)) ([] ++ A1) ls cs (n + A1.length) = colL 0 (A2 ++ R) [] (ls ++ [[] ++ A1]) (cs ++ [c]) (n + A1.length + 1) := by
        show (if decide (0 = 0) && isX c cB then _ else if decide (0 = 0) && isX c kB then _ else _) = _
        rw [isX_sign hc (by decide) 41, isX_sign hc (by decide) 44]
        rfl
      rw [hk, List.nil_append, g1]
      simp only [List.append_assoc, List.singleton_append, List.length_append, List.length_cons]
      rw [show n + A1.length + 1 + A2.length = n + (A1.length + (A2.length + 1)) from by omega]
    · have := congrArg List.length hA1
      rw [List.length_map, List.length_map, argB_len] at this
      simp only [List.cons_append, List.map_cons, g3, this]

end Go.Proofs.Ytipipookgcdfbaa
