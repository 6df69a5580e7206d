/-
  Texts of the proof, put together: DwL, DwT.
-/
import Derived.Test.YtlnlpahmfpjjdaaDoorG32
import Derived.Test.YtlnlpahmfpjjdaaDoorG44
import Derived.Test.YtlnlpahmfpjjdaaDoorG61

/-
  A directive's line, lexed: over lists.
-/
namespace Go.Proofs.YtlnlpahmfpjjdaaDoor
open Go.RowKit

/-- How many tokens are left up to a line's end. -/
def tkN : Nat → List UInt8 → Nat
  | 0, _ => 0
  | m + 1, l => match item l with
    | .nl => 0
    | .opn => 0
    | .gap n => tkN m (l.drop n)
    | .tk _ n => tkN m (l.drop n) + 1

theorem takeA_is (L : List Rn) (a : Acc) (k i n : Nat) : (takeA L a k i n).lines = a.lines ∧ ∃ u : Tk, (takeA L a k i n).toks = a.toks ++ [u] ∧ u.k = k ∧ u.x = ((bytesOf L).drop i).take n := by
  unfold takeA pushA
  split
  · exact ⟨rfl, _, rfl, rfl, rfl⟩
  · exact ⟨rfl, _, rfl, rfl, rfl⟩

theorem lines_more (L : List Rn) (sz : Nat) : ∀ (m i : Nat) (a : Acc), ∃ r, (runA L sz m i a).lines = a.lines ++ r
  | 0, i, a => ⟨[], by simp [runA]⟩
  | m + 1, i, a => by
    unfold runA
    split
    · obtain ⟨r, hr⟩ := lines_more L sz m (i + lenA L i (item ((bytesOf L).drop i))) (stepA L sz i a (item ((bytesOf L).drop i)))
      have hs : ∃ r', (stepA L sz i a (item ((bytesOf L).drop i))).lines = a.lines ++ r' := by
        cases item ((bytesOf L).drop i) with
        | nl => exact ⟨_, rfl⟩
        | gap n => exact ⟨[], by simp [stepA]⟩
        | opn => exact ⟨_, rfl⟩
        | tk k n => exact ⟨[], by simp [stepA, (takeA_is L a k i n).1]⟩
      obtain ⟨r', hr'⟩ := hs
      exact ⟨r' ++ r, by rw [hr, hr', List.append_assoc]⟩
    · exact ⟨[], by simp⟩

/-- The line that is under way, to its end. -/
theorem line_from {L : List Rn} {sz : Nat} (hE : E10 (bytesOf L)) : ∀ (m i : Nat) (a : Acc), L.length - i ≤ m → i < L.length → a.lines = [] →
    ∃ U ln r, (fromA L sz i a).lines = ln :: r ∧ ln.toks = a.toks ++ U ∧ U.length = tkN m ((bytesOf L).drop i)
  | 0, i, a, hm, hi, _ => by omega
  | m + 1, i, a, hm, hi, ha => by
    have hl := lenA_in hi
    rw [fromA_step hi]
    have hfin : ∀ (j : Nat) (b : Acc) (ln : Ln), b.lines = [ln] → ∃ r, (fromA L sz j b).lines = ln :: r := fun j b ln hb => by
      obtain ⟨r, hr⟩ := lines_more L sz (L.length - j) j b
      exact ⟨r, by unfold fromA; rw [hr, hb]; rfl⟩
    cases hit : item ((bytesOf L).drop i) with
    | nl =>
      obtain ⟨r, hr⟩ := hfin (i + lenA L i .nl) (stepA L sz i a .nl) ⟨a.toks, a.fr, toA L sz (i + 1), false⟩ (by simp [stepA, endA, ha])
      exact ⟨[], _, r, hr, by simp, by simp [tkN, hit]⟩
    | opn =>
      obtain ⟨r, hr⟩ := hfin (i + lenA L i .opn) (stepA L sz i a .opn) ⟨a.toks, a.fr, sz, true⟩ (by simp [stepA, endA, tellA, ha])
      exact ⟨[], _, r, hr, by simp, by simp [tkN, hit]⟩
    | gap n =>
      rw [hit] at hl
      have hlt : i + lenA L i (.gap n) < L.length := by
        rcases Nat.lt_or_ge (i + lenA L i (.gap n)) L.length with h | h
        · exact h
        · have := item_last hE hi (by rw [hit]; simp) (by rw [hit]; omega)
          rw [hit] at this
          cases this
      simp only [lenA] at hl hlt
      obtain ⟨U, ln, r, h1, h2, h3⟩ := line_from hE m (i + n) (stepA L sz i a (.gap n)) (by omega) hlt ha
      refine ⟨U, ln, r, h1, h2, ?_⟩
      rw [h3]
      simp [tkN, hit]
    | tk k n =>
      rw [hit] at hl
      have hlt : i + lenA L i (.tk k n) < L.length := by
        rcases Nat.lt_or_ge (i + lenA L i (.tk k n)) L.length with h | h
        · exact h
        · have := item_last hE hi (by rw [hit]; simp) (by rw [hit]; omega)
          rw [hit] at this
          cases this
      simp only [lenA] at hl hlt
      obtain ⟨t1, u, t2, -, -⟩ := takeA_is L a k i n
      obtain ⟨U, ln, r, h1, h2, h3⟩ := line_from hE m (i + n) (stepA L sz i a (.tk k n)) (by omega) hlt (t1.trans ha)
      refine ⟨u :: U, ln, r, h1, ?_, ?_⟩
      · rw [h2]
        show (takeA L a k i n).toks ++ U = _
        rw [t2]
        simp
      · simp [tkN, hit, h3]

/-- Blanks ahead. -/
theorem run_blanks {L : List Rn} {sz : Nat} (t : List UInt8) : ∀ (b : List UInt8) (i : Nat) (a : Acc), (∀ c ∈ b, c = 32 ∨ c = 9) → (bytesOf L).drop i = b ++ t →
    ∃ a', fromA L sz i a = fromA L sz (i + b.length) a' ∧ a'.toks = a.toks ∧ a'.lines = a.lines ∧ (bytesOf L).drop (i + b.length) = t
  | [], i, a, _, hd => ⟨a, rfl, rfl, rfl, hd⟩
  | c :: b, i, a, hb, hd => by
    have hi : i < L.length := by
      rw [← bytesOf_len]
      rcases Nat.lt_or_ge i (bytesOf L).length with h | h
      · exact h
      · rw [List.drop_eq_nil_of_le h] at hd
        cases hd
    have hit : item ((bytesOf L).drop i) = .gap 1 := by
      rw [hd]
      rcases hb c List.mem_cons_self with rfl | rfl
      · rfl
      · rfl
    have hd1 : (bytesOf L).drop (i + 1) = b ++ t := by
      rw [← List.drop_drop, hd]
      rfl
    obtain ⟨a', h1, h2, h3, h4⟩ := run_blanks t b (i + 1) (stepA L sz i a (.gap 1)) (fun c hc => hb c (List.mem_cons_of_mem _ hc)) hd1
    refine ⟨a', ?_, h2, h3, ?_⟩
    · rw [fromA_step hi, hit]
      simp only [lenA]
      rw [h1, List.length_cons, show i + 1 + b.length = i + (b.length + 1) from by omega]
    · rw [List.length_cons, show i + (b.length + 1) = i + 1 + b.length from by omega]
      exact h4

/-- A token ahead. -/
theorem run_tk {L : List Rn} {sz k i : Nat} {x t : List UInt8} {a : Acc} (hd : (bytesOf L).drop i = x ++ t) (hx : x ≠ []) (hit : item (x ++ t) = .tk k x.length) :
    ∃ a' u, fromA L sz i a = fromA L sz (i + x.length) a' ∧ a'.lines = a.lines ∧ a'.toks = a.toks ++ [u] ∧ u.k = k ∧ u.x = x ∧ (bytesOf L).drop (i + x.length) = t := by
  have hi : i < L.length := by
    rw [← bytesOf_len]
    rcases Nat.lt_or_ge i (bytesOf L).length with h | h
    · exact h
    · rw [List.drop_eq_nil_of_le h] at hd
      exact absurd (List.append_eq_nil_iff.1 hd.symm).1 hx
  obtain ⟨t1, u, t2, t3, t4⟩ := takeA_is L a k i x.length
  refine ⟨takeA L a k i x.length, u, ?_, t1, t2, t3, ?_, ?_⟩
  · rw [fromA_step hi, hd, hit]
    rfl
  · rw [t4, hd]
    simp
  · rw [← List.drop_drop, hd]
    simp

def kxT (u : Tk) : Nat × List UInt8 := (u.k, u.x)

/-- What begins there, of a text that was put together. -/
theorem hash_item {c : UInt8} (hc : c ∈ ([32, 9, 10, 105, 101, 100, 117, 108, 112] : List UInt8)) (r : List UInt8) : item ([35] ++ c :: r) = .tk 5 1 ∧ item ([37, 58] ++ c :: r) = .tk 5 2 := by
  simp only [List.mem_cons, List.not_mem_nil, or_false] at hc
  rcases hc with rfl | rfl | rfl | rfl | rfl | rfl | rfl | rfl | rfl <;> exact ⟨rfl, rfl⟩
theorem word_item {k : Nat} (h1 : 2 ≤ k) (h2 : k < 14) (r : List UInt8) : item ((wB k).data.toList ++ 32 :: r) = .tk 1 (wB k).data.toList.length ∧ item (((wB k).data.toList ++ [120]) ++ 10 :: r) = .tk 1 ((wB k).data.toList ++ [120]).length ∧ ∃ c q, (wB k).data.toList = c :: q ∧ c ∈ ([32, 9, 10, 105, 101, 100, 117, 108, 112] : List UInt8) := by
  have : k = 2 ∨ k = 3 ∨ k = 4 ∨ k = 5 ∨ k = 6 ∨ k = 7 ∨ k = 8 ∨ k = 9 ∨ k = 10 ∨ k = 11 ∨ k = 12 ∨ k = 13 := by omega
  rcases this with rfl | rfl | rfl | rfl | rfl | rfl | rfl | rfl | rfl | rfl | rfl | rfl <;> exact ⟨rfl, rfl, _, _, rfl, by decide⟩
theorem word_no {k : Nat} (h1 : 2 ≤ k) (h2 : k < 14) : wKind ⟨((wB k).data.toList ++ [120]).toArray⟩ = 14 := by
  have : k = 2 ∨ k = 3 ∨ k = 4 ∨ k = 5 ∨ k = 6 ∨ k = 7 ∨ k = 8 ∨ k = 9 ∨ k = 10 ∨ k = 11 ∨ k = 12 ∨ k = 13 := by omega
  rcases this with rfl | rfl | rfl | rfl | rfl | rfl | rfl | rfl | rfl | rfl | rfl | rfl <;> decide

end Go.Proofs.YtlnlpahmfpjjdaaDoor

/-
  The texts of DirectWords, lexed: over lists.
-/
namespace Go.Proofs.YtlnlpahmfpjjdaaDoor
open Go.RowKit

/-- The first line's tokens of a text. -/
def lexF (l : List UInt8) : List Tk := firstT (linesA (charsL l) l.length)
theorem lexF_nil : lexF [] = [] := rfl

def PlB (l : List UInt8) : Prop := ∀ c ∈ l, c ≠ 92 ∧ c ≠ 63
theorem PlB.pl {l : List UInt8} (h : PlB l) : Pl l := fun i hi => by
  have hm : l.getD i 0 ∈ l := by
    have : l.getD i 0 = l[i] := by simp [List.getD, hi]
    rw [this]
    exact List.getElem_mem hi
  exact ⟨triAt_not (h _ hm).2, (h _ hm).1⟩
theorem PlB.app {x y : List UInt8} (hx : PlB x) (hy : PlB y) : PlB (x ++ y) := fun c hc => by
  rcases List.mem_append.1 hc with h | h
  · exact hx c h
  · exact hy c h

/-- A text without a byte 10 at its end, as it is lexed. -/
theorem lex_open {l : List UInt8} (h : PlB l) (h0 : l ≠ []) (h10 : l.getD (l.length - 1) 0 ≠ 10) : ∃ L, bytesOf L = l ++ [10] ∧ lexF l = firstT (fromA L l.length 0 acc0) := by
  refine ⟨sgRow l, sgRow_bytes l, ?_⟩
  unfold lexF linesA
  rw [charsL_open h.pl (List.length_pos_iff.2 h0) h10]
  rfl
/-- A text with one. -/
theorem lex_shut {l : List UInt8} (h : PlB l) (h10 : l.getD (l.length - 1) 0 = 10) (h0 : l ≠ []) : ∃ L, bytesOf L = l ∧ lexF l = firstT (fromA L l.length 0 acc0) := by
  refine ⟨plRow l 0, plRow_bytes l 0, ?_⟩
  unfold lexF linesA
  rw [charsL_shut h.pl (List.length_pos_iff.2 h0) h10]
  rfl
theorem first_of {A : Acc} {ln : Ln} {r : List Ln} (h : A.lines = ln :: r) : firstT A = ln.toks := by
  unfold firstT
  rw [h]
theorem e10_snoc (l : List UInt8) : E10 (l ++ [10]) := ⟨by simp, by simp [List.getD]⟩

/-- The end of it: what is left of the line. -/
theorem line_end {L : List Rn} {sz i : Nat} {a : Acc} {t : List UInt8} (hE : E10 (bytesOf L)) (hd : (bytesOf L).drop i = t ++ [10]) (ha : a.lines = []) : ∃ U, firstT (fromA L sz i a) = a.toks ++ U ∧ U.length = tkN (t.length + 1) (t ++ [10]) := by
  have hl : L.length - i = t.length + 1 := by
    have := congrArg List.length hd
    rw [List.length_drop, bytesOf_len] at this
    simpa using this
  obtain ⟨U, ln, r, h1, h2, h3⟩ := line_from (sz := sz) hE (t.length + 1) i a (by omega) (by omega) ha
  exact ⟨U, by rw [first_of h1, h2], by rw [h3, hd]⟩

def IsH (h : List UInt8) : Prop := h = [35] ∨ h = [37, 58]
theorem IsH.item {h : List UInt8} (hh : IsH h) {c : UInt8} (hc : c ∈ ([32, 9, 10, 105, 101, 100, 117, 108, 112] : List UInt8)) (r : List UInt8) : item (h ++ c :: r) = .tk 5 h.length := by
  rcases hh with rfl | rfl
  · exact (hash_item hc r).1
  · exact (hash_item hc r).2
theorem IsH.ne {h : List UInt8} (hh : IsH h) : h ≠ [] := by rcases hh with rfl | rfl <;> simp
theorem IsH.plb {h : List UInt8} (hh : IsH h) : PlB h := by rcases hh with rfl | rfl <;> (unfold PlB; decide)
def Blk (b : List UInt8) : Prop := ∀ c ∈ b, c = 32 ∨ c = 9
theorem Blk.plb {b : List UInt8} (h : Blk b) : PlB b := fun c hc => by rcases h c hc with rfl | rfl <;> decide
def Prn (r : List UInt8) : Prop := ∀ c ∈ r, c ≠ 10 ∧ c ≠ 92 ∧ c ≠ 63
theorem Prn.plb {r : List UInt8} (h : Prn r) : PlB r := fun c hc => (h c hc).2
theorem wB_plb {k : Nat} (h1 : 2 ≤ k) (h2 : k < 14) : PlB (wB k).data.toList ∧ (wB k).data.toList ≠ [] := by
  have : k = 2 ∨ k = 3 ∨ k = 4 ∨ k = 5 ∨ k = 6 ∨ k = 7 ∨ k = 8 ∨ k = 9 ∨ k = 10 ∨ k = 11 ∨ k = 12 ∨ k = 13 := by omega
  rcases this with rfl | rfl | rfl | rfl | rfl | rfl | rfl | rfl | rfl | rfl | rfl | rfl <;> exact ⟨by unfold PlB; decide, by decide⟩

/-- What stands behind a hash: blanks, and something that begins so. -/
theorem blk_head {b : List UInt8} (hb : Blk b) {c : UInt8} {q : List UInt8} (hc : c ∈ ([32, 9, 10, 105, 101, 100, 117, 108, 112] : List UInt8)) : ∃ c' q', b ++ c :: q = c' :: q' ∧ c' ∈ ([32, 9, 10, 105, 101, 100, 117, 108, 112] : List UInt8) := by
  cases b with
  | nil => exact ⟨c, q, rfl, hc⟩
  | cons d b => exact ⟨d, _, rfl, by rcases hb d List.mem_cons_self with rfl | rfl <;> decide⟩

theorem last_ne {l : List UInt8} {c : UInt8} (h : c ≠ 10) : (l ++ [c]).getD ((l ++ [c]).length - 1) 0 ≠ 10 := by simpa [List.getD] using h
theorem last_all {l : List UInt8} (h0 : l ≠ []) (h : ∀ c ∈ l, c ≠ 10) : l.getD (l.length - 1) 0 ≠ 10 := by
  have hl : 0 < l.length := List.length_pos_iff.2 h0
  have : l.getD (l.length - 1) 0 = l[l.length - 1] := by simp [List.getD, show l.length - 1 < l.length by omega]
  rw [this]
  exact h _ (List.getElem_mem _)

variable {b r h : List UInt8} {k : Nat}

/-- Blanks, a hash, blanks, a word, a blank, the rest, and a byte 10. -/
theorem lexA (hh : IsH h) (h1 : 2 ≤ k) (h2 : k < 14) (hb : Blk b) (hr : Prn r) : ∃ u1 u2 U, lexF (b ++ (h ++ (b ++ ((wB k).data.toList ++ 32 :: (r ++ [10]))))) = u1 :: u2 :: U ∧ u1.k = 5 ∧ u1.x = h ∧ u2.k = 1 ∧ u2.x = (wB k).data.toList ∧ U.length = tkN (r.length + 1) (r ++ [10]) := by
  obtain ⟨hw1, -, c, q, hwc, hcm⟩ := word_item h1 h2 (r ++ [10])
  obtain ⟨hwp, hw0⟩ := wB_plb h1 h2
  obtain ⟨w, hw⟩ : ∃ w, (wB k).data.toList = w := ⟨_, rfl⟩
  rw [hw] at hw1 hwc hwp hw0 ⊢
  have hp : PlB (b ++ (h ++ (b ++ (w ++ 32 :: (r ++ [10]))))) := hb.plb.app (hh.plb.app (hb.plb.app (hwp.app (PlB.app (x := [32]) (by unfold PlB; decide) (hr.plb.app (by unfold PlB; decide))))))
  have he : b ++ (h ++ (b ++ (w ++ 32 :: (r ++ [10])))) = (b ++ (h ++ (b ++ (w ++ 32 :: r)))) ++ [10] := by simp
  obtain ⟨L, hL, hF⟩ := lex_shut hp (by rw [he]; exact (e10_snoc _).2) (by rw [he]; simp)
  have hE : E10 (bytesOf L) := by rw [hL, he]; exact e10_snoc _
  obtain ⟨sz, hsz⟩ : ∃ sz, (b ++ (h ++ (b ++ (w ++ 32 :: (r ++ [10]))))).length = sz := ⟨_, rfl⟩
  rw [hsz] at hF
  obtain ⟨a1, e1, t1, l1, d1⟩ := run_blanks (sz := sz) (h ++ (b ++ (w ++ 32 :: (r ++ [10])))) b 0 acc0 hb (by rw [List.drop_zero]; exact hL)
  obtain ⟨c', q', hcq, hcm'⟩ := blk_head hb (q := q ++ 32 :: (r ++ [10])) hcm
  obtain ⟨a2, u1, e2, l2, t2, k1, x1, d2⟩ := run_tk (sz := sz) (k := 5) (a := a1) d1 hh.ne (by
    rw [hwc, List.cons_append, hcq]
    exact hh.item hcm' q')
  obtain ⟨a3, e3, t3, l3, d3⟩ := run_blanks (sz := sz) (w ++ 32 :: (r ++ [10])) b _ a2 hb d2
  obtain ⟨a4, u2, e4, l4, t4, k2, x2, d4⟩ := run_tk (sz := sz) (k := 1) (a := a3) d3 hw0 hw1
  obtain ⟨a5, e5, t5, l5, d5⟩ := run_blanks (sz := sz) (r ++ [10]) [32] _ a4 (by decide) d4
  obtain ⟨U, f1, f2⟩ := line_end (sz := sz) (a := a5) hE d5 (by rw [l5, l4, l3, l2, l1]; rfl)
  refine ⟨u1, u2, U, ?_, k1, x1, k2, x2, f2⟩
  rw [hF, e1, e2, e3, e4, e5, f1, t5, t4, t3, t2, t1]
  rfl

/-- The rest alone. -/
theorem lexB (hr : Prn r) : (lexF r).length = tkN (r.length + 1) (r ++ [10]) := by
  by_cases h0 : r = []
  · subst h0
    rfl
  · obtain ⟨L, hL, hF⟩ := lex_open hr.plb h0 (last_all h0 fun c hc => (hr c hc).1)
    obtain ⟨U, f1, f2⟩ := line_end (sz := r.length) (a := acc0) (by rw [hL]; exact e10_snoc _) (t := r) (i := 0) (by rw [List.drop_zero]; exact hL) rfl
    rw [hF, f1, ← f2]
    rfl

/-- A word ahead of it. -/
theorem lexC (h1 : 2 ≤ k) (h2 : k < 14) (hr : Prn r) : ∃ u U, lexF ((wB k).data.toList ++ 32 :: r) = u :: U ∧ u.k = 1 := by
  obtain ⟨hw1, -, -⟩ := word_item h1 h2 (r ++ [10])
  obtain ⟨hwp, hw0⟩ := wB_plb h1 h2
  obtain ⟨w, hw⟩ : ∃ w, (wB k).data.toList = w := ⟨_, rfl⟩
  rw [hw] at hw1 hwp hw0 ⊢
  have hla : (w ++ 32 :: r).getD ((w ++ 32 :: r).length - 1) 0 ≠ 10 := by
    rw [List.length_append, show w.length + (32 :: r).length - 1 = w.length + ((32 :: r).length - 1) from by simp, get_right]
    refine last_all (by simp) fun c hc => ?_
    rcases List.mem_cons.1 hc with rfl | hc
    · decide
    · exact (hr c hc).1
  obtain ⟨L, hL, hF⟩ := lex_open (hwp.app (PlB.app (x := [32]) (by unfold PlB; decide) hr.plb)) (by simp) hla
  have hd0 : (bytesOf L).drop 0 = w ++ (32 :: (r ++ [10])) := by
    rw [List.drop_zero, hL]
    simp
  obtain ⟨sz, hsz⟩ : ∃ sz, (w ++ 32 :: r).length = sz := ⟨_, rfl⟩
  have hsz' : (w ++ ([32] ++ r)).length = sz := hsz
  rw [hsz'] at hF
  obtain ⟨a4, u2, e4, l4, t4, k2, x2, d4⟩ := run_tk (sz := sz) (k := 1) (a := acc0) hd0 hw0 hw1
  obtain ⟨U, f1, -⟩ := line_end (sz := sz) (a := a4) (by rw [hL]; exact e10_snoc _) (t := 32 :: r) (by rw [d4]; rfl) l4
  refine ⟨u2, U, ?_, k2⟩
  have hF' : lexF (w ++ 32 :: r) = _ := hF
  rw [hF', e4, f1, t4]
  rfl

/-- Something else ahead. -/
theorem lexD (hh : IsH h) (h1 : 2 ≤ k) (h2 : k < 14) : ∃ u U, lexF ([120, 32] ++ (h ++ (wB k).data.toList)) = u :: U ∧ u.k = 1 := by
  have hk : k = 2 ∨ k = 3 ∨ k = 4 ∨ k = 5 ∨ k = 6 ∨ k = 7 ∨ k = 8 ∨ k = 9 ∨ k = 10 ∨ k = 11 ∨ k = 12 ∨ k = 13 := by omega
  rcases hh with rfl | rfl <;> rcases hk with rfl | rfl | rfl | rfl | rfl | rfl | rfl | rfl | rfl | rfl | rfl | rfl <;> exact ⟨_, _, rfl, rfl⟩

/-- A word that is none. -/
theorem lexE (hh : IsH h) (h1 : 2 ≤ k) (h2 : k < 14) : ∃ u1 u2, lexF (h ++ ((wB k).data.toList ++ [120])) = [u1, u2] ∧ u1.k = 5 ∧ u1.x = h ∧ u2.k = 1 ∧ u2.x = (wB k).data.toList ++ [120] := by
  obtain ⟨-, hw1, c, q, hwc, hcm⟩ := word_item h1 h2 []
  obtain ⟨hwp, hw0⟩ := wB_plb h1 h2
  obtain ⟨w, hw⟩ : ∃ w, (wB k).data.toList = w := ⟨_, rfl⟩
  rw [hw] at hw1 hwc hwp hw0 ⊢
  obtain ⟨L, hL, hF⟩ := lex_open (hh.plb.app (hwp.app (PlB.app (x := [120]) (y := []) (by unfold PlB; decide) (by unfold PlB; decide)))) (by simp) (by
    rw [List.append_nil, ← List.append_assoc]
    exact last_ne (by decide))
  rw [List.append_nil] at hL hF
  have hd0 : (bytesOf L).drop 0 = h ++ ((w ++ [120]) ++ [10]) := by
    rw [List.drop_zero, hL]
    simp
  obtain ⟨sz, hsz⟩ : ∃ sz, (h ++ (w ++ [120])).length = sz := ⟨_, rfl⟩
  rw [hsz] at hF
  obtain ⟨a2, u1, e2, l2, t2, k1, x1, d2⟩ := run_tk (sz := sz) (k := 5) (a := acc0) hd0 hh.ne (by
    rw [hwc]
    exact hh.item hcm _)
  obtain ⟨a4, u2, e4, l4, t4, k2, x2, d4⟩ := run_tk (sz := sz) (k := 1) (a := a2) d2 (by simp) hw1
  obtain ⟨U, f1, f2⟩ := line_end (sz := sz) (a := a4) (by rw [hL]; exact e10_snoc _) (t := []) (by rw [d4]; rfl) (by rw [l4, l2]; rfl)
  obtain rfl : U = [] := List.eq_nil_of_length_eq_zero f2
  refine ⟨u1, u2, ?_, k1, x1, k2, x2⟩
  rw [hF, e2, e4, f1, t4, t2]
  rfl

/-- A hash alone. -/
theorem lexG (hh : IsH h) (hb : Blk b) : ∃ u1, lexF (b ++ (h ++ b)) = [u1] ∧ u1.k = 5 ∧ u1.x = h := by
  have hla : (b ++ (h ++ b)).getD ((b ++ (h ++ b)).length - 1) 0 ≠ 10 := last_all (by have := hh.ne; simp [this]) fun c hc => by
    have hx : ∀ c ∈ b, c ≠ 10 := fun c hc => by rcases hb c hc with rfl | rfl <;> decide
    rcases List.mem_append.1 hc with hc | hc
    · exact hx c hc
    · rcases List.mem_append.1 hc with hc | hc
      · rcases hh with rfl | rfl <;> (simp at hc; first | (rw [hc]; decide) | (rcases hc with rfl | rfl <;> decide))
      · exact hx c hc
  obtain ⟨L, hL, hF⟩ := lex_open (hb.plb.app (hh.plb.app hb.plb)) (by have := hh.ne; simp [this]) hla
  have hd0 : (bytesOf L).drop 0 = b ++ (h ++ (b ++ [10])) := by
    rw [List.drop_zero, hL]
    simp
  obtain ⟨sz, hsz⟩ : ∃ sz, (b ++ (h ++ b)).length = sz := ⟨_, rfl⟩
  rw [hsz] at hF
  obtain ⟨a1, e1, t1, l1, d1⟩ := run_blanks (sz := sz) _ b 0 acc0 hb hd0
  obtain ⟨c', q', hcq, hcm'⟩ := blk_head hb (c := 10) (q := []) (by decide)
  obtain ⟨a2, u1, e2, l2, t2, k1, x1, d2⟩ := run_tk (sz := sz) (k := 5) (a := a1) d1 hh.ne (by
    rw [hcq]
    exact hh.item hcm' q')
  obtain ⟨a3, e3, t3, l3, d3⟩ := run_blanks (sz := sz) [10] b _ a2 hb d2
  obtain ⟨U, f1, f2⟩ := line_end (sz := sz) (a := a3) (by rw [hL]; exact e10_snoc _) (t := []) (by rw [d3]; rfl) (by rw [l3, l2, l1]; rfl)
  obtain rfl : U = [] := List.eq_nil_of_length_eq_zero f2
  refine ⟨u1, ?_, k1, x1⟩
  rw [hF, e1, e2, e3, f1, t3, t2, t1]
  rfl

end Go.Proofs.YtlnlpahmfpjjdaaDoor
