/-
  Texts of the proof, put together: DwL, DwT, MfL.
-/
import Derived.Test.YtmghocfkekggaaaG39
import Derived.Test.YtmghocfkekggaaaG53
import Derived.Test.YtmghocfkekggaaaG42

/-
  A directive's line, lexed: over lists.
-/
namespace Go.Proofs.Ytmghocfkekggaaa
open Go.RowKit

/-- How many tokens are left up to a line's end. -/
def tkN : Nat → List UInt8 → Nat
  | 0, _ => 0
  | m + 1, l => match item l with
    | .nl => 0
    | .opn => 0
    | .gap n => tkN m (l.drop n)
    | .tk _ n => tkN m (l.drop n) + 1

theorem takeA_is (L : List Rn) (a : Acc) (k i n : Nat) : (takeA L a k i n).lines = a.lines ∧ ∃ u : Tk, (takeA L a k i n).toks = a.toks ++ [u] ∧ u.k = k ∧ u.x = ((bytesOf L).drop i).take n := by
  unfold takeA pushA
  split
  · exact ⟨rfl, _, rfl, rfl, rfl⟩
  · exact ⟨rfl, _, rfl, rfl, rfl⟩

theorem lines_more (L : List Rn) (sz : Nat) : ∀ (m i : Nat) (a : Acc), ∃ r, (runA L sz m i a).lines = a.lines ++ r
  | 0, i, a => ⟨[], by simp [runA]⟩
  | m + 1, i, a => by
    unfold runA
    split
    · obtain ⟨r, hr⟩ := lines_more L sz m (i + lenA L i (item ((bytesOf L).drop i))) (stepA L sz i a (item ((bytesOf L).drop i)))
      have hs : ∃ r', (stepA L sz i a (item ((bytesOf L).drop i))).lines = a.lines ++ r' := by
        cases item ((bytesOf L).drop i) with
        | nl => exact ⟨_, rfl⟩
        | gap n => exact ⟨[], by simp [stepA]⟩
        | opn => exact ⟨_, rfl⟩
        | tk k n => exact ⟨[], by simp [stepA, (takeA_is L a k i n).1]⟩
      obtain ⟨r', hr'⟩ := hs
      exact ⟨r' ++ r, by rw [hr, hr', List.append_assoc]⟩
    · exact ⟨[], by simp⟩

/-- The line that is under way, to its end. -/
theorem line_from {L : List Rn} {sz : Nat} (hE : E10 (bytesOf L)) : ∀ (m i : Nat) (a : Acc), L.length - i ≤ m → i < L.length → a.lines = [] →
    ∃ U ln r, (fromA L sz i a).lines = ln :: r ∧ ln.toks = a.toks ++ U ∧ U.length = tkN m ((bytesOf L).drop i)
  | 0, i, a, hm, hi, _ => by omega
  | m + 1, i, a, hm, hi, ha => by
    have hl := lenA_in hi
    rw [fromA_step hi]
    have hfin : ∀ (j : Nat) (b : Acc) (ln : Ln), b.lines = [ln] → ∃ r, (fromA L sz j b).lines = ln :: r := fun j b ln hb => by
      obtain ⟨r, hr⟩ := lines_more L sz (L.length - j) j b
      exact ⟨r, by unfold fromA; rw [hr, hb]; rfl⟩
    cases hit : item ((bytesOf L).drop i) with
    | nl =>
      obtain ⟨r, hr⟩ := hfin (i + lenA L i .nl) (stepA L sz i a .nl) ⟨a.toks, a.fr, toA L sz (i + 1), false⟩ (by simp [stepA, endA, ha])
      exact ⟨[], _, r, hr, by simp, by simp [tkN, hit]⟩
    | opn =>
      obtain ⟨r, hr⟩ := hfin (i + lenA L i .opn) (stepA L sz i a .opn) ⟨a.toks, a.fr, sz, true⟩ (by simp [stepA, endA, tellA, ha])
      exact ⟨[], _, r, hr, by simp, by simp [tkN, hit]⟩
    | gap n =>
      rw [hit] at hl
      have hlt : i + lenA L i (.gap n) < L.length := by
        rcases Nat.lt_or_ge (i + lenA L i (.gap n)) L.length with h | h
        · exact h
        · have := item_last hE hi (by rw [hit]; simp) (by rw [hit]; omega)
          rw [hit] at this
          cases this
      simp only [lenA] at hl hlt
      obtain ⟨U, ln, r, h1, h2, h3⟩ := line_from hE m (i + n) (stepA L sz i a (.gap n)) (by omega) hlt ha
      refine ⟨U, ln, r, h1, h2, ?_⟩
      rw [h3]
      simp [tkN, hit]
    | tk k n =>
      rw [hit] at hl
      have hlt : i + lenA L i (.tk k n) < L.length := by
        rcases Nat.lt_or_ge (i + lenA L i (.tk k n)) L.length with h | h
        · exact h
        · have := item_last hE hi (by rw [hit]; simp) (by rw [hit]; omega)
          rw [hit] at this
          cases this
      simp only [lenA] at hl hlt
      obtain ⟨t1, u, t2, -, -⟩ := takeA_is L a k i n
      obtain ⟨U, ln, r, h1, h2, h3⟩ := line_from hE m (i + n) (stepA L sz i a (.tk k n)) (by omega) hlt (t1.trans ha)
      refine ⟨u :: U, ln, r, h1, ?_, ?_⟩
      · rw [h2]
        show (takeA L a k i n).toks ++ U = _
        rw [t2]
        simp
      · simp [tkN, hit, h3]

/-- Blanks ahead. -/
theorem run_blanks {L : List Rn} {sz : Nat} (t : List UInt8) : ∀ (b : List UInt8) (i : Nat) (a : Acc), (∀ c ∈ b, c = 32 ∨ c = 9) → (bytesOf L).drop i = b ++ t →
    ∃ a', fromA L sz i a = fromA L sz (i + b.length) a' ∧ a'.toks = a.toks ∧ a'.lines = a.lines ∧ (bytesOf L).drop (i + b.length) = t
  | [], i, a, _, hd => ⟨a, rfl, rfl, rfl, hd⟩
  | c :: b, i, a, hb, hd => by
    have hi : i < L.length := by
      rw [← bytesOf_len]
      rcases Nat.lt_or_ge i (bytesOf L).length with h | h
      · exact h
      · rw [List.drop_eq_nil_of_le h] at hd
        cases hd
    have hit : item ((bytesOf L).drop i) = .gap 1 := by
      rw [hd]
      rcases hb c List.mem_cons_self with rfl | rfl
      · rfl
      · rfl
    have hd1 : (bytesOf L).drop (i + 1) = b ++ t := by
      rw [← List.drop_drop, hd]
      rfl
    obtain ⟨a', h1, h2, h3, h4⟩ := run_blanks t b (i + 1) (stepA L sz i a (.gap 1)) (fun c hc => hb c (List.mem_cons_of_mem _ hc)) hd1
    refine ⟨a', ?_, h2, h3, ?_⟩
    · rw [fromA_step hi, hit]
      simp only [lenA]
      rw [h1, List.length_cons, show i + 1 + b.length = i + (b.length + 1) from by omega]
    · rw [List.length_cons, show i + (b.length + 1) = i + 1 + b.length from by omega]
      exact h4

/-- A token ahead. -/
theorem run_tk {L : List Rn} {sz k i : Nat} {x t : List UInt8} {a : Acc} (hd : (bytesOf L).drop i = x ++ t) (hx : x ≠ []) (hit : item (x ++ t) = .tk k x.length) :
    ∃ a' u, fromA L sz i a = fromA L sz (i + x.length) a' ∧ a'.lines = a.lines ∧ a'.toks = a.toks ++ [u] ∧ u.k = k ∧ u.x = x ∧ (bytesOf L).drop (i + x.length) = t := by
  have hi : i < L.length := by
    rw [← bytesOf_len]
    rcases Nat.lt_or_ge i (bytesOf L).length with h | h
    · exact h
    · rw [List.drop_eq_nil_of_le h] at hd
      exact absurd (List.append_eq_nil_iff.1 hd.symm).1 hx
  obtain ⟨t1, u, t2, t3, t4⟩ := takeA_is L a k i x.length
  refine ⟨takeA L a k i x.length, u, ?_, t1, t2, t3, ?_, ?_⟩
  · rw [fromA_step hi, hd, hit]
    rfl
  · rw [t4, hd]
    simp
  · rw [← List.drop_drop, hd]
    simp

def kxT (u : Tk) : Nat × List UInt8 := (u.k, u.x)

/-- What begins there, of a text that was put together. -/
theorem hash_item {c : UInt8} (hc : c ∈ ([32, 9, 10, 105, 101, 100, 117, 108, 112] : List UInt8)) (r : List UInt8) : item ([35] ++ c :: r) = .tk 5 1 ∧ item ([37, 58] ++ c :: r) = .tk 5 2 := by
  simp only [List.mem_cons, List.not_mem_nil, or_false] at hc
  rcases hc with rfl | rfl | rfl | rfl | rfl | rfl | rfl | rfl | rfl <;> exact ⟨rfl, rfl⟩
theorem word_item {k : Nat} (h1 : 2 ≤ k) (h2 : k < 14) (r : List UInt8) : item ((wB k).data.toList ++ 32 :: r) = .tk 1 (wB k).data.toList.length ∧ item (((wB k).data.toList ++ [120]) ++ 10 :: r) = .tk 1 ((wB k).data.toList ++ [120]).length ∧ ∃ c q, (wB k).data.toList = c :: q ∧ c ∈ ([32, 9, 10, 105, 101, 100, 117, 108, 112] : List UInt8) := by
  have : k = 2 ∨ k = 3 ∨ k = 4 ∨ k = 5 ∨ k = 6 ∨ k = 7 ∨ k = 8 ∨ k = 9 ∨ k = 10 ∨ k = 11 ∨ k = 12 ∨ k = 13 := by omega
  rcases this with rfl | rfl | rfl | rfl | rfl | rfl | rfl | rfl | rfl | rfl | rfl | rfl <;> exact ⟨rfl, rfl, _, _, rfl, by decide⟩
theorem word_no {k : Nat} (h1 : 2 ≤ k) (h2 : k < 14) : wKind ⟨((wB k).data.toList ++ [120]).toArray⟩ = 14 := by
  have : k = 2 ∨ k = 3 ∨ k = 4 ∨ k = 5 ∨ k = 6 ∨ k = 7 ∨ k = 8 ∨ k = 9 ∨ k = 10 ∨ k = 11 ∨ k = 12 ∨ k = 13 := by omega
  rcases this with rfl | rfl | rfl | rfl | rfl | rfl | rfl | rfl | rfl | rfl | rfl | rfl <;> decide

end Go.Proofs.Ytmghocfkekggaaa

/-
  The texts of DirectWords, lexed: over lists.
-/
namespace Go.Proofs.Ytmghocfkekggaaa
open Go.RowKit

/-- The first line's tokens of a text. -/
def lexF (l : List UInt8) : List Tk := firstT (linesA (charsL l) l.length)
theorem lexF_nil : lexF [] = [] := rfl

def PlB (l : List UInt8) : Prop := ∀ c ∈ l, c ≠ 92 ∧ c ≠ 63
theorem PlB.pl {l : List UInt8} (h : PlB l) : Pl l := fun i hi => by
  have hm : l.getD i 0 ∈ l := by
    have : l.getD i 0 = l[i] := by simp [List.getD, hi]
    rw [this]
    exact List.getElem_mem hi
  exact ⟨triAt_not (h _ hm).2, (h _ hm).1⟩
theorem PlB.app {x y : List UInt8} (hx : PlB x) (hy : PlB y) : PlB (x ++ y) := fun c hc => by
  rcases List.mem_append.1 hc with h | h
  · exact hx c h
  · exact hy c h

/-- A text without a byte 10 at its end, as it is lexed. -/
theorem lex_open {l : List UInt8} (h : PlB l) (h0 : l ≠ []) (h10 : l.getD (l.length - 1) 0 ≠ 10) : ∃ L, bytesOf L = l ++ [10] ∧ lexF l = firstT (fromA L l.length 0 acc0) := by
  refine ⟨sgRow l, sgRow_bytes l, ?_⟩
  unfold lexF linesA
  rw [charsL_open h.pl (List.length_pos_iff.2 h0) h10]
  rfl
/-- A text with one. -/
theorem lex_shut {l : List UInt8} (h : PlB l) (h10 : l.getD (l.length - 1) 0 = 10) (h0 : l ≠ []) : ∃ L, bytesOf L = l ∧ lexF l = firstT (fromA L l.length 0 acc0) := by
  refine ⟨plRow l 0, plRow_bytes l 0, ?_⟩
  unfold lexF linesA
  rw [charsL_shut h.pl (List.length_pos_iff.2 h0) h10]
  rfl
theorem first_of {A : Acc} {ln : Ln} {r : List Ln} (h : A.lines = ln :: r) : firstT A = ln.toks := by
  unfold firstT
  rw [h]
theorem e10_snoc (l : List UInt8) : E10 (l ++ [10]) := ⟨by simp, by simp [List.getD]⟩

/-- The end of it: what is left of the line. -/
theorem line_end {L : List Rn} {sz i : Nat} {a : Acc} {t : List UInt8} (hE : E10 (bytesOf L)) (hd : (bytesOf L).drop i = t ++ [10]) (ha : a.lines = []) : ∃ U, firstT (fromA L sz i a) = a.toks ++ U ∧ U.length = tkN (t.length + 1) (t ++ [10]) := by
  have hl : L.length - i = t.length + 1 := by
    have := congrArg List.length hd
    rw [List.length_drop, bytesOf_len] at this
    simpa using this
  obtain ⟨U, ln, r, h1, h2, h3⟩ := line_from (sz := sz) hE (t.length + 1) i a (by omega) (by omega) ha
  exact ⟨U, by rw [first_of h1, h2], by rw [h3, hd]⟩

def IsH (h : List UInt8) : Prop := h = [35] ∨ h = [37, 58]
theorem IsH.item {h : List UInt8} (hh : IsH h) {c : UInt8} (hc : c ∈ ([32, 9, 10, 105, 101, 100, 117, 108, 112] : List UInt8)) (r : List UInt8) : item (h ++ c :: r) = .tk 5 h.length := by
  rcases hh with rfl | rfl
  · exact (hash_item hc r).1
  · exact (hash_item hc r).2
theorem IsH.ne {h : List UInt8} (hh : IsH h) : h ≠ [] := by rcases hh with rfl | rfl <;> simp
theorem IsH.plb {h : List UInt8} (hh : IsH h) : PlB h := by rcases hh with rfl | rfl <;> (unfold PlB; decide)
def Blk (b : List UInt8) : Prop := ∀ c ∈ b, c = 32 ∨ c = 9
theorem Blk.plb {b : List UInt8} (h : Blk b) : PlB b := fun c hc => by rcases h c hc with rfl | rfl <;> decide
def Prn (r : List UInt8) : Prop := ∀ c ∈ r, c ≠ 10 ∧ c ≠ 92 ∧ c ≠ 63
theorem Prn.plb {r : List UInt8} (h : Prn r) : PlB r := fun c hc => (h c hc).2
theorem wB_plb {k : Nat} (h1 : 2 ≤ k) (h2 : k < 14) : PlB (wB k).data.toList ∧ (wB k).data.toList ≠ [] := by
  have : k = 2 ∨ k = 3 ∨ k = 4 ∨ k = 5 ∨ k = 6 ∨ k = 7 ∨ k = 8 ∨ k = 9 ∨ k = 10 ∨ k = 11 ∨ k = 12 ∨ k = 13 := by omega
  rcases this with rfl | rfl | rfl | rfl | rfl | rfl | rfl | rfl | rfl | rfl | rfl | rfl <;> exact ⟨by unfold PlB; decide, by decide⟩

/-- What stands behind a hash: blanks, and something that begins so. -/
theorem blk_head {b : List UInt8} (hb : Blk b) {c : UInt8} {q : List UInt8} (hc : c ∈ ([32, 9, 10, 105, 101, 100, 117, 108, 112] : List UInt8)) : ∃ c' q', b ++ c :: q = c' :: q' ∧ c' ∈ ([32, 9, 10, 105, 101, 100, 117, 108, 112] : List UInt8) := by
  cases b with
  | nil => exact ⟨c, q, rfl, hc⟩
  | cons d b => exact ⟨d, _, rfl, by rcases hb d List.mem_cons_self with rfl | rfl <;> decide⟩

theorem last_ne {l : List UInt8} {c : UInt8} (h : c ≠ 10) : (l ++ [c]).getD ((l ++ [c]).length - 1) 0 ≠ 10 := by simpa [List.getD] using h
theorem last_all {l : List UInt8} (h0 : l ≠ []) (h : ∀ c ∈ l, c ≠ 10) : l.getD (l.length - 1) 0 ≠ 10 := by
  have hl : 0 < l.length := List.length_pos_iff.2 h0
  have : l.getD (l.length - 1) 0 = l[l.length - 1] := by simp [List.getD, show l.length - 1 < l.length by omega]
  rw [this]
  exact h _ (List.getElem_mem _)

variable {b r h : List UInt8} {k : Nat}

/-- Blanks, a hash, blanks, a word, a blank, the rest, and a byte 10. -/
theorem lexA (hh : IsH h) (h1 : 2 ≤ k) (h2 : k < 14) (hb : Blk b) (hr : Prn r) : ∃ u1 u2 U, lexF (b ++ (h ++ (b ++ ((wB k).data.toList ++ 32 :: (r ++ [10]))))) = u1 :: u2 :: U ∧ u1.k = 5 ∧ u1.x = h ∧ u2.k = 1 ∧ u2.x = (wB k).data.toList ∧ U.length = tkN (r.length + 1) (r ++ [10]) := by
  obtain ⟨hw1, -, c, q, hwc, hcm⟩ := word_item h1 h2 (r ++ [10])
  obtain ⟨hwp, hw0⟩ := wB_plb h1 h2
  obtain ⟨w, hw⟩ : ∃ w, (wB k).data.toList = w := ⟨_, rfl⟩
  rw [hw] at hw1 hwc hwp hw0 ⊢
  have hp : PlB (b ++ (h ++ (b ++ (w ++ 32 :: (r ++ [10]))))) := hb.plb.app (hh.plb.app (hb.plb.app (hwp.app (PlB.app (x := [32]) (by unfold PlB; decide) (hr.plb.app (by unfold PlB; decide))))))
  have he : b ++ (h ++ (b ++ (w ++ 32 :: (r ++ [10])))) = (b ++ (h ++ (b ++ (w ++ 32 :: r)))) ++ [10] := by simp
  obtain ⟨L, hL, hF⟩ := lex_shut hp (by rw [he]; exact (e10_snoc _).2) (by rw [he]; simp)
  have hE : E10 (bytesOf L) := by rw [hL, he]; exact e10_snoc _
  obtain ⟨sz, hsz⟩ : ∃ sz, (b ++ (h ++ (b ++ (w ++ 32 :: (r ++ [10]))))).length = sz := ⟨_, rfl⟩
  rw [hsz] at hF
  obtain ⟨a1, e1, t1, l1, d1⟩ := run_blanks (sz := sz) (h ++ (b ++ (w ++ 32 :: (r ++ [10])))) b 0 acc0 hb (by rw [List.drop_zero]; exact hL)
  obtain ⟨c', q', hcq, hcm'⟩ := blk_head hb (q := q ++ 32 :: (r ++ [10])) hcm
  obtain ⟨a2, u1, e2, l2, t2, k1, x1, d2⟩ := run_tk (sz := sz) (k := 5) (a := a1) d1 hh.ne (by
    rw [hwc, List.cons_append, hcq]
    exact hh.item hcm' q')
  obtain ⟨a3, e3, t3, l3, d3⟩ := run_blanks (sz := sz) (w ++ 32 :: (r ++ [10])) b _ a2 hb d2
  obtain ⟨a4, u2, e4, l4, t4, k2, x2, d4⟩ := run_tk (sz := sz) (k := 1) (a := a3) d3 hw0 hw1
  obtain ⟨a5, e5, t5, l5, d5⟩ := run_blanks (sz := sz) (r ++ [10]) [32] _ a4 (by decide) d4
  obtain ⟨U, f1, f2⟩ := line_end (sz := sz) (a := a5) hE d5 (by rw [l5, l4, l3, l2, l1]; rfl)
  refine ⟨u1, u2, U, ?_, k1, x1, k2, x2, f2⟩
  rw [hF, e1, e2, e3, e4, e5, f1, t5, t4, t3, t2, t1]
  rfl

/-- The rest alone. -/
theorem lexB (hr : Prn r) : (lexF r).length = tkN (r.length + 1) (r ++ [10]) := by
  by_cases h0 : r = []
  · subst h0
    rfl
  · obtain ⟨L, hL, hF⟩ := lex_open hr.plb h0 (last_all h0 fun c hc => (hr c hc).1)
    obtain ⟨U, f1, f2⟩ := line_end (sz := r.length) (a := acc0) (by rw [hL]; exact e10_snoc _) (t := r) (i := 0) (by rw [List.drop_zero]; exact hL) rfl
    rw [hF, f1, ← f2]
    rfl

/-- A word ahead of it. -/
theorem lexC (h1 : 2 ≤ k) (h2 : k < 14) (hr : Prn r) : ∃ u U, lexF ((wB k).data.toList ++ 32 :: r) = u :: U ∧ u.k = 1 := by
  obtain ⟨hw1, -, -⟩ := word_item h1 h2 (r ++ [10])
  obtain ⟨hwp, hw0⟩ := wB_plb h1 h2
  obtain ⟨w, hw⟩ : ∃ w, (wB k).data.toList = w := ⟨_, rfl⟩
  rw [hw] at hw1 hwp hw0 ⊢
  have hla : (w ++ 32 :: r).getD ((w ++ 32 :: r).length - 1) 0 ≠ 10 := by
    rw [List.length_append, show w.length + (32 :: r).length - 1 = w.length + ((32 :: r).length - 1) from by simp, get_right]
    refine last_all (by simp) fun c hc => ?_
    rcases List.mem_cons.1 hc with rfl | hc
    · decide
    · exact (hr c hc).1
  obtain ⟨L, hL, hF⟩ := lex_open (hwp.app (PlB.app (x := [32]) (by unfold PlB; decide) hr.plb)) (by simp) hla
  have hd0 : (bytesOf L).drop 0 = w ++ (32 :: (r ++ [10])) := by
    rw [List.drop_zero, hL]
    simp
  obtain ⟨sz, hsz⟩ : ∃ sz, (w ++ 32 :: r).length = sz := ⟨_, rfl⟩
  have hsz' : (w ++ ([32] ++ r)).length = sz := hsz
  rw [hsz'] at hF
  obtain ⟨a4, u2, e4, l4, t4, k2, x2, d4⟩ := run_tk (sz := sz) (k := 1) (a := acc0) hd0 hw0 hw1
  obtain ⟨U, f1, -⟩ := line_end (sz := sz) (a := a4) (by rw [hL]; exact e10_snoc _) (t := 32 :: r) (by rw [d4]; rfl) l4
  refine ⟨u2, U, ?_, k2⟩
  have hF' : lexF (w ++ 32 :: r) = _ := hF
  rw [hF', e4, f1, t4]
  rfl

/-- Something else ahead. -/
theorem lexD (hh : IsH h) (h1 : 2 ≤ k) (h2 : k < 14) : ∃ u U, lexF ([120, 32] ++ (h ++ (wB k).data.toList)) = u :: U ∧ u.k = 1 := by
  have hk : k = 2 ∨ k = 3 ∨ k = 4 ∨ k = 5 ∨ k = 6 ∨ k = 7 ∨ k = 8 ∨ k = 9 ∨ k = 10 ∨ k = 11 ∨ k = 12 ∨ k = 13 := by omega
  rcases hh with rfl | rfl <;> rcases hk with rfl | rfl | rfl | rfl | rfl | rfl | rfl | rfl | rfl | rfl | rfl | rfl <;> exact ⟨_, _, rfl, rfl⟩

/-- A word that is none. -/
theorem lexE (hh : IsH h) (h1 : 2 ≤ k) (h2 : k < 14) : ∃ u1 u2, lexF (h ++ ((wB k).data.toList ++ [120])) = [u1, u2] ∧ u1.k = 5 ∧ u1.x = h ∧ u2.k = 1 ∧ u2.x = (wB k).data.toList ++ [120] := by
  obtain ⟨-, hw1, c, q, hwc, hcm⟩ := word_item h1 h2 []
  obtain ⟨hwp, hw0⟩ := wB_plb h1 h2
  obtain ⟨w, hw⟩ : ∃ w, (wB k).data.toList = w := ⟨_, rfl⟩
  rw [hw] at hw1 hwc hwp hw0 ⊢
  obtain ⟨L, hL, hF⟩ := lex_open (hh.plb.app (hwp.app (PlB.app (x := [120]) (y := []) (by unfold PlB; decide) (by unfold PlB; decide)))) (by simp) (by
    rw [List.append_nil, ← List.append_assoc]
    exact last_ne (by decide))
  rw [List.append_nil] at hL hF
  have hd0 : (bytesOf L).drop 0 = h ++ ((w ++ [120]) ++ [10]) := by
    rw [List.drop_zero, hL]
    simp
  obtain ⟨sz, hsz⟩ : ∃ sz, (h ++ (w ++ [120])).length = sz := ⟨_, rfl⟩
  rw [hsz] at hF
  obtain ⟨a2, u1, e2, l2, t2, k1, x1, d2⟩ := run_tk (sz := sz) (k := 5) (a := acc0) hd0 hh.ne (by
    rw [hwc]
    exact hh.item hcm _)
  obtain ⟨a4, u2, e4, l4, t4, k2, x2, d4⟩ := run_tk (sz := sz) (k := 1) (a := a2) d2 (by simp) hw1
  obtain ⟨U, f1, f2⟩ := line_end (sz := sz) (a := a4) (by rw [hL]; exact e10_snoc _) (t := []) (by rw [d4]; rfl) (by rw [l4, l2]; rfl)
  obtain rfl : U = [] := List.eq_nil_of_length_eq_zero f2
  refine ⟨u1, u2, ?_, k1, x1, k2, x2⟩
  rw [hF, e2, e4, f1, t4, t2]
  rfl

/-- A hash alone. -/
theorem lexG (hh : IsH h) (hb : Blk b) : ∃ u1, lexF (b ++ (h ++ b)) = [u1] ∧ u1.k = 5 ∧ u1.x = h := by
  have hla : (b ++ (h ++ b)).getD ((b ++ (h ++ b)).length - 1) 0 ≠ 10 := last_all (by have := hh.ne; simp [this]) fun c hc => by
    have hx : ∀ c ∈ b, c ≠ 10 := fun c hc => by rcases hb c hc with rfl | rfl <;> decide
    rcases List.mem_append.1 hc with hc | hc
    · exact hx c hc
    · rcases List.mem_append.1 hc with hc | hc
      · rcases hh with rfl | rfl <;> (simp at hc; first | (rw [hc]; decide) | (rcases hc with rfl | rfl <;> decide))
      · exact hx c hc
  obtain ⟨L, hL, hF⟩ := lex_open (hb.plb.app (hh.plb.app hb.plb)) (by have := hh.ne; simp [this]) hla
  have hd0 : (bytesOf L).drop 0 = b ++ (h ++ (b ++ [10])) := by
    rw [List.drop_zero, hL]
    simp
  obtain ⟨sz, hsz⟩ : ∃ sz, (b ++ (h ++ b)).length = sz := ⟨_, rfl⟩
  rw [hsz] at hF
  obtain ⟨a1, e1, t1, l1, d1⟩ := run_blanks (sz := sz) _ b 0 acc0 hb hd0
  obtain ⟨c', q', hcq, hcm'⟩ := blk_head hb (c := 10) (q := []) (by decide)
  obtain ⟨a2, u1, e2, l2, t2, k1, x1, d2⟩ := run_tk (sz := sz) (k := 5) (a := a1) d1 hh.ne (by
    rw [hcq]
    exact hh.item hcm' q')
  obtain ⟨a3, e3, t3, l3, d3⟩ := run_blanks (sz := sz) [10] b _ a2 hb d2
  obtain ⟨U, f1, f2⟩ := line_end (sz := sz) (a := a3) (by rw [hL]; exact e10_snoc _) (t := []) (by rw [d3]; rfl) (by rw [l3, l2, l1]; rfl)
  obtain rfl : U = [] := List.eq_nil_of_length_eq_zero f2
  refine ⟨u1, ?_, k1, x1⟩
  rw [hF, e1, e2, e3, f1, t3, t2, t1]
  rfl

end Go.Proofs.Ytmghocfkekggaaa

/-
  Tokens of one line, over lists: a text that was put together, lexed; told, and lexed again.
-/
namespace Go.Proofs.Ytmghocfkekggaaa
open Go.RowKit

/-- A token's kind, text and space. -/
abbrev Kt := Nat × List UInt8 × Bool
def kxs (u : Tk) : Kt := (u.k, u.x, u.sp)

def ktF : Nat → Bool → List UInt8 → List Kt
  | 0, _, _ => []
  | m + 1, sp, l => match item l with
    | .nl => []
    | .opn => []
    | .gap n => ktF m true (l.drop n)
    | .tk k n => (k, l.take n, sp) :: ktF m false (l.drop n)
/-- A line's tokens from there. -/
def kt (sp : Bool) (l : List UInt8) : List Kt := ktF l.length sp l

/-- An item that is no line's end stops ahead of it. -/
theorem item_len {l : List UInt8} (hE : E10 l) (ho : item l ≠ .opn) (hn : item l ≠ .nl) : 0 < (item l).len ∧ (item l).len < l.length := by
  obtain ⟨h1, h2, h3⟩ := item_in hE.1 ho
  refine ⟨h1, Nat.lt_of_le_of_ne h2 fun e => ?_⟩
  have := h3 hn
  rw [e] at this
  exact this hE.2
theorem ktF_fuel : ∀ (m : Nat) (sp : Bool) (l : List UInt8), E10 l → l.length ≤ m → ktF m sp l = ktF l.length sp l
  | 0, sp, l, hE, h => by have := hE.1; omega
  | m + 1, sp, l, hE, h => by
    obtain ⟨k, hk⟩ : ∃ k, l.length = k + 1 := ⟨l.length - 1, by have := hE.1; omega⟩
    rw [hk]
    unfold ktF
    cases hit : item l with
    | nl => rfl
    | opn => rfl
    | gap n =>
      obtain ⟨h1, h2⟩ := item_len hE (by rw [hit]; simp) (by rw [hit]; simp)
      rw [hit] at h1 h2
      simp only [It.len] at h1 h2
      have hd := hE.drop h2
      have hl : (l.drop n).length = l.length - n := List.length_drop
      simp only
      rw [ktF_fuel m true _ hd (by omega), ktF_fuel k true _ hd (by omega)]
    | tk q n =>
      obtain ⟨h1, h2⟩ := item_len hE (by rw [hit]; simp) (by rw [hit]; simp)
      rw [hit] at h1 h2
      simp only [It.len] at h1 h2
      have hd := hE.drop h2
      have hl : (l.drop n).length = l.length - n := List.length_drop
      simp only
      rw [ktF_fuel m false _ hd (by omega), ktF_fuel k false _ hd (by omega)]
termination_by m => m
theorem kt_nl {l : List UInt8} {sp : Bool} (hE : E10 l) (h : item l = .nl) : kt sp l = [] := by
  unfold kt
  obtain ⟨k, hk⟩ : ∃ k, l.length = k + 1 := ⟨l.length - 1, by have := hE.1; omega⟩
  rw [hk]
  unfold ktF
  rw [h]
theorem kt_opn {l : List UInt8} {sp : Bool} (hE : E10 l) (h : item l = .opn) : kt sp l = [] := by
  unfold kt
  obtain ⟨k, hk⟩ : ∃ k, l.length = k + 1 := ⟨l.length - 1, by have := hE.1; omega⟩
  rw [hk]
  unfold ktF
  rw [h]
theorem kt_gap {l : List UInt8} {sp : Bool} {n : Nat} (hE : E10 l) (h : item l = .gap n) : kt sp l = kt true (l.drop n) := by
  obtain ⟨h1, h2⟩ := item_len hE (by rw [h]; simp) (by rw [h]; simp)
  rw [h] at h1 h2
  simp only [It.len] at h1 h2
  unfold kt
  obtain ⟨k, hk⟩ : ∃ k, l.length = k + 1 := ⟨l.length - 1, by have := hE.1; omega⟩
  rw [hk]
  show (match item l with | .nl => [] | .opn => [] | .gap n => ktF k true (l.drop n) | .tk q n => (q, l.take n, sp) :: ktF k false (l.drop n)) = _
  rw [h]
  exact ktF_fuel k true _ (hE.drop h2) (by rw [List.length_drop]; omega)
theorem kt_tk {l : List UInt8} {sp : Bool} {q n : Nat} (hE : E10 l) (h : item l = .tk q n) : kt sp l = (q, l.take n, sp) :: kt false (l.drop n) := by
  obtain ⟨h1, h2⟩ := item_len hE (by rw [h]; simp) (by rw [h]; simp)
  rw [h] at h1 h2
  simp only [It.len] at h1 h2
  unfold kt
  obtain ⟨k, hk⟩ : ∃ k, l.length = k + 1 := ⟨l.length - 1, by have := hE.1; omega⟩
  rw [hk]
  show (match item l with | .nl => [] | .opn => [] | .gap n => ktF k true (l.drop n) | .tk q n => (q, l.take n, sp) :: ktF k false (l.drop n)) = _
  rw [h]
  simp only
  rw [ktF_fuel k false _ (hE.drop h2) (by rw [List.length_drop]; omega)]
/-- A token ahead. -/
theorem kt_on {x t : List UInt8} {sp : Bool} {q : Nat} (hE : E10 (x ++ t)) (h : item (x ++ t) = .tk q x.length) : kt sp (x ++ t) = (q, x, sp) :: kt false t := by
  rw [kt_tk hE h, List.take_left, List.drop_left]

theorem takeA_kxs (L : List Rn) (a : Acc) (k i n : Nat) : (takeA L a k i n).lines = a.lines ∧ (takeA L a k i n).sp = false ∧ ∃ u : Tk, (takeA L a k i n).toks = a.toks ++ [u] ∧ kxs u = (k, ((bytesOf L).drop i).take n, a.sp) := by
  unfold takeA pushA
  split
  · exact ⟨rfl, rfl, _, rfl, rfl⟩
  · exact ⟨rfl, rfl, _, rfl, rfl⟩

/-- The line that is under way, to its end. -/
theorem line_kt {L : List Rn} {sz : Nat} (hE : E10 (bytesOf L)) : ∀ (m i : Nat) (a : Acc), L.length - i ≤ m → i < L.length → a.lines = [] →
    ∃ ln r, (fromA L sz i a).lines = ln :: r ∧ ln.toks.map kxs = a.toks.map kxs ++ kt a.sp ((bytesOf L).drop i)
  | 0, i, a, hm, hi, _ => by omega
  | m + 1, i, a, hm, hi, ha => by
    have hl := lenA_in hi
    have hlb := bytesOf_len L
    have hEd : E10 ((bytesOf L).drop i) := hE.drop (by rw [hlb]; exact hi)
    rw [fromA_step hi]
    have hfin : ∀ (j : Nat) (b : Acc) (ln : Ln), b.lines = [ln] → ∃ r, (fromA L sz j b).lines = ln :: r := fun j b ln hb => by
      obtain ⟨r, hr⟩ := lines_more L sz (L.length - j) j b
      exact ⟨r, by unfold fromA; rw [hr, hb]; rfl⟩
    cases hit : item ((bytesOf L).drop i) with
    | nl =>
      obtain ⟨r, hr⟩ := hfin (i + lenA L i .nl) (stepA L sz i a .nl) ⟨a.toks, a.fr, toA L sz (i + 1), false⟩ (by simp [stepA, endA, ha])
      exact ⟨_, r, hr, by rw [kt_nl hEd hit]; simp⟩
    | opn =>
      obtain ⟨r, hr⟩ := hfin (i + lenA L i .opn) (stepA L sz i a .opn) ⟨a.toks, a.fr, sz, true⟩ (by simp [stepA, endA, tellA, ha])
      exact ⟨_, r, hr, by rw [kt_opn hEd hit]; simp⟩
    | gap n =>
      obtain ⟨h1, h2⟩ := item_len hEd (by rw [hit]; simp) (by rw [hit]; simp)
      rw [hit, List.length_drop, hlb] at h2
      rw [hit] at h1
      simp only [It.len] at h1 h2
      obtain ⟨ln, r, g1, g2⟩ := line_kt hE m (i + n) (stepA L sz i a (.gap n)) (by omega) (by omega) ha
      refine ⟨ln, r, g1, ?_⟩
      rw [g2, kt_gap hEd hit, List.drop_drop]
      rfl
    | tk k n =>
      obtain ⟨h1, h2⟩ := item_len hEd (by rw [hit]; simp) (by rw [hit]; simp)
      rw [hit, List.length_drop, hlb] at h2
      rw [hit] at h1
      simp only [It.len] at h1 h2
      obtain ⟨t1, t2, u, t3, t4⟩ := takeA_kxs L a k i n
      obtain ⟨ln, r, g1, g2⟩ := line_kt hE m (i + n) (stepA L sz i a (.tk k n)) (by omega) (by omega) (t1.trans ha)
      refine ⟨ln, r, g1, ?_⟩
      have e1 : (stepA L sz i a (.tk k n)).toks = a.toks ++ [u] := t3
      have e2 : (stepA L sz i a (.tk k n)).sp = false := t2
      rw [g2, kt_tk hEd hit, List.drop_drop, e1, e2, List.map_append]
      simp [t4]

/-- A line without its end, lexed. -/
theorem lexF_kt {l : List UInt8} (hp : PlB l) (h10 : ∀ c ∈ l, c ≠ 10) : (lexF l).map kxs = kt false (l ++ [10]) := by
  by_cases h0 : l = []
  · subst h0
    rfl
  · obtain ⟨L, hL, hF⟩ := lex_open hp h0 (last_all h0 h10)
    have hE : E10 (bytesOf L) := by rw [hL]; exact e10_snoc _
    have hl := bytesOf_len L
    rw [hL] at hl
    obtain ⟨ln, r, h1, h2⟩ := line_kt (sz := l.length) hE L.length 0 acc0 (by omega) (by simp at hl; omega) rfl
    rw [hF, first_of h1, h2, List.drop_zero, hL]
    rfl

-- what begins somewhere, of texts without quotes
theorem getD_mem {l : List UInt8} {i : Nat} {c : UInt8} (h : l.getD i 0 = c) (h0 : c ≠ 0) : c ∈ l := by
  have hi : i < l.length := getD_lt (by rw [h]; exact h0)
  have e : l.getD i 0 = l[i] := by simp [List.getD, hi]
  rw [← h, e]
  exact List.getElem_mem hi
/-- No quotes. -/
def NQ (l : List UInt8) : Prop := ∀ c ∈ l, c ≠ 34 ∧ c ≠ 39
theorem NQ.app {x y : List UInt8} (hx : NQ x) (hy : NQ y) : NQ (x ++ y) := fun c hc => by
  rcases List.mem_append.1 hc with h | h
  · exact hx c h
  · exact hy c h
theorem NQ.at {l : List UInt8} (h : NQ l) (i : Nat) : l.getD i 0 ≠ 34 ∧ l.getD i 0 ≠ 39 := ⟨fun e => (h _ (getD_mem e (by decide))).1 rfl, fun e => (h _ (getD_mem e (by decide))).2 rfl⟩
theorem conN_nq {l : List UInt8} (h : NQ l) : conN l = none :=
  conN_no (h.at 0).1 (h.at 0).2 (lettN_zero (fun e => (h.at 2).1 e.2.2) (fun e => e.2.elim (fun e => (h.at 1).1 e) (fun e => (h.at 1).2 e)))
theorem wordN_row : ∀ {x r : List UInt8}, (∀ c ∈ x, isWord c = true) → isWord (r.getD 0 0) = false → wordN (x ++ r) = x.length
  | [], [], _, _ => rfl
  | [], c :: r, _, h => by
    show (if isWord c = true then _ else 0) = 0
    rw [if_neg (by have h : isWord c = false := h; rw [h]; simp)]
  | a :: x, r, hx, h => by
    show (if isWord a = true then wordN (x ++ r) + 1 else 0) = _
    rw [if_pos (hx a List.mem_cons_self), wordN_row (fun c hc => hx c (List.mem_cons_of_mem _ hc)) h]
    rfl
theorem let_begs {c : UInt8} (h : isWord c = true) : c ≠ 10 ∧ isWhi c = false ∧ c ≠ 47 := by
  have := isWord_ne h
  exact ⟨this.1, this.2.2.2.2.2.1, this.2.2.2.1⟩
theorem beg_one {c : UInt8} {r : List UInt8} (h1 : c ≠ 10) (h2 : isWhi c = false) (h3 : c ≠ 47) : begN (c :: r) = 1 := begN_no h1 h2 (fun e => h3 e.1) (fun e => h3 e.1)
theorem item_let {c : UInt8} {r : List UInt8} (hc : isLet c = true) (hq : NQ (c :: r)) : item (c :: r) = .tk 1 (wordN r + 1) := by
  have hw : isWord c = true := by unfold isWord; rw [hc]; rfl
  obtain ⟨h1, h2, h3⟩ := let_begs hw
  rw [item_tk (beg_one h1 h2 h3)]
  unfold tok
  rw [conN_nq hq]
  simp only
  rw [show (c :: r).getD 0 0 = c from rfl, if_pos hc]
  rfl
theorem item_word {x r : List UInt8} {c : UInt8} (hc : isLet c = true) (hx : ∀ d ∈ x, isWord d = true) (hr : isWord (r.getD 0 0) = false) (hq : NQ (c :: x ++ r)) : item (c :: x ++ r) = .tk 1 (c :: x).length := by
  rw [List.cons_append] at hq ⊢
  rw [item_let hc hq, wordN_row hx hr]
  rfl
theorem item_dig {c : UInt8} {r : List UInt8} (hc : isDig c = true) (hn : isLet c = false) (hq : NQ (c :: r)) : item (c :: r) = .tk 2 (numN c r + 1) := by
  have hw : isWord c = true := by unfold isWord; rw [hc]; simp
  obtain ⟨h1, h2, h3⟩ := let_begs hw
  rw [item_tk (beg_one h1 h2 h3)]
  unfold tok
  rw [conN_nq hq]
  simp only
  rw [show (c :: r).getD 0 0 = c from rfl, if_neg (by rw [hn]; simp), if_pos (by rw [hc]; rfl)]
  rfl
theorem item_add2 (r : List UInt8) : item (43 :: 43 :: r) = .tk 5 2 := rfl
theorem item_add1 {r : List UInt8} (h1 : r.getD 0 0 ≠ 43) (h2 : r.getD 0 0 ≠ 61) (hq : NQ (43 :: r)) : item (43 :: r) = .tk 5 1 := by
  rw [item_tk (beg_one (by decide) (by decide) (by decide))]
  unfold tok
  rw [conN_nq hq]
  have hp : punctN (43 :: r) = 1 := by
    cases r with
    | nil => rfl
    | cons d r =>
      have e1 : (43 == d) = false := beq_eq_false_iff_ne.2 fun e => h1 e.symm
      have e2 : (61 == d) = false := beq_eq_false_iff_ne.2 fun e => h2 e.symm
      have f1 : ([43, 43] : List UInt8).isPrefixOf (43 :: d :: r) = false := by
        show ((43 : UInt8) == 43 && (43 == d && true)) = false
        rw [e1]
        rfl
      have f2 : ([43, 61] : List UInt8).isPrefixOf (43 :: d :: r) = false := by
        show ((43 : UInt8) == 43 && (61 == d && true)) = false
        rw [e2]
        rfl
      unfold punctN PL
      simp [List.isPrefixOf, e1, e2]
  simp only
  rw [show (43 :: r).getD 0 0 = (43 : UInt8) from rfl, if_neg (by decide), if_neg (by simp [isDig]), hp]
  rfl

/-- A byte of a body. -/
def BdC (c : UInt8) : Prop := (97 ≤ c.toNat ∧ c.toNat ≤ 122) ∨ (48 ≤ c.toNat ∧ c.toNat ≤ 57) ∨ c = 43 ∨ c = 32
theorem BdC.ne {c : UInt8} (h : BdC c) : c ≠ 10 ∧ c ≠ 34 ∧ c ≠ 39 ∧ c ≠ 61 ∧ c ≠ 35 ∧ c ≠ 95 ∧ c ≠ 37 ∧ c ≠ 92 ∧ c ≠ 63 := by
  rcases h with h | h | rfl | rfl
  · refine ⟨?_, ?_, ?_, ?_, ?_, ?_, ?_, ?_, ?_⟩ <;> (rintro rfl; revert h; decide)
  · refine ⟨?_, ?_, ?_, ?_, ?_, ?_, ?_, ?_, ?_⟩ <;> (rintro rfl; revert h; decide)
  · decide
  · decide
theorem BdC.let {c : UInt8} (h : 97 ≤ c.toNat ∧ c.toNat ≤ 122) : isLet c = true := by
  unfold isLet
  rw [decide_eq_true h.1, decide_eq_true h.2]
  rfl
theorem BdC.dig {c : UInt8} (h : 48 ≤ c.toNat ∧ c.toNat ≤ 57) : isDig c = true ∧ isLet c = false := by
  unfold isDig isLet
  refine ⟨by rw [decide_eq_true h.1, decide_eq_true h.2]; rfl, ?_⟩
  simp only [Bool.or_eq_false_iff, Bool.and_eq_false_iff, decide_eq_false_iff_not]
  omega
/-- A body's end. -/
def BdT (l : List UInt8) : Prop := ∃ b : List UInt8, (∀ c ∈ b, BdC c) ∧ l = b ++ [10]
theorem BdT.e10 {l : List UInt8} (h : BdT l) : E10 l := by
  obtain ⟨b, -, rfl⟩ := h
  exact e10_snoc b
theorem BdT.mem {l : List UInt8} (h : BdT l) {c : UInt8} (hc : c ∈ l) : BdC c ∨ c = 10 := by
  obtain ⟨b, hb, rfl⟩ := h
  rcases List.mem_append.1 hc with hc | hc
  · exact .inl (hb c hc)
  · exact .inr (by simpa using hc)
theorem BdT.nq {l : List UInt8} (h : BdT l) : NQ l := fun c hc => by
  rcases h.mem hc with h | rfl
  · exact ⟨h.ne.2.1, h.ne.2.2.1⟩
  · decide
theorem BdT.drop {l : List UInt8} (h : BdT l) {n : Nat} (hn : n < l.length) : BdT (l.drop n) := by
  obtain ⟨b, hb, rfl⟩ := h
  simp only [List.length_append, List.length_cons, List.length_nil] at hn
  exact ⟨b.drop n, fun c hc => hb c (List.mem_of_mem_drop hc), by rw [List.drop_append_of_le_length (by omega)]⟩
theorem BdT.head {l : List UInt8} (h : BdT l) : ∃ c r, l = c :: r ∧ (c = 10 ∧ r = [] ∨ BdC c ∧ BdT r) := by
  obtain ⟨b, hb, rfl⟩ := h
  cases b with
  | nil => exact ⟨10, [], rfl, .inl ⟨rfl, rfl⟩⟩
  | cons c b => exact ⟨c, b ++ [10], rfl, .inr ⟨hb c List.mem_cons_self, b, fun d hd => hb d (List.mem_cons_of_mem _ hd), rfl⟩⟩

/-- What may follow in place of what followed. -/
def Nx (t s : List UInt8) : Prop := s.getD 0 0 = t.getD 0 0 ∨ s.getD 0 0 = 10 ∨ s.getD 0 0 = 32
theorem wordN_end : ∀ r : List UInt8, isWord ((r.drop (wordN r)).getD 0 0) = false
  | [] => rfl
  | c :: r => by
    by_cases h : isWord c = true
    · rw [show wordN (c :: r) = wordN r + 1 from by show (if isWord c = true then _ else _) = _; rw [if_pos h]]
      exact wordN_end r
    · rw [show wordN (c :: r) = 0 from by show (if isWord c = true then _ else _) = _; rw [if_neg h]]
      simpa using h
theorem wordN_cut {r s : List UInt8} (h : Nx (r.drop (wordN r)) s) : wordN (r.take (wordN r) ++ s) = wordN r := by
  have hl : (r.take (wordN r)).length = wordN r := by
    rw [List.length_take]
    exact Nat.min_eq_left (wordN_le r)
  have := wordN_row (x := r.take (wordN r)) (r := s) (fun c hc => by
    obtain ⟨j, hj, rfl⟩ := List.getElem_of_mem hc
    rw [hl] at hj
    have h1 := wordN_in r j hj
    have h2 : r.getD j 0 = (r.take (wordN r))[j]'(by rw [hl]; exact hj) := by
      rw [List.getElem_take]
      simp [List.getD, show j < r.length from Nat.lt_of_lt_of_le hj (wordN_le r)]
    rw [h2] at h1
    exact h1) (by
    rcases h with h | h | h
    · rw [h]; exact wordN_end r
    · rw [h]; rfl
    · rw [h]; rfl)
  rw [this, hl]
theorem numC_no (p : UInt8) : numC p 0 = false ∧ numC p 10 = false ∧ numC p 32 = false := by
  refine ⟨?_, ?_, ?_⟩ <;> (unfold numC; simp [isWord, isLet, isDig, isSign])
theorem numN_stop {p : UInt8} {s : List UInt8} (h : numC p (s.getD 0 0) = false) : numN p s = 0 := by
  cases s with
  | nil => rfl
  | cons c s =>
    show (if numC p c = true then _ else 0) = 0
    rw [if_neg (by have h : numC p c = false := h; rw [h]; simp)]
theorem numN_cut : ∀ {p : UInt8} {r s : List UInt8}, Nx (r.drop (numN p r)) s → numN p (r.take (numN p r) ++ s) = numN p r
  | p, [], s, h => by
    show numN p s = 0
    refine numN_stop ?_
    rcases h with h | h | h
    · rw [h]; exact (numC_no p).1
    · rw [h]; exact (numC_no p).2.1
    · rw [h]; exact (numC_no p).2.2
  | p, c :: r, s, h => by
    by_cases hc : numC p c = true
    · have e : numN p (c :: r) = numN c r + 1 := by show (if numC p c = true then _ else _) = _; rw [if_pos hc]
      rw [e] at h ⊢
      show (if numC p c = true then numN c (r.take (numN c r) ++ s) + 1 else 0) = _
      rw [if_pos hc, numN_cut (r := r) h]
    · have e : numN p (c :: r) = 0 := by show (if numC p c = true then _ else _) = _; rw [if_neg hc]
      rw [e] at h ⊢
      show numN p s = 0
      refine numN_stop ?_
      rcases h with h | h | h
      · rw [h]; simpa using hc
      · rw [h]; exact (numC_no p).2.1
      · rw [h]; exact (numC_no p).2.2

/-- A body's token hangs on its own bytes and the next one. -/
theorem item_cut {l s : List UInt8} {k n : Nat} (hl : BdT l) (h : item l = .tk k n) (hs : NQ s) (hx : Nx (l.drop n) s) : item (l.take n ++ s) = .tk k n := by
  obtain ⟨c, r, rfl, ⟨rfl, rfl⟩ | ⟨hc, hr⟩⟩ := hl.head
  · cases h
  · have hq := hl.nq
    have hqs : ∀ m, NQ (c :: (r.take m ++ s)) := fun m d hd => by
      rcases List.mem_cons.1 hd with rfl | hd
      · exact hq _ List.mem_cons_self
      · rcases List.mem_append.1 hd with hd | hd
        · exact hq _ (List.mem_cons_of_mem _ (List.mem_of_mem_take hd))
        · exact hs _ hd
    rcases hc with hc | hc | rfl | rfl
    · rw [item_let (BdC.let hc) hq] at h
      obtain ⟨rfl, rfl⟩ : k = 1 ∧ n = wordN r + 1 := by cases h; exact ⟨rfl, rfl⟩
      rw [List.take_succ_cons, List.cons_append, item_let (BdC.let hc) (hqs _), wordN_cut hx]
    · obtain ⟨h1, h2⟩ := BdC.dig hc
      rw [item_dig h1 h2 hq] at h
      obtain ⟨rfl, rfl⟩ : k = 2 ∧ n = numN c r + 1 := by cases h; exact ⟨rfl, rfl⟩
      rw [List.take_succ_cons, List.cons_append, item_dig h1 h2 (hqs _), numN_cut hx]
    · obtain ⟨d, q, rfl, hd⟩ := hr.head
      by_cases h43 : d = 43
      · subst h43
        rw [item_add2] at h
        cases h
        exact item_add2 s
      · have h61 : d ≠ 61 := by
          rcases hd with ⟨rfl, -⟩ | ⟨hd, -⟩
          · decide
          · exact hd.ne.2.2.2.1
        rw [item_add1 (r := d :: q) h43 h61 hq] at h
        cases h
        refine item_add1 (r := s) ?_ ?_ (hqs 0)
        · rcases hx with h | h | h
          · rw [h]; exact h43
          · rw [h]; decide
          · rw [h]; decide
        · rcases hx with h | h | h
          · rw [h]; exact h61
          · rw [h]; decide
          · rw [h]; decide
    · cases h

/-- Tokens told, a blank ahead of each that has space. -/
def ttL : List Kt → List UInt8
  | [] => []
  | (_, x, sp) :: r => (if sp then 32 :: x else x) ++ ttL r

theorem ktF_mem : ∀ (m : Nat) (sp : Bool) (l : List UInt8), ∀ u ∈ ktF m sp l, ∀ c ∈ u.2.1, c ∈ l
  | 0, _, _, u, h => by cases h
  | m + 1, sp, l, u, h => by
    unfold ktF at h
    split at h
    · cases h
    · cases h
    · exact fun c hc => List.mem_of_mem_drop (ktF_mem m true _ u h c hc)
    · rcases List.mem_cons.1 h with rfl | h
      · exact fun c hc => List.mem_of_mem_take hc
      · exact fun c hc => List.mem_of_mem_drop (ktF_mem m false _ u h c hc)
theorem kt_mem {sp : Bool} {l : List UInt8} {u : Kt} (h : u ∈ kt sp l) : ∀ c ∈ u.2.1, c ∈ l := ktF_mem _ _ _ u h
theorem tt_mem : ∀ {T : List Kt} {c : UInt8}, c ∈ ttL T → c = 32 ∨ ∃ u ∈ T, c ∈ u.2.1
  | [], c, h => by cases h
  | (k, x, sp) :: r, c, h => by
    rcases List.mem_append.1 h with h | h
    · cases sp with
      | true =>
        rcases List.mem_cons.1 h with rfl | h
        · exact .inl rfl
        · exact .inr ⟨_, List.mem_cons_self, h⟩
      | false => exact .inr ⟨_, List.mem_cons_self, h⟩
    · rcases tt_mem h with h | ⟨u, hu, h⟩
      · exact .inl h
      · exact .inr ⟨u, List.mem_cons_of_mem _ hu, h⟩
/-- Behind space there is nothing, or a token that has it. -/
theorem ktF_true : ∀ (m : Nat) (l : List UInt8), ktF m true l = [] ∨ ∃ k x r, ktF m true l = (k, x, true) :: r
  | 0, _ => .inl rfl
  | m + 1, l => by
    unfold ktF
    split
    · exact .inl rfl
    · exact .inl rfl
    · exact ktF_true m _
    · exact .inr ⟨_, _, _, rfl⟩
theorem kt_true (l : List UInt8) : kt true l = [] ∨ ∃ k x r, kt true l = (k, x, true) :: r := ktF_true _ _

/-- What is told begins as the body does, or with a blank, or is nothing. -/
theorem tt_head {l : List UInt8} (hl : BdT l) : Nx l (ttL (kt false l) ++ [10]) := by
  obtain ⟨c, r, rfl, ⟨rfl, rfl⟩ | ⟨hc, hr⟩⟩ := hl.head
  · exact .inl rfl
  · by_cases h32 : c = 32
    · subst h32
      rw [kt_gap (n := 1) hl.e10 rfl]
      rcases kt_true r with e | ⟨k, x, q, e⟩
      · rw [show (32 :: r).drop 1 = r from rfl, e]
        exact .inr (.inl rfl)
      · rw [show (32 :: r).drop 1 = r from rfl, e]
        exact .inr (.inr rfl)
    · have hi : ∃ k n, item (c :: r) = .tk k (n + 1) := by
        rcases hc with hc | hc | rfl | rfl
        · exact ⟨_, _, item_let (BdC.let hc) hl.nq⟩
        · exact ⟨_, _, item_dig (BdC.dig hc).1 (BdC.dig hc).2 hl.nq⟩
        · obtain ⟨d, q, rfl, hd⟩ := hr.head
          by_cases h43 : d = 43
          · subst h43
            exact ⟨5, 1, item_add2 q⟩
          · have h61 : d ≠ 61 := by
              rcases hd with ⟨rfl, -⟩ | ⟨hd, -⟩
              · decide
              · exact hd.ne.2.2.2.1
            exact ⟨5, 0, item_add1 (r := d :: q) h43 h61 hl.nq⟩
        · exact absurd rfl h32
      obtain ⟨k, n, hi⟩ := hi
      rw [kt_tk hl.e10 hi]
      exact .inl rfl

/-- Told, and lexed again. -/
theorem kt_again : ∀ (m : Nat) (l : List UInt8) (sp : Bool), l.length ≤ m → BdT l → kt false (ttL (kt sp l) ++ [10]) = kt sp l
  | 0, l, sp, hm, hl => by have := hl.e10.1; omega
  | m + 1, l, sp, hm, hl => by
    have hE := hl.e10
    cases hit : item l with
    | nl => rw [kt_nl hE hit]; rfl
    | opn => rw [kt_opn hE hit]; rfl
    | gap n =>
      obtain ⟨h1, h2⟩ := item_len hE (by rw [hit]; simp) (by rw [hit]; simp)
      rw [hit] at h1 h2
      simp only [It.len] at h1 h2
      rw [kt_gap hE hit]
      exact kt_again m _ true (by rw [List.length_drop]; omega) (hl.drop h2)
    | tk k n =>
      obtain ⟨h1, h2⟩ := item_len hE (by rw [hit]; simp) (by rw [hit]; simp)
      rw [hit] at h1 h2
      simp only [It.len] at h1 h2
      have hd := hl.drop h2
      have ih := kt_again m _ false (by rw [List.length_drop]; omega) hd
      rw [kt_tk hE hit]
      obtain ⟨s, hs⟩ : ∃ s, ttL (kt false (l.drop n)) ++ [10] = s := ⟨_, rfl⟩
      have hnq : NQ s := by
        rw [← hs]
        refine NQ.app (fun c hc => ?_) (by unfold NQ; decide)
        rcases tt_mem hc with rfl | ⟨u, hu, hc⟩
        · decide
        · exact hd.nq c (kt_mem hu c hc)
      have hcut := item_cut hl hit hnq (by rw [← hs]; exact tt_head hd)
      have hlen : (l.take n).length = n := by rw [List.length_take]; omega
      have hEs : E10 s := by rw [← hs]; exact e10_snoc _
      have hEx : E10 (l.take n ++ s) := by
        rw [← hs, ← List.append_assoc]
        exact e10_snoc _
      have hx : ∀ sp', kt sp' (l.take n ++ s) = (k, l.take n, sp') :: kt false (l.drop n) := fun sp' => by
        rw [kt_on hEx (by rw [hcut, hlen]), ← hs, ih]
      have hshape : ttL ((k, l.take n, sp) :: kt false (l.drop n)) ++ [10] = (if sp then 32 :: l.take n else l.take n) ++ s := by
        rw [← hs]
        simp [ttL]
      rw [hshape]
      cases sp with
      | false => exact hx false
      | true =>
        show kt false (32 :: (l.take n ++ s)) = _
        rw [kt_gap (n := 1) (by
          rw [← hs, ← List.append_assoc]
          exact e10_snoc (32 :: (l.take n ++ ttL (kt false (l.drop n))))) rfl]
        exact hx true

end Go.Proofs.Ytmghocfkekggaaa
