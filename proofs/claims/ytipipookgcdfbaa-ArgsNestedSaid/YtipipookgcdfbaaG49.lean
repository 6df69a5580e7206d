/-
  Texts of the proof, put together: DwT, BackTk.
-/
import Derived.Test.YtipipookgcdfbaaG48
import Derived.Test.YtipipookgcdfbaaG45

/-
  The texts of DirectWords, lexed: over lists.
-/
namespace Go.Proofs.Ytipipookgcdfbaa
open Go.RowKit

/-- The first line's tokens of a text. -/
def lexF (l : List UInt8) : List Tk := firstT (linesA (charsL l) l.length)
theorem lexF_nil : lexF [] = [] := rfl

def PlB (l : List UInt8) : Prop := ∀ c ∈ l, c ≠ 92 ∧ c ≠ 63
theorem PlB.pl {l : List UInt8} (h : PlB l) : Pl l := fun i hi => by
  have hm : l.getD i 0 ∈ l := by
    have : l.getD i 0 = l[i] := by simp [List.getD, hi]
    rw [this]
    exact List.getElem_mem hi
  exact ⟨triAt_not (h _ hm).2, (h _ hm).1⟩
theorem PlB.app {x y : List UInt8} (hx : PlB x) (hy : PlB y) : PlB (x ++ y) := fun c hc => by
  rcases List.mem_append.1 hc with h | h
  · exact hx c h
  · exact hy c h

/-- A text without a byte 10 at its end, as it is lexed. -/
theorem lex_open {l : List UInt8} (h : PlB l) (h0 : l ≠ []) (h10 : l.getD (l.length - 1) 0 ≠ 10) : ∃ L, bytesOf L = l ++ [10] ∧ lexF l = firstT (fromA L l.length 0 acc0) := by
  refine ⟨sgRow l, sgRow_bytes l, ?_⟩
  unfold lexF linesA
  rw [charsL_open h.pl (List.length_pos_iff.2 h0) h10]
  rfl
/-- A text with one. -/
theorem lex_shut {l : List UInt8} (h : PlB l) (h10 : l.getD (l.length - 1) 0 = 10) (h0 : l ≠ []) : ∃ L, bytesOf L = l ∧ lexF l = firstT (fromA L l.length 0 acc0) := by
  refine ⟨plRow l 0, plRow_bytes l 0, ?_⟩
  unfold lexF linesA
  rw [charsL_shut h.pl (List.length_pos_iff.2 h0) h10]
  rfl
theorem first_of {A : Acc} {ln : Ln} {r : List Ln} (h : A.lines = ln :: r) : firstT A = ln.toks := by
  unfold firstT
  rw [h]
theorem e10_snoc (l : List UInt8) : E10 (l ++ [10]) := ⟨by simp, by simp [List.getD]⟩

/-- The end of it: what is left of the line. -/
theorem line_end {L : List Rn} {sz i : Nat} {a : Acc} {t : List UInt8} (hE : E10 (bytesOf L)) (hd : (bytesOf L).drop i = t ++ [10]) (ha : a.lines = []) : ∃ U, firstT (fromA L sz i a) = a.toks ++ U ∧ U.length = tkN (t.length + 1) (t ++ [10]) := by
  have hl : L.length - i = t.length + 1 := by
    have := congrArg List.length hd
    rw [List.length_drop, bytesOf_len] at this
    simpa using this
  obtain ⟨U, ln, r, h1, h2, h3⟩ := line_from (sz := sz) hE (t.length + 1) i a (by omega) (by omega) ha
  exact ⟨U, by rw [first_of h1, h2], by rw [h3, hd]⟩

def IsH (h : List UInt8) : Prop := h = [35] ∨ h = [37, 58]
theorem IsH.item {h : List UInt8} (hh : IsH h) {c : UInt8} (hc : c ∈ ([32, 9, 10, 105, 101, 100, 117, 108, 112] : List UInt8)) (r : List UInt8) : item (h ++ c :: r) = .tk 5 h.length := by
  rcases hh with rfl | rfl
  · exact (hash_item hc r).1
  · exact (hash_item hc r).2
theorem IsH.ne {h : List UInt8} (hh : IsH h) : h ≠ [] := by rcases hh with rfl | rfl <;> simp
theorem IsH.plb {h : List UInt8} (hh : IsH h) : PlB h := by rcases hh with rfl | rfl <;> (unfold PlB; decide)
def Blk (b : List UInt8) : Prop := ∀ c ∈ b, c = 32 ∨ c = 9
theorem Blk.plb {b : List UInt8} (h : Blk b) : PlB b := fun c hc => by rcases h c hc with rfl | rfl <;> decide
def Prn (r : List UInt8) : Prop := ∀ c ∈ r, c ≠ 10 ∧ c ≠ 92 ∧ c ≠ 63
theorem Prn.plb {r : List UInt8} (h : Prn r) : PlB r := fun c hc => (h c hc).2
theorem wB_plb {k : Nat} (h1 : 2 ≤ k) (h2 : k < 14) : PlB (wB k).data.toList ∧ (wB k).data.toList ≠ [] := by
  have : k = 2 ∨ k = 3 ∨ k = 4 ∨ k = 5 ∨ k = 6 ∨ k = 7 ∨ k = 8 ∨ k = 9 ∨ k = 10 ∨ k = 11 ∨ k = 12 ∨ k = 13 := by omega
  rcases this with rfl | rfl | rfl | rfl | rfl | rfl | rfl | rfl | rfl | rfl | rfl | rfl <;> exact ⟨by unfold PlB; decide, by decide⟩

/-- What stands behind a hash: blanks, and something that begins so. -/
theorem blk_head {b : List UInt8} (hb : Blk b) {c : UInt8} {q : List UInt8} (hc : c ∈ ([32, 9, 10, 105, 101, 100, 117, 108, 112] : List UInt8)) : ∃ c' q', b ++ c :: q = c' :: q' ∧ c' ∈ ([32, 9, 10, 105, 101, 100, 117, 108, 112] : List UInt8) := by
  cases b with
  | nil => exact ⟨c, q, rfl, hc⟩
  | cons d b => exact ⟨d, _, rfl, by rcases hb d List.mem_cons_self with rfl | rfl <;> decide⟩

theorem last_ne {l : List UInt8} {c : UInt8} (h : c ≠ 10) : (l ++ [c]).getD ((l ++ [c]).length - 1) 0 ≠ 10 := by simpa [List.getD] using h
theorem last_all {l : List UInt8} (h0 : l ≠ []) (h : ∀ c ∈ l, c ≠ 10) : l.getD (l.length - 1) 0 ≠ 10 := by
  have hl : 0 < l.length := List.length_pos_iff.2 h0
  have : l.getD (l.length - 1) 0 = l[l.length - 1] := by simp [List.getD, show l.length - 1 < l.length by omega]
  rw [this]
  exact h _ (List.getElem_mem _)

variable {b r h : List UInt8} {k : Nat}

/-- Blanks, a hash, blanks, a word, a blank, the rest, and a byte 10. -/
theorem lexA (hh : IsH h) (h1 : 2 ≤ k) (h2 : k < 14) (hb : Blk b) (hr : Prn r) : ∃ u1 u2 U, lexF (b ++ (h ++ (b ++ ((wB k).data.toList ++ 32 :: (r ++ [10]))))) = u1 :: u2 :: U ∧ u1.k = 5 ∧ u1.x = h ∧ u2.k = 1 ∧ u2.x = (wB k).data.toList ∧ U.length = tkN (r.length + 1) (r ++ [10]) := by
  obtain ⟨hw1, -, c, q, hwc, hcm⟩ := word_item h1 h2 (r ++ [10])
  obtain ⟨hwp, hw0⟩ := wB_plb h1 h2
  obtain ⟨w, hw⟩ : ∃ w, (wB k).data.toList = w := ⟨_, rfl⟩
  rw [hw] at hw1 hwc hwp hw0 ⊢
  have hp : PlB (b ++ (h ++ (b ++ (w ++ 32 :: (r ++ [10]))))) := hb.plb.app (hh.plb.app (hb.plb.app (hwp.app (PlB.app (x := [32]) (by unfold PlB; decide) (hr.plb.app (by unfold PlB; decide))))))
  have he : b ++ (h ++ (b ++ (w ++ 32 :: (r ++ [10])))) = (b ++ (h ++ (b ++ (w ++ 32 :: r)))) ++ [10] := by simp
  obtain ⟨L, hL, hF⟩ := lex_shut hp (by rw [he]; exact (e10_snoc _).2) (by rw [he]; simp)
  have hE : E10 (bytesOf L) := by rw [hL, he]; exact e10_snoc _
  obtain ⟨sz, hsz⟩ : ∃ sz, (b ++ (h ++ (b ++ (w ++ 32 :: (r ++ [10]))))).length = sz := ⟨_, rfl⟩
  rw [hsz] at hF
  obtain ⟨a1, e1, t1, l1, d1⟩ := run_blanks (sz := sz) (h ++ (b ++ (w ++ 32 :: (r ++ [10])))) b 0 acc0 hb (by rw [List.drop_zero]; exact hL)
  obtain ⟨c', q', hcq, hcm'⟩ := blk_head hb (q := q ++ 32 :: (r ++ [10])) hcm
  obtain ⟨a2, u1, e2, l2, t2, k1, x1, d2⟩ := run_tk (sz := sz) (k := 5) (a := a1) d1 hh.ne (by
    rw [hwc, List.cons_append, hcq]
    exact hh.item hcm' q')
  obtain ⟨a3, e3, t3, l3, d3⟩ := run_blanks (sz := sz) (w ++ 32 :: (r ++ [10])) b _ a2 hb d2
  obtain ⟨a4, u2, e4, l4, t4, k2, x2, d4⟩ := run_tk (sz := sz) (k := 1) (a := a3) d3 hw0 hw1
  obtain ⟨a5, e5, t5, l5, d5⟩ := run_blanks (sz := sz) (r ++ [10]) [32] _ a4 (by decide) d4
  obtain ⟨U, f1, f2⟩ := line_end (sz := sz) (a := a5) hE d5 (by rw [l5, l4, l3, l2, l1]; rfl)
  refine ⟨u1, u2, U, ?_, k1, x1, k2, x2, f2⟩
  rw [hF, e1, e2, e3, e4, e5, f1, t5, t4, t3, t2, t1]
  rfl

/-- The rest alone. -/
theorem lexB (hr : Prn r) : (lexF r).length = tkN (r.length + 1) (r ++ [10]) := by
  by_cases h0 : r = []
  · subst h0
    rfl
  · obtain ⟨L, hL, hF⟩ := lex_open hr.plb h0 (last_all h0 fun c hc => (hr c hc).1)
    obtain ⟨U, f1, f2⟩ := line_end (sz := r.length) (a := acc0) (by rw [hL]; exact e10_snoc _) (t := r) (i := 0) (by rw [List.drop_zero]; exact hL) rfl
    rw [hF, f1, ← f2]
    rfl

/-- A word ahead of it. -/
theorem lexC (h1 : 2 ≤ k) (h2 : k < 14) (hr : Prn r) : ∃ u U, lexF ((wB k).data.toList ++ 32 :: r) = u :: U ∧ u.k = 1 := by
  obtain ⟨hw1, -, -⟩ := word_item h1 h2 (r ++ [10])
  obtain ⟨hwp, hw0⟩ := wB_plb h1 h2
  obtain ⟨w, hw⟩ : ∃ w, (wB k).data.toList = w := ⟨_, rfl⟩
  rw [hw] at hw1 hwp hw0 ⊢
  have hla : (w ++ 32 :: r).getD ((w ++ 32 :: r).length - 1) 0 ≠ 10 := by
    rw [List.length_append, show w.length + (32 :: r).length - 1 = w.length + ((32 :: r).length - 1) from by simp, get_right]
    refine last_all (by simp) fun c hc => ?_
    rcases List.mem_cons.1 hc with rfl | hc
    · decide
    · exact (hr c hc).1
  obtain ⟨L, hL, hF⟩ := lex_open (hwp.app (PlB.app (x := [32]) (by unfold PlB; decide) hr.plb)) (by simp) hla
  have hd0 : (bytesOf L).drop 0 = w ++ (32 :: (r ++ [10])) := by
    rw [List.drop_zero, hL]
    simp
  obtain ⟨sz, hsz⟩ : ∃ sz, (w ++ 32 :: r).length = sz := ⟨_, rfl⟩
  have hsz' : (w ++ ([32] ++ r)).length = sz := hsz
  rw [hsz'] at hF
  obtain ⟨a4, u2, e4, l4, t4, k2, x2, d4⟩ := run_tk (sz := sz) (k := 1) (a := acc0) hd0 hw0 hw1
  obtain ⟨U, f1, -⟩ := line_end (sz := sz) (a := a4) (by rw [hL]; exact e10_snoc _) (t := 32 :: r) (by rw [d4]; rfl) l4
  refine ⟨u2, U, ?_, k2⟩
  have hF' : lexF (w ++ 32 :: r) = _ := hF
  rw [hF', e4, f1, t4]
  rfl

/-- Something else ahead. -/
theorem lexD (hh : IsH h) (h1 : 2 ≤ k) (h2 : k < 14) : ∃ u U, lexF ([120, 32] ++ (h ++ (wB k).data.toList)) = u :: U ∧ u.k = 1 := by
  have hk : k = 2 ∨ k = 3 ∨ k = 4 ∨ k = 5 ∨ k = 6 ∨ k = 7 ∨ k = 8 ∨ k = 9 ∨ k = 10 ∨ k = 11 ∨ k = 12 ∨ k = 13 := by omega
  rcases hh with rfl | rfl <;> rcases hk with rfl | rfl | rfl | rfl | rfl | rfl | rfl | rfl | rfl | rfl | rfl | rfl <;> exact ⟨_, _, rfl, rfl⟩

/-- A word that is none. -/
theorem lexE (hh : IsH h) (h1 : 2 ≤ k) (h2 : k < 14) : ∃ u1 u2, lexF (h ++ ((wB k).data.toList ++ [120])) = [u1, u2] ∧ u1.k = 5 ∧ u1.x = h ∧ u2.k = 1 ∧ u2.x = (wB k).data.toList ++ [120] := by
  obtain ⟨-, hw1, c, q, hwc, hcm⟩ := word_item h1 h2 []
  obtain ⟨hwp, hw0⟩ := wB_plb h1 h2
  obtain ⟨w, hw⟩ : ∃ w, (wB k).data.toList = w := ⟨_, rfl⟩
  rw [hw] at hw1 hwc hwp hw0 ⊢
  obtain ⟨L, hL, hF⟩ := lex_open (hh.plb.app (hwp.app (PlB.app (x := [120]) (y := []) (by unfold PlB; decide) (by unfold PlB; decide)))) (by simp) (by
    rw [List.append_nil, ← List.append_assoc]
    exact last_ne (by decide))
  rw [List.append_nil] at hL hF
  have hd0 : (bytesOf L).drop 0 = h ++ ((w ++ [120]) ++ [10]) := by
    rw [List.drop_zero, hL]
    simp
  obtain ⟨sz, hsz⟩ : ∃ sz, (h ++ (w ++ [120])).length = sz := ⟨_, rfl⟩
  rw [hsz] at hF
  obtain ⟨a2, u1, e2, l2, t2, k1, x1, d2⟩ := run_tk (sz := sz) (k := 5) (a := acc0) hd0 hh.ne (by
    rw [hwc]
    exact hh.item hcm _)
  obtain ⟨a4, u2, e4, l4, t4, k2, x2, d4⟩ := run_tk (sz := sz) (k := 1) (a := a2) d2 (by simp) hw1
  obtain ⟨U, f1, f2⟩ := line_end (sz := sz) (a := a4) (by rw [hL]; exact e10_snoc _) (t := []) (by rw [d4]; rfl) (by rw [l4, l2]; rfl)
  obtain rfl : U = [] := List.eq_nil_of_length_eq_zero f2
  refine ⟨u1, u2, ?_, k1, x1, k2, x2⟩
  rw [hF, e2, e4, f1, t4, t2]
  rfl

/-- A hash alone. -/
theorem lexG (hh : IsH h) (hb : Blk b) : ∃ u1, lexF (b ++ (h ++ b)) = [u1] ∧ u1.k = 5 ∧ u1.x = h := by
  have hla : (b ++ (h ++ b)).getD ((b ++ (h ++ b)).length - 1) 0 ≠ 10 := last_all (by have := hh.ne; simp [this]) fun c hc => by
    have hx : ∀ c ∈ b, c ≠ 10 := fun c hc => by rcases hb c hc with rfl | rfl <;> decide
    rcases List.mem_append.1 hc with hc | hc
    · exact hx c hc
    · rcases List.mem_append.1 hc with hc | hc
      · rcases hh with rfl | rfl <;> (simp at hc; first | (rw [hc]; decide) | (rcases hc with rfl | rfl <;> decide))
      · exact hx c hc
  obtain ⟨L, hL, hF⟩ := lex_open (hb.plb.app (hh.plb.app hb.plb)) (by have := hh.ne; simp [this]) hla
  have hd0 : (bytesOf L).drop 0 = b ++ (h ++ (b ++ [10])) := by
    rw [List.drop_zero, hL]
    simp
  obtain ⟨sz, hsz⟩ : ∃ sz, (b ++ (h ++ b)).length = sz := ⟨_, rfl⟩
  rw [hsz] at hF
  obtain ⟨a1, e1, t1, l1, d1⟩ := run_blanks (sz := sz) _ b 0 acc0 hb hd0
  obtain ⟨c', q', hcq, hcm'⟩ := blk_head hb (c := 10) (q := []) (by decide)
  obtain ⟨a2, u1, e2, l2, t2, k1, x1, d2⟩ := run_tk (sz := sz) (k := 5) (a := a1) d1 hh.ne (by
    rw [hcq]
    exact hh.item hcm' q')
  obtain ⟨a3, e3, t3, l3, d3⟩ := run_blanks (sz := sz) [10] b _ a2 hb d2
  obtain ⟨U, f1, f2⟩ := line_end (sz := sz) (a := a3) (by rw [hL]; exact e10_snoc _) (t := []) (by rw [d3]; rfl) (by rw [l3, l2, l1]; rfl)
  obtain rfl : U = [] := List.eq_nil_of_length_eq_zero f2
  refine ⟨u1, ?_, k1, x1⟩
  rw [hF, e1, e2, e3, f1, t3, t2, t1]
  rfl

end Go.Proofs.Ytipipookgcdfbaa

/-
  A token told with a blank behind it, over lists: it is the same token, whatever follows.
-/
namespace Go.Proofs.Ytipipookgcdfbaa
open Go.RowKit

theorem getD_front {x r : List UInt8} {j : Nat} (h : j < x.length) : (x ++ r).getD j 0 = x.getD j 0 := by simp [List.getD, List.getElem?_append_left h]
theorem getD_behind (x r : List UInt8) : (x ++ 32 :: r).getD x.length 0 = 32 := by simp [List.getD]
theorem getD_take {l : List UInt8} {n j : Nat} (h : j < n) : (l.take n).getD j 0 = l.getD j 0 := by simp [List.getD, List.getElem?_take_of_lt h]
theorem getD_cut {l r : List UInt8} {n j : Nat} (h : j < n) (hn : n ≤ l.length) : (l.take n ++ r).getD j 0 = l.getD j 0 := by
  rw [getD_front (by rw [List.length_take]; omega), getD_take h]
theorem getD_cut32 {l r : List UInt8} {n : Nat} (hn : n ≤ l.length) : (l.take n ++ 32 :: r).getD n 0 = 32 := by
  have h := getD_behind (l.take n) r
  rw [List.length_take, Nat.min_eq_left hn] at h
  exact h

theorem qN_loc (q : UInt8) : ∀ (t : Bool) (l : List UInt8) (n : Nat) (r : List UInt8), qN q t l = some n → qN q t (l.take n ++ r) = some n
  | _, [], _, _, h => by cases h
  | t, c :: l, n, r, h => by
    unfold qN at h
    split at h
    · cases h
    · rename_i h10
      have go : ∀ t', (qN q t' l).map (· + 1) = some n → ∃ m, n = m + 1 ∧ (qN q t' (l.take m ++ r)).map (· + 1) = some n := by
        intro t' h1
        rw [Option.map_eq_some_iff] at h1
        obtain ⟨m, hm, rfl⟩ := h1
        exact ⟨m, rfl, by rw [qN_loc q t' l m r hm]; rfl⟩
      cases t with
      | true =>
        rw [if_pos rfl] at h
        obtain ⟨m, rfl, e⟩ := go _ h
        show qN q true (c :: (l.take m ++ r)) = _
        unfold qN
        rw [if_neg h10, if_pos rfl]
        exact e
      | false =>
        rw [if_neg (by simp)] at h
        by_cases h92 : c = 92
        · rw [if_pos h92] at h
          obtain ⟨m, rfl, e⟩ := go _ h
          show qN q false (c :: (l.take m ++ r)) = _
          unfold qN
          rw [if_neg h10, if_neg (by simp), if_pos h92]
          exact e
        · rw [if_neg h92] at h
          by_cases hq : c = q
          · rw [if_pos hq] at h
            cases h
            show qN q false (c :: r) = _
            unfold qN
            rw [if_neg h10, if_neg (by simp), if_neg h92, if_pos hq]
          · rw [if_neg hq] at h
            obtain ⟨m, rfl, e⟩ := go _ h
            show qN q false (c :: (l.take m ++ r)) = _
            unfold qN
            rw [if_neg h10, if_neg (by simp), if_neg h92, if_neg hq]
            exact e

theorem wordN_loc : ∀ (l r : List UInt8), wordN (l.take (wordN l) ++ 32 :: r) = wordN l
  | [], r => by
    show wordN (32 :: r) = 0
    unfold wordN
    rw [if_neg (by decide)]
  | c :: l, r => by
    by_cases h : isWord c = true
    · have e : wordN (c :: l) = wordN l + 1 := by
        show (if isWord c = true then _ else _) = _
        rw [if_pos h]
      rw [e]
      show (if isWord c = true then wordN (l.take (wordN l) ++ 32 :: r) + 1 else 0) = _
      rw [if_pos h, wordN_loc l r]
    · have e : wordN (c :: l) = 0 := by
        show (if isWord c = true then _ else _) = _
        rw [if_neg h]
      rw [e]
      show wordN (32 :: r) = 0
      unfold wordN
      rw [if_neg (by decide)]
theorem numC_32 (p : UInt8) : numC p 32 = false := by
  unfold numC
  rw [show isWord 32 = false from rfl, show isSign 32 = false from rfl]
  simp
theorem numN_loc : ∀ (p : UInt8) (l r : List UInt8), numN p (l.take (numN p l) ++ 32 :: r) = numN p l
  | p, [], r => by
    show numN p (32 :: r) = 0
    unfold numN
    rw [if_neg (by rw [numC_32]; simp)]
  | p, c :: l, r => by
    by_cases h : numC p c = true
    · have e : numN p (c :: l) = numN c l + 1 := by
        show (if numC p c = true then _ else _) = _
        rw [if_pos h]
      rw [e]
      show (if numC p c = true then numN c (l.take (numN c l) ++ 32 :: r) + 1 else 0) = _
      rw [if_pos h, numN_loc c l r]
    · have e : numN p (c :: l) = 0 := by
        show (if numC p c = true then _ else _) = _
        rw [if_neg h]
      rw [e]
      show numN p (32 :: r) = 0
      unfold numN
      rw [if_neg (by rw [numC_32]; simp)]

theorem pre_32 : ∀ (q p r : List UInt8), (∀ c ∈ q, c ≠ 32) → q.isPrefixOf (p ++ 32 :: r) = q.isPrefixOf p
  | [], p, r, _ => by simp [List.isPrefixOf]
  | a :: q, [], r, h => by
    show (a == 32 && q.isPrefixOf r) = false
    rw [beq_eq_false_iff_ne.2 (h a List.mem_cons_self)]
    rfl
  | a :: q, b :: p, r, h => by
    show (a == b && q.isPrefixOf (p ++ 32 :: r)) = (a == b && q.isPrefixOf p)
    rw [pre_32 q p r fun c hc => h c (List.mem_cons_of_mem _ hc)]
theorem find_same {f g : List UInt8 → Bool} : ∀ {P : List (List UInt8)}, (∀ p ∈ P, f p = g p) → P.find? f = P.find? g
  | [], _ => rfl
  | p :: P, h => by
    rw [List.find?_cons, List.find?_cons, h p List.mem_cons_self, find_same fun q hq => h q (List.mem_cons_of_mem _ hq)]
theorem PL_self : ∀ p ∈ PL, punctN p = p.length := by decide +kernel
theorem punctN_loc {l : List UInt8} (h : 0 < punctN l) (r : List UInt8) : punctN (l.take (punctN l) ++ 32 :: r) = punctN l := by
  have hm := isPun_mem (pun_take h)
  have hs := PL_self _ hm
  have hl : (l.take (punctN l)).length = punctN l := by
    have := punctN_le l
    rw [List.length_take]
    omega
  rw [hl] at hs
  obtain ⟨x, hx⟩ : ∃ x, l.take (punctN l) = x := ⟨_, rfl⟩
  rw [hx] at hs ⊢
  have hf := find_same (f := fun p : List UInt8 => p.isPrefixOf (x ++ 32 :: r)) (g := fun p : List UInt8 => p.isPrefixOf x) (P := PL) fun p hp => pre_32 p _ r fun c hc => (PL_no p hp c hc).2.2.2.2.1
  rw [← hs]
  unfold punctN
  rw [hf]

theorem conN_no {l : List UInt8} (h34 : l.getD 0 0 ≠ 34) (h39 : l.getD 0 0 ≠ 39) (hl : lettN l = 0) : conN l = none := by
  unfold conN
  rw [hl, if_neg h34, if_neg h39]
theorem lettN_not {l : List UInt8} (h : l.getD 0 0 ≠ 117 ∧ l.getD 0 0 ≠ 76 ∧ l.getD 0 0 ≠ 85) : lettN l = 0 := lettN_zero (fun e => h.1 e.1) (fun e => by
  rcases e.1 with e | e | e
  · exact h.2.1 e
  · exact h.1 e
  · exact h.2.2 e)
theorem not_let {c : UInt8} (h : isLet c = false) : c ≠ 117 ∧ c ≠ 76 ∧ c ≠ 85 := by
  refine ⟨?_, ?_, ?_⟩ <;> (rintro rfl; revert h; decide)
theorem let_not {c : UInt8} (h : isLet c = true) : c ≠ 34 ∧ c ≠ 39 := by
  refine ⟨?_, ?_⟩ <;> (rintro rfl; revert h; decide)
theorem num_not {c : UInt8} (h : isDig c = true ∨ c = 46) : c ≠ 34 ∧ c ≠ 39 := by
  refine ⟨?_, ?_⟩ <;> (rintro rfl; revert h; decide)

theorem lettN_three {l y : List UInt8} (h0 : y.getD 0 0 = l.getD 0 0) (h1 : y.getD 1 0 = l.getD 1 0) (h2 : y.getD 2 0 = l.getD 2 0) : lettN y = lettN l := by
  unfold lettN
  rw [h0, h1, h2]

/-- A quoted one. -/
theorem conN_loc {l : List UInt8} {k n : Nat} (h : conN l = some (k, n)) (r : List UInt8) : conN (l.take n ++ 32 :: r) = some (k, n) := by
  have key : ∀ (q : UInt8) (k' : Nat), (q = 34 ∨ q = 39) → l.getD (lettN l) 0 = q → ((qN q false (l.drop (lettN l + 1))).map fun m => (k', lettN l + 1 + m)) = some (k, n) → lettN (l.take n ++ 32 :: r) = lettN l ∧ (l.take n ++ 32 :: r).getD (lettN l) 0 = q ∧ ((qN q false ((l.take n ++ 32 :: r).drop (lettN l + 1))).map fun m => (k', lettN l + 1 + m)) = some (k, n) := by
    intro q k' hq hl hm
    rw [Option.map_eq_some_iff] at hm
    obtain ⟨m, hm, he⟩ := hm
    simp only [Prod.mk.injEq] at he
    obtain ⟨rfl, rfl⟩ := he
    have hq10 : q ≠ 10 := by rcases hq with rfl | rfl <;> decide
    obtain ⟨m0, m1, -⟩ := qN_in q false _ m hq10 hm
    rw [List.length_drop] at m1
    have hn : lettN l + 1 + m ≤ l.length := by omega
    have g := fun j (hj : j < lettN l + 1 + m) => getD_cut (r := 32 :: r) hj hn
    refine ⟨?_, by rw [g _ (by omega)]; exact hl, ?_⟩
    · rcases lettN_is l with e | ⟨e, -, -⟩ | ⟨e, -, -, -⟩
      · rw [e] at hl g ⊢
        refine lettN_not ?_
        rw [g 0 (by omega), hl]
        rcases hq with rfl | rfl <;> decide
      · exact lettN_three (g 0 (by omega)) (g 1 (by omega)) (g 2 (by omega))
      · exact lettN_three (g 0 (by omega)) (g 1 (by omega)) (g 2 (by omega))
    · have hd : (l.take (lettN l + 1 + m) ++ 32 :: r).drop (lettN l + 1) = (l.drop (lettN l + 1)).take m ++ 32 :: r := by
        rw [List.drop_append_of_le_length (by rw [List.length_take]; omega), List.drop_take]
        rw [show lettN l + 1 + m - (lettN l + 1) = m from by omega]
      rw [hd, qN_loc q false _ m _ hm]
      rfl
  unfold conN at h ⊢
  split at h
  · rename_i hq
    obtain ⟨k1, k2, k3⟩ := key 34 4 (.inl rfl) hq h
    rw [k1, if_pos k2]
    exact k3
  · rename_i hn34
    split at h
    · rename_i hq
      obtain ⟨k1, k2, k3⟩ := key 39 3 (.inr rfl) hq h
      rw [k1, if_neg (by rw [k2]; decide), if_pos k2]
      exact k3
    · cases h

theorem tok_loc {l : List UInt8} {k n : Nat} (h : tok l = (k, n)) (h6 : k ≠ 6) (h0 : 0 < l.length) (r : List UInt8) : tok (l.take n ++ 32 :: r) = (k, n) := by
  cases hc : conN l with
  | some x =>
    have hx : x = (k, n) := by unfold tok at h; rw [hc] at h; exact h
    rw [hx] at hc
    have := conN_loc hc r
    unfold tok
    rw [this]
  | none =>
    unfold tok at h
    rw [hc] at h
    cases l with
    | nil => simp at h0
    | cons c l =>
      simp only at h
      rw [show (c :: l).getD 0 0 = c from rfl, show (c :: l).drop 1 = l from rfl] at h
      by_cases hl : isLet c = true
      · rw [if_pos hl] at h
        simp only [Prod.mk.injEq] at h
        obtain ⟨rfl, rfl⟩ := h
        show tok (c :: (l.take (wordN l) ++ 32 :: r)) = _
        have hw : ∀ j, j ≤ wordN l → (l.take (wordN l) ++ 32 :: r).getD j 0 ≠ 34 ∧ (l.take (wordN l) ++ 32 :: r).getD j 0 ≠ 39 := by
          intro j hj
          rcases Nat.lt_or_eq_of_le hj with hj | rfl
          · rw [getD_cut hj (wordN_le l)]
            have := isWord_ne (wordN_in l j hj)
            exact ⟨this.2.1, this.2.2.1⟩
          · rw [getD_cut32 (wordN_le l)]
            decide
        have hln : lettN (c :: (l.take (wordN l) ++ 32 :: r)) = 0 := by
          refine lettN_zero (fun e => ?_) (fun e => ?_)
          · rcases Nat.eq_zero_or_pos (wordN l) with e0 | e0
            · have e1 : (l.take (wordN l) ++ 32 :: r).getD 0 0 = 56 := e.2.1
              rw [e0] at e1
              revert e1
              show ¬ ((32 : UInt8) = 56)
              decide
            · exact (hw 1 e0).1 e.2.2
          · rcases e.2 with e | e
            · exact (hw 0 (Nat.zero_le _)).1 e
            · exact (hw 0 (Nat.zero_le _)).2 e
        have hcn := conN_no (l := c :: (l.take (wordN l) ++ 32 :: r)) (let_not hl).1 (let_not hl).2 hln
        unfold tok
        rw [hcn]
        simp only
        rw [show (c :: (l.take (wordN l) ++ 32 :: r)).getD 0 0 = c from rfl, if_pos hl, show (c :: (l.take (wordN l) ++ 32 :: r)).drop 1 = l.take (wordN l) ++ 32 :: r from rfl, wordN_loc]
      · rw [if_neg hl] at h
        have hlf : isLet c = false := by simpa using hl
        by_cases hd : (isDig c || (decide (c = 46) && isDig ((c :: l).getD 1 0))) = true
        · rw [if_pos hd] at h
          simp only [Prod.mk.injEq] at h
          obtain ⟨rfl, rfl⟩ := h
          show tok (c :: (l.take (numN c l) ++ 32 :: r)) = _
          have hd1 : (isDig c || (decide (c = 46) && isDig ((c :: (l.take (numN c l) ++ 32 :: r)).getD 1 0))) = true := by
            by_cases h1 : isDig c = true
            · rw [h1]; rfl
            · rw [Bool.not_eq_true] at h1
              rw [h1, Bool.false_or, Bool.and_eq_true] at hd ⊢
              refine ⟨hd.1, ?_⟩
              obtain ⟨hd1, hd2⟩ := hd
              cases l with
              | nil => exact absurd hd2 (by show ¬ (isDig 0 = true); decide)
              | cons d l =>
                have hd2 : isDig d = true := hd2
                have hnc : numC c d = true := by unfold numC isWord; rw [hd2]; simp
                have e : numN c (d :: l) = numN d l + 1 := by
                  show (if numC c d = true then _ else _) = _
                  rw [if_pos hnc]
                rw [e]
                exact hd2
          have hcd : isDig c = true ∨ c = 46 := by
            rw [Bool.or_eq_true, Bool.and_eq_true] at hd
            rcases hd with hd | hd
            · exact .inl hd
            · exact .inr (by simpa using hd.1)
          have hcn := conN_no (l := c :: (l.take (numN c l) ++ 32 :: r)) (num_not hcd).1 (num_not hcd).2 (lettN_not (not_let hlf))
          unfold tok
          rw [hcn]
          simp only
          rw [show (c :: (l.take (numN c l) ++ 32 :: r)).getD 0 0 = c from rfl, if_neg hl, if_pos hd1, show (c :: (l.take (numN c l) ++ 32 :: r)).drop 1 = l.take (numN c l) ++ 32 :: r from rfl, numN_loc]
        · rw [if_neg hd] at h
          by_cases hp : 0 < punctN (c :: l)
          · rw [if_pos hp] at h
            simp only [Prod.mk.injEq] at h
            obtain ⟨rfl, rfl⟩ := h
            have hm := isPun_mem (pun_take hp)
            have hle := (punctN_le (c :: l)).2
            have hno := PL_no _ hm
            have hin : ∀ j, j < punctN (c :: l) → (c :: l).getD j 0 ≠ 34 ∧ (c :: l).getD j 0 ≠ 39 ∧ isWord ((c :: l).getD j 0) = false := by
              intro j hj
              have h1 := hno ((c :: l).getD j 0) (by
                rw [← getD_take hj]
                exact get_mem (by rw [List.length_take]; omega))
              exact ⟨h1.2.1, h1.2.2.1, h1.2.2.2.1⟩
            have g0 := getD_cut (l := c :: l) (r := 32 :: r) hp hle
            have h0 := hin 0 hp
            have hd1 : isDig ((((c :: l).take (punctN (c :: l))) ++ 32 :: r).getD 1 0) = false := by
              rcases Nat.lt_or_ge 1 (punctN (c :: l)) with h1 | h1
              · rw [getD_cut h1 hle]
                have := (hin 1 h1).2.2
                unfold isWord at this
                rw [Bool.or_eq_false_iff] at this
                exact this.2
              · have e1 : punctN (c :: l) = 1 := by omega
                rw [e1]
                rfl
            have hdc : isDig c = false := by
              have := h0.2.2
              unfold isWord at this
              rw [Bool.or_eq_false_iff] at this
              exact this.2
            have hcn := conN_no (l := (c :: l).take (punctN (c :: l)) ++ 32 :: r) (by rw [g0]; exact h0.1) (by rw [g0]; exact h0.2.1) (lettN_not (by rw [g0]; exact not_let hlf))
            unfold tok
            rw [hcn]
            simp only
            rw [g0, hd1, show (c :: l).getD 0 0 = c from rfl, hdc, if_neg hl, if_neg (by simp), punctN_loc hp, if_pos hp]
          · rw [if_neg hp] at h
            simp only [Prod.mk.injEq] at h
            exact absurd h.1.symm h6

end Go.Proofs.Ytipipookgcdfbaa
